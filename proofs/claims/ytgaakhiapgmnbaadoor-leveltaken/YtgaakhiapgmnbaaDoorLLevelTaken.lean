/-
  LevelTaken: for every list of numbers and every two bytes the statement 'what is taken from a slot is in no list, and can be put into another one, in its order' returns true, and its arguments read as before. (The table of math/bits reads as the program's text lays it: tied by the card.)
-/
import Derived.Test.YtgaakhiapgmnbaaDoorLevelAlive
import Derived.Test.YtgaakhiapgmnbaaDoorLevelInts
import Derived.Test.YtgaakhiapgmnbaaDoorLevelFirsts
import Derived.Test.YtgaakhiapgmnbaaDoorTie
import Derived.Test.YtgaakhiapgmnbaaDoorCards
import Derived.SevenTiedAt
import Derived.ChangeOld
import Derived.Below
namespace Go.Proofs.YtgaakhiapgmnbaaDoor
open Go.ChangeShapes Go.WideShapes Go.ChangeAt Go.RowKit Verge LI
set_option linter.unusedVariables false
set_option linter.unusedSimpArgs false
attribute [local go_sem] Oper.semAt_some

/-- no nodes -/
abbrev X0 : Nat → List Nat := fun _ => []
theorem upd_back (s : Nat) (xs : List Nat) : upd (upd X0 s xs) s [] = X0 := by
  funext j; by_cases e : j = s
  · subst e; rw [upd_same]
  · rw [upd_other _ _ _ _ e, upd_other _ _ _ _ e]
theorem upd_upd (s : Nat) (xs ys : List Nat) : upd (upd X0 s xs) s ys = upd X0 s ys := by
  funext j; by_cases e : j = s
  · subst e; rw [upd_same, upd_same]
  · rw [upd_other _ _ _ _ e, upd_other _ _ _ _ e, upd_other _ _ _ _ e]
theorem upd_nil (s : Nat) : upd X0 s [] = X0 := upd_self X0 s
/-- the first k are put into the slot s of the first level -/
structure Tk1 (w : World) (va vb : Nat) (ha hb : Nat → Nat) (s k : Nat) (nb : Nat → Nat) (V zs : Nat → Int) (W : World) : Prop where
  a : IsLv W va ha (upd X0 s (firsts nb k)) V
  b : IsLv W vb hb X0 V
  v : ∀ i, i < k → V (nb i) = zs i
  inj : ∀ i j, i < k → j < k → nb i = nb j → i = j
  ap : ∀ j, LvB va ha (upd X0 s (firsts nb k)) j → ¬ LvB vb hb X0 j
  ia : ∀ j, LvB va ha (upd X0 s (firsts nb k)) j → w.heap.size ≤ j
  ib : ∀ j, LvB vb hb X0 j → w.heap.size ≤ j
  c : Ch Nil w W
section
variable {w W w5 w6 : World} {va vb s t k n : Nat} {ha hb : Nat → Nat} {nb : Nat → Nat} {V zs : Nat → Int} {a : Option Addr} {cap : Nat}
theorem Tk1.more (h : Tk1 w va vb ha hb s k nb V zs W) (hs : s < 64) (w4 : World) (hn : IsN w4 W.heap.size (zs k) none none none) (c4 : Ch Nil W w4) :
    IsLv w4 va ha (upd X0 s (firsts nb k)) (upd V W.heap.size (zs k)) ∧ IsN w4 W.heap.size (upd V W.heap.size (zs k) W.heap.size) none none none ∧ ¬ LvB va ha (upd X0 s (firsts nb k)) W.heap.size ∧
    ∀ w5, IsLv w5 va ha (upd (upd X0 s (firsts nb k)) s (upd X0 s (firsts nb k) s ++ [W.heap.size])) (upd V W.heap.size (zs k)) → Ch (fun j => LvB va ha (upd X0 s (firsts nb k)) j ∨ j = W.heap.size) w4 w5 →
      Tk1 w va vb ha hb s (k + 1) (upd nb k W.heap.size) (upd V W.heap.size (zs k)) zs w5 := by
  have la : ∀ j, LvB va ha (upd X0 s (firsts nb k)) j → j < W.heap.size := fun j hj => h.a.lt hj
  have lb : ∀ j, LvB vb hb X0 j → j < W.heap.size := fun j hj => h.b.lt hj
  have na : ¬ LvB va ha (upd X0 s (firsts nb k)) W.heap.size := fun e => by have := la _ e; omega
  have lnb : ∀ i, i < k → nb i < W.heap.size := fun i hi => la _ (.inr ⟨s, hs, .inr (by rw [upd_same]; exact firsts_mem.2 ⟨i, hi, rfl⟩)⟩)
  refine ⟨(h.a.kept c4 (fun _ _ e => e)).congr _ (fun i b hi hb => upd_other _ _ _ _ (fun e => na (e ▸ h.a.mem hi hb))), by rw [upd_same]; exact hn, na, fun w5 h5 c5 => ?_⟩
  rw [upd_upd, upd_same, firsts_succ] at h5
  have sub : ∀ j, LvB va ha (upd X0 s (firsts (upd nb k W.heap.size) (k + 1))) j → LvB va ha (upd X0 s (firsts nb k)) j ∨ j = W.heap.size := by
    intro j hj
    rw [← firsts_succ, ← upd_upd s (firsts nb k)] at hj
    exact LvB.upd (P := One W.heap.size) hs (fun b hb => by rw [upd_same]; simpa using hb) hj
  have hw := h.c.size
  refine ⟨h5, ((h.b.kept c4 (fun _ _ e => e)).kept c5 ?_).congr _ (fun i b hi hb => by cases hb), fun i hi => ?_, fun i j hi hj e => ?_, fun j hj e => ?_, fun j hj => ?_, h.ib, (h.c.trans c4).up c5 ?_⟩
  · rintro j hj (e | e)
    · exact h.ap j e hj
    · have := lb j hj; omega
  · by_cases e : i = k
    · subst e; rw [upd_same, upd_same]
    · rw [upd_other _ _ _ _ e, upd_other _ _ _ _ (by have := lnb i (by omega); omega)]; exact h.v i (by omega)
  · by_cases ei : i = k
    · subst ei
      by_cases ej : j = i
      · exact ej.symm
      · rw [upd_same, upd_other _ _ _ _ ej] at e; have := lnb j (by omega); omega
    · rw [upd_other _ _ _ _ ei] at e
      by_cases ej : j = k
      · subst ej; rw [upd_same] at e; have := lnb i (by omega); omega
      · rw [upd_other _ _ _ _ ej] at e; exact h.inj i j (by omega) (by omega) e
  · rcases sub j hj with hj | rfl
    · exact h.ap j hj e
    · have := lb _ e; omega
  · rcases sub j hj with hj | rfl
    · exact h.ia j hj
    · exact hw
  · rintro j (hj | rfl)
    · exact h.ia j hj
    · exact hw
/-- all are taken; the first k are put into the slot t of the other level -/
structure Tk2 (w : World) (va vb : Nat) (ha hb : Nat → Nat) (t k n : Nat) (nb : Nat → Nat) (V zs : Nat → Int) (ad : Option Addr) (cap : Nat) (W : World) : Prop where
  a : IsLv W va ha X0 V
  b : IsLv W vb hb (upd X0 t (firsts nb k)) V
  f : ∀ i, k ≤ i → i < n → IsN W (nb i) (V (nb i)) none none none
  r : RowP W ad n cap (firsts nb n)
  v : ∀ i, i < n → V (nb i) = zs i
  inj : ∀ i j, i < n → j < n → nb i = nb j → i = j
  ap : ∀ j, LvB va ha X0 j → ¬ LvB vb hb X0 j
  na : ∀ i, i < n → ¬ LvB va ha X0 (nb i) ∧ ¬ LvB vb hb X0 (nb i)
  ra : ∀ g, OwnS ad g → ¬ LvB va ha X0 g ∧ ¬ LvB vb hb X0 g ∧ ∀ i, i < n → g ≠ nb i
  ia : ∀ j, LvB va ha X0 j → w.heap.size ≤ j
  ib : ∀ j, LvB vb hb X0 j → w.heap.size ≤ j
  ni : ∀ i, i < n → w.heap.size ≤ nb i
  ri : ∀ g, OwnS ad g → w.heap.size ≤ g
  c : Ch Nil w W
theorem Tk2.sub (h : Tk2 w va vb ha hb t k n nb V zs a cap W) (ht : t < 64) {j : Nat} (hj : LvB vb hb (upd X0 t (firsts nb k)) j) : LvB vb hb X0 j ∨ ∃ i, i < k ∧ j = nb i :=
  LvB.upd (P := fun j => ∃ i, i < k ∧ j = nb i) ht (fun b hb => by obtain ⟨i, hi, e⟩ := firsts_mem.1 hb; exact .inr ⟨i, hi, e.symm⟩) hj
/-- the second step: a Remove of the first level that finds nothing, then a Put into the second -/
theorem Tk2.rem (h : Tk2 w va vb ha hb t k n nb V zs a cap W) (ht : t < 64) (hk : k ≤ n) (h5 : IsLv w5 va ha X0 V) (c5 : Ch (One va) W w5) : Tk2 w va vb ha hb t k n nb V zs a cap w5 := by
  have vva : LvB va ha X0 va := .inl rfl
  refine ⟨h5, h.b.kept c5 (fun j hj e => ?_), fun i h1 h2 => (h.f i h1 h2).kept c5 (fun e => (h.na i h2).1 (e ▸ vva)), h.r.kept c5 (fun g hg e => (h.ra g hg).1 (e ▸ vva)), h.v, h.inj, h.ap, h.na, h.ra, h.ia, h.ib, h.ni, h.ri, h.c.up c5 (fun j e => e ▸ h.ia _ vva)⟩
  have e' : j = va := e
  subst e'
  rcases h.sub ht hj with hj | ⟨i, hi, e⟩
  · exact h.ap _ vva hj
  · exact (h.na i (by omega)).1 (e ▸ vva)
theorem Tk2.put (h : Tk2 w va vb ha hb t k n nb V zs a cap W) (ht : t < 64) (hk : k < n) (h5 : IsLv w5 vb hb (upd (upd X0 t (firsts nb k)) t (upd X0 t (firsts nb k) t ++ [nb k])) V) (c5 : Ch (fun j => LvB vb hb (upd X0 t (firsts nb k)) j ∨ j = nb k) W w5) :
    Tk2 w va vb ha hb t (k + 1) n nb V zs a cap w5 := by
  rw [upd_upd, upd_same, firsts_succ, show upd nb k (nb k) = nb from upd_self nb k] at h5
  have out : ∀ j, (LvB vb hb (upd X0 t (firsts nb k)) j ∨ j = nb k) → LvB vb hb X0 j ∨ ∃ i, i ≤ k ∧ j = nb i := by
    rintro j (hj | rfl)
    · rcases h.sub ht hj with hj | ⟨i, hi, e⟩
      · exact .inl hj
      · exact .inr ⟨i, by omega, e⟩
    · exact .inr ⟨k, Nat.le_refl _, rfl⟩
  refine ⟨h.a.kept c5 (fun j hj e => ?_), h5, fun i h1 h2 => (h.f i (by omega) h2).kept c5 (fun e => ?_), h.r.kept c5 (fun g hg e => ?_), h.v, h.inj, h.ap, h.na, h.ra, h.ia, h.ib, h.ni, h.ri, h.c.up c5 (fun j e => ?_)⟩
  · rcases out j e with e | ⟨i, hi, rfl⟩
    · exact h.ap j hj e
    · exact (h.na i (by omega)).1 hj
  · rcases out _ e with e | ⟨j, hj, e⟩
    · exact (h.na i h2).2 e
    · have := h.inj i j h2 (by omega) e; omega
  · rcases out _ e with e | ⟨j, hj, e⟩
    · exact (h.ra g hg).2.1 e
    · exact (h.ra g hg).2.2 j (by omega) e
  · rcases out _ e with e | ⟨i, hi, rfl⟩
    · exact h.ib j e
    · exact h.ni i (by omega)
theorem Tk2.nil (h : Tk2 w va vb ha hb t k n nb V zs a cap W) (c5 : Ch Nil W w5) : Tk2 w va vb ha hb t k n nb V zs a cap w5 :=
  ⟨h.a.kept c5 (fun _ _ e => e), h.b.kept c5 (fun _ _ e => e), fun i h1 h2 => (h.f i h1 h2).kept c5 (fun e => e), h.r.kept c5 (fun _ _ e => e), h.v, h.inj, h.ap, h.na, h.ra, h.ia, h.ib, h.ni, h.ri, h.c.trans c5⟩
/-- nothing more is taken -/
theorem Tk2.again (h : Tk2 w va vb ha hb t 0 n nb V zs a cap W) (h5 : IsLv w5 va ha X0 V) (c5 : Ch (LvB va ha X0) W w5) : Tk2 w va vb ha hb t 0 n nb V zs a cap w5 := by
  refine ⟨h5, h.b.kept c5 (fun j hj e => ?_), fun i h1 h2 => (h.f i h1 h2).kept c5 (h.na i h2).1, h.r.kept c5 (fun g hg => (h.ra g hg).1), h.v, h.inj, h.ap, h.na, h.ra, h.ia, h.ib, h.ni, h.ri, h.c.up c5 h.ia⟩
  rw [show firsts nb 0 = [] from rfl, upd_nil] at hj
  exact h.ap j e hj
/-- behind the first loop and Take -/
theorem Tk1.taken (h : Tk1 w va vb ha hb s n nb V zs W) (hs : s < 64) {a : Option Addr} {cap : Nat} (r5 : RowP w5 a n cap (firsts nb n)) (g5 : ∀ g, OwnS a g → W.heap.size ≤ g) (h5 : IsLv w5 va ha X0 V) (n5 : ∀ b, b ∈ firsts nb n → IsN w5 b (V b) none none none) (c5 : Ch (LvB va ha (upd X0 s (firsts nb n))) W w5) (t : Nat) :
    Tk2 w va vb ha hb t 0 n nb V zs a cap w5 := by
  have ma : ∀ j, LvB va ha X0 j → LvB va ha (upd X0 s (firsts nb n)) j := by
    rintro j (rfl | ⟨i, hi, (rfl | hj)⟩)
    · exact .inl rfl
    · exact .inr ⟨i, hi, .inl rfl⟩
    · cases hj
  have mn : ∀ i, i < n → LvB va ha (upd X0 s (firsts nb n)) (nb i) := fun i hi => .inr ⟨s, hs, .inr (by rw [upd_same]; exact firsts_mem.2 ⟨i, hi, rfl⟩)⟩
  have nn : ∀ i, i < n → ¬ LvB va ha X0 (nb i) := by
    rintro i hi (e | ⟨j, hj, (e | hj')⟩)
    · exact h.a.nv s hs (.inr (by rw [upd_same]; exact e ▸ firsts_mem.2 ⟨i, hi, rfl⟩))
    · by_cases ej : j = s
      · subst ej
        refine (h.a.l j hj).nl ?_
        rw [upd_same, ← e]; exact firsts_mem.2 ⟨i, hi, rfl⟩
      · exact h.a.d s j hs hj (fun e => ej e.symm) (nb i) (.inr (by rw [upd_same]; exact firsts_mem.2 ⟨i, hi, rfl⟩)) (.inl e)
    · cases hj'
  have la : ∀ j, LvB va ha (upd X0 s (firsts nb n)) j → j < W.heap.size := fun j hj => h.a.lt hj
  have lb : ∀ j, LvB vb hb X0 j → j < W.heap.size := fun j hj => h.b.lt hj
  refine ⟨h5, ?_, fun i _ hi => n5 _ (firsts_mem.2 ⟨i, hi, rfl⟩), r5, h.v, h.inj, fun j hj => h.ap j (ma j hj), fun i hi => ⟨nn i hi, h.ap _ (mn i hi)⟩, fun g hg => ⟨fun e => ?_, fun e => ?_, fun i hi e => ?_⟩, fun j hj => h.ia j (ma j hj), h.ib, fun i hi => h.ia _ (mn i hi), fun g hg => Nat.le_trans h.c.size (g5 g hg), h.c.up c5 (fun j hj => h.ia j hj)⟩
  · rw [show firsts nb 0 = [] from rfl, upd_nil]
    exact h.b.kept c5 (fun j hj e => h.ap j e hj)
  · have := la _ (ma _ e); have := g5 g hg; omega
  · have := lb _ e; have := g5 g hg; omega
  · have := la _ (mn i hi); have := g5 g hg; omega
end

set_option maxHeartbeats 2000000 in
set_option maxRecDepth 100000 in
theorem LevelTaken_walk (a : Option Addr) (len cap : Nat) (zs : List Int) (f t : Int) (wf : (Lit.int .u8 f).wf = true) (wt : (Lit.int .u8 t).wf = true) (w : World) (hv : IsRow .i64 w a len cap zs) (T : Tab w) :
    Calls Tryd.prog 5 #[.slice a len cap, .int .u8 f, .int .u8 t] w fun e w' => e = .returned (.bool true) ∧ Below w.heap.size w w' := by
  have hsm := hv.small
  have HV := Lib.hid hv
  have HT := Lib.hid T
  have t0 := T.lt
  obtain ⟨hf0, hf1⟩ := bounds_u8 wf
  obtain ⟨ht0, ht1⟩ := bounds_u8 wt
  obtain ⟨sf, hsf, hsf2⟩ := mod64 hf0
  obtain ⟨st, hst, hst2⟩ := mod64 ht0
  have HSF := Lib.hid hsf
  have HST := Lib.hid hst
  clear hv T wf wt hsf hst
  go_enter Tryd.func5, Tryd.ntmps5
  go_wp2_with fail
  refine (alive_any _ HT.out).mono ?_
  rintro e w1 ⟨rfl, c1⟩
  have C1 := Lib.hid c1
  clear c1
  by_cases h100 : 100 < len
  · go_wp2
    go_ret
    exact ⟨rfl, C1.out.below (Nat.le_refl _) (fun _ _ h => h.elim)⟩
  have hz2 : (len : Int) ≤ 100 := by omega
  go_wp2_with fail
  refine (newv_of _ (fun _ => 0)).mono ?_
  rintro e w2 ⟨va, ha, rfl, h2, g2, c2⟩
  have H2 := Lib.hid h2
  have C2 := Lib.hid c2
  have G2 := Lib.hid g2
  clear h2 g2 c2
  go_wp2_with fail
  refine (newv_of _ (fun _ => 0)).mono ?_
  rintro e w3 ⟨vb, hb, rfl, h3, g3, c3⟩
  have hw := C1.out.size
  have hw2 := C2.out.size
  have tk : Tk1 w va vb ha hb sf 0 (fun _ => 0) (fun _ => 0) (fun i => zs.getD i 0) w3 := by
    refine ⟨?_, h3, fun i hi => by omega, fun i j hi => by omega, fun j hj e => ?_, fun j hj => ?_, fun j hj => Nat.le_trans hw (Nat.le_trans hw2 (g3 j hj)), (C1.out.trans C2.out).trans c3⟩
    · rw [show firsts (fun _ => 0) 0 = [] from rfl, upd_nil]; exact H2.out.kept c3 (fun _ _ e => e)
    · rw [show firsts (fun _ => 0) 0 = [] from rfl, upd_nil] at hj
      have := H2.out.lt hj; have := g3 j e; omega
    · rw [show firsts (fun _ => 0) 0 = [] from rfl, upd_nil] at hj
      exact Nat.le_trans hw (G2.out j hj)
  have TK := Lib.hid tk
  clear h3 g3 c3 H2 C2 G2 tk
  go_wp2
  go_loopw [9] (fun i wr => ∃ (k : Nat) (nb : Nat → Nat) (V : Nat → Int), k ≤ len ∧ i = .int .i64 k ∧ Tk1 w va vb ha hb sf k nb V (fun i => zs.getD i 0) wr) (fun i _ => len - (intOf i).toNat)
  case atStart => exact ⟨0, _, _, by omega, rfl, TK.out⟩
  case round =>
    clear TK
    obtain ⟨k, nb, V, hk, rfl, htk⟩ := hrel
    have TK := Lib.hid htk
    clear htk
    by_cases hlt : k < len
    · obtain ⟨x, rfl, hc, hwf⟩ := HV.out.item hlt
      have hc' := TK.out.c.keeps hc (fun e => e)
      obtain ⟨z, hzz⟩ : ∃ z, z = zs.getD k 0 := ⟨_, rfl⟩
      have HZ := Lib.hid hzz
      rw [← hzz] at hc'
      have hkz : (k : Int) < (len : Int) := by omega
      clear hc hzz hwf
      obtain ⟨m1, m2, m3, m4⟩ := TK.out.more hsf2 (wr.alloc (.cells #[.int .i64 z, .pointer none, .pointer none, .pointer none] 30)) (by have := IsN.made wr z 30; rw [HZ.out] at this ⊢; exact this) ((Ch.refl _ _).alloc _)
      have P := Lib.hid (vput_of (s := sf) m1 hsf2 m2 m3 (by rw [upd_same, firsts_len]; omega))
      have M4 := Lib.hid m4
      clear m1 m2 m3 m4
      go_wp2_with fail
      rw [HSF.out]
      refine P.out.mono ?_
      rintro e w5 ⟨rfl, h5, c5⟩
      have TK2 := Lib.hid (M4.out _ h5 c5)
      clear h5 c5 P M4
      go_wp2
      go_roundw
      case rel => exact ⟨k + 1, _, _, by omega, by go_num, TK2.out⟩
      case measure => simp [intOf]; omega
    · obtain rfl : k = len := by omega
      have P := Lib.hid (vtake_of (s := sf) TK.out.a hsf2 (by rw [upd_same, firsts_len]; omega))
      rw [upd_same, firsts_len, upd_back] at P
      go_wp2_with fail
      rw [HSF.out]
      refine P.out.mono ?_
      rintro e w5 ⟨ar, cr, rfl, r5, g5, h5, n5, c5⟩
      have T2 := Lib.hid (TK.out.taken hsf2 r5 g5 h5 n5 c5 st)
      clear P r5 g5 h5 n5 c5 TK
      have L := Lib.hid (vlen_of T2.out.a (HT.out.keeps T2.out.c (fun e => e)) (by simp))
      rw [show totX X0 = 0 from totX_empty (fun _ _ => rfl)] at L
      go_wp2_with fail
      refine L.out.mono ?_
      rintro e w6 ⟨rfl, c6⟩
      have T3 := Lib.hid (T2.out.nil c6)
      clear c6 T2 L
      have M := Lib.hid (map_of T3.out.a)
      rw [show mapX X0 = 0 from mapX_empty (fun _ _ => rfl)] at M
      go_wp2_with fail
      refine M.out.mono ?_
      rintro e w7 ⟨rfl, rfl⟩
      have P := Lib.hid (vtake_of (s := sf) T3.out.a hsf2 (by simp))
      go_wp2_with fail
      rw [HSF.out]
      refine P.out.mono ?_
      rintro e w8 ⟨ar8, cr8, rfl, r8, g8, h8, n8, c8⟩
      rw [show upd X0 sf [] = X0 from upd_nil sf] at h8
      have T4 := Lib.hid (T3.out.again h8 c8)
      clear P M T3 r8 g8 h8 n8 c8
      simp only [List.length_nil]
      go_wp2
      go_loopw [11] (fun i wr => ∃ (j : Nat), j ≤ k ∧ i = .int .i64 j ∧ Tk2 w va vb ha hb st j k nb V (fun i => zs.getD i 0) ar cr wr) (fun i _ => k - (intOf i).toNat)
      case atStart => exact ⟨0, by omega, rfl, T4.out⟩
      case round =>
        clear T4
        obtain ⟨j, hj, rfl, htk⟩ := hrel
        have TK := Lib.hid htk
        clear htk
        by_cases hlt2 : j < k
        · obtain ⟨g, rfl, -⟩ := TK.out.r.form (by omega)
          have q1 : wr.cell? ⟨g, j, none⟩ = some (.pointer (some ⟨nb j, 0, none⟩)) := by
            have := TK.out.r.cell j (by omega)
            unfold ptrL at this
            rwa [firsts_getD nb hlt2] at this
          have lc := TK.out.r.len_cap
          have hjz : (j : Int) < (k : Int) := by omega
          have hjz0 : (0 : Int) ≤ (j : Int) := by omega
          have P := Lib.hid (vrem_none (s := sf) (b := nb j) TK.out.a hsf2 (lp := none) (TK.out.f j (Nat.le_refl _) hlt2).l (fun x e => (by cases e)) (by simp))
          go_wp2_with fail
          rw [HSF.out]
          refine P.out.mono ?_
          rintro e w9 ⟨rfl, h9, c9⟩
          have T9 := Lib.hid (TK.out.rem hst2 hj h9 c9)
          clear P q1 h9 c9
          have q1 : w9.cell? ⟨g, j, none⟩ = some (.pointer (some ⟨nb j, 0, none⟩)) := by
            have := T9.out.r.cell j (by omega)
            unfold ptrL at this
            rwa [firsts_getD nb hlt2] at this
          have P := Lib.hid (vput_of (s := st) (b := nb j) T9.out.b hst2 (T9.out.f j (Nat.le_refl _) hlt2) (fun e => by
            rcases T9.out.sub hst2 e with e | ⟨i, hi, e⟩
            · exact (T9.out.na j hlt2).2 e
            · have := T9.out.inj j i hlt2 (by omega) e; omega) (by rw [upd_same, firsts_len]; omega))
          go_wp2_with fail
          rw [HST.out]
          refine P.out.mono ?_
          rintro e w10 ⟨rfl, h10, c10⟩
          have T10 := Lib.hid (T9.out.put hst2 hlt2 h10 c10)
          clear P q1 h10 c10 lc
          go_wp2
          go_roundw
          case rel => exact ⟨j + 1, by omega, by go_num, T10.out⟩
          case measure => simp [intOf]; omega
        · obtain rfl : j = k := by omega
          have P := Lib.hid (vat_of (s := st) TK.out.b hst2 (by rw [upd_same, firsts_len]; omega))
          rw [upd_same, firsts_len] at P
          go_wp2_with fail
          rw [HST.out]
          refine P.out.mono ?_
          rintro e w9 ⟨ar9, cr9, rfl, r9, g9, c9⟩
          have I := Lib.hid (ints_in (RowE.ints r9) HV.out (fun i hi => by rw [firsts_getD nb hi]; exact TK.out.v i hi) (TK.out.c.trans c9) (by omega))
          have C9 := Lib.hid (TK.out.c.trans c9)
          clear P r9 g9 c9
          go_wp2_with fail
          refine I.out.mono ?_
          rintro e w10 ⟨rfl, c10⟩
          have C10 := Lib.hid (C9.out.trans c10)
          clear c10
          go_wp2
          go_ret
          exact ⟨rfl, C10.out.below (Nat.le_refl _) (fun _ _ h => h.elim)⟩

theorem LevelTaken_own : ownKnob Tryd.prog.godebug = none := by kernel_rfl
theorem LevelTaken_laidOut : laidOutB Tryd.prog = true := by kernel_rfl

set_option maxRecDepth 100000 in
theorem LevelTaken_lifted (os : Os) (started : os.Started) (H : Type) (enc : TypeId × Value → H) :
    ReturnsInHanded {} Tryd.checked os 5 .any (fun w args => (Rows.levelTakenSpec.pre enc Tryd.prog Tryd.f5 [] false w args ∧ laidMetH Tryd.prog laidTab w) ∧ sizedMet enc Tryd.prog Tryd.f5 (OpenSpec.ofChange Rows.levelTakenSpec) false w args) (Rows.levelTakenSpec.post enc Tryd.prog Tryd.f5 false true false false) := by
  refine returnsInHanded_of_change_and (C := Tryd.checked) (X := fun w _ => laidMetH Tryd.prog laidTab w) (fun _ _ _ hh h => h.of_heap hh) LevelTaken_own started (by kernel_rfl) Tryd.func5
    (ChangeSpec.witness_shaped (enc := enc) (C := Tryd.checked) (os := os) (X := fun w _ => laidMetH Tryd.prog laidTab w) false (World.doorLaid Tryd.prog doorSteps os) #[.slice none 0 0, .int .u8 0, .int .u8 0] 8 rfl (World.shaped_of_RefB (by kernel_rfl) (by kernel_rfl)) (by kernel_rfl) (by kernel_rfl) (by kernel_rfl) (door_met os _)) ?_
  intro W base args ds gs before hval0 hW _ _ hL _
  have TB := tab_of_laid hL
  have hval : ∀ (j : Nat) t v, Tryd.f5.params[j]? = some t → args[j]? = some v → Value.okWide Tryd.prog W .any base t v := hval0
  have hW' := hW
  obtain ⟨p, q, hA0, hV, rfl, hfz, hnd⟩ := hW
  have hA : DataW.TrodAll enc Tryd.prog W 0 (fun _ => true) true Tryd.f5.params.toList args.toList ds p := hA0
  rw [Tryd.params5] at hA hval
  obtain ⟨v0, vs0, d0, ds0, p0, q0, hargs, rfl, rfl, h0, r0⟩ := trodAll_cons hA
  obtain ⟨v1, vs1, d1, ds1, p1, q1, rfl, rfl, rfl, h1, r1⟩ := trodAll_cons r0
  obtain ⟨v2, vs2, d2, ds2, p2, q2, rfl, rfl, rfl, h2, r2⟩ := trodAll_cons r1
  obtain ⟨rfl, rfl, rfl⟩ := trodAll_nil r2
  obtain rfl : args = #[v0, v1, v2] := by cases args; simp_all
  obtain ⟨rfl, rfl⟩ := trodVars_none hV
  obtain ⟨a0, len0, cap0, rfl⟩ := okWide_slice Tryd.underlying32 (hval 0 32 v0 rfl rfl)
  have k0 := h0
  have lt0 : ∀ x ∈ p0, x.block < W.heap.size := by obtain ⟨m, hm⟩ := k0; exact DataW.trod_lt m _ _ _ hm
  obtain ⟨z0, w0⟩ : ∃ zs, IsRow .i64 W a0 len0 cap0 zs := by
    obtain ⟨fuel, hf⟩ := h0
    rcases open_ints Tryd.underlying32 Tryd.underlying3 (by kernel_rfl) hf with ⟨hcs, _⟩ | ⟨x, l, c, zs, hcs, _, hl, hm, hz, _, hcell, hwz⟩
    · simp [Value.cells] at hcs
      obtain ⟨rfl, rfl, rfl⟩ := hcs
      exact ⟨[], .inl ⟨rfl, rfl, rfl, rfl⟩⟩
    · simp [Value.cells] at hcs
      obtain ⟨rfl, rfl, rfl⟩ := hcs
      exact ⟨zs, .inr ⟨_, rfl, hl, hm, by simpa using hz, hcell, hwz⟩⟩
  obtain ⟨a1, rfl, rfl, rfl, w1⟩ := open_int Tryd.underlying5 (hval 1 5 v1 rfl rfl) h1
  obtain ⟨a2, rfl, rfl, rfl, w2⟩ := open_int Tryd.underlying5 (hval 2 5 v2 rfl rfl) h2
  clear hA0 hval0
  refine (LevelTaken_walk a0 len0 cap0 z0 a1 a2 w1 w2 W w0 TB).mono fun e W' ⟨he, bel⟩ => ?_
  subst he
  exact ⟨_, rfl, _, _, _, [], _, [], hW', trodAll_mk1 (shut_bool Tryd.underlying4 _), (trodAll_cons_mk (Below.trod LevelTaken_laidOut (by kernel_rfl) (of_decide_eq_true (by kernel_rfl)) k0 bel lt0) (trodAll_cons_mk (shut_int Tryd.underlying5 w1) (trodAll_cons_mk (shut_int Tryd.underlying5 w2) trodAll_mk0))), rfl, bel.frame _, fun h => by cases h⟩

theorem levelTaken_holds : Rows.LevelTakenSaid :=
  OpenClaim.holds_of_wide 5 Tryd.f5 rfl rfl rfl rfl rfl rfl rfl ⟨rfl, rfl, rfl, rfl, rfl⟩ rfl rfl rfl rfl rfl (by kernel_rfl) Tryd.func5 (by kernel_rfl)
    (of_decide_eq_true (by kernel_rfl)) (by unfold Func.isWrapper; rw [if_neg (of_decide_eq_false (by kernel_rfl))]; exact ⟨rfl, rfl⟩)
    (fun os started H enc _ => LevelTaken_lifted os started H enc)

theorem levelTaken_card_holds : Rows.LevelTakenCardSaid :=
  Claim7.holds_tied_plain_at .later [] [.data] true (true, "a12f025456261448af86dfd14c67baf3c7b44116e69f89940250fcbef63c66f8") false
    levelTaken_holds (fun _ h => by cases h) (by kernel_rfl) (fun _ h => by cases h) levelTaken_row_tie rfl ⟨rfl, rfl⟩ (by kernel_rfl) rfl
    (fun f fn hf hfn => by
      obtain rfl : f = 5 := Option.some.inj ((show Tryd.prog.funcNamed Rows.levelTakenRow.func = some 5 by kernel_rfl).symm.trans hf) |>.symm
      obtain rfl : fn = Tryd.f5 := (Option.some.inj (Tryd.func5.symm.trans hfn)).symm
      exact ⟨by kernel_rfl, fun j t ht => by
        rw [Tryd.params5] at ht
        have hm : t ∈ [32, 5] := by have := Array.mem_of_getElem? ht; simp at this; simp [this]
        have hall : ([32, 5].all fun u => !Tryd.prog.wantsStandIn u) = true := by kernel_rfl
        exact (show Tryd.prog.wantsStandIn t = false by simpa using List.all_eq_true.1 hall t hm)⟩)
    (by kernel_rfl)
end Go.Proofs.YtgaakhiapgmnbaaDoor
