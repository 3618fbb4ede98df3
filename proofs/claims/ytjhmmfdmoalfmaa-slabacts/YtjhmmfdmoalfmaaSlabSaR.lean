/-
  SlabActs: a slab and the document's, side by side, and the requests of both.
-/
import Derived.Test.YtjhmmfdmoalfmaaSlSame
import Derived.Test.YtjhmmfdmoalfmaaSlabRmR
import Derived.Test.YtjhmmfdmoalfmaaIsTab
import Derived.Test.YtjhmmfdmoalfmaaHeld
import Derived.Deep.QuietTactic
import Derived.BigQuiet
import Derived.Deep.Cut
import Derived.Deep.CutRange
import Derived.Deep.CutBlock
import Derived.RegionTactic
import Derived.BigRegion
namespace Go.Proofs.Ytjhmmfdmoalfmaa
open Go.RowKit Verge
set_option linter.unusedVariables false
set_option linter.unusedSimpArgs false
attribute [local go_sem] Oper.semAt_some

/-- a slab, the document's, np requests (in the blocks B) -/
structure SaR (w W : World) (b rb vb lb n cnt : Nat) (R : Nat → Rec) (np : Nat) (B : Nat → Nat) (Q : Nat → Rq) (ae : Option Addr) (ce : Nat) (ar : Option Addr) (cr m : Nat) : Prop where
  s : IsS W b rb n cnt R
  v : RfS W vb lb n cnt R np Q ar cr
  i : AInv n cnt R np Q m
  q : ∀ j, j < np → IsQ W (B j) b (Q j)
  o : ∀ j, j < np → w.heap.size ≤ B j ∧ B j ≠ b ∧ B j ≠ rb ∧ ¬ VS vb lb ar (B j) ∧ ¬ OwnS ae (B j)
  d : ∀ j j', j < np → j' < np → B j = B j' → j = j'
  e : Row W 34 1 ae np ce (ptF B)
  eo : ∀ j, OwnS ae j → w.heap.size ≤ j ∧ j ≠ b ∧ j ≠ rb ∧ ¬ VS vb lb ar j
  vo : ∀ j, VS vb lb ar j → w.heap.size ≤ j ∧ j ≠ b ∧ j ≠ rb
  c : Ch Nil w W
  hb : w.heap.size ≤ b
  hr : w.heap.size ≤ rb
section
variable {w W W1 W2 : World} {b rb vb lb n cnt cnt' np ce cr m m' : Nat} {R R' : Nat → Rec} {B : Nat → Nat} {Q : Nat → Rq} {ae ar : Option Addr}
theorem SaR.more (h : SaR w W b rb vb lb n cnt R np B Q ae ce ar cr m) (hm : m ≤ m') : SaR w W b rb vb lb n cnt R np B Q ae ce ar cr m' := ⟨h.s, h.v, h.i.more hm, h.q, h.o, h.d, h.e, h.eo, h.vo, h.c, h.hb, h.hr⟩
theorem SaR.quiet (h : SaR w W b rb vb lb n cnt R np B Q ae ce ar cr m) (c : Ch Nil W W1) : SaR w W1 b rb vb lb n cnt R np B Q ae ce ar cr m := ⟨h.s.quiet c, h.v.quiet c, h.i, fun j hj => (h.q j hj).kept c (fun e => e), h.o, h.d, h.e.kept c (fun _ _ e => e), h.eo, h.vo, h.c.trans c, h.hb, h.hr⟩
theorem SaR.sq (h : SaR w W b rb vb lb n cnt R np B Q ae ce ar cr m) {j : Nat} (hj : j < np) : SQ W (B j) b rb n cnt R (Q j) := ⟨h.s, h.q j hj, (h.o j hj).2.1, (h.o j hj).2.2.1⟩
/-- the slab has turned, then the document's -/
theorem SaR.tried (h : SaR w W b rb vb lb n cnt R np B Q ae ce ar cr m) (s1 : IsS W1 b rb n cnt' R') (c1 : Ch (Two b rb) W W1) (v2 : RfS W2 vb lb n cnt' R' np Q ar cr) (c2 : Ch (VS vb lb ar) W1 W2) (i : AInv n cnt' R' np Q m') : SaR w W2 b rb vb lb n cnt' R' np B Q ae ce ar cr m' := by
  have nb : ¬ VS vb lb ar b := fun e => (h.vo b e).2.1 rfl
  have nr : ¬ VS vb lb ar rb := fun e => (h.vo rb e).2.2 rfl
  refine ⟨s1.kept c2 nb nr, v2, i, fun j hj => ((h.q j hj).kept c1 (fun e => ?_)).kept c2 (h.o j hj).2.2.2.1, h.o, h.d, (h.e.kept c1 (fun j hj e => ?_)).kept c2 (fun j hj e => (h.eo j hj).2.2.2 e), h.eo, h.vo, (h.c.then c1 (fun j hj e => ?_)).then c2 (fun j hj e => ?_), h.hb, h.hr⟩
  · have := h.o j hj; rcases e with e | e <;> omega
  · have := h.eo j hj; rcases e with e | e <;> omega
  · have := h.hb; have := h.hr; rcases e with e | e <;> omega
  · have := (h.vo j e).1; omega
/-- a request of both has stepped, the document's first -/
theorem SaR.stepped (h : SaR w W b rb vb lb n cnt R np B Q ae ce ar cr m) {j : Nat} (hj : j < np) {r : Rq} (v1 : RfS W1 vb lb n cnt' R' np (upQ Q j r) ar cr) (c1 : Ch (VS vb lb ar) W W1) (s2 : SQ W2 (B j) b rb n cnt' R' r) (c2 : Ch (Tri (B j) b rb) W1 W2) (i : AInv n cnt' R' np (upQ Q j r) m') : SaR w W2 b rb vb lb n cnt' R' np B (upQ Q j r) ae ce ar cr m' := by
  have ho := h.o j hj
  have nv : ∀ k, VS vb lb ar k → ¬ Tri (B j) b rb k := fun k hk e => by
    have := h.vo k hk
    rcases e with e | e | e
    · subst e; exact ho.2.2.2.1 hk
    · omega
    · omega
  refine ⟨s2.s, v1.kept c2 nv, i, fun j' hj' => ?_, h.o, h.d, (h.e.kept c1 (fun x hx e => (h.eo x hx).2.2.2 e)).kept c2 (fun x hx e => ?_), h.eo, h.vo, (h.c.then c1 (fun x hx e => ?_)).then c2 (fun x hx e => ?_), h.hb, h.hr⟩
  · by_cases e : j' = j
    · subst e; rw [upQ_same]; exact s2.rq
    · rw [upQ_other _ _ e]
      refine ((h.q j' hj').kept c1 (h.o j' hj').2.2.2.1).kept c2 (fun e' => ?_)
      have h2 := h.o j' hj'
      rcases e' with e' | e' | e'
      · exact e (h.d _ _ hj' hj e')
      · omega
      · omega
  · have h2 := h.eo x hx
    rcases e with e | e | e
    · subst e; exact ho.2.2.2.2 hx
    · omega
    · omega
  · have := (h.vo x e).1; omega
  · have := h.hb; have := h.hr; have := ho.1; rcases e with e | e | e <;> omega
/-- a request of both more -/
theorem SaR.grow (h : SaR w W b rb vb lb n cnt R np B Q ae ce ar cr m) {q pd g cap g2 cap2 : Nat} {Wa Wb : World} (hq : W.heap.size ≤ q) (s : SQ W1 q b rb n cnt R ⟨pd, 0, 0, 0, 0, 0⟩) (c : Ch Nil W W1) (hl : q < W1.heap.size)
    (row : Row Wa 34 1 (some ⟨g, 0, none⟩) (np + 1) cap (ptF (upN B np q))) (ca : Ch (OwnS ae) W1 Wa) (hg : OwnS ae g ∨ W1.heap.size ≤ g)
    (row2 : Row Wb 41 5 (some ⟨g2, 0, none⟩) (np + 1) cap2 (rqV (upQ Q np ⟨pd, 0, 0, 0, 0, 0⟩))) (cb : Ch (OwnS ar) Wa Wb) (hg2 : OwnS ar g2 ∨ Wa.heap.size ≤ g2) (hm : m + 1 ≤ m') :
    SaR w (Wb.setCell ⟨vb, 2, none⟩ (.slice (some ⟨g2, 0, none⟩) (np + 1) cap2)) b rb vb lb n cnt R (np + 1) (upN B np q) (upQ Q np ⟨pd, 0, 0, 0, 0, 0⟩) (some ⟨g, 0, none⟩) cap (some ⟨g2, 0, none⟩) cap2 m' := by
  have hcz := h.c.size
  have c1z := c.size
  have caz := ca.size
  have cbz := cb.size
  have vlt : ∀ k, VS vb lb ar k → k < W.heap.size := fun k hk => h.v.lt hk
  have lvb := vlt vb (.inl rfl)
  have llb := vlt lb (.inr (.inl rfl))
  have ls := h.s.lt
  have lr := h.s.lt2
  have vvb := h.vo vb (.inl rfl)
  have vlb := h.vo lb (.inr (.inl rfl))
  have gx : ∀ x, OwnS (some ⟨g, 0, none⟩) x → x = g := fun x hx => (by simpa [OwnS] using hx : g = x).symm
  have gx2 : ∀ x, OwnS (some ⟨g2, 0, none⟩) x → x = g2 := fun x hx => (by simpa [OwnS] using hx : g2 = x).symm
  have rlt := row.lt g rfl
  have elt : ∀ x, OwnS ae x → x < W.heap.size := fun x hx => h.e.lt x hx
  have alt : ∀ x, OwnS ar x → x < W.heap.size := fun x hx => vlt x (.inr (.inr hx))
  have hqa : ¬ OwnS ae q := fun e => by have := elt q e; omega
  have hqr : ¬ OwnS ar q := fun e => by have := alt q e; omega
  have gg : g ≠ vb ∧ g ≠ lb ∧ g ≠ b ∧ g ≠ rb ∧ ¬ OwnS ar g ∧ w.heap.size ≤ g ∧ g ≠ q := by
    rcases hg with hg | hg
    · have h1 := h.eo g hg
      exact ⟨fun e => h1.2.2.2 (.inl e), fun e => h1.2.2.2 (.inr (.inl e)), h1.2.1, h1.2.2.1, fun e => h1.2.2.2 (.inr (.inr e)), h1.1, fun e => hqa (by rw [← e]; exact hg)⟩
    · exact ⟨by omega, by omega, by omega, by omega, fun e => by have := alt g e; omega, by omega, by omega⟩
  have gg2 : g2 ≠ vb ∧ g2 ≠ lb ∧ g2 ≠ b ∧ g2 ≠ rb ∧ ¬ OwnS ae g2 ∧ w.heap.size ≤ g2 ∧ g2 ≠ q ∧ g2 ≠ g := by
    rcases hg2 with hg2 | hg2
    · have h1 := h.vo g2 (.inr (.inr hg2))
      exact ⟨fun e => h.v.nv (by rw [← e]; exact hg2), fun e => h.v.nl (by rw [← e]; exact hg2), h1.2.1, h1.2.2, fun e => (h.eo g2 e).2.2.2 (.inr (.inr hg2)), h1.1, fun e => hqr (by rw [← e]; exact hg2), fun e => gg.2.2.2.2.1 (by rw [← e]; exact hg2)⟩
    · exact ⟨by omega, by omega, by omega, by omega, fun e => by have := elt g2 e; omega, by omega, by omega, by omega⟩
  have nbv : ∀ {x : Nat}, x ≠ vb → ¬ One vb x := fun hx e => hx e
  have cs : Ch (One vb) Wb (Wb.setCell ⟨vb, 2, none⟩ (.slice (some ⟨g2, 0, none⟩) (np + 1) cap2)) := (Ch.refl _ _).setB _ _
  have eb : ¬ OwnS ae b := fun e => (h.eo b e).2.1 rfl
  have er : ¬ OwnS ae rb := fun e => (h.eo rb e).2.2.1 rfl
  have ab : ¬ OwnS ar b := fun e => (h.vo b (.inr (.inr e))).2.1 rfl
  have arr : ¬ OwnS ar rb := fun e => (h.vo rb (.inr (.inr e))).2.2 rfl
  have evb : ¬ OwnS ae vb := fun e => (h.eo vb e).2.2.2 (.inl rfl)
  have elb : ¬ OwnS ae lb := fun e => (h.eo lb e).2.2.2 (.inr (.inl rfl))
  have hvl : vb < Wb.heap.size := by omega
  have V0 := h.v.quiet c
  have vc0 := cb.keeps (ca.keeps V0.l evb) h.v.nv
  have vc1 := cb.keeps (ca.keeps V0.c evb) h.v.nv
  have vc2 := cb.keeps (ca.keeps V0.r evb) h.v.nv
  have l1 : vb < W1.heap.size := by omega
  have l2 : vb < Wa.heap.size := by omega
  have f1 := (cb.frozen (p := ⟨vb, 1, none⟩) l2 h.v.nv).trans ((ca.frozen (p := ⟨vb, 1, none⟩) l1 evb).trans V0.fc)
  have f2 := (cb.frozen (p := ⟨vb, 2, none⟩) l2 h.v.nv).trans ((ca.frozen (p := ⟨vb, 2, none⟩) l1 evb).trans V0.fr)
  refine ⟨((s.s.kept ca eb er).kept cb ab arr).kept cs (fun e => vvb.2.1 e.symm) (fun e => vvb.2.2 e.symm), ⟨(cell_ne (by omega) _).trans vc0, (cell_ne (by omega) _).trans vc1, World.cell?_setCell_same _ _ _ vc2, (World.frozen?_setCell _ _ _ _).trans f1, (World.frozen?_setCell _ _ _ _).trans f2, fun k hk => (((V0.rc k hk).kept ca elb).kept cb h.v.nl).kept cs (fun e => h.v.ne e.symm), row2.kept cs (fun x hx e => gg2.1 (by rw [← gx2 x hx]; exact e)), h.v.ne, fun e => gg2.1 (gx2 _ e).symm, fun e => gg2.2.1 (gx2 _ e).symm, h.v.n0, h.v.n1⟩, (h.i.grow h.s.n0 pd).more hm, fun j hj => ?_, fun j hj => ?_, fun j j' hj hj' e => ?_, (row.kept cb (fun x hx e => gg.2.2.2.2.1 (by rw [← gx x hx]; exact e))).kept cs (fun x hx e => gg.1 (by rw [← gx x hx]; exact e)), fun x hx => ?_, fun x hx => ?_, (((h.c.trans c).then ca (fun x hx e => by have := (h.eo x e).1; omega)).then cb (fun x hx e => by have := (h.vo x (.inr (.inr e))).1; omega)).then cs (fun x hx e => by change x = _ at e; omega), h.hb, h.hr⟩
  · by_cases e : j = np
    · subst e; rw [upN_same, upQ_same]; exact ((s.rq.kept ca hqa).kept cb hqr).kept cs (fun e => by change q = _ at e; omega)
    · rw [upN_other _ _ e, upQ_other _ _ e]
      have ho := h.o j (by omega)
      exact ((((h.q j (by omega)).kept c (fun e => e)).kept ca ho.2.2.2.2).kept cb (fun e => ho.2.2.2.1 (.inr (.inr e)))).kept cs (fun e => ho.2.2.2.1 (.inl e))
  · by_cases e : j = np
    · subst e
      rw [upN_same]
      refine ⟨by omega, by omega, by omega, fun e => ?_, fun e => gg.2.2.2.2.2.2 (gx _ e).symm⟩
      rcases e with e | e | e
      · omega
      · omega
      · exact gg2.2.2.2.2.2.2.1 (gx2 _ e).symm
    · rw [upN_other _ _ e]
      have ho := h.o j (by omega)
      have hlt := (h.q j (by omega)).lt
      refine ⟨ho.1, ho.2.1, ho.2.2.1, fun e => ?_, fun e => ?_⟩
      · rcases e with e | e | e
        · exact ho.2.2.2.1 (.inl e)
        · exact ho.2.2.2.1 (.inr (.inl e))
        · have e2 := gx2 _ e
          rcases hg2 with hg2 | hg2
          · exact ho.2.2.2.1 (.inr (.inr (by rw [e2]; exact hg2)))
          · omega
      · have e2 := gx _ e
        rcases hg with hg | hg
        · exact ho.2.2.2.2 (by rw [e2]; exact hg)
        · omega
  · by_cases e1 : j = np
    · by_cases e2 : j' = np
      · omega
      · rw [e1, upN_same, upN_other _ _ e2] at e
        have := (h.q j' (by omega)).lt; omega
    · by_cases e2 : j' = np
      · rw [e2, upN_same, upN_other _ _ e1] at e
        have := (h.q j (by omega)).lt; omega
      · rw [upN_other _ _ e1, upN_other _ _ e2] at e
        exact h.d _ _ (by omega) (by omega) e
  · have := gx _ hx
    subst this
    refine ⟨gg.2.2.2.2.2.1, gg.2.2.1, gg.2.2.2.1, fun e => ?_⟩
    rcases e with e | e | e
    · exact gg.1 e
    · exact gg.2.1 e
    · exact gg2.2.2.2.2.2.2.2 (gx2 _ e).symm
  · rcases hx with hx | hx | hx
    · subst hx; exact vvb
    · subst hx; exact vlb
    · have := gx2 _ hx
      subst this
      exact ⟨gg2.2.2.2.2.2.1, gg2.2.2.1, gg2.2.2.2.1⟩
end
theorem tab_act9 {w : World} {ad : Option Addr} {len cap k : Nat} (hv : IsTab [.i .i64, .i .i64, .i .i64, .i .u64] w ad len cap) (hk : k < len) : ∃ (x : Addr) (y0 y1 y2 : Int) (d3 : Nat), ad = some x ∧ len ≤ cap ∧ cap ≤ maxLen ∧ w.cell? (x.add (k * 4)) = some (.int .i64 y0) ∧ w.cell? ⟨(x.add (k * 4)).block, (x.add (k * 4)).off + 1, none⟩ = some (.int .i64 y1) ∧ w.cell? ⟨(x.add (k * 4)).block, (x.add (k * 4)).off + 2, none⟩ = some (.int .i64 y2) ∧ w.cell? ⟨(x.add (k * 4)).block, (x.add (k * 4)).off + 3, none⟩ = some (.int .u64 (d3 : Nat)) ∧ d3 < 18446744073709551616 ∧ y1 ≤ 9223372036854775807 := by
  rcases hv with ⟨-, h0, -⟩ | ⟨x, rfl, hcap1, hcap2, hx⟩
  · omega
  obtain ⟨_, q0, y0, rfl, -⟩ := hx k hk 0 _ rfl
  obtain ⟨_, q1, y1, rfl, wy1⟩ := hx k hk 1 _ rfl
  obtain ⟨_, q2, y2, rfl, -⟩ := hx k hk 2 _ rfl
  obtain ⟨_, q3, y3, rfl, wy3⟩ := hx k hk 3 _ rfl
  obtain ⟨a1, a2⟩ := bounds_u64 wy3
  obtain ⟨b1, b2⟩ := bounds_i64 wy1
  obtain ⟨d3, rfl⟩ := Int.eq_ofNat_of_zero_le a1
  exact ⟨x, y0, y1, y2, d3, rfl, hcap1, hcap2, q0, cell_at (k * 4) 1 q1, cell_at (k * 4) 2 q2, cell_at (k * 4) 3 q3, by omega, b2⟩
theorem nat_of_max9 (y : Int) : ∃ mm : Nat, (if 0 < y then y else 0) = (mm : Int) := ⟨(if 0 < y then y else 0).toNat, by split <;> omega⟩
theorem nxZ_ok {n : Nat} {ev : Int} {per : Bool} (h : okW n = true) : okW (nxZ n ev per).1 = true := by
  unfold nxZ; split
  · exact nx_okW _ _ _ h
  · exact nx_okW _ _ _ h
/-- what a try makes -/
def tryM (n : Nat) (R : Nat → Rec) (y : Int) (old : Nat) (ev : Int) : Nat × Nat × (Nat → Rec) :=
  if 0 ≤ y ∧ y < n then
    (if (nxZ old ev ((R y.toNat).pd != 0)).2 ≠ 0 then ((R y.toNat).wd, (nxZ old ev ((R y.toNat).pd != 0)).2, R)
     else if (R y.toNat).wd ≠ old then ((R y.toNat).wd, 10, R)
     else ((nxZ old ev ((R y.toNat).pd != 0)).1, 0, upR R y.toNat ⟨(nxZ old ev ((R y.toNat).pd != 0)).1, (R y.toNat).gv, (R y.toNat).pd⟩))
  else (0, 4, R)
theorem try_any {b rb n cnt : Nat} {R : Nat → Rec} (y : Int) (old : Nat) (ev : Int) {w : World} (h : IsS w b rb n cnt R) (ho : old < 18446744073709551616) :
    Calls Try.prog 16 #[.pointer (some ⟨b, 0, none⟩), .int .i64 y, .int .u64 (old : Nat), .int .i64 ev] w fun e w' => e = .returned (.tuple #[.int .u64 ((tryM n R y old ev).1 : Nat), .int .i64 ((tryM n R y old ev).2.1 : Nat)]) ∧ IsS w' b rb n cnt (tryM n R y old ev).2.2 ∧ Ch (Two b rb) w w' := by
  unfold tryM
  by_cases hy : 0 ≤ y ∧ y < n
  · rw [if_pos hy]
    obtain ⟨k, rfl⟩ := Int.eq_ofNat_of_zero_le hy.1
    rw [Int.toNat_natCast]
    have hk : k < n := by omega
    by_cases hx : (nxZ old ev ((R k).pd != 0)).2 ≠ 0
    · rw [if_pos hx]; exact (try_err k old ev h hk ho hx).mono fun e w' ⟨he, s, c⟩ => ⟨he, s, Ch_two2 c⟩
    · rw [if_neg hx]
      have hx : (nxZ old ev ((R k).pd != 0)).2 = 0 := by omega
      by_cases hv : (R k).wd ≠ old
      · rw [if_pos hv]; exact (try_busy k old ev h hk ho hx hv).mono fun e w' ⟨he, s, c⟩ => ⟨he, s, Ch_two2 c⟩
      · rw [if_neg hv]; exact (try_go k old ev h hk ho hx (by omega)).mono fun e w' ⟨he, s, c⟩ => ⟨he, s, Ch_two2 c⟩
  · rw [if_neg hy]; exact (try_out y old ev h hy).mono fun e w' ⟨he, s, c⟩ => ⟨he, s, Ch_any c⟩
theorem refTry_any {vb lb n cnt np : Nat} {R : Nat → Rec} {Q : Nat → Rq} {ar : Option Addr} {cr : Nat} (y : Int) (old : Nat) (ev : Int) {w : World} (h : RfS w vb lb n cnt R np Q ar cr) (ho : old < 18446744073709551616) :
    Calls Try.prog 17 #[.pointer (some ⟨vb, 0, none⟩), .int .i64 y, .int .u64 (old : Nat), .int .i64 ev] w fun e w' => e = .returned (.tuple #[.int .u64 ((tryM n R y old ev).1 : Nat), .int .i64 ((tryM n R y old ev).2.1 : Nat)]) ∧ RfS w' vb lb n cnt (tryM n R y old ev).2.2 np Q ar cr ∧ Ch (VS vb lb ar) w w' := by
  have up : ∀ {w w' : World}, Ch (One lb) w w' → Ch (VS vb lb ar) w w' := fun c => c.mono fun _ _ e => .inr (.inl e)
  unfold tryM
  by_cases hy : 0 ≤ y ∧ y < n
  · rw [if_pos hy]
    obtain ⟨k, rfl⟩ := Int.eq_ofNat_of_zero_le hy.1
    rw [Int.toNat_natCast]
    have hk : k < n := by omega
    by_cases hx : (nxZ old ev ((R k).pd != 0)).2 ≠ 0
    · rw [if_pos hx]; exact (refTry_err k old ev h hk ho hx).mono fun e w' ⟨he, s, c⟩ => ⟨he, s, up c⟩
    · rw [if_neg hx]
      have hx : (nxZ old ev ((R k).pd != 0)).2 = 0 := by omega
      by_cases hv : (R k).wd ≠ old
      · rw [if_pos hv]; exact (refTry_busy k old ev h hk ho hx hv).mono fun e w' ⟨he, s, c⟩ => ⟨he, s, up c⟩
      · rw [if_neg hv]; exact (refTry_go k old ev h hk ho hx (by omega)).mono fun e w' ⟨he, s, c⟩ => ⟨he, s, up c⟩
  · rw [if_neg hy]; exact (refTry_out y old ev h hy).mono fun e w' ⟨he, hw⟩ => by subst hw; exact ⟨he, h, Ch.refl _ _⟩
theorem tryM_inv {n cnt np m : Nat} {R : Nat → Rec} {Q : Nat → Rq} (h : AInv n cnt R np Q m) (y : Int) (old : Nat) (ev : Int) : AInv n cnt (tryM n R y old ev).2.2 np Q (m + 1) := by
  unfold tryM
  by_cases hy : 0 ≤ y ∧ y < n
  · rw [if_pos hy]
    have hk : y.toNat < n := by omega
    by_cases hx : (nxZ old ev ((R y.toNat).pd != 0)).2 ≠ 0
    · rw [if_pos hx]; exact h.more (Nat.le_succ m)
    · rw [if_neg hx]
      by_cases hv : (R y.toNat).wd ≠ old
      · rw [if_pos hv]; exact h.more (Nat.le_succ m)
      · rw [if_neg hv]
        have hv : (R y.toNat).wd = old := by omega
        exact h.tried (nxZ_ok (by rw [← hv]; exact h.ok _ hk))
  · rw [if_neg hy]; exact h.more (Nat.le_succ m)
end Go.Proofs.Ytjhmmfdmoalfmaa
