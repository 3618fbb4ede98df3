import Derived.Test.YtldnmpiaofppgaaDoorK02
import Derived.Laws.BitsAllLaws
import Derived.Test.YtldnmpiaofppgaaDoorK01
import Derived.IntWalk
import Derived.Laws.AppendOwnNone
import Derived.Laws.StructEq
/-
  Contract of package list's Drain at *verge/wheel.Entry[verge/api.Task]: the values, in order; the list has none then, its nodes are in none.
-/
namespace Go.Proofs.YtldnmpiaofppgaaDoor.LT
open Go.RowKit Go.Shelf Verge
attribute [local go_sem] Oper.semAt_some
set_option linter.unusedVariables false
set_option linter.unusedSimpArgs false

section
variable {S : Nat → Prop} {w w' : World} {lb ob b : Nat} {xs ys : List Nat} {V : Nat → Nat}
/-- between two rounds of Drain -/
structure DrIn (w : World) (lb : Nat) (xs : List Nat) (V : Nat → Nat) (k : Nat) (W : World) : Prop where
  l : IsL W lb (xs.drop k) V
  fr : ∀ (i b : Nat), xs[i]? = some b → i < k → IsN W b (V b) none none none
  row : ∃ a cap, W.cell? ⟨w.heap.size + 1, 0, none⟩ = some (.slice a k cap) ∧ RowE W a k cap (valAt xs V) ∧ ∀ g, OwnS a g → w.heap.size + 1 < g
  bl : W.cell? ⟨w.heap.size, 0, none⟩ = some (.pointer (some ⟨lb, 0, none⟩))
  b : Blk W (w.heap.size + 1)
  c : Ch (LB lb xs) w W
theorem IsN.steady {v : Nat} {lp ah be : Option Nat} (h : IsN w b v lp ah be) {r : Nat} (c : Ch (One r) w w') (hr : NoCells w r) : IsN w' b v lp ah be := h.kept c (NoCells.blk hr h.k)
theorem DrIn.steady {B : Nat} (hB : w.heap.size ≤ B) : Steady B (DrIn w lb xs V) := fun k W W' r h c hr nc => by
  obtain ⟨a, cap, h1, h2, h3⟩ := h.row
  exact ⟨h.l.steady c nc, fun i b hb hi => (h.fr i b hb hi).steady c nc, ⟨a, cap, c.keeps h1 (fun e => nc.cell h1 e), Row.steady h2 c nc, h3⟩, c.keeps h.bl (fun e => nc.cell h.bl e), h.b.kept c (NoCells.blk nc h.b), Ch.late h.c c (by omega)⟩

set_option maxRecDepth 100000 in
set_option maxHeartbeats 1000000 in
theorem IsL.drain (h : IsL w lb xs V) (hs : xs.length ≤ 100000) :
    Calls Tryd.prog 64 #[.pointer (some ⟨lb, 0, none⟩)] w fun e w' => ∃ a cap, e = .returned (.slice a xs.length cap) ∧ RowE w' a xs.length cap (valAt xs V) ∧ (∀ g, OwnS a g → w.heap.size ≤ g) ∧ IsL w' lb [] V ∧ (∀ b, b ∈ xs → IsN w' b (V b) none none none) ∧ Ch (LB lb xs) w w' := by
  obtain ⟨W0, hW0⟩ : ∃ W0, W0 = (w.alloc (.cells #[.pointer (some ⟨lb, 0, none⟩)] 121)).alloc (.cells #[.slice none 0 0] 80) := ⟨_, rfl⟩
  have chN : Ch Nil w W0 := by rw [hW0]; exact ((Ch.refl _ _).alloc _).alloc _
  have hsz : W0.heap.size = w.heap.size + 2 := by rw [hW0]; simp
  have c0 : W0.cell? ⟨w.heap.size, 0, none⟩ = some (.pointer (some ⟨lb, 0, none⟩)) := by
    rw [hW0]; exact ((Ch.refl Nil _).alloc _).keeps ((cell_fresh _ _ _ _).trans rfl) (fun e => e)
  have c1 : W0.cell? ⟨w.heap.size + 1, 0, none⟩ = some (.slice none 0 0) := by
    rw [hW0]
    have := cell_fresh (w.alloc (.cells #[.pointer (some ⟨lb, 0, none⟩)] 121)) #[.slice none 0 0] 80 0
    rw [World.size_alloc] at this
    exact this.trans rfl
  have b1 : Blk W0 (w.heap.size + 1) := by
    rw [hW0]
    have := Blk.new (w.alloc (.cells #[.pointer (some ⟨lb, 0, none⟩)] 121)) #[.slice none 0 0] 80
    rwa [World.size_alloc] at this
  have hI0 : DrIn w lb xs V 0 W0 :=
    ⟨h.kept chN (fun _ _ e => e), fun i b _ hi => by omega, ⟨none, 0, c1, Row.nil _ _ _ _, fun g hg => by cases hg⟩, c0, b1, chN.mono (fun _ _ e => e.elim)⟩
  have hlt : ∀ k, LB lb xs k → k < w.heap.size := fun k hk => h.lt hk
  have HI0 := Lib.hid hI0
  have HL := Lib.hid hlt
  have ND := Lib.hid h.nd
  have NL := Lib.hid h.nl
  clear hI0 hlt h chN b1
  refine (callsIn_wide (n := 5)).1 ?_
  refine callsIn_of_wp_marks Tryd.func64 rfl trivial ?_ rfl
  simp only [Tryd.ntmps64, List.size_toArray, List.length_cons, List.length_nil, Nat.reduceAdd, Nat.reduceSub, Array.replicate_succ, Array.replicate_zero, List.push_toArray, List.append_toArray, List.nil_append, List.cons_append]
  subst hW0
  gi_wp2
  generalize hW0 : ((w.alloc (.cells #[.pointer (some ⟨lb, 0, none⟩)] 121)).alloc (.cells #[.slice none 0 0] 80)) = W0 at *
  clear hW0 c0 c1
  refine range_all (n := 5) (gf := 83) (ba := #[.pointer (some ⟨lb, 0, none⟩)]) rfl (enters_of Tryd.func83 (by kernel_rfl) rfl) xs.length (fun k => pt xs[k]?) rfl
    (DrIn w lb xs V) (DrIn.steady (by omega)) HI0.out (nodes_tells 4 (by omega) lb xs ND.out _ ?hF ?hN) ?act1 ?assign ?body ?done
  case hF => intro W hW; have := hW.l.h.f; simpa using this
  case hN =>
    intro k W b hW hk
    have := (hW.l.n 0 b (by rw [List.getElem?_drop]; simpa using hk)).z
    rw [List.getElem?_drop] at this
    exact this
  case assign =>
    intro l k W K hK
    gi_wp2
    exact hK
  case body =>
    intro l k W2 hW hk
    obtain ⟨b, hb⟩ : ∃ b, xs[k]? = some b := ⟨_, List.getElem?_eq_getElem hk⟩
    have hbm := List.mem_of_getElem? hb
    rw [hb, pt_some]
    obtain ⟨a, cap, c1, r1, g1⟩ := hW.row
    have c0 := hW.bl
    have HW := Lib.hid hW
    have HBk := Lib.hid hb
    have G1 := Lib.hid g1
    have hv : valAt xs V k = .pointer (some ⟨V b, 0, none⟩) := by unfold valAt; rw [List.getD_eq_getElem?_getD, hb]; rfl
    have HV := Lib.hid hv
    have R0 := Lib.hid r1
    clear hW hb g1 hv r1
    gi_wp2_with fail
    refine ⟨trivial, ?_⟩
    refine (CallsIn.inRound l (callsIn_wide.2 (HW.out.l.cut_of (i := 0) (b := b) (by rw [List.getElem?_drop]; simpa using HBk.out) (by rw [List.length_drop]; omega)))).mono ?_
    rintro e W ⟨⟨r, rfl⟩, l1, n1, ch1⟩
    rw [drop_succ] at l1
    have dsub : ∀ j, LB lb (xs.drop k) j → LB lb xs j := by
      rintro j (rfl | hj)
      · exact .inl rfl
      · exact .inr (List.mem_of_mem_drop hj)
    have n0 : ¬ LB lb (xs.drop k) w.heap.size := fun e => by have := HL.out _ (dsub _ e); omega
    have n1' : ¬ LB lb (xs.drop k) (w.heap.size + 1) := fun e => by have := HL.out _ (dsub _ e); omega
    have d0 := ch1.keeps c0 n0
    have c1 := ch1.keeps c1 n1'
    have c2 := n1.v
    have blk1 := HW.out.b.kept ch1 n1'
    have f1 := blk1.fz 0
    have hWb := blk1.lt
    have hWc := ch1.size
    have R1 := Lib.hid (R0.out.kept ch1 (fun g hg e => by have := HL.out _ (dsub _ e); have := G1.out g hg; omega))
    have HB1 := Lib.hid blk1
    have L1 := Lib.hid l1
    have N1 := Lib.hid n1
    have C1 := Lib.hid ch1
    clear l1 n1 ch1 c0 blk1
    gi_wp2
    refine wpIn_region_any (by kernel_rfl) (any_round (by rintro ⟨a, w, h⟩; exact h) (noDefer_spec (by kernel_rfl)) _ _ _ _ ?_)
    change wpAny _ _ _ _ _ _ _ (World.drew _)
    have c1' : W.drew.cell? ⟨w.heap.size + 1, 0, none⟩ = some (.slice a k cap) := c1
    have c2' : W.drew.cell? ⟨b, 0, none⟩ = some (.pointer (some ⟨V b, 0, none⟩)) := c2
    have f1' : W.drew.frozen? ⟨w.heap.size + 1, 0, none⟩ = false := f1
    have hC : Ch Nil W W.drew := (Ch.refl _ _).drew
    have HC := Lib.hid hC
    have hXs : w.heap.size + 1 < W.drew.heap.size := hWb
    clear c1 c2 f1 hC
    generalize W.drew = X at *
    refine wpAny_take (i := 1) (v := ?_) rfl (by kernel_rfl) (by kernel_rfl) (by kernel_rfl) (fun _ _ _ h => h) (Or.inl ⟨by rfl, ?_⟩) ?_
    rotate_left
    · intro w; go_simp; try (with_reducible rfl)
    refine wpAny_take (i := 2) (v := ?_) rfl (by kernel_rfl) (by kernel_rfl) (by kernel_rfl) (fun _ _ _ h => h) (Or.inl ⟨by rfl, ?_⟩) ?_
    rotate_left
    · intro w; go_simp; try (with_reducible rfl)
    refine wpAny_take (i := 3) (v := ?_) rfl (by kernel_rfl) (by kernel_rfl) (by kernel_rfl) (fun _ _ _ h => h) (Or.inl ⟨by rfl, ?_⟩) ?_
    rotate_left
    · intro w; go_simp; try (with_reducible rfl)
    refine wpAny_ready (rs := [0, 4]) (by kernel_rfl) (by simp) ?_
    refine AllReady.cons rfl (fun K hK => ?_) ?_
    go_simp
    refine hK _ _ ?_
    clear hK K
    refine wpAny_ready (rs := [4]) (by kernel_rfl) (by simp) ?_
    refine AllReady.cons rfl (fun K hK => ?_) AllReady.nil
    go_simp
    refine hK _ _ ?_
    clear hK K
    refine wpAny_ready (rs := [5]) (by kernel_rfl) (by simp) ?_
    refine AllReady.cons rfl (fun K hK => ?_) AllReady.nil
    go_simp
    refine hK _ _ ?_
    clear hK K
    refine ?tail
    rotate_left
    refine AllReady.cons rfl (fun K hK => ?_) AllReady.nil
    go_simp
    refine hK _ _ ?_
    clear hK K
    refine wpAny_ready (rs := [0, 5]) (by kernel_rfl) (by simp) ?_
    refine AllReady.cons rfl (fun K hK => ?_) ?_
    go_simp
    refine hK _ _ ?_
    clear hK K
    refine wpAny_ready (rs := [5]) (by kernel_rfl) (by simp) ?_
    refine AllReady.cons rfl (fun K hK => ?_) AllReady.nil
    go_simp
    refine hK _ _ ?_
    clear hK K
    exact ?tail
    refine AllReady.cons rfl (fun K hK => ?_) AllReady.nil
    go_simp
    refine hK _ _ ?_
    clear hK K
    refine wpAny_ready (rs := [0]) (by kernel_rfl) (by simp) ?_
    refine AllReady.cons rfl (fun K hK => ?_) AllReady.nil
    go_simp
    refine hK _ _ ?_
    clear hK K
    exact ?tail
    have R2 : Row (X.alloc (.cells #[.pointer (some ⟨V b, 0, none⟩)] 76)) 76 1 a k cap (valAt xs V) := (R1.out.kept HC.out (fun _ _ e => e)).kept (S := Nil) ((Ch.refl _ _).alloc _) (fun _ _ e => e)
    have hXc : Ch Nil X (X.alloc (.cells #[.pointer (some ⟨V b, 0, none⟩)] 76)) := (Ch.refl _ _).alloc _
    have d1 := hXc.keeps c1' (fun e => e)
    have e1 := (hXc.frozen (p := ⟨w.heap.size + 1, 0, none⟩) hXs (fun e => e)).trans f1'
    refine wpAny_ready (rs := [6]) (by kernel_rfl) (by simp) ?_
    refine AllReady.cons rfl (fun K hK => ?_) AllReady.nil
    refine step_row rfl _ _ _ rfl 76 (.pointer none) 1 8 Tryd.underlying80 (by kernel_rfl) rfl (by omega) (by omega) rfl R2 (by omega) X.heap.size 1 [.pointer (some ⟨V b, 0, none⟩)] 76 rfl rfl (heap_alloc_new X _) (by simp [Value.oneCell']) (valAt xs V) (fun _ _ => rfl) (by intro j u hu; obtain rfl : j = 0 := (by cases j; rfl; simp at hu); simp at hu; subst hu; simpa using HV.out) _ rfl ?_
    intro g cap' w' row ch at_ lt
    have ROW := Lib.hid row
    have CH := Lib.hid ch
    have AT := Lib.hid at_
    have hbox : ¬ OwnS a (w.heap.size + 1) := fun e => by have := G1.out _ e; omega
    have d2 := ch.keeps d1 hbox
    have e2 := (ch.frozen (p := ⟨w.heap.size + 1, 0, none⟩) (by simp; omega) hbox).trans e1
    clear row ch at_ R2
    refine hK _ _ ?_
    clear hK K
    refine wpAny_ready (rs := [7]) (by kernel_rfl) (by simp) ?_
    refine AllReady.cons rfl (fun K hK => ?_) AllReady.nil
    go_simp
    refine hK _ _ ?_
    clear hK K
    refine wpAny_done (by kernel_rfl) ?_ _
    have T0 : Ch (OwnS a) W w' := ((HC.out.then (S' := Nil) hXc (fun _ _ e => e)).mono (fun _ _ e => e.elim)).trans CH.out
    have T : Ch (fun k => OwnS a k ∨ k = w.heap.size + 1) W (w'.setCell ⟨w.heap.size + 1, 0, none⟩ (.slice (some ⟨g, 0, none⟩) (k + 1) cap')) :=
      Ch.set (p := ⟨w.heap.size + 1, 0, none⟩) (T0.mono fun _ _ e => .inl e) (fun _ => .inr rfl) _
    have gt : w.heap.size + 1 < g := by
      rcases AT.out with h | h
      · exact G1.out g h
      · rw [h, World.size_alloc]; omega
    have hi : ∀ j, (OwnS a j ∨ j = w.heap.size + 1) → w.heap.size < j := by
      rintro j (hj | rfl)
      · have := G1.out j hj; omega
      · omega
    refine ⟨(Keeps.of_ch C1.out fun j hj => ?_).trans (Keeps.of_ch' T fun j hj => ?_), L1.out.kept T fun j hj e => ?_, fun i c hc hik => ?_, ⟨_, cap', World.cell?_setCell_same _ _ _ d2, ?_, ?_⟩, T.keeps d0 (fun e => by have := hi _ e; simp at this), (HB1.out.kept T0 hbox).set _ _, (HW.out.c.then C1.out fun j _ hj => dsub j hj).then T fun i hi' e => ?_⟩
    · have := HL.out j (dsub j hj); omega
    · rcases hj with hj | rfl
      · exact .inr (Row.blk R1.out hj)
      · exact .inl (by omega)
    · have := HL.out j (dsub j (by
        rcases hj with rfl | hj
        · exact .inl rfl
        · rw [← drop_succ] at hj; exact .inr (List.mem_of_mem_eraseIdx hj)))
      have := hi j e; omega
    · have hlow := HL.out c (.inr (List.mem_of_getElem? hc))
      by_cases e : i = k
      · subst e
        obtain rfl : c = b := by have := hc.symm.trans HBk.out; cases this; rfl
        exact N1.out.kept T fun e => by have := hi _ e; omega
      · refine ((HW.out.fr i c hc (by omega)).kept C1.out ?_).kept T fun e => by have := hi _ e; omega
        rintro (rfl | hm)
        · exact NL.out (List.mem_of_getElem? hc)
        · obtain ⟨m, hm⟩ := List.mem_iff_getElem?.1 hm
          rw [List.getElem?_drop] at hm
          have := ND.out _ _ _ hc hm; omega
    · exact ROW.out.kept (S := One (w.heap.size + 1)) ((Ch.refl _ _).setB 0 _) (fun k e h => by cases e; simp at h; omega)
    · intro g' e; cases e; exact gt
    · have := hi i e; omega
  case done =>
    intro D W hD hW hK
    have hput := (DrIn.steady (B := w.heap.size) (Nat.le_refl _)).put (.deferred none) hW (by omega) hK rfl
    obtain ⟨a, cap, c1, r1, g1⟩ := hW.row
    have R1 := Lib.hid (Row.steady r1 (Ch.put D (.deferred none)) (.of_loop hK rfl))
    have G1 := Lib.hid g1
    have HP := Lib.hid hput
    clear hW hput r1 g1
    gi_wp2
    refine ⟨by simp, .inl ⟨_, _, rfl, run_takeDeferred hK, ?_⟩⟩
    refine ⟨_, results_tmp rfl _ _ _, a, cap, rfl, R1.out, fun g hg => by have := G1.out g hg; omega, ?_, fun b hb => ?_, HP.out.c⟩
    · have := HP.out.l
      rwa [List.drop_length] at this
    · obtain ⟨i, hi⟩ := List.mem_iff_getElem?.1 hb
      exact HP.out.fr i b hi (List.getElem?_eq_some_iff.1 hi).1

set_option maxRecDepth 100000 in
set_option maxHeartbeats 1000000 in
theorem drain_nil (w : World) :
    Calls Tryd.prog 64 #[.pointer none] w fun e w' => e = .returned (.slice none 0 0) ∧ Ch Nil w w' := by
  have c1 : ((w.alloc (.cells #[.pointer none] 121)).alloc (.cells #[.slice none 0 0] 80)).cell? ⟨w.heap.size + 1, 0, none⟩ = some (.slice none 0 0) := by
    have := cell_fresh (w.alloc (.cells #[.pointer none] 121)) #[.slice none 0 0] 80 0
    rw [World.size_alloc] at this
    exact this.trans rfl
  have hI0 : ((w.alloc (.cells #[.pointer none] 121)).alloc (.cells #[.slice none 0 0] 80)).cell? ⟨w.heap.size + 1, 0, none⟩ = some (.slice none 0 0) ∧ Ch Nil w ((w.alloc (.cells #[.pointer none] 121)).alloc (.cells #[.slice none 0 0] 80)) := ⟨c1, ((Ch.refl _ _).alloc _).alloc _⟩
  have HI0 := Lib.hid hI0
  clear hI0 c1
  have hsz : ((w.alloc (.cells #[.pointer none] 121)).alloc (.cells #[.slice none 0 0] 80)).heap.size = w.heap.size + 2 := by simp
  refine (callsIn_wide (n := 5)).1 ?_
  refine callsIn_of_wp_marks Tryd.func64 rfl trivial ?_ rfl
  simp only [Tryd.ntmps64, List.size_toArray, List.length_cons, List.length_nil, Nat.reduceAdd, Nat.reduceSub, Array.replicate_succ, Array.replicate_zero, List.push_toArray, List.append_toArray, List.nil_append, List.cons_append]
  gi_wp2
  generalize hW0 : ((w.alloc (.cells #[.pointer none] 121)).alloc (.cells #[.slice none 0 0] 80)) = W0 at *
  clear hW0
  refine range_all (n := 5) (gf := 83) (ba := #[.pointer none]) rfl (enters_of Tryd.func83 (by kernel_rfl) rfl) 0 (fun k => .pointer none) rfl
    (fun k W => W.cell? ⟨w.heap.size + 1, 0, none⟩ = some (.slice none 0 0) ∧ Ch Nil w W) ?hI HI0.out (nodes_nil 4 (by omega) _) ?act1 ?assign ?body ?done
  case hI => intro k W W' r h c hr nc; exact ⟨c.keeps h.1 (fun e => nc.cell h.1 e), Ch.late h.2 c (by omega)⟩
  case assign =>
    intro l k W K hK
    gi_wp2
    exact hK
  case body => intro l k W hW hk; omega
  case done =>
    intro D W hD hW hK
    have HC := Lib.hid (Ch.late hW.2 (Ch.put D (.deferred none)) (by omega))
    have c1 := hW.1
    clear hW
    gi_wp2
    refine ⟨by simp, .inl ⟨_, _, rfl, run_takeDeferred hK, ?_⟩⟩
    exact ⟨_, results_tmp rfl _ _ _, rfl, HC.out⟩
end
end Go.Proofs.YtldnmpiaofppgaaDoor.LT

/-
  Plain arithmetic of times by their digits of the base 64 (no Go in sight): digits, the highest level at which two times differ, how many lowest digits are 0, a time without its lowest digits.
-/
namespace Verge

def dg (t l : Nat) : Nat := t / 64 ^ l % 64
theorem dg_lt (t l : Nat) : dg t l < 64 := Nat.mod_lt _ (by decide)

/-- the digits with their levels, from the level 0 on -/
def pairs (t : Nat) : List (Nat × Nat) := (List.range 11).map fun k => (k, dg t k)
theorem pairs_length (t : Nat) : (pairs t).length = 11 := by simp [pairs]
theorem pairs_take (t k : Nat) (h : k < 11) : (pairs t).take (k + 1) = (pairs t).take k ++ [(k, dg t k)] := by
  rw [List.take_succ_eq_append_getElem (by simpa [pairs] using h)]
  simp [pairs]
theorem pairs_all (t : Nat) : (pairs t).take 11 = pairs t := by
  rw [List.take_of_length_le]; simp [pairs]

/-- xor by digits -/
theorem dg_xor (a b l : Nat) : dg (a ^^^ b) l = dg a l ^^^ dg b l := by
  unfold dg
  have e : (64 : Nat) ^ l = 2 ^ (6 * l) := by rw [Nat.pow_mul]
  have e6 : (64 : Nat) = 2 ^ 6 := rfl
  rw [e]
  conv => lhs; rw [e6]
  conv => rhs; rw [e6]
  apply Nat.eq_of_testBit_eq
  intro i
  simp only [Nat.testBit_mod_two_pow, Nat.testBit_div_two_pow, Nat.testBit_xor]
  cases decide (i < 6) <;> simp
theorem xor_zero_iff (x y : Nat) : x ^^^ y = 0 ↔ x = y := by
  constructor
  · intro h
    apply Nat.eq_of_testBit_eq
    intro i
    have := congrArg (fun n => n.testBit i) h
    simp only [Nat.testBit_xor, Nat.zero_testBit] at this
    cases hx : x.testBit i <;> cases hy : y.testBit i <;> simp_all
  · rintro rfl; exact Nat.xor_self x
theorem dg_xor_zero (a b l : Nat) : dg (a ^^^ b) l = 0 ↔ dg a l = dg b l := by rw [dg_xor, xor_zero_iff]

/-- the highest of the levels below k at which two times differ; -1: none -/
def ap (a b : Nat) : Nat → Int
  | 0 => -1
  | k + 1 => if dg a k = dg b k then ap a b k else k
theorem ap_eq (a b k : Nat) (h : dg a k = dg b k) : ap a b (k + 1) = ap a b k := if_pos h
theorem ap_ne (a b k : Nat) (h : ¬ dg a k = dg b k) : ap a b (k + 1) = k := if_neg h
theorem ap_lt (a b : Nat) : ∀ k, ap a b k < k ∧ -1 ≤ ap a b k
  | 0 => by simp [ap]
  | k + 1 => by
    have := ap_lt a b k
    unfold ap; split <;> omega
theorem ap_symm (a b : Nat) : ∀ k, ap a b k = ap b a k
  | 0 => rfl
  | k + 1 => by
    unfold ap; rw [ap_symm a b k]
    by_cases h : dg a k = dg b k
    · rw [if_pos h, if_pos h.symm]
    · rw [if_neg h, if_neg (fun e => h e.symm)]
/-- what it is -/
theorem ap_spec (a b : Nat) : ∀ k, (∀ l : Nat, ap a b k < l → l < k → dg a l = dg b l) ∧ (0 ≤ ap a b k → dg a (ap a b k).toNat ≠ dg b (ap a b k).toNat)
  | 0 => ⟨fun l _ h => absurd h (by omega), fun h => absurd h (by simp [ap])⟩
  | k + 1 => by
    obtain ⟨h1, h2⟩ := ap_spec a b k
    by_cases h : dg a k = dg b k
    · have e := ap_eq a b k h
      rw [e]
      refine ⟨fun l hl hk => ?_, h2⟩
      by_cases hlk : l = k
      · rw [hlk]; exact h
      · exact h1 l hl (by omega)
    · have e := ap_ne a b k h
      rw [e]
      exact ⟨fun l hl hk => absurd hl (by omega), fun _ => by simpa using h⟩
theorem ap_skip (a b i : Nat) (h : ∀ l, i ≤ l → l < 11 → dg a l = dg b l) (hi : i ≤ 11) : ap a b 11 = ap a b i := by
  have key : ∀ d, i + d ≤ 11 → ap a b (i + d) = ap a b i := by
    intro d
    induction d with
    | zero => intro _; rfl
    | succ d ih =>
      intro hd
      have e : ap a b (i + (d + 1)) = ap a b (i + d) := by
        exact ap_eq a b (i + d) (h (i + d) (by omega) (by omega))
      rw [e, ih (by omega)]
  have := key (11 - i) (by omega)
  rwa [show i + (11 - i) = 11 by omega] at this

/-- how many of the lowest digits are 0 -/
def Zeros (t n : Nat) : Prop := n ≤ 11 ∧ (∀ i, i < n → dg t i = 0) ∧ (n = 11 ∨ dg t n ≠ 0)
theorem Zeros.unique {t n m : Nat} (h : Zeros t n) (h' : Zeros t m) : n = m := by
  obtain ⟨a, b, c⟩ := h
  obtain ⟨a', b', c'⟩ := h'
  rcases Nat.lt_trichotomy n m with hlt | rfl | hlt
  · rcases c with rfl | c
    · omega
    · exact absurd (b' n hlt) c
  · rfl
  · rcases c' with rfl | c'
    · omega
    · exact absurd (b m hlt) c'

/-- a time without its digits below a level -/
def ct (t l : Nat) : Nat := t / 64 ^ l * 64 ^ l
theorem ct_le (t l : Nat) : ct t l ≤ t := Nat.div_mul_le_self _ _
theorem ct_zero (t : Nat) : ct t 0 = t := by simp [ct]
theorem ct_big (t l : Nat) (ht : t < 18446744073709551616) (hl : 11 ≤ l) : ct t l = 0 := by
  unfold ct
  have h1 : (64 : Nat) ^ 11 ≤ 64 ^ l := Nat.pow_le_pow_right (by decide) hl
  have h2 : t < 64 ^ l := Nat.lt_of_lt_of_le (Nat.lt_trans ht (by decide)) h1
  rw [Nat.div_eq_of_lt h2, Nat.zero_mul]
/-- digits of what is cut -/
theorem dg_ct (t l j : Nat) : dg (ct t l) j = if l ≤ j then dg t j else 0 := by
  unfold dg ct
  split
  · rename_i h
    have e : (64 : Nat) ^ j = 64 ^ l * 64 ^ (j - l) := by rw [← Nat.pow_add]; congr 1; omega
    rw [e, ← Nat.div_div_eq_div_mul, ← Nat.div_div_eq_div_mul, Nat.mul_div_cancel _ (Nat.pos_of_ne_zero (by simp))]
  · rename_i h
    have e : (64 : Nat) ^ l = 64 ^ (l - j - 1) * 64 * 64 ^ j := by
      rw [← Nat.pow_succ, ← Nat.pow_add]; congr 1; omega
    rw [e, ← Nat.mul_assoc, Nat.mul_div_cancel _ (Nat.pos_of_ne_zero (by simp)), ← Nat.mul_assoc, Nat.mul_mod_left]
theorem div_step (c j : Nat) : c / 64 ^ j = c / 64 ^ (j + 1) * 64 + dg c j := by
  unfold dg
  rw [Nat.pow_succ, ← Nat.div_div_eq_div_mul]
  have := Nat.div_add_mod (c / 64 ^ j) 64
  omega
theorem div_top (c : Nat) (hc : c < 18446744073709551616) : c / 64 ^ 11 = 0 := Nat.div_eq_of_lt (Nat.lt_trans hc (by decide))

/-- alike from a level on: cut alike -/
theorem div_eq_of_digits (a b : Nat) (ha : a < 18446744073709551616) (hb : b < 18446744073709551616) (k : Nat) (h : ∀ l, k ≤ l → l < 11 → dg a l = dg b l) : a / 64 ^ k = b / 64 ^ k := by
  have key : ∀ d, d ≤ 11 → k ≤ 11 - d → a / 64 ^ (11 - d) = b / 64 ^ (11 - d) := by
    intro d
    induction d with
    | zero => intro _ _; rw [show 11 - 0 = 11 from rfl, div_top a ha, div_top b hb]
    | succ d ih =>
      intro hd hk
      have := ih (by omega) (by omega)
      rw [div_step a (11 - (d + 1)), div_step b (11 - (d + 1)), show 11 - (d + 1) + 1 = 11 - d by omega, this, h _ hk (by omega)]
  by_cases hk : k ≤ 11
  · have := key (11 - k) (by omega) (by omega)
    rwa [show 11 - (11 - k) = k by omega] at this
  · have h1 : (64 : Nat) ^ 11 ≤ 64 ^ k := Nat.pow_le_pow_right (by decide) (by omega)
    have p : (18446744073709551616 : Nat) < 64 ^ 11 := by decide
    rw [Nat.div_eq_of_lt (by omega), Nat.div_eq_of_lt (by omega)]
theorem digits_eq_of_div (a b k l : Nat) (h : a / 64 ^ k = b / 64 ^ k) (hl : k ≤ l) : dg a l = dg b l := by
  unfold dg
  have e : (64 : Nat) ^ l = 64 ^ k * 64 ^ (l - k) := by rw [← Nat.pow_add]; congr 1; omega
  rw [e, ← Nat.div_div_eq_div_mul, ← Nat.div_div_eq_div_mul, h]
theorem ct_eq_iff (a b k : Nat) : ct a k = ct b k ↔ a / 64 ^ k = b / 64 ^ k := by
  unfold ct
  constructor
  · intro h
    exact Nat.eq_of_mul_eq_mul_right (Nat.pos_of_ne_zero (by simp)) h
  · intro h; rw [h]
theorem ct_eq_ap (a b k : Nat) (ha : a < 18446744073709551616) (hb : b < 18446744073709551616) (hk : k ≤ 11) : ct a k = ct b k ↔ ap a b 11 < k := by
  rw [ct_eq_iff]
  obtain ⟨h1, h2⟩ := ap_spec a b 11
  have h3 := ap_lt a b 11
  constructor
  · intro h
    rcases Int.lt_or_le (ap a b 11) k with h4 | h4
    · exact h4
    · exact absurd (digits_eq_of_div a b k (ap a b 11).toNat h (by omega)) (h2 (by omega))
  · intro h
    exact div_eq_of_digits a b ha hb k (fun l hl hl2 => h1 l (by omega) hl2)
/-- a time is alike to itself cut by as many digits as are 0, and by no more -/
theorem ct_zeros (t n : Nat) (ht : t < 18446744073709551616) (h : Zeros t n) : ct t n = t ∧ (n = 11 ∨ ct t (n + 1) ≠ t) := by
  obtain ⟨a, b, c⟩ := h
  refine ⟨?_, ?_⟩
  · have hd : ∀ l, 0 ≤ l → l < 11 → dg (ct t n) l = dg t l := by
      intro l _ _
      rw [dg_ct]
      split
      · rfl
      · rw [b l (by omega)]
    have := div_eq_of_digits (ct t n) t (Nat.lt_of_le_of_lt (ct_le _ _) ht) ht 0 hd
    simpa using this
  · rcases c with c | c
    · exact .inl c
    · refine .inr (fun e => c ?_)
      have := dg_ct t (n + 1) n
      rw [e, if_neg (by omega)] at this
      exact this
/-- of three -/
theorem ap_third (a b c : Nat) : ap a c 11 ≤ max (ap a b 11) (ap b c 11) := by
  obtain ⟨x1, _⟩ := ap_spec a b 11
  obtain ⟨y1, _⟩ := ap_spec b c 11
  obtain ⟨_, z2⟩ := ap_spec a c 11
  have zl := ap_lt a c 11
  have xl := ap_lt a b 11
  rcases Int.lt_or_le (max (ap a b 11) (ap b c 11)) (ap a c 11) with h | h
  · have e := x1 (ap a c 11).toNat (by omega) (by omega)
    have f := y1 (ap a c 11).toNat (by omega) (by omega)
    exact absurd (e.trans f) (z2 (by omega))
  · exact h
end Verge

/-
  What a ring's cells are in memory: what turned within one block, and what stands beside it.
-/
namespace Go.Proofs.YtldnmpiaofppgaaDoor
open Go.RowKit
set_option linter.unusedVariables false

/-- in block b no more than k cells from o on have turned; no other old block has -/
structure Tch (b o k : Nat) (w w' : World) : Prop where
  ch : Ch (One b) w w'
  cell : ∀ i, (i < o ∨ o + k ≤ i) → w'.cell? ⟨b, i, none⟩ = w.cell? ⟨b, i, none⟩
  fz : ∀ i, w'.frozen? ⟨b, i, none⟩ = w.frozen? ⟨b, i, none⟩
theorem Tch.refl (b o k : Nat) (w : World) : Tch b o k w w := ⟨Ch.refl _ _, fun _ _ => rfl, fun _ => rfl⟩
theorem Tch.trans {b o k : Nat} {w1 w2 w3 : World} (h : Tch b o k w1 w2) (g : Tch b o k w2 w3) : Tch b o k w1 w3 :=
  ⟨h.ch.trans g.ch, fun i hi => (g.cell i hi).trans (h.cell i hi), fun i => (g.fz i).trans (h.fz i)⟩
theorem Tch.wide {b o k o' k' : Nat} {w1 w2 : World} (h : Tch b o k w1 w2) (ho : o' ≤ o) (hk : o + k ≤ o' + k') : Tch b o' k' w1 w2 :=
  ⟨h.ch, fun i hi => h.cell i (by omega), h.fz⟩
theorem Tch.set {b o k : Nat} {w w' : World} (h : Tch b o k w w') (i : Nat) (hi : o ≤ i ∧ i < o + k) (v : Value) : Tch b o k w (w'.setCell ⟨b, i, none⟩ v) :=
  ⟨h.ch.setB i v, fun j hj => (cell_ne (by omega) v).trans (h.cell j hj), fun j => (World.frozen?_setCell _ _ _ _).trans (h.fz j)⟩
theorem Tch.of_nil {b o k : Nat} {w w' : World} (h : Ch Nil w w') (hb : b < w.heap.size) : Tch b o k w w' :=
  ⟨h.mono (fun _ _ e => e.elim), fun i _ => h.cell (p := ⟨b, i, none⟩) hb (fun e => e), fun i => h.frozen (p := ⟨b, i, none⟩) hb (fun e => e)⟩
theorem Tch.alloc {b o k : Nat} {w w' : World} (h : Tch b o k w w') (hb : b < w.heap.size) (x : Obj) : Tch b o k w (w'.alloc x) :=
  h.trans (Tch.of_nil ((Ch.refl _ _).alloc x) (by have := h.ch.size; omega))
theorem Tch.drewN {b o k : Nat} {w w' : World} (h : Tch b o k w w') (n : Nat) : Tch b o k w (w'.drewN n) := ⟨h.ch.drewN n, h.cell, h.fz⟩
theorem Tch.drew {b o k : Nat} {w w' : World} (h : Tch b o k w w') : Tch b o k w w'.drew := ⟨h.ch.drew, h.cell, h.fz⟩

/-- a cell of an unsigned number -/
def IsU (w : World) (b o : Nat) (v : Int) : Prop := ∃ l t u, IsC w b o (.int .u64 v) l t u
theorem IsU.lt {w : World} {b o : Nat} {v : Int} (h : IsU w b o v) : b < w.heap.size := by obtain ⟨l, t, u, h⟩ := h; exact h.lt
theorem IsU.kept {S : Nat → Prop} {w w' : World} {b o : Nat} {v : Int} (h : IsU w b o v) (c : Ch S w w') (hn : ¬ S b) : IsU w' b o v := by
  obtain ⟨l, t, u, h⟩ := h; exact ⟨l, t, u, h.keeps c hn⟩
theorem IsU.far {w w' : World} {b o o' k : Nat} {v : Int} (h : IsU w b o v) (c : Tch b o' k w w') (hn : o + 4 ≤ o' ∨ o' + k ≤ o) : IsU w' b o v := by
  obtain ⟨l, t, u, h⟩ := h
  exact ⟨l, t, u, (c.cell _ (by omega)).trans h.v, (c.cell _ (by omega)).trans h.l, (c.cell _ (by omega)).trans h.t, (c.cell _ (by omega)).trans h.u,
    (c.fz _).trans h.fv, (c.fz _).trans h.fl, (c.fz _).trans h.ft, (c.fz _).trans h.fu⟩

/-- a cell of a mark -/
structure IsM0 (w : World) (b o : Nat) (p : Int) (q : Bool) (l t u : Int) : Prop where
  p : w.cell? ⟨b, o, none⟩ = some (.int .u64 p)
  q : w.cell? ⟨b, o + 1, none⟩ = some (.bool q)
  l : w.cell? ⟨b, o + 2, none⟩ = some (.int .i64 l)
  t : w.cell? ⟨b, o + 3, none⟩ = some (.int .i64 t)
  u : w.cell? ⟨b, o + 4, none⟩ = some (.int .i64 u)
  fp : w.frozen? ⟨b, o, none⟩ = false
  fq : w.frozen? ⟨b, o + 1, none⟩ = false
  fl : w.frozen? ⟨b, o + 2, none⟩ = false
theorem IsM0.lt {w : World} {b o : Nat} {p : Int} {q : Bool} {l t u : Int} (h : IsM0 w b o p q l t u) : b < w.heap.size := lt_of_cell h.p
theorem IsM0.kept {S : Nat → Prop} {w w' : World} {b o : Nat} {p : Int} {q : Bool} {l t u : Int} (h : IsM0 w b o p q l t u) (c : Ch S w w') (hn : ¬ S b) : IsM0 w' b o p q l t u := by
  have hl := h.lt
  exact ⟨c.keeps h.p hn, c.keeps h.q hn, c.keeps h.l hn, c.keeps h.t hn, c.keeps h.u hn, (c.frozen (p := ⟨b, _, none⟩) hl hn).trans h.fp, (c.frozen (p := ⟨b, _, none⟩) hl hn).trans h.fq, (c.frozen (p := ⟨b, _, none⟩) hl hn).trans h.fl⟩
theorem IsM0.far {w w' : World} {b o o' k : Nat} {p : Int} {q : Bool} {l t u : Int} (h : IsM0 w b o p q l t u) (c : Tch b o' k w w') (hn : o + 5 ≤ o' ∨ o' + k ≤ o) : IsM0 w' b o p q l t u :=
  ⟨(c.cell _ (by omega)).trans h.p, (c.cell _ (by omega)).trans h.q, (c.cell _ (by omega)).trans h.l, (c.cell _ (by omega)).trans h.t, (c.cell _ (by omega)).trans h.u, (c.fz _).trans h.fp, (c.fz _).trans h.fq, (c.fz _).trans h.fl⟩
theorem IsM0.setP {w : World} {b o : Nat} {p : Int} {q : Bool} {l t u : Int} (h : IsM0 w b o p q l t u) (x : Int) : IsM0 (w.setCell ⟨b, o, none⟩ (.int .u64 x)) b o x q l t u :=
  ⟨World.cell?_setCell_same _ _ _ h.p, (cell_ne (by omega) _).trans h.q, (cell_ne (by omega) _).trans h.l, (cell_ne (by omega) _).trans h.t, (cell_ne (by omega) _).trans h.u, (World.frozen?_setCell _ _ _ _).trans h.fp, (World.frozen?_setCell _ _ _ _).trans h.fq, (World.frozen?_setCell _ _ _ _).trans h.fl⟩
theorem IsM0.setQ {w : World} {b o : Nat} {p : Int} {q : Bool} {l t u : Int} (h : IsM0 w b o p q l t u) (x : Bool) : IsM0 (w.setCell ⟨b, o + 1, none⟩ (.bool x)) b o p x l t u :=
  ⟨(cell_ne (by omega) _).trans h.p, World.cell?_setCell_same _ _ _ h.q, (cell_ne (by omega) _).trans h.l, (cell_ne (by omega) _).trans h.t, (cell_ne (by omega) _).trans h.u, (World.frozen?_setCell _ _ _ _).trans h.fp, (World.frozen?_setCell _ _ _ _).trans h.fq, (World.frozen?_setCell _ _ _ _).trans h.fl⟩
theorem IsM0.setL {w : World} {b o : Nat} {p : Int} {q : Bool} {l t u : Int} (h : IsM0 w b o p q l t u) (x : Int) : IsM0 (w.setCell ⟨b, o + 2, none⟩ (.int .i64 x)) b o p q x t u :=
  ⟨(cell_ne (by omega) _).trans h.p, (cell_ne (by omega) _).trans h.q, World.cell?_setCell_same _ _ _ h.l, (cell_ne (by omega) _).trans h.t, (cell_ne (by omega) _).trans h.u, (World.frozen?_setCell _ _ _ _).trans h.fp, (World.frozen?_setCell _ _ _ _).trans h.fq, (World.frozen?_setCell _ _ _ _).trans h.fl⟩
theorem IsM0.alloc {w : World} {b o : Nat} {p : Int} {q : Bool} {l t u : Int} (h : IsM0 w b o p q l t u) (x : Obj) : IsM0 (w.alloc x) b o p q l t u := h.kept (S := Nil) ((Ch.refl _ _).alloc _) (fun e => e)
def IsM (w : World) (b o : Nat) (p : Int) (q : Bool) : Prop := ∃ l t u, IsM0 w b o p q l t u
theorem IsM.lt {w : World} {b o : Nat} {p : Int} {q : Bool} (h : IsM w b o p q) : b < w.heap.size := by obtain ⟨l, t, u, h⟩ := h; exact h.lt
theorem IsM.kept {S : Nat → Prop} {w w' : World} {b o : Nat} {p : Int} {q : Bool} (h : IsM w b o p q) (c : Ch S w w') (hn : ¬ S b) : IsM w' b o p q := by
  obtain ⟨l, t, u, h⟩ := h; exact ⟨l, t, u, h.kept c hn⟩
theorem IsM.far {w w' : World} {b o o' k : Nat} {p : Int} {q : Bool} (h : IsM w b o p q) (c : Tch b o' k w w') (hn : o + 5 ≤ o' ∨ o' + k ≤ o) : IsM w' b o p q := by
  obtain ⟨l, t, u, h⟩ := h; exact ⟨l, t, u, h.far c hn⟩
abbrev mk (p : Int) (q : Bool) : Value := .agg #[.int .u64 p, .bool q]

/-- two positions of one window lie in two seats -/
theorem mod_apart {n f p q : Nat} (hp : f ≤ p ∧ p < f + n) (hq : f ≤ q ∧ q < f + n) (hne : p ≠ q) : p % n ≠ q % n := by
  intro h
  have h0 : 0 < n := by omega
  rcases Nat.lt_or_gt_of_ne hne with hlt | hlt
  · have : (q - p) % n = 0 := Nat.sub_mod_eq_zero_of_mod_eq h.symm
    rw [Nat.mod_eq_of_lt (by omega)] at this; omega
  · have : (p - q) % n = 0 := Nat.sub_mod_eq_zero_of_mod_eq h
    rw [Nat.mod_eq_of_lt (by omega)] at this; omega
/-- whose seat it is: the window's one position that lies there -/
theorem mod_window (n f p : Nat) (h0 : 0 < n) : ∃ q, f ≤ q ∧ q < f + n ∧ q % n = p % n := by
  by_cases h : f % n ≤ p % n
  · refine ⟨f / n * n + p % n, ?_, ?_, ?_⟩
    · have := Nat.div_add_mod f n; rw [Nat.mul_comm] at this; omega
    · have := Nat.div_add_mod f n; rw [Nat.mul_comm] at this; have := Nat.mod_lt p h0; omega
    · rw [Nat.mul_comm, Nat.mul_add_mod, Nat.mod_mod]
  · refine ⟨(f / n + 1) * n + p % n, ?_, ?_, ?_⟩
    · have := Nat.div_add_mod f n; rw [Nat.mul_comm] at this; have := Nat.mod_lt f h0; rw [Nat.add_mul]; omega
    · have := Nat.div_add_mod f n; rw [Nat.mul_comm] at this; rw [Nat.add_mul]; omega
    · rw [Nat.mul_comm, Nat.mul_add_mod, Nat.mod_mod]
end Go.Proofs.YtldnmpiaofppgaaDoor

/-
  Tasks in memory: five cells by value; a row of them that the call owns; a slice that leads to a row of them; one stored.
-/
namespace Verge
/-- a task: its number, slot, generation, deadline, period -/
structure Tk where
  i : Nat
  s : Int
  g : Nat
  d : Nat
  p : Nat
  deriving DecidableEq
/-- the zero task -/
def tk0 : Tk := ⟨0, 0, 0, 0, 0⟩
end Verge
namespace Go.Proofs.YtldnmpiaofppgaaDoor
open Go.RowKit Verge
attribute [local go_sem] Oper.semAt_some
set_option linter.unusedVariables false
/-- a task's cells -/
def tkc (u : Tk) : Nat → Value
  | 0 => .int .u64 (u.i : Nat)
  | 1 => .int .i64 u.s
  | 2 => .int .u64 (u.g : Nat)
  | 3 => .int .u64 (u.d : Nat)
  | _ => .int .u64 (u.p : Nat)
/-- a task as a value -/
abbrev tkA (u : Tk) : Value := .agg #[.int .u64 (u.i : Nat), .int .i64 u.s, .int .u64 (u.g : Nat), .int .u64 (u.d : Nat), .int .u64 (u.p : Nat)]
def tks (u : Tk) : List Value := [.int .u64 (u.i : Nat), .int .i64 u.s, .int .u64 (u.g : Nat), .int .u64 (u.d : Nat), .int .u64 (u.p : Nat)]
theorem lt5 {j : Nat} (h : j < 5) : j = 0 ∨ j = 1 ∨ j = 2 ∨ j = 3 ∨ j = 4 := by omega
theorem tks_get {u : Tk} {j : Nat} {v : Value} (h : (tks u)[j]? = some v) : j < 5 ∧ v = tkc u j := by
  have hj : j < 5 := (List.getElem?_eq_some_iff.1 h).1
  refine ⟨hj, ?_⟩
  rcases lt5 hj with rfl | rfl | rfl | rfl | rfl <;> · simp [tks] at h; exact h.symm
/-- the cells of a row of tasks -/
def tc (L : List Tk) (k : Nat) : Value := match L[k / 5]? with | some f => tkc f (k % 5) | none => .bool false
theorem tc_at {L : List Tk} {i : Nat} {f : Tk} (h : L[i]? = some f) {j : Nat} (hj : j < 5) : tc L (i * 5 + j) = tkc f j := by
  unfold tc
  rw [show (i * 5 + j) / 5 = i by omega, show (i * 5 + j) % 5 = j by omega, h]
theorem tc_left {L : List Tk} (M : List Tk) {k : Nat} (hk : k < L.length * 5) : tc (L ++ M) k = tc L k := by
  unfold tc
  rw [List.getElem?_append_left (by omega)]
theorem tc_snoc {L : List Tk} (f : Tk) {j : Nat} (hj : j < 5) : tc (L ++ [f]) (L.length * 5 + j) = tkc f j :=
  tc_at (by simp) hj
/-- where a task's five cells lie -/
def IsTk (w : World) (b o : Nat) (u : Tk) : Prop := ∀ j, j < 5 → w.cell? ⟨b, o + j, none⟩ = some (tkc u j)
/-- a slice that leads to a row of tasks -/
def TSrc (w : World) (a : Option Addr) (L : List Tk) : Prop :=
  L = [] ∨ ∃ b o, a = some ⟨b, o, none⟩ ∧ ∀ i f, L[i]? = some f → IsTk w b (o + i * 5) f
/-- a row of tasks that the call owns -/
abbrev TRow (w : World) (a : Option Addr) (cap : Nat) (L : List Tk) : Prop := Row w 37 5 a L.length cap (tc L)
section
variable {w w' : World} {a : Option Addr} {L M : List Tk} {S : Nat → Prop} {cap b o : Nat} {u : Tk}
theorem IsTk.lt (h : IsTk w b o u) : b < w.heap.size := lt_of_cell (h 0 (by omega))
theorem IsTk.kept (h : IsTk w b o u) (c : Ch S w w') (hn : ¬ S b) : IsTk w' b o u := fun j hj => c.keeps (h j hj) hn
theorem IsTk.far {o' k : Nat} (h : IsTk w b o u) (c : Tch b o' k w w') (hn : o + 5 ≤ o' ∨ o' + k ≤ o) : IsTk w' b o u := fun j hj => (c.cell _ (by omega)).trans (h j hj)
theorem IsTk.cells (h : IsTk w b o u) : w.cell? ⟨b, o, none⟩ = some (.int .u64 (u.i : Nat)) ∧ w.cell? ⟨b, o + 1, none⟩ = some (.int .i64 u.s) ∧ w.cell? ⟨b, o + 2, none⟩ = some (.int .u64 (u.g : Nat)) ∧ w.cell? ⟨b, o + 3, none⟩ = some (.int .u64 (u.d : Nat)) ∧ w.cell? ⟨b, o + 4, none⟩ = some (.int .u64 (u.p : Nat)) :=
  ⟨h 0 (by omega), h 1 (by omega), h 2 (by omega), h 3 (by omega), h 4 (by omega)⟩
theorem IsTk.cells0 (h : IsTk w b 0 u) : w.cell? ⟨b, 0, none⟩ = some (.int .u64 (u.i : Nat)) ∧ w.cell? ⟨b, 1, none⟩ = some (.int .i64 u.s) ∧ w.cell? ⟨b, 2, none⟩ = some (.int .u64 (u.g : Nat)) ∧ w.cell? ⟨b, 3, none⟩ = some (.int .u64 (u.d : Nat)) ∧ w.cell? ⟨b, 4, none⟩ = some (.int .u64 (u.p : Nat)) := h.cells
theorem IsTk.of (h : w.cell? ⟨b, o, none⟩ = some (.int .u64 (u.i : Nat)) ∧ w.cell? ⟨b, o + 1, none⟩ = some (.int .i64 u.s) ∧ w.cell? ⟨b, o + 2, none⟩ = some (.int .u64 (u.g : Nat)) ∧ w.cell? ⟨b, o + 3, none⟩ = some (.int .u64 (u.d : Nat)) ∧ w.cell? ⟨b, o + 4, none⟩ = some (.int .u64 (u.p : Nat))) : IsTk w b o u := by
  obtain ⟨h0, h1, h2, h3, h4⟩ := h
  intro j hj
  rcases lt5 hj with rfl | rfl | rfl | rfl | rfl <;> assumption
theorem IsTk.new (w : World) (T : TypeId) (u : Tk) : IsTk (w.alloc (.cells #[.int .u64 (u.i : Nat), .int .i64 u.s, .int .u64 (u.g : Nat), .int .u64 (u.d : Nat), .int .u64 (u.p : Nat)] T)) w.heap.size 0 u := by
  refine IsTk.of ⟨?_, ?_, ?_, ?_, ?_⟩ <;> (rw [cell_fresh]; rfl)
/-- a task stored where another one lay -/
def setTk (w : World) (b o : Nat) (u : Tk) : World :=
  ((((w.setCell ⟨b, o, none⟩ (.int .u64 (u.i : Nat))).setCell ⟨b, o + 1, none⟩ (.int .i64 u.s)).setCell ⟨b, o + 2, none⟩ (.int .u64 (u.g : Nat))).setCell ⟨b, o + 3, none⟩ (.int .u64 (u.d : Nat))).setCell ⟨b, o + 4, none⟩ (.int .u64 (u.p : Nat))
theorem setTk_tch (w : World) (b o : Nat) (u : Tk) : Tch b o 5 w (setTk w b o u) :=
  (((((Tch.refl b o 5 w).set o (by omega) _).set (o + 1) (by omega) _).set (o + 2) (by omega) _).set (o + 3) (by omega) _).set (o + 4) (by omega) _
theorem setTk_is {v : Tk} (h : IsTk w b o v) : IsTk (setTk w b o u) b o u := by
  obtain ⟨h0, h1, h2, h3, h4⟩ := h.cells
  unfold setTk
  refine IsTk.of ⟨?_, ?_, ?_, ?_, ?_⟩
  · rw [cell_ne (by omega), cell_ne (by omega), cell_ne (by omega), cell_ne (by omega)]; exact World.cell?_setCell_same _ _ _ h0
  · rw [cell_ne (by omega), cell_ne (by omega), cell_ne (by omega)]; exact World.cell?_setCell_same _ _ _ ((cell_ne (by omega) _).trans h1)
  · rw [cell_ne (by omega), cell_ne (by omega)]; exact World.cell?_setCell_same _ _ _ ((cell_ne (by omega) _).trans ((cell_ne (by omega) _).trans h2))
  · rw [cell_ne (by omega)]; exact World.cell?_setCell_same _ _ _ ((cell_ne (by omega) _).trans ((cell_ne (by omega) _).trans ((cell_ne (by omega) _).trans h3)))
  · exact World.cell?_setCell_same _ _ _ ((cell_ne (by omega) _).trans ((cell_ne (by omega) _).trans ((cell_ne (by omega) _).trans ((cell_ne (by omega) _).trans h4))))
theorem TSrc.nil (w : World) (a : Option Addr) : TSrc w a [] := .inl rfl
theorem TSrc.kept (h : TSrc w a L) (c : Ch S w w') (hn : ∀ k, OwnS a k → ¬ S k) : TSrc w' a L := by
  rcases h with h | ⟨b, o, rfl, h⟩
  · exact .inl h
  · exact .inr ⟨b, o, rfl, fun i f hf => (h i f hf).kept c (hn b rfl)⟩
theorem TSrc.form (h : TSrc w a L) (hp : 0 < L.length) : ∃ b o, a = some ⟨b, o, none⟩ ∧ b < w.heap.size ∧ ∀ i f, L[i]? = some f → IsTk w b (o + i * 5) f := by
  rcases h with h | ⟨b, o, e, h⟩
  · rw [h] at hp; simp at hp
  · obtain ⟨f, hf⟩ : ∃ f, L[0]? = some f := ⟨_, List.getElem?_eq_getElem hp⟩
    exact ⟨b, o, e, (h 0 f hf).lt, h⟩
theorem TRow.src (h : TRow w a cap L) : TSrc w a L := by
  by_cases hl : L = []
  · exact .inl hl
  · obtain ⟨g, rfl, -⟩ := h.form (List.length_pos_iff.2 hl)
    refine .inr ⟨g, 0, rfl, fun i f hf j hj => ?_⟩
    have hi := (List.getElem?_eq_some_iff.1 hf).1
    have := h.cell (i * 5 + j) (by omega)
    rw [tc_at hf hj] at this
    simpa using this
end
/-- two tasks are the same -/
theorem eqT (f g : Tk) (w : World) : (Op.equalIn 10000 37 (tkA f) (tkA g)).run Tryd.prog w = .ok (decide (f = g)) w := by
  have u3 := Tryd.underlying29
  have a3 := Tryd.isAgg29
  have z3 := Tryd.sizeOf29
  have u4 := Tryd.underlying3
  have a4 := Tryd.isAgg3
  have z4 := Tryd.sizeOf3
  have hS : Tryd.prog.underlying 37 = some (.struct (Tryd.prog.fieldsOf 37)) := by kernel_rfl
  have hp : Tryd.prog.stoodInHeld 37 = false := by kernel_rfl
  rw [show (10000 : Nat) = 9999 + 1 from rfl, run_equalIn_agg w 9999 37 _ _ hS hp]
  simp only [Program.fieldsOf, Tryd.underlying37]
  go_simp
  obtain ⟨a0, a1, a2, a3, a4⟩ := f
  obtain ⟨b0, b1, b2, b3, b4⟩ := g
  simp only [Tk.mk.injEq]
  by_cases h0 : a0 = b0 <;> by_cases h1 : a1 = b1 <;> by_cases h2 : a2 = b2 <;> by_cases h3 : a3 = b3 <;> by_cases h4 : a4 = b4 <;> simp [h0, h1, h2, h3, h4] <;> omega
/-- append of one task to a row of one's own -/
theorem append_tk {P : Program} (w : World) {ops : Array Oper} {rest : List Oper} {o : Oper} {act : Act} {Q : Exit → Act → World → Prop} (hgd : o.guard = none) (s x : Operand) (t : TypeId)
    (ho : o.op = .call { callee := .builtin .append, args := #[s, x], argTypes := #[t, t] })
    (ht : P.underlying t = some (.slice 37)) (hi : (P.info? 37).map (fun i => (i.zero, i.size, i.bytes)) = some (some (tkA tk0), 5, 40))
    {a : Option Addr} {cap n : Nat} {L : List Tk} (hs : act.eval s = .slice a n cap) (hn' : n = L.length) (hrow : TRow w a cap L) (hn : L.length ≤ 1000000)
    (B c : Nat) (f : Tk) (T : TypeId) (hx : act.eval x = .slice (some ⟨B, 0, none⟩) 1 c) (hb : w.heap[B]? = some (.cells (tks f).toArray T (0, 0))) (H : Nat) (hH : w.heap.size = H)
    (h : ∀ g cap' w', TRow w' (some ⟨g, 0, none⟩) cap' (L ++ [f]) → Ch (OwnS a) w w' → (OwnS a g ∨ g = H) → g < w'.heap.size → wpList P ops Q rest (act.put o.dst (.slice (some ⟨g, 0, none⟩) (n + 1) cap')) w') : wpList P ops Q (o :: rest) act w := by
  subst hn'
  refine append_row w hgd s x t ho 37 (tkA tk0) 5 40 ht hi rfl (by omega) (by omega) hs hrow hn B c (tks f) T hx rfl hb (by simp [tks, Value.oneCell']) (tc (L ++ [f])) (fun i hi => tc_left _ hi) (fun j u hu => ?_) H hH ?_
  · obtain ⟨hj, rfl⟩ := tks_get hu
    exact tc_snoc f hj
  · intro g cap' w' h1 h2 h3 h4
    refine h g cap' w' ?_ h2 h3 h4
    show Row _ _ _ _ (L ++ [f]).length _ _
    rw [List.length_append]
    exact h1
end Go.Proofs.YtldnmpiaofppgaaDoor
