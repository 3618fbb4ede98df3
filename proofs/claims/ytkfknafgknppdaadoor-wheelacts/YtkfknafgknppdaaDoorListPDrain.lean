/-
  Contract of package list's Drain at *verge/wheel.Entry[int]: the values, in order; the list has none then, its nodes are in none.
-/
import Derived.Test.YtkfknafgknppdaaDoorListP6
namespace Go.Proofs.YtkfknafgknppdaaDoor.LP
open Go.RowKit Go.Shelf Verge
attribute [local go_sem] Oper.semAt_some
set_option linter.unusedVariables false
set_option linter.unusedSimpArgs false

section
variable {S : Nat → Prop} {w w' : World} {lb ob b : Nat} {xs ys : List Nat} {V : Nat → Nat}
/-- between two rounds of Drain -/
structure DrIn (w : World) (lb : Nat) (xs : List Nat) (V : Nat → Nat) (k : Nat) (W : World) : Prop where
  l : IsL W lb (xs.drop k) V
  fr : ∀ (i b : Nat), xs[i]? = some b → i < k → IsN W b (V b) none none none
  row : ∃ a cap, W.cell? ⟨w.heap.size + 1, 0, none⟩ = some (.slice a k cap) ∧ RowE W a k cap (valAt xs V) ∧ ∀ g, OwnS a g → w.heap.size + 1 < g
  bl : W.cell? ⟨w.heap.size, 0, none⟩ = some (.pointer (some ⟨lb, 0, none⟩))
  b : Blk W (w.heap.size + 1)
  c : Ch (LB lb xs) w W
theorem IsN.steady {v : Nat} {lp ah be : Option Nat} (h : IsN w b v lp ah be) {r : Nat} (c : Ch (One r) w w') (hr : NoCells w r) : IsN w' b v lp ah be := h.kept c (NoCells.blk hr h.k)
theorem DrIn.steady {B : Nat} (hB : w.heap.size ≤ B) : Steady B (DrIn w lb xs V) := fun k W W' r h c hr nc => by
  obtain ⟨a, cap, h1, h2, h3⟩ := h.row
  exact ⟨h.l.steady c nc, fun i b hb hi => (h.fr i b hb hi).steady c nc, ⟨a, cap, c.keeps h1 (fun e => nc.cell h1 e), Row.steady h2 c nc, h3⟩, c.keeps h.bl (fun e => nc.cell h.bl e), h.b.kept c (NoCells.blk nc h.b), Ch.late h.c c (by omega)⟩

set_option maxRecDepth 100000 in
set_option maxHeartbeats 1000000 in
theorem IsL.drain (h : IsL w lb xs V) (hs : xs.length ≤ 100000) :
    Calls Tryd.prog 28 #[.pointer (some ⟨lb, 0, none⟩)] w fun e w' => ∃ a cap, e = .returned (.slice a xs.length cap) ∧ RowE w' a xs.length cap (valAt xs V) ∧ (∀ g, OwnS a g → w.heap.size ≤ g) ∧ IsL w' lb [] V ∧ (∀ b, b ∈ xs → IsN w' b (V b) none none none) ∧ Ch (LB lb xs) w w' := by
  obtain ⟨W0, hW0⟩ : ∃ W0, W0 = (w.alloc (.cells #[.pointer (some ⟨lb, 0, none⟩)] 57)).alloc (.cells #[.slice none 0 0] 31) := ⟨_, rfl⟩
  have chN : Ch Nil w W0 := by rw [hW0]; exact ((Ch.refl _ _).alloc _).alloc _
  have hsz : W0.heap.size = w.heap.size + 2 := by rw [hW0]; simp
  have c0 : W0.cell? ⟨w.heap.size, 0, none⟩ = some (.pointer (some ⟨lb, 0, none⟩)) := by
    rw [hW0]; exact ((Ch.refl Nil _).alloc _).keeps ((cell_fresh _ _ _ _).trans rfl) (fun e => e)
  have c1 : W0.cell? ⟨w.heap.size + 1, 0, none⟩ = some (.slice none 0 0) := by
    rw [hW0]
    have := cell_fresh (w.alloc (.cells #[.pointer (some ⟨lb, 0, none⟩)] 57)) #[.slice none 0 0] 31 0
    rw [World.size_alloc] at this
    exact this.trans rfl
  have b1 : Blk W0 (w.heap.size + 1) := by
    rw [hW0]
    have := Blk.new (w.alloc (.cells #[.pointer (some ⟨lb, 0, none⟩)] 57)) #[.slice none 0 0] 31
    rwa [World.size_alloc] at this
  have hI0 : DrIn w lb xs V 0 W0 :=
    ⟨h.kept chN (fun _ _ e => e), fun i b _ hi => by omega, ⟨none, 0, c1, Row.nil _ _ _ _, fun g hg => by cases hg⟩, c0, b1, chN.mono (fun _ _ e => e.elim)⟩
  have hlt : ∀ k, LB lb xs k → k < w.heap.size := fun k hk => h.lt hk
  have HI0 := Lib.hid hI0
  have HL := Lib.hid hlt
  have ND := Lib.hid h.nd
  have NL := Lib.hid h.nl
  clear hI0 hlt h chN b1
  refine (callsIn_wide (n := 5)).1 ?_
  refine callsIn_of_wp_marks Tryd.func28 rfl trivial ?_ rfl
  simp only [Tryd.ntmps28, List.size_toArray, List.length_cons, List.length_nil, Nat.reduceAdd, Nat.reduceSub, Array.replicate_succ, Array.replicate_zero, List.push_toArray, List.append_toArray, List.nil_append, List.cons_append]
  subst hW0
  gi_wp2
  generalize hW0 : ((w.alloc (.cells #[.pointer (some ⟨lb, 0, none⟩)] 57)).alloc (.cells #[.slice none 0 0] 31)) = W0 at *
  clear hW0 c0 c1
  refine range_all (n := 5) (gf := 48) (ba := #[.pointer (some ⟨lb, 0, none⟩)]) rfl (enters_of Tryd.func48 (by kernel_rfl) rfl) xs.length (fun k => pt xs[k]?) rfl
    (DrIn w lb xs V) (DrIn.steady (by omega)) HI0.out (nodes_tells 4 (by omega) lb xs ND.out _ ?hF ?hN) ?act1 ?assign ?body ?done
  case hF => intro W hW; have := hW.l.h.f; simpa using this
  case hN =>
    intro k W b hW hk
    have := (hW.l.n 0 b (by rw [List.getElem?_drop]; simpa using hk)).z
    rw [List.getElem?_drop] at this
    exact this
  case assign =>
    intro l k W K hK
    gi_wp2
    exact hK
  case body =>
    intro l k W2 hW hk
    obtain ⟨b, hb⟩ : ∃ b, xs[k]? = some b := ⟨_, List.getElem?_eq_getElem hk⟩
    have hbm := List.mem_of_getElem? hb
    rw [hb, pt_some]
    obtain ⟨a, cap, c1, r1, g1⟩ := hW.row
    have c0 := hW.bl
    have HW := Lib.hid hW
    have HBk := Lib.hid hb
    have G1 := Lib.hid g1
    have hv : valAt xs V k = .pointer (some ⟨V b, 0, none⟩) := by unfold valAt; rw [List.getD_eq_getElem?_getD, hb]; rfl
    have HV := Lib.hid hv
    have R0 := Lib.hid r1
    clear hW hb g1 hv r1
    gi_wp2_with fail
    refine ⟨trivial, ?_⟩
    refine (CallsIn.inRound l (callsIn_wide.2 (HW.out.l.cut_of (i := 0) (b := b) (by rw [List.getElem?_drop]; simpa using HBk.out) (by rw [List.length_drop]; omega)))).mono ?_
    rintro e W ⟨⟨r, rfl⟩, l1, n1, ch1⟩
    rw [drop_succ] at l1
    have dsub : ∀ j, LB lb (xs.drop k) j → LB lb xs j := by
      rintro j (rfl | hj)
      · exact .inl rfl
      · exact .inr (List.mem_of_mem_drop hj)
    have n0 : ¬ LB lb (xs.drop k) w.heap.size := fun e => by have := HL.out _ (dsub _ e); omega
    have n1' : ¬ LB lb (xs.drop k) (w.heap.size + 1) := fun e => by have := HL.out _ (dsub _ e); omega
    have d0 := ch1.keeps c0 n0
    have c1 := ch1.keeps c1 n1'
    have c2 := n1.v
    have blk1 := HW.out.b.kept ch1 n1'
    have f1 := blk1.fz 0
    have hWb := blk1.lt
    have hWc := ch1.size
    have R1 := Lib.hid (R0.out.kept ch1 (fun g hg e => by have := HL.out _ (dsub _ e); have := G1.out g hg; omega))
    have HB1 := Lib.hid blk1
    have L1 := Lib.hid l1
    have N1 := Lib.hid n1
    have C1 := Lib.hid ch1
    clear l1 n1 ch1 c0 blk1
    gi_wp2
    refine wpIn_region_any (by kernel_rfl) (any_round (by rintro ⟨a, w, h⟩; exact h) (noDefer_spec (by kernel_rfl)) _ _ _ _ ?_)
    change wpAny _ _ _ _ _ _ _ (World.drew _)
    have c1' : W.drew.cell? ⟨w.heap.size + 1, 0, none⟩ = some (.slice a k cap) := c1
    have c2' : W.drew.cell? ⟨b, 0, none⟩ = some (.pointer (some ⟨V b, 0, none⟩)) := c2
    have f1' : W.drew.frozen? ⟨w.heap.size + 1, 0, none⟩ = false := f1
    have hC : Ch Nil W W.drew := (Ch.refl _ _).drew
    have HC := Lib.hid hC
    have hXs : w.heap.size + 1 < W.drew.heap.size := hWb
    clear c1 c2 f1 hC
    generalize W.drew = X at *
    refine wpAny_take (i := 1) (v := ?_) rfl (by kernel_rfl) (by kernel_rfl) (by kernel_rfl) (fun _ _ _ h => h) (Or.inl ⟨by rfl, ?_⟩) ?_
    rotate_left
    · intro w; go_simp; try (with_reducible rfl)
    refine wpAny_take (i := 2) (v := ?_) rfl (by kernel_rfl) (by kernel_rfl) (by kernel_rfl) (fun _ _ _ h => h) (Or.inl ⟨by rfl, ?_⟩) ?_
    rotate_left
    · intro w; go_simp; try (with_reducible rfl)
    refine wpAny_take (i := 3) (v := ?_) rfl (by kernel_rfl) (by kernel_rfl) (by kernel_rfl) (fun _ _ _ h => h) (Or.inl ⟨by rfl, ?_⟩) ?_
    rotate_left
    · intro w; go_simp; try (with_reducible rfl)
    refine wpAny_ready (rs := [0, 4]) (by kernel_rfl) (by simp) ?_
    refine AllReady.cons rfl (fun K hK => ?_) ?_
    go_simp
    refine hK _ _ ?_
    clear hK K
    refine wpAny_ready (rs := [4]) (by kernel_rfl) (by simp) ?_
    refine AllReady.cons rfl (fun K hK => ?_) AllReady.nil
    go_simp
    refine hK _ _ ?_
    clear hK K
    refine wpAny_ready (rs := [5]) (by kernel_rfl) (by simp) ?_
    refine AllReady.cons rfl (fun K hK => ?_) AllReady.nil
    go_simp
    refine hK _ _ ?_
    clear hK K
    refine ?tail
    rotate_left
    refine AllReady.cons rfl (fun K hK => ?_) AllReady.nil
    go_simp
    refine hK _ _ ?_
    clear hK K
    refine wpAny_ready (rs := [0, 5]) (by kernel_rfl) (by simp) ?_
    refine AllReady.cons rfl (fun K hK => ?_) ?_
    go_simp
    refine hK _ _ ?_
    clear hK K
    refine wpAny_ready (rs := [5]) (by kernel_rfl) (by simp) ?_
    refine AllReady.cons rfl (fun K hK => ?_) AllReady.nil
    go_simp
    refine hK _ _ ?_
    clear hK K
    exact ?tail
    refine AllReady.cons rfl (fun K hK => ?_) AllReady.nil
    go_simp
    refine hK _ _ ?_
    clear hK K
    refine wpAny_ready (rs := [0]) (by kernel_rfl) (by simp) ?_
    refine AllReady.cons rfl (fun K hK => ?_) AllReady.nil
    go_simp
    refine hK _ _ ?_
    clear hK K
    exact ?tail
    have R2 : Row (X.alloc (.cells #[.pointer (some ⟨V b, 0, none⟩)] 34)) 34 1 a k cap (valAt xs V) := (R1.out.kept HC.out (fun _ _ e => e)).kept (S := Nil) ((Ch.refl _ _).alloc _) (fun _ _ e => e)
    have hXc : Ch Nil X (X.alloc (.cells #[.pointer (some ⟨V b, 0, none⟩)] 34)) := (Ch.refl _ _).alloc _
    have d1 := hXc.keeps c1' (fun e => e)
    have e1 := (hXc.frozen (p := ⟨w.heap.size + 1, 0, none⟩) hXs (fun e => e)).trans f1'
    refine wpAny_ready (rs := [6]) (by kernel_rfl) (by simp) ?_
    refine AllReady.cons rfl (fun K hK => ?_) AllReady.nil
    refine step_row rfl _ _ _ rfl 34 (.pointer none) 1 8 Tryd.underlying31 (by kernel_rfl) rfl (by omega) (by omega) rfl R2 (by omega) X.heap.size 1 [.pointer (some ⟨V b, 0, none⟩)] 34 rfl rfl (heap_alloc_new X _) (by simp [Value.oneCell']) (valAt xs V) (fun _ _ => rfl) (by intro j u hu; obtain rfl : j = 0 := (by cases j; rfl; simp at hu); simp at hu; subst hu; simpa using HV.out) _ rfl ?_
    intro g cap' w' row ch at_ lt
    have ROW := Lib.hid row
    have CH := Lib.hid ch
    have AT := Lib.hid at_
    have hbox : ¬ OwnS a (w.heap.size + 1) := fun e => by have := G1.out _ e; omega
    have d2 := ch.keeps d1 hbox
    have e2 := (ch.frozen (p := ⟨w.heap.size + 1, 0, none⟩) (by simp; omega) hbox).trans e1
    clear row ch at_ R2
    refine hK _ _ ?_
    clear hK K
    refine wpAny_ready (rs := [7]) (by kernel_rfl) (by simp) ?_
    refine AllReady.cons rfl (fun K hK => ?_) AllReady.nil
    go_simp
    refine hK _ _ ?_
    clear hK K
    refine wpAny_done (by kernel_rfl) ?_ _
    have T0 : Ch (OwnS a) W w' := ((HC.out.then (S' := Nil) hXc (fun _ _ e => e)).mono (fun _ _ e => e.elim)).trans CH.out
    have T : Ch (fun k => OwnS a k ∨ k = w.heap.size + 1) W (w'.setCell ⟨w.heap.size + 1, 0, none⟩ (.slice (some ⟨g, 0, none⟩) (k + 1) cap')) :=
      Ch.set (p := ⟨w.heap.size + 1, 0, none⟩) (T0.mono fun _ _ e => .inl e) (fun _ => .inr rfl) _
    have gt : w.heap.size + 1 < g := by
      rcases AT.out with h | h
      · exact G1.out g h
      · rw [h, World.size_alloc]; omega
    have hi : ∀ j, (OwnS a j ∨ j = w.heap.size + 1) → w.heap.size < j := by
      rintro j (hj | rfl)
      · have := G1.out j hj; omega
      · omega
    refine ⟨(Keeps.of_ch C1.out fun j hj => ?_).trans (Keeps.of_ch' T fun j hj => ?_), L1.out.kept T fun j hj e => ?_, fun i c hc hik => ?_, ⟨_, cap', World.cell?_setCell_same _ _ _ d2, ?_, ?_⟩, T.keeps d0 (fun e => by have := hi _ e; simp at this), (HB1.out.kept T0 hbox).set _ _, (HW.out.c.then C1.out fun j _ hj => dsub j hj).then T fun i hi' e => ?_⟩
    · have := HL.out j (dsub j hj); omega
    · rcases hj with hj | rfl
      · exact .inr (Row.blk R1.out hj)
      · exact .inl (by omega)
    · have := HL.out j (dsub j (by
        rcases hj with rfl | hj
        · exact .inl rfl
        · rw [← drop_succ] at hj; exact .inr (List.mem_of_mem_eraseIdx hj)))
      have := hi j e; omega
    · have hlow := HL.out c (.inr (List.mem_of_getElem? hc))
      by_cases e : i = k
      · subst e
        obtain rfl : c = b := by have := hc.symm.trans HBk.out; cases this; rfl
        exact N1.out.kept T fun e => by have := hi _ e; omega
      · refine ((HW.out.fr i c hc (by omega)).kept C1.out ?_).kept T fun e => by have := hi _ e; omega
        rintro (rfl | hm)
        · exact NL.out (List.mem_of_getElem? hc)
        · obtain ⟨m, hm⟩ := List.mem_iff_getElem?.1 hm
          rw [List.getElem?_drop] at hm
          have := ND.out _ _ _ hc hm; omega
    · exact ROW.out.kept (S := One (w.heap.size + 1)) ((Ch.refl _ _).setB 0 _) (fun k e h => by cases e; simp at h; omega)
    · intro g' e; cases e; exact gt
    · have := hi i e; omega
  case done =>
    intro D W hD hW hK
    have hput := (DrIn.steady (B := w.heap.size) (Nat.le_refl _)).put (.deferred none) hW (by omega) hK rfl
    obtain ⟨a, cap, c1, r1, g1⟩ := hW.row
    have R1 := Lib.hid (Row.steady r1 (Ch.put D (.deferred none)) (.of_loop hK rfl))
    have G1 := Lib.hid g1
    have HP := Lib.hid hput
    clear hW hput r1 g1
    gi_wp2
    refine ⟨by simp, .inl ⟨_, _, rfl, run_takeDeferred hK, ?_⟩⟩
    refine ⟨_, results_tmp rfl _ _ _, a, cap, rfl, R1.out, fun g hg => by have := G1.out g hg; omega, ?_, fun b hb => ?_, HP.out.c⟩
    · have := HP.out.l
      rwa [List.drop_length] at this
    · obtain ⟨i, hi⟩ := List.mem_iff_getElem?.1 hb
      exact HP.out.fr i b hi (List.getElem?_eq_some_iff.1 hi).1

set_option maxRecDepth 100000 in
set_option maxHeartbeats 1000000 in
theorem drain_nil (w : World) :
    Calls Tryd.prog 28 #[.pointer none] w fun e w' => e = .returned (.slice none 0 0) ∧ Ch Nil w w' := by
  have c1 : ((w.alloc (.cells #[.pointer none] 57)).alloc (.cells #[.slice none 0 0] 31)).cell? ⟨w.heap.size + 1, 0, none⟩ = some (.slice none 0 0) := by
    have := cell_fresh (w.alloc (.cells #[.pointer none] 57)) #[.slice none 0 0] 31 0
    rw [World.size_alloc] at this
    exact this.trans rfl
  have hI0 : ((w.alloc (.cells #[.pointer none] 57)).alloc (.cells #[.slice none 0 0] 31)).cell? ⟨w.heap.size + 1, 0, none⟩ = some (.slice none 0 0) ∧ Ch Nil w ((w.alloc (.cells #[.pointer none] 57)).alloc (.cells #[.slice none 0 0] 31)) := ⟨c1, ((Ch.refl _ _).alloc _).alloc _⟩
  have HI0 := Lib.hid hI0
  clear hI0 c1
  have hsz : ((w.alloc (.cells #[.pointer none] 57)).alloc (.cells #[.slice none 0 0] 31)).heap.size = w.heap.size + 2 := by simp
  refine (callsIn_wide (n := 5)).1 ?_
  refine callsIn_of_wp_marks Tryd.func28 rfl trivial ?_ rfl
  simp only [Tryd.ntmps28, List.size_toArray, List.length_cons, List.length_nil, Nat.reduceAdd, Nat.reduceSub, Array.replicate_succ, Array.replicate_zero, List.push_toArray, List.append_toArray, List.nil_append, List.cons_append]
  gi_wp2
  generalize hW0 : ((w.alloc (.cells #[.pointer none] 57)).alloc (.cells #[.slice none 0 0] 31)) = W0 at *
  clear hW0
  refine range_all (n := 5) (gf := 48) (ba := #[.pointer none]) rfl (enters_of Tryd.func48 (by kernel_rfl) rfl) 0 (fun k => .pointer none) rfl
    (fun k W => W.cell? ⟨w.heap.size + 1, 0, none⟩ = some (.slice none 0 0) ∧ Ch Nil w W) ?hI HI0.out (nodes_nil 4 (by omega) _) ?act1 ?assign ?body ?done
  case hI => intro k W W' r h c hr nc; exact ⟨c.keeps h.1 (fun e => nc.cell h.1 e), Ch.late h.2 c (by omega)⟩
  case assign =>
    intro l k W K hK
    gi_wp2
    exact hK
  case body => intro l k W hW hk; omega
  case done =>
    intro D W hD hW hK
    have HC := Lib.hid (Ch.late hW.2 (Ch.put D (.deferred none)) (by omega))
    have c1 := hW.1
    clear hW
    gi_wp2
    refine ⟨by simp, .inl ⟨_, _, rfl, run_takeDeferred hK, ?_⟩⟩
    exact ⟨_, results_tmp rfl _ _ _, rfl, HC.out⟩
end
end Go.Proofs.YtkfknafgknppdaaDoor.LP
