/-
  Contracts of the document's ring (vergeref04): Step.
-/
import Derived.Test.YtklgmecmgbfhgaaRingRef2
import Derived.Deep.Cut
import Derived.Deep.CutRange
import Derived.Deep.CutBlock
namespace Go.Proofs.Ytklgmecmgbfhgaa
open Go.RowKit Verge
attribute [local go_sem] Oper.semAt_some
set_option linter.unusedVariables false
set_option linter.unusedSimpArgs false

/-- a box of two integers -/
structure IsBox2 (w : World) (B : Nat) (a p : Int) : Prop where
  a : w.cell? ⟨B, 0, none⟩ = some (.int .i64 a)
  p : w.cell? ⟨B, 1, none⟩ = some (.int .i64 p)
  f : ∀ i, w.frozen? ⟨B, i, none⟩ = false
theorem IsBox2.kept {S : Nat → Prop} {w w' : World} {B : Nat} {a p : Int} (h : IsBox2 w B a p) (c : Ch S w w') (hn : ¬ S B) : IsBox2 w' B a p := by
  have hl : B < w.heap.size := lt_of_cell h.a
  exact ⟨c.keeps h.a hn, c.keeps h.p hn, fun i => (c.frozen (p := ⟨B, i, none⟩) hl hn).trans (h.f i)⟩
theorem IsBox2.setA {w : World} {B : Nat} {a p : Int} (h : IsBox2 w B a p) (x : Int) : IsBox2 (w.setCell ⟨B, 0, none⟩ (.int .i64 x)) B x p :=
  ⟨World.cell?_setCell_same _ _ _ h.a, (cell_ne (by omega) _).trans h.p, fun i => (World.frozen?_setCell _ _ _ _).trans (h.f i)⟩
theorem IsBox2.setP {w : World} {B : Nat} {a p : Int} (h : IsBox2 w B a p) (x : Int) : IsBox2 (w.setCell ⟨B, 1, none⟩ (.int .i64 x)) B a x :=
  ⟨(cell_ne (by omega) _).trans h.a, World.cell?_setCell_same _ _ _ h.p, fun i => (World.frozen?_setCell _ _ _ _).trans (h.f i)⟩
theorem isBox2_new (w : World) (a p : Int) (T : TypeId) : IsBox2 (w.alloc (.cells #[.int .i64 a, .int .i64 p] T)) w.heap.size a p := by
  constructor <;> (try intro i) <;> simp [go_sem]

/-- what the document's step makes of the values -/
def refV (V : Nat → Int) (nx nx' : Nat) : Nat → Int := if nx' = nx then V else upd V nx 0
/-- behind the switch -/
def StepCut (w : World) (R : Nat → Prop) (c n nx fi q B : Nat) (P : Nat → Bool) (V : Nat → Int) (A : Nat → Int) (Q : Nat → Nat) (x : Nat × Int × Nat) (wc : World) : Prop :=
  ∃ R', Ref wc R' c n x.1 fi q P (refV V nx x.1) A Q ∧ IsBox2 wc B x.2.1 x.2.2 ∧ ¬ R' B ∧ (∀ k, R' k → R k ∨ w.heap.size ≤ k) ∧ Ch R w wc
section
variable {w w' : World} {R S : Nat → Prop} {c n nx fi q : Nat} {P : Nat → Bool} {V : Nat → Int} {A : Nat → Int} {Q : Nat → Nat}
/-- the box alone turned -/
theorem step_cut {x : Nat × Int × Nat} {w1 wz : World} {B : Nat} (h : Ref w1 R c n nx fi q P V A Q) (hR : ¬ R B) (c1 : Ch R w w1) (hB : w.heap.size ≤ B) (cz : Ch (One B) w1 wz) (hx : x.1 = nx) (hb : IsBox2 wz B x.2.1 x.2.2) : StepCut w R c n nx fi q B P V A Q x wz := by
  refine ⟨R, ?_, hb, hR, fun k hk => .inl hk, c1.then cz (fun i hi e => ?_)⟩
  · rw [hx]; unfold refV; rw [if_pos rfl]; exact h.kept cz (fun k hk e => hR (by change k = B at e; exact e ▸ hk))
  · change i = B at e; omega

set_option maxHeartbeats 8000000 in
set_option maxRecDepth 100000 in
theorem ref_step (h : Ref w R c n nx fi q P V A Q) (k : Nat) (hk : k < q) (hq : q ≤ 900000) (hx : nx ≤ 900000) (hn : n ≤ 900000) (hfi : fi ≤ 900000) (hQ : Q k ≤ 900000) (hP : Hid (P nx = false)) (x : Nat × Int × Nat) (hX : Hid (refStep n nx fi P (A k) (Q k) = x)) :
    Calls Try.prog 12 #[.pointer (some ⟨c, 0, none⟩), .int .i64 k] w fun e w' => e = .returned (.int .i64 (refAns x.2.1)) ∧
      ∃ R', Ref w' R' c n x.1 fi q P (refV V nx x.1) (upd A k x.2.1) (upd Q k x.2.2) ∧ (∀ k, R' k → R k ∨ w.heap.size ≤ k) ∧ Ch R w w' := by
  have HR := Lib.hid h
  obtain ⟨a1, a2, a3, k1, k2, k3, h⟩ := h
  obtain ⟨g, rfl, hg⟩ := h.rt.form (by omega)
  have ht := h.t
  have h1 := h.rt.cell (k * 2) (by omega)
  have h2 := h.rt.cell (k * 2 + 1) (by omega)
  rw [tkCell_at] at h1
  rw [tkCell_pos] at h2
  have hlt := h.lt
  have HL := Lib.hid hlt
  clear h hlt
  go_enter Try.func12, Try.ntmps12
  go_upto_block 0 with (fail)
  clear ht h1 h2
  have cA : Ch Nil w (w.alloc (Obj.cells #[.int .i64 (A k), .int .i64 (Q k)] 40)) := (Ch.refl _ _).alloc _
  have BX := Lib.hid (isBox2_new w (A k) (Q k) 40)
  have H1 := Lib.hid (HR.out.kept cA (fun _ _ e => e))
  have nB : ¬ R w.heap.size := fun e => by have := HL.out _ e; omega
  have C1 : Hid (Ch R w (w.alloc (Obj.cells #[.int .i64 (A k), .int .i64 (Q k)] 40))) := (Ch.refl _ _).alloc _
  obtain ⟨B, hB⟩ : ∃ B, w.heap.size = B := ⟨_, rfl⟩
  have hBw : w.heap.size ≤ B := by omega
  have HB := Lib.hid hB
  rw [hB] at BX nB ⊢
  generalize w.alloc (Obj.cells #[.int .i64 (A k), .int .i64 (Q k)] 40) = w1 at BX H1 C1 ⊢
  clear cA HR hB
  go_cut [15] from 16 to 88 (fun _ wc => StepCut w R c n nx fi q B P V A Q x wc)
  case first =>
    obtain ⟨a1, a2, a3, k1, k2, k3, h⟩ := H1.out
    obtain ⟨bx0, bx1, bxf⟩ := BX.out
    have bf0 := bxf 0
    have bf1 := bxf 1
    have hp := h.p
    have ho := h.o
    have hnn := h.n
    clear bxf
    by_cases A0 : A k = 0
    · have t0 : (A k == 0) = true := by simpa using A0
      have hxe : refStep n nx fi P (A k) (Q k) = (nx, 1, nx) := by simp [refStep, A0]
      have HXE := Lib.hid hxe
      have HH := Lib.hid h
      clear hxe h A0
      go_wp2
      go_meet
      case rel =>
        have hxx := HXE.out.symm.trans hX.out
        subst hxx
        exact step_cut H1.out nB C1.out hBw (((Ch.refl _ _).setB _ _).setB _ _) rfl ((BX.out.setP _).setA _)
    · have n0 : (A k == 0) = false := by rw [beq_eq_false_iff_ne]; exact A0
      by_cases A1 : A k = 1
      · have hxe : refStep n nx fi P (A k) (Q k) = (if Q k < nx ∧ P (Q k) = true then (nx, 0, Q k) else if (n : Int) ≤ (Q k : Int) - fi then (nx, 3, Q k) else (nx, 2, Q k)) := by simp [refStep, A1]
        have HXE := Lib.hid hxe
        have hw1 : IntKind.i64.wrap ((Q k : Int) - fi) = (Q k : Int) - fi := IntWalk.i64_in _ (by omega)
        have t1 : (A k == 1) = true := by simpa using A1
        clear hxe A0 A1
        by_cases hlt : Q k < nx
        · obtain ⟨g1, rfl, hg1⟩ := h.rp.form (by omega)
          have x1 := h.rp.cell (Q k) (by omega)
          have d1 : decide (Q k < nx) = true := by simpa using hlt
          have d2 : decide ((Q k : Int) < (nx : Int)) = true := by simpa using hlt
          clear h
          cases hpk : P (Q k) with
          | true =>
            have e2 : (if Q k < nx ∧ P (Q k) = true then (nx, (0 : Int), Q k) else if (n : Int) ≤ (Q k : Int) - fi then (nx, 3, Q k) else (nx, 2, Q k)) = (nx, 0, Q k) := by simp [hlt, hpk]
            have E2 := Lib.hid e2
            rw [hpk] at x1
            clear e2 hpk
            go_wp2
            go_quiet (fail)
            go_wp2
            go_meet
            case rel =>
              have hxx := (E2.out.symm.trans HXE.out.symm).trans hX.out
              subst hxx
              exact step_cut H1.out nB C1.out hBw (((Ch.refl _ _).drewN _).setB _ _) rfl ((BX.out.kept (S := Nil) ((Ch.refl _ _).drewN _) (fun e => e)).setA _)
          | false =>
            have e2 : (if Q k < nx ∧ P (Q k) = true then (nx, (0 : Int), Q k) else if (n : Int) ≤ (Q k : Int) - fi then (nx, 3, Q k) else (nx, 2, Q k)) = (if (n : Int) ≤ (Q k : Int) - fi then (nx, 3, Q k) else (nx, 2, Q k)) := by simp [hpk]
            have E2 := Lib.hid e2
            rw [hpk] at x1
            clear e2 hpk
            by_cases hfu : (n : Int) ≤ (Q k : Int) - fi
            · have e3 : (if (n : Int) ≤ (Q k : Int) - fi then (nx, (3 : Int), Q k) else (nx, 2, Q k)) = (nx, 3, Q k) := by simp [hfu]
              have E3 := Lib.hid e3
              have d3 : decide ((n : Int) ≤ (Q k : Int) - fi) = true := by simpa using hfu
              clear e3 hfu
              go_wp2
              go_quiet (fail)
              go_wp2
              go_quiet (fail)
              go_wp2
              go_meet
              case rel =>
                have hxx := ((E3.out.symm.trans E2.out.symm).trans HXE.out.symm).trans hX.out
                subst hxx
                exact step_cut H1.out nB C1.out hBw (((Ch.refl _ _).drewN _).setB _ _) rfl ((BX.out.kept (S := Nil) ((Ch.refl _ _).drewN _) (fun e => e)).setA _)
            · have e3 : (if (n : Int) ≤ (Q k : Int) - fi then (nx, (3 : Int), Q k) else (nx, 2, Q k)) = (nx, 2, Q k) := by simp [hfu]
              have E3 := Lib.hid e3
              have d3 : decide ((n : Int) ≤ (Q k : Int) - fi) = false := by simpa using hfu
              clear e3 hfu
              go_wp2
              go_quiet (fail)
              go_wp2
              go_quiet (fail)
              go_wp2
              go_meet
              case rel =>
                have hxx := ((E3.out.symm.trans E2.out.symm).trans HXE.out.symm).trans hX.out
                subst hxx
                exact step_cut H1.out nB C1.out hBw (((Ch.refl _ _).drewN _).setB _ _) rfl ((BX.out.kept (S := Nil) ((Ch.refl _ _).drewN _) (fun e => e)).setA _)
        · have d1 : decide (Q k < nx) = false := by simpa using hlt
          have d2 : decide ((Q k : Int) < (nx : Int)) = false := by simpa using hlt
          clear h
          have e2 : (if Q k < nx ∧ P (Q k) = true then (nx, (0 : Int), Q k) else if (n : Int) ≤ (Q k : Int) - fi then (nx, 3, Q k) else (nx, 2, Q k)) = (if (n : Int) ≤ (Q k : Int) - fi then (nx, 3, Q k) else (nx, 2, Q k)) := by simp [hlt]
          have E2 := Lib.hid e2
          clear e2
          by_cases hfu : (n : Int) ≤ (Q k : Int) - fi
          · have e3 : (if (n : Int) ≤ (Q k : Int) - fi then (nx, (3 : Int), Q k) else (nx, 2, Q k)) = (nx, 3, Q k) := by simp [hfu]
            have E3 := Lib.hid e3
            have d3 : decide ((n : Int) ≤ (Q k : Int) - fi) = true := by simpa using hfu
            clear e3 hfu
            go_wp2
            go_quiet (fail)
            go_wp2
            go_quiet (fail)
            go_wp2
            go_meet
            case rel =>
              have hxx := ((E3.out.symm.trans E2.out.symm).trans HXE.out.symm).trans hX.out
              subst hxx
              exact step_cut H1.out nB C1.out hBw (((Ch.refl _ _).drewN _).setB _ _) rfl ((BX.out.kept (S := Nil) ((Ch.refl _ _).drewN _) (fun e => e)).setA _)
          · have e3 : (if (n : Int) ≤ (Q k : Int) - fi then (nx, (3 : Int), Q k) else (nx, 2, Q k)) = (nx, 2, Q k) := by simp [hfu]
            have E3 := Lib.hid e3
            have d3 : decide ((n : Int) ≤ (Q k : Int) - fi) = false := by simpa using hfu
            clear e3 hfu
            go_wp2
            go_quiet (fail)
            go_wp2
            go_quiet (fail)
            go_wp2
            go_meet
            case rel =>
              have hxx := ((E3.out.symm.trans E2.out.symm).trans HXE.out.symm).trans hX.out
              subst hxx
              exact step_cut H1.out nB C1.out hBw (((Ch.refl _ _).drewN _).setB _ _) rfl ((BX.out.kept (S := Nil) ((Ch.refl _ _).drewN _) (fun e => e)).setA _)
      · have n1 : (A k == 1) = false := by rw [beq_eq_false_iff_ne]; exact A1
        by_cases A2 : A k = 2
        · have hxe : refStep n nx fi P (A k) (Q k) = (if Q k = nx then (nx + 1, 4, Q k) else (nx, 0, Q k)) := by simp [refStep, A2]
          have HXE := Lib.hid hxe
          have t2 : (A k == 2) = true := by simpa using A2
          clear hxe A0 A1 A2
          by_cases heq : Q k = nx
          · have e2 : (if Q k = nx then (nx + 1, (4 : Int), Q k) else (nx, 0, Q k)) = (nx + 1, 4, Q k) := by simp [heq]
            have E2 := Lib.hid e2
            have d1 : (Q k == nx) = true := by simpa using heq
            have d2 : ((Q k : Int) == (nx : Int)) = true := by simp [heq]
            have HEQ := Lib.hid heq
            have HH := Lib.hid h
            clear e2 h heq
            go_wp2
            go_quiet (fail)
            have c3 : Ch R w (w1.drewN nq) := C1.out.drewN nq
            have h3 := HH.out.kept (S := Nil) ((Ch.refl Nil w1).drewN nq) (fun _ _ e => e)
            have b3 := BX.out.kept (S := Nil) ((Ch.refl Nil w1).drewN nq) (fun e => e)
            have H3 := Lib.hid h3
            have C3 := Lib.hid c3
            have B3 := Lib.hid b3
            clear h3 c3 b3 HH hp ho hnn bx0 bx1 bf0 bf1
            generalize w1.drewN nq = w3 at H3 C3 B3 ⊢
            have hp := H3.out.p
            have r4 := H3.out.rp.kept (S := Nil) ((Ch.refl Nil w3).alloc (Obj.cells #[.bool false] 4)) (fun _ _ e => e)
            have R4 := Lib.hid r4
            clear r4
            go_wp2_with (at_builtin; refine append_row _ rfl _ _ _ rfl 4 (.bool false) 1 1 Try.underlying29 (by kernel_rfl) rfl (by omega) (by omega) rfl R4.out (by omega) w3.heap.size 1 [.bool false] 4 rfl rfl (heap_alloc_new w3 _) (by simp [Value.oneCell']) (fun i => .bool (P i)) (fun i _ => rfl) (by intro j u hu; obtain rfl : j = 0 := (by cases j; rfl; simp at hu); simp at hu; subst hu; simp [hP.out]) _ rfl ?_)
            intro g4 cap4 w4 row4 ch4 at4 lt4
            have cA : Ch Nil w3 (w3.alloc (Obj.cells #[.bool false] 4)) := (Ch.refl _ _).alloc _
            have gp := H3.out.growP (H := w3.heap.size + 1) cA ch4 (by omega) at4 lt4 row4
            have nb4 : B ≠ g4 := by
              have hBl : B < w3.heap.size := lt_of_cell B3.out.a
              rcases at4 with e | e
              · intro hh; subst hh; exact nB (H3.out.r1 _ e)
              · omega
            have wg4 : R g4 ∨ w.heap.size ≤ g4 := by
              rcases at4 with e | e
              · exact .inl (H3.out.r1 _ e)
              · right; have := C3.out.size; omega
            have q1 := ((cA.mono (S' := OwnS a1) fun _ _ e => e.elim).trans ch4).keeps H3.out.p H3.out.c1
            have q2 := (((cA.mono (S' := OwnS a1) fun _ _ e => e.elim).trans ch4).frozen (p := ⟨c, 1, none⟩) (H3.out.lt _ H3.out.rc) H3.out.c1).trans (H3.out.f 1)
            have B4 := Lib.hid (B3.out.kept gp.2 nB)
            have C4 := Lib.hid (C3.out.trans gp.2)
            have G4 := Lib.hid gp.1
            clear gp R4 cA ch4 at4 lt4 row4 H3 C3 B3 hp
            go_upto_region 15 with (fail)
            clear q1 q2
            generalize w4.setCell ⟨c, 1, none⟩ (.slice (some ⟨g4, 0, none⟩) (nx + 1) cap4) = w5 at B4 C4 G4 ⊢
            have hv5 := G4.out.v
            have R5 := Lib.hid (G4.out.rv.kept (S := Nil) ((Ch.refl Nil w5).alloc (Obj.cells #[.int .i64 0] 3)) (fun _ _ e => e))
            go_wp2_with (at_builtin; refine append_row _ rfl _ _ _ rfl 3 (.int .i64 0) 1 8 Try.underlying30 (by kernel_rfl) rfl (by omega) (by omega) rfl R5.out (by omega) w5.heap.size 1 [.int .i64 0] 3 rfl rfl (heap_alloc_new w5 _) (by simp [Value.oneCell']) (fun i => .int .i64 (upd V nx 0 i)) (fun i hi => by rw [upd_other _ _ _ _ (by omega)]) (by intro j u hu; obtain rfl : j = 0 := (by cases j; rfl; simp at hu); simp at hu; subst hu; simp [upd_same]) _ rfl ?_)
            intro g6 cap6 w6 row6 ch6 at6 lt6
            have cA : Ch Nil w5 (w5.alloc (Obj.cells #[.int .i64 0] 3)) := (Ch.refl _ _).alloc _
            have gv := G4.out.growV (H := w5.heap.size + 1) cA ch6 (by omega) at6 lt6 row6
            have nb6 : B ≠ g6 := by
              have hBl : B < w5.heap.size := lt_of_cell B4.out.a
              rcases at6 with e | e
              · intro hh; subst hh
                rcases G4.out.r2 _ e with h1 | h1
                · exact nB h1
                · exact nb4 h1
              · omega
            have nB4 : ¬ (R B ∨ B = g4) := fun e => e.elim nB nb4
            have wg6 : R g6 ∨ w.heap.size ≤ g6 := by
              rcases at6 with e | e
              · rcases G4.out.r2 _ e with h1 | h1
                · exact .inl h1
                · rw [h1]; exact wg4
              · right; have := C4.out.size; omega
            have q1 := ((cA.mono (S' := OwnS a2) fun _ _ e => e.elim).trans ch6).keeps G4.out.v G4.out.c2
            have q2 := (((cA.mono (S' := OwnS a2) fun _ _ e => e.elim).trans ch6).frozen (p := ⟨c, 2, none⟩) (G4.out.lt _ G4.out.rc) G4.out.c2).trans (G4.out.f 2)
            have B6 := Lib.hid (B4.out.kept gv.2 nB4)
            have C6 : Hid (Ch R w (w6.setCell ⟨c, 2, none⟩ (.slice (some ⟨g6, 0, none⟩) (nx + 1) cap6))) := C4.out.then gv.2 (fun i hi e => by
              rcases e with e | e
              · exact e
              · subst e; rcases wg4 with h1 | h1
                · exact h1
                · omega)
            have G6 := Lib.hid gv.1
            clear gv R5 cA ch6 at6 lt6 row6 hv5 G4 B4 C4
            go_upto_region 16 with (fail)
            clear q1 q2
            generalize w6.setCell ⟨c, 2, none⟩ (.slice (some ⟨g6, 0, none⟩) (nx + 1) cap6) = w7 at B6 C6 G6 ⊢
            have bx0 := B6.out.a
            have bf0 := B6.out.f 0
            go_wp2
            go_meet
            case rel =>
              have hxx := (E2.out.symm.trans HXE.out.symm).trans hX.out
              subst hxx
              have cz : Ch (One B) w7 (w7.setCell ⟨B, 0, none⟩ (.int .i64 4)) := (Ch.refl _ _).setB _ _
              have hRef : Ref (w7.setCell ⟨B, 0, none⟩ (.int .i64 4)) (fun k => (R k ∨ k = g4) ∨ k = g6) c n (nx + 1) fi q P (refV V nx (nx + 1)) A Q := by
                unfold refV
                rw [if_neg (by omega)]
                exact ⟨_, _, _, _, _, _, G6.out.kept cz (fun k hk e => by change k = B at e; subst e; rcases hk with hk | hk; exact nB4 hk; exact nb6 hk)⟩
              refine ⟨fun k => (R k ∨ k = g4) ∨ k = g6, hRef, B6.out.setA _, ?_, ?_, C6.out.then cz ?_⟩
              · intro e; rcases e with e | e; exact nB4 e; exact nb6 e
              · intro k hk
                rcases hk with (hk | hk) | hk
                · exact .inl hk
                · rw [hk]; exact wg4
                · rw [hk]; exact wg6
              · intro i hi e; change i = B at e; omega
          · have e2 : (if Q k = nx then (nx + 1, (4 : Int), Q k) else (nx, 0, Q k)) = (nx, 0, Q k) := by simp [heq]
            have E2 := Lib.hid e2
            have d1 : (Q k == nx) = false := by simpa using heq
            have d2 : ((Q k : Int) == (nx : Int)) = false := by rw [beq_eq_false_iff_ne]; omega
            clear e2 h
            go_wp2
            go_quiet (fail)
            go_wp2
            go_meet
            case rel =>
              have hxx := (E2.out.symm.trans HXE.out.symm).trans hX.out
              subst hxx
              exact step_cut H1.out nB C1.out hBw (((Ch.refl _ _).drewN _).setB _ _) rfl ((BX.out.kept (S := Nil) ((Ch.refl _ _).drewN _) (fun e => e)).setA _)
        · have n2 : (A k == 2) = false := by rw [beq_eq_false_iff_ne]; exact A2
          have hxe : refStep n nx fi P (A k) (Q k) = (nx, A k, Q k) := by simp [refStep, A0, A1, A2]
          have HXE := Lib.hid hxe
          clear hxe A0 A1 A2 h
          go_wp2
          go_meet
          case rel =>
            have hxx := HXE.out.symm.trans hX.out
            subst hxx
            exact step_cut H1.out nB C1.out hBw (Ch.refl _ _) rfl BX.out
  case rest =>
    clear BX H1 C1
    obtain ⟨R', hr, hb, hRB, hR', cc⟩ := hcut
    obtain ⟨a1, a2, a3, k1, k2, k3, h⟩ := hr
    obtain ⟨g, rfl, hg⟩ := h.rt.form (by omega)
    have HR' := Lib.hid hR'
    have HRB := Lib.hid hRB
    have HB2 := Lib.hid hb
    obtain ⟨x0, x1, x2⟩ := x
    dsimp only at h hb HB2 cc
    have HH := Lib.hid h
    have CC := Lib.hid cc
    clear hR' hRB cc
    go_upto_region 18 with (fail)
    have hS : (wc.drew.cell? ⟨c, 4, none⟩ = some (.slice (some ⟨g, 0, none⟩) q k3) ∧ wc.drew.cell? ⟨B, 0, none⟩ = some (.int .i64 x1)) ∧ wc.drew.cell? ⟨B, 1, none⟩ = some (.int .i64 x2) := ⟨⟨h.t, hb.a⟩, hb.p⟩
    clear h hb
    refine wp_region_held_drew (S := fun w' => (w'.cell? ⟨c, 4, none⟩ = some (.slice (some ⟨g, 0, none⟩) q k3) ∧ w'.cell? ⟨B, 0, none⟩ = some (.int .i64 x1)) ∧ w'.cell? ⟨B, 1, none⟩ = some (.int .i64 x2)) (by kernel_rfl) hS (fun hHeld => ?_)
    clear hS
    have H1 := Lib.hid (HH.out.kept (S := Nil) (Ch.refl _ _).drew (fun _ _ e => e))
    have C1 := Lib.hid CC.out.drew
    have B1 := Lib.hid (HB2.out.kept (S := Nil) (Ch.refl _ _).drew (fun e => e))
    clear HH CC HB2
    generalize wc.drew = wd at hHeld H1 C1 B1 ⊢
    refine take_at (v := ?_) 0 (some 89) rfl (by kernel_rfl) (by kernel_rfl) (by kernel_rfl) (by kernel_rfl) (fun _ _ _ h => h) (Or.inl ⟨by rfl, ?_⟩) (by assumption) ?_
    rotate_left
    · intro w hSw; (try dsimp only at hSw); go_simp; try (with_reducible rfl)
    (try simp only [Act.put, List.setIfInBounds_toArray, List.set_cons_zero, List.set_cons_succ])
    refine take_at (v := ?_) 1 (some 90) rfl (by kernel_rfl) (by kernel_rfl) (by kernel_rfl) (by kernel_rfl) (fun _ _ _ h => h) (Or.inl ⟨by rfl, ?_⟩) (by assumption) ?_
    rotate_left
    · intro w hSw; (try dsimp only at hSw); go_simp; try (with_reducible rfl)
    (try simp only [Act.put, List.setIfInBounds_toArray, List.set_cons_zero, List.set_cons_succ])
    refine take_at (v := ?_) 2 (some 91) rfl (by kernel_rfl) (by kernel_rfl) (by kernel_rfl) (by kernel_rfl) (fun _ _ _ h => h) (Or.inl ⟨by rfl, ?_⟩) (by assumption) ?_
    rotate_left
    · intro w hSw; (try dsimp only at hSw); go_simp; try (with_reducible rfl)
    (try simp only [Act.put, List.setIfInBounds_toArray, List.set_cons_zero, List.set_cons_succ])
    refine take_at (v := ?_) 3 (some 92) rfl (by kernel_rfl) (by kernel_rfl) (by kernel_rfl) (by kernel_rfl) (fun _ _ _ h => h) (Or.inl ⟨by rfl, ?_⟩) (by assumption) ?_
    rotate_left
    · intro w hSw; (try dsimp only at hSw); go_simp; try (with_reducible rfl)
    (try simp only [Act.put, List.setIfInBounds_toArray, List.set_cons_zero, List.set_cons_succ])
    refine take_at (v := ?_) 4 (some 93) rfl (by kernel_rfl) (by kernel_rfl) (by kernel_rfl) (by kernel_rfl) (fun _ _ _ h => h) (Or.inl ⟨by rfl, ?_⟩) (by assumption) ?_
    rotate_left
    · intro w hSw; (try dsimp only at hSw); go_simp; try (with_reducible rfl)
    (try simp only [Act.put, List.setIfInBounds_toArray, List.set_cons_zero, List.set_cons_succ])
    refine take_at (v := ?_) 5 (some 94) rfl (by kernel_rfl) (by kernel_rfl) (by kernel_rfl) (by kernel_rfl) (fun _ _ _ h => h) (Or.inl ⟨by rfl, ?_⟩) (by assumption) ?_
    rotate_left
    · intro w hSw; (try dsimp only at hSw); go_simp; try (with_reducible rfl)
    (try simp only [Act.put, List.setIfInBounds_toArray, List.set_cons_zero, List.set_cons_succ])
    refine take_at (v := ?_) 6 (some 95) rfl (by kernel_rfl) (by kernel_rfl) (by kernel_rfl) (by kernel_rfl) (fun _ _ _ h => h) (Or.inl ⟨by rfl, ?_⟩) (by assumption) ?_
    rotate_left
    · intro w hSw; (try dsimp only at hSw); go_simp; try (with_reducible rfl)
    (try simp only [Act.put, List.setIfInBounds_toArray, List.set_cons_zero, List.set_cons_succ])
    refine wpAnyH_ready (rs := [7]) (by kernel_rfl) (by simp) ?_
    refine AllReadyH.cons rfl (fun K' hK => ?_) AllReadyH.nil
    have y1 := H1.out.rt.cell (k * 2) (by omega)
    have y2 := H1.out.rt.cell (k * 2 + 1) (by omega)
    have y3 := H1.out.rt.frozen (k * 2)
    have y4 := H1.out.rt.frozen (k * 2 + 1)
    go_simp
    clear y1 y2 y3 y4
    have nBg : ¬ B = g := fun e => HRB.out (H1.out.r3 B (by rw [e]; rfl))
    have cs : Ch (One g) wd ((wd.setCell ⟨g, k * 2, none⟩ (.int .i64 x1)).setCell ⟨g, k * 2 + 1, none⟩ (.int .i64 x2)) := ((Ch.refl _ _).setB _ _).setB _ _
    have H2 := Lib.hid ((H1.out.setAt k hk x1).setPos k hk x2)
    have B2 := Lib.hid (B1.out.kept cs nBg)
    have C2 := Lib.hid (C1.out.then cs (fun i hi e => by
      change i = g at e
      subst e
      rcases HR'.out i (H1.out.r3 i rfl) with h1 | h1
      · exact h1
      · omega))
    clear cs H1 B1 C1
    generalize (wd.setCell ⟨g, k * 2, none⟩ (.int .i64 x1)).setCell ⟨g, k * 2 + 1, none⟩ (.int .i64 x2) = w2 at H2 B2 C2 ⊢
    refine hK.out _ _ ⟨⟨H2.out.t, B2.out.a⟩, B2.out.p⟩ (fun _ => ?_)
    clear hK K' hHeld
    (try simp only [Act.put, List.setIfInBounds_toArray, List.set_cons_zero, List.set_cons_succ])
    refine wpAnyH_done (by kernel_rfl) ?_ _
    have ba := B2.out.a
    have fin : ∃ R', Ref w2 R' c n x0 fi q P (refV V nx x0) (upd A k x1) (upd Q k x2) ∧ (∀ k, R' k → R k ∨ w.heap.size ≤ k) ∧ Ch R w w2 := ⟨R', ⟨_, _, _, _, _, _, H2.out⟩, HR'.out, C2.out⟩
    have FIN := Lib.hid fin
    clear fin
    by_cases t3 : x1 = 3
    · have d3 : (x1 == 3) = true := by simpa using t3
      have ea : refAns x1 = 1 := by simp [refAns, t3]
      have EA := Lib.hid ea
      clear t3 ea
      go_wp2
      go_ret
      dsimp only
      rw [EA.out]
      exact ⟨rfl, FIN.out⟩
    · have d3 : (x1 == 3) = false := by rw [beq_eq_false_iff_ne]; exact t3
      by_cases t4 : 3 < x1
      · have d4 : decide (3 < x1) = true := by simpa using t4
        have ea : refAns x1 = 2 := by simp [refAns, t3, t4]
        have EA := Lib.hid ea
        clear t3 ea t4
        go_wp2
        go_ret
        dsimp only
        rw [EA.out]
        exact ⟨rfl, FIN.out⟩
      · have d4 : decide (3 < x1) = false := by simpa using t4
        have ea : refAns x1 = 0 := by simp [refAns, t3, t4]
        have EA := Lib.hid ea
        clear t3 ea t4
        go_wp2
        go_ret
        dsimp only
        rw [EA.out]
        exact ⟨rfl, FIN.out⟩
end
end Go.Proofs.Ytklgmecmgbfhgaa
