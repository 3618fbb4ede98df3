/-
  Contracts of a cell's Turn at a lock's value, with the lock's closures.
-/
import Derived.Test.YtkialefhjfoniaaGreatLockWalks2
import Derived.Deep.Cut
import Derived.Deep.CutRange
import Derived.Deep.CutBlock
namespace Go.Proofs.YtkialefhjfoniaaGreat
open Go.RowKit
attribute [local go_sem] Oper.semAt_some
set_option linter.unusedVariables false
set_option linter.unusedSimpArgs false

theorem fn_nilH (f : Fn) (a c : Array Value) (w : World) : (binOp .eql 123 (.func f a c) .nilFunc).run Tryz.prog w = .ok (.bool false) w := run_eql_fn _ w _ f a c _ Tryz.underlying123 rfl
theorem setHb {w : World} {B : Nat} {o : Int} {t : Bool} {n : Int} (h : IsHb w B o t n) (x : Int) (y : Bool) (z : Int) : IsHb (((w.setCell ⟨B, 0, none⟩ (.int .i64 x)).setCell ⟨B, 1, none⟩ (.bool y)).setCell ⟨B, 2, none⟩ (.int .i64 z)) B x y z := by
  obtain ⟨ho, ht, hn, hf⟩ := h
  constructor
  all_goals (try intro i)
  all_goals simp [go_sem, ho, ht, hn, hf]
set_option maxHeartbeats 4000000 in
theorem turn_try_no (b A : Nat) (o : Int) (t : Bool) (n who : Int) (w : World) (h : IsK w b o t n) (ha : w.cell? ⟨A, 0, none⟩ = some (.int .i64 who)) (hab : A ≠ b) (hs : opn t who = false) :
    Calls Tryz.prog 59 #[.pointer (some ⟨b, 0, none⟩), .func (.func 60) #[] #[.pointer (some ⟨A, 0, none⟩)]] w fun e w' =>
      e = .returned (.tuple #[hv o t n, .bool false]) ∧ IsK w' b o t n ∧ Ch (One b) w w' := by
  have hlt := h.lt
  have hal := lt_of_cell ha
  have hfn := fn_nilH
  have HS := Lib.hid hs
  have cA : Ch Nil w (w.alloc (.cells #[.int .i64 0, .bool false, .int .i64 0] 115)) := (Ch.refl _ _).alloc _
  have H := Lib.hid (h.kept cA (fun e => e))
  have A0 := Lib.hid (cA.keeps ha (fun e => e))
  have B0 := Lib.hid (isHb_new w 0 false 0 115)
  have C0 := Lib.hid cA
  clear hs h ha cA
  go_enter Tryz.func59, Tryz.ntmps59
  go_wp2_with fail
  refine (loadH_at b _ _ _ _ H.out).mono ?_
  rintro e w1 ⟨rfl, hi, c1⟩
  have nb : ¬ w.heap.size = b := by omega
  have H1 := Lib.hid hi
  have A1 := Lib.hid (c1.keeps A0.out hab)
  have B1 := Lib.hid (B0.out.kept c1 nb)
  have C1 := Lib.hid ((C0.out.mono (S' := One b) (fun _ _ e => e.elim)).trans c1)
  have cB : Ch Nil w1 (w1.alloc (.cells #[.int .i64 o, .bool t, .int .i64 n] 115)) := (Ch.refl _ _).alloc _
  have H2 := Lib.hid (hi.kept cB (fun e => e))
  have A2 := Lib.hid (cB.keeps A1.out (fun e => e))
  have B2 := Lib.hid (B1.out.kept cB (fun e => e))
  have D2 := Lib.hid (isHb_new w1 o t n 115)
  have C2 := Lib.hid (C1.out.trans (cB.mono (S' := One b) (fun _ _ e => e.elim)))
  have n1 : w.heap.size + 1 ≤ w1.heap.size := by have := B1.out.lt; omega
  have n2 : b < w1.heap.size := by omega
  clear hi c1 cB H A0 B0 C0 H1 A1 B1 C1
  go_wp2_with fail
  refine (try1_any o t n who A _ A2.out).mono ?_
  rintro e w2 ⟨rfl, c2⟩
  rw [HS.out]
  have H3 := Lib.hid (H2.out.kept c2 (fun e => e))
  have B3 := B2.out.kept c2 (fun e => e)
  have D3 := D2.out.kept c2 (fun e => e)
  have C3 := Lib.hid (C2.out.trans (c2.mono (S' := One b) (fun _ _ e => e.elim)))
  have l3 := D3.lt
  have z1 : ¬ w2.heap.size = w.heap.size := by omega
  have z2 : ¬ w2.heap.size = w1.heap.size := by omega
  have z3 : ¬ w.heap.size = w1.heap.size := by omega
  have z4 : ¬ w1.heap.size = w.heap.size := by omega
  clear c2 H2 A2 B2 D2 C2
  have cB : Ch Nil w2 (w2.alloc (.cells #[.int .i64 who, .bool true, .int .i64 (wrap64 (n + 1))] 115)) := (Ch.refl _ _).alloc _
  go_upto_region 6 with (fail)
  have H4 := Lib.hid (H3.out.kept cB (fun e => e))
  have B4 := B3.kept cB (fun e => e)
  have D4 := D3.kept cB (fun e => e)
  have C4 := Lib.hid (C3.out.trans (cB.mono (S' := One b) (fun _ _ e => e.elim)))
  clear H3 B3 D3 C3 cB
  generalize w2.alloc (.cells #[.int .i64 who, .bool true, .int .i64 (wrap64 (n + 1))] 115) = w4 at H4 B4 D4 C4 ⊢
  obtain ⟨ho, ht, hn, hf⟩ := D4
  obtain ⟨go, gt, gn, gf⟩ := B4
  go_wp2
  (try simp only [Exit.inBlock, Exit.then])
  refine bodyPost_ret (v := .tuple #[hv o t n, .bool false]) ?hr rfl ?_
  case hr => simp [results, Tryz.results59, go_sem, go, gt, gn]
  refine ⟨rfl, ?_⟩
  have cS : Ch (One w.heap.size) w4 (((w4.setCell ⟨w.heap.size, 0, none⟩ (.int .i64 o)).setCell ⟨w.heap.size, 1, none⟩ (.bool t)).setCell ⟨w.heap.size, 2, none⟩ (.int .i64 n)) := (((Ch.refl _ _).setB _ _).setB _ _).setB _ _
  exact ⟨H4.out.kept cS (fun e => nb e.symm), C4.out.then cS (fun i hi e => by have : i = w.heap.size := e; omega)⟩
set_option maxHeartbeats 4000000 in
theorem turn_try_yes (b A : Nat) (o : Int) (t : Bool) (n who : Int) (w : World) (h : IsK w b o t n) (ha : w.cell? ⟨A, 0, none⟩ = some (.int .i64 who)) (hab : A ≠ b) (hs : opn t who = true) :
    Calls Tryz.prog 59 #[.pointer (some ⟨b, 0, none⟩), .func (.func 60) #[] #[.pointer (some ⟨A, 0, none⟩)]] w fun e w' =>
      e = .returned (.tuple #[hv o t n, .bool true]) ∧ IsK w' b who true (wrap64 (n + 1)) ∧ Ch (One b) w w' := by
  have hlt := h.lt
  have hal := lt_of_cell ha
  have hfn := fn_nilH
  have HS := Lib.hid hs
  have cA : Ch Nil w (w.alloc (.cells #[.int .i64 0, .bool false, .int .i64 0] 115)) := (Ch.refl _ _).alloc _
  have H := Lib.hid (h.kept cA (fun e => e))
  have A0 := Lib.hid (cA.keeps ha (fun e => e))
  have B0 := Lib.hid (isHb_new w 0 false 0 115)
  have C0 := Lib.hid cA
  clear hs h ha cA
  go_enter Tryz.func59, Tryz.ntmps59
  go_wp2_with fail
  refine (loadH_at b _ _ _ _ H.out).mono ?_
  rintro e w1 ⟨rfl, hi, c1⟩
  have nb : ¬ w.heap.size = b := by omega
  have H1 := Lib.hid hi
  have A1 := Lib.hid (c1.keeps A0.out hab)
  have B1 := Lib.hid (B0.out.kept c1 nb)
  have C1 := Lib.hid ((C0.out.mono (S' := One b) (fun _ _ e => e.elim)).trans c1)
  have cB : Ch Nil w1 (w1.alloc (.cells #[.int .i64 o, .bool t, .int .i64 n] 115)) := (Ch.refl _ _).alloc _
  have H2 := Lib.hid (hi.kept cB (fun e => e))
  have A2 := Lib.hid (cB.keeps A1.out (fun e => e))
  have B2 := Lib.hid (B1.out.kept cB (fun e => e))
  have D2 := Lib.hid (isHb_new w1 o t n 115)
  have C2 := Lib.hid (C1.out.trans (cB.mono (S' := One b) (fun _ _ e => e.elim)))
  have n1 : w.heap.size + 1 ≤ w1.heap.size := by have := B1.out.lt; omega
  have n2 : b < w1.heap.size := by omega
  clear hi c1 cB H A0 B0 C0 H1 A1 B1 C1
  go_wp2_with fail
  refine (try1_any o t n who A _ A2.out).mono ?_
  rintro e w2 ⟨rfl, c2⟩
  rw [HS.out]
  have H3 := Lib.hid (H2.out.kept c2 (fun e => e))
  have B3 := B2.out.kept c2 (fun e => e)
  have D3 := D2.out.kept c2 (fun e => e)
  have C3 := Lib.hid (C2.out.trans (c2.mono (S' := One b) (fun _ _ e => e.elim)))
  have l3 := D3.lt
  have z1 : ¬ w2.heap.size = w.heap.size := by omega
  have z2 : ¬ w2.heap.size = w1.heap.size := by omega
  have z3 : ¬ w.heap.size = w1.heap.size := by omega
  have z4 : ¬ w1.heap.size = w.heap.size := by omega
  clear c2 H2 A2 B2 D2 C2
  have cB : Ch Nil w2 (w2.alloc (.cells #[.int .i64 who, .bool true, .int .i64 (wrap64 (n + 1))] 115)) := (Ch.refl _ _).alloc _
  have E4 := (isHb_new w2 who true (wrap64 (n + 1)) 115)
  go_upto_region 7 with (fail)
  have H4 := Lib.hid (H3.out.kept (cB.drew) (fun e => e))
  have B4 := Lib.hid (B3.kept (cB.drew) (fun e => e))
  have D4 := D3.kept (cB.drew) (fun e => e)
  replace E4 := E4.kept (S := Nil) ((Ch.refl _ _).drew) (fun e => e)
  have C4 := Lib.hid (C3.out.trans ((cB.drew).mono (S' := One b) (fun _ _ e => e.elim)))
  clear H3 B3 D3 C3 cB
  have nE : ¬ w2.heap.size = b := by omega
  have nD : ¬ w1.heap.size = b := by omega
  obtain ⟨E, hE⟩ : ∃ E, E = w2.heap.size := ⟨_, rfl⟩
  obtain ⟨D, hD⟩ : ∃ D, D = w1.heap.size := ⟨_, rfl⟩
  rw [← hE] at E4 z1 z2 nE ⊢
  rw [← hD] at D4 z2 z3 z4 n1 n2 nD ⊢
  clear l3 hE hD
  have b0 : ((w2.alloc (.cells #[.int .i64 who, .bool true, .int .i64 (wrap64 (n + 1))] 115)).cell? ⟨D, 0, none⟩ = some (.int .i64 o) ∧ (w2.alloc (.cells #[.int .i64 who, .bool true, .int .i64 (wrap64 (n + 1))] 115)).cell? ⟨D, 1, none⟩ = some (.bool t) ∧ (w2.alloc (.cells #[.int .i64 who, .bool true, .int .i64 (wrap64 (n + 1))] 115)).cell? ⟨D, 2, none⟩ = some (.int .i64 n)) ∧ (w2.alloc (.cells #[.int .i64 who, .bool true, .int .i64 (wrap64 (n + 1))] 115)).cell? ⟨E, 0, none⟩ = some (.int .i64 who) ∧ (w2.alloc (.cells #[.int .i64 who, .bool true, .int .i64 (wrap64 (n + 1))] 115)).cell? ⟨E, 1, none⟩ = some (.bool true) ∧ (w2.alloc (.cells #[.int .i64 who, .bool true, .int .i64 (wrap64 (n + 1))] 115)).cell? ⟨E, 2, none⟩ = some (.int .i64 (wrap64 (n + 1))) := ⟨⟨D4.o, D4.t, D4.n⟩, E4.o, E4.t, E4.n⟩
  refine wp_region_held_drew (S := fun w' => (w'.cell? ⟨D, 0, none⟩ = some (.int .i64 o) ∧ w'.cell? ⟨D, 1, none⟩ = some (.bool t) ∧ w'.cell? ⟨D, 2, none⟩ = some (.int .i64 n)) ∧ w'.cell? ⟨E, 0, none⟩ = some (.int .i64 who) ∧ w'.cell? ⟨E, 1, none⟩ = some (.bool true) ∧ w'.cell? ⟨E, 2, none⟩ = some (.int .i64 (wrap64 (n + 1)))) (by kernel_rfl) b0 (fun hHeld => ?_)
  clear b0 D4 E4
  generalize (w2.alloc (.cells #[.int .i64 who, .bool true, .int .i64 (wrap64 (n + 1))] 115)).drew = w4 at H4 B4 C4 hHeld ⊢
  refine take_at (v := ?_) 0 (some 27) rfl (by kernel_rfl) (by kernel_rfl) (by kernel_rfl) (by kernel_rfl) (fun _ _ _ h => h) (Or.inl ⟨by rfl, ?_⟩) (by assumption) ?_
  rotate_left
  · intro w hSw; (try dsimp only at hSw); go_simp; try (with_reducible rfl)
  (try simp only [Act.put, List.setIfInBounds_toArray, List.set_cons_zero, List.set_cons_succ])
  refine take_at (v := ?_) 1 (some 28) rfl (by kernel_rfl) (by kernel_rfl) (by kernel_rfl) (by kernel_rfl) (fun _ _ _ h => h) (Or.inl ⟨by rfl, ?_⟩) (by assumption) ?_
  rotate_left
  · intro w hSw; (try dsimp only at hSw); go_simp; try (with_reducible rfl)
  (try simp only [Act.put, List.setIfInBounds_toArray, List.set_cons_zero, List.set_cons_succ])
  refine take_at (v := ?_) 2 (some 29) rfl (by kernel_rfl) (by kernel_rfl) (by kernel_rfl) (by kernel_rfl) (fun _ _ _ h => h) (Or.inl ⟨by rfl, ?_⟩) (by assumption) ?_
  rotate_left
  · intro w hSw; (try dsimp only at hSw); go_simp; try (with_reducible rfl)
  (try simp only [Act.put, List.setIfInBounds_toArray, List.set_cons_zero, List.set_cons_succ])
  refine wpAnyH_ready (rs := [3]) (by kernel_rfl) (by simp) ?_
  refine AllReadyH.cons rfl (fun K hK => ?_) AllReadyH.nil
  go_simp
  refine (changeH_yes b o t n _ _ _ _ H4.out).mono ?_
  rintro e w5 ⟨rfl, hi, c5⟩
  have k5 : (w5.cell? ⟨D, 0, none⟩ = some (.int .i64 o) ∧ w5.cell? ⟨D, 1, none⟩ = some (.bool t) ∧ w5.cell? ⟨D, 2, none⟩ = some (.int .i64 n)) ∧ w5.cell? ⟨E, 0, none⟩ = some (.int .i64 who) ∧ w5.cell? ⟨E, 1, none⟩ = some (.bool true) ∧ w5.cell? ⟨E, 2, none⟩ = some (.int .i64 (wrap64 (n + 1))) := ⟨⟨c5.keeps hHeld.1.1 nD, c5.keeps hHeld.1.2.1 nD, c5.keeps hHeld.1.2.2 nD⟩, c5.keeps hHeld.2.1 nE, c5.keeps hHeld.2.2.1 nE, c5.keeps hHeld.2.2.2 nE⟩
  have H5 := Lib.hid hi
  have B5 := B4.out.kept c5 nb
  have C5 := Lib.hid (C4.out.trans c5)
  clear hi c5 H4 B4 C4 hHeld
  refine hK.out _ _ k5 (fun hHeld => ?_)
  clear hK K
  (try simp only [Act.put, List.setIfInBounds_toArray, List.set_cons_zero, List.set_cons_succ])
  obtain ⟨go, gt, gn, gf⟩ := B5
  refine wpAnyH_ready (rs := [4]) (by kernel_rfl) (by simp) ?_
  refine AllReadyH.cons rfl (fun K hK => ?_) AllReadyH.nil
  go_simp
  have cS : Ch (One w.heap.size) w5 (((w5.setCell ⟨w.heap.size, 0, none⟩ (.int .i64 o)).setCell ⟨w.heap.size, 1, none⟩ (.bool t)).setCell ⟨w.heap.size, 2, none⟩ (.int .i64 n)) := (((Ch.refl _ _).setB _ _).setB _ _).setB _ _
  refine hK.out _ _ ⟨⟨cS.keeps k5.1.1 z4, cS.keeps k5.1.2.1 z4, cS.keeps k5.1.2.2 z4⟩, cS.keeps k5.2.1 z1, cS.keeps k5.2.2.1 z1, cS.keeps k5.2.2.2 z1⟩ (fun hHeld => ?_)
  clear hK K
  (try simp only [Act.put, List.setIfInBounds_toArray, List.set_cons_zero, List.set_cons_succ])
  refine take_at (v := ?_) 5 (some 5) rfl (by kernel_rfl) (by kernel_rfl) (by kernel_rfl) (by kernel_rfl) (fun _ _ _ h => h) (Or.inl ⟨by rfl, ?_⟩) (by assumption) ?_
  rotate_left
  · intro w hSw; (try dsimp only at hSw); go_simp; try (with_reducible rfl)
  (try simp only [Act.put, List.setIfInBounds_toArray, List.set_cons_zero, List.set_cons_succ])
  refine wpAnyH_done (by kernel_rfl) ?_ _
  go_wp2
  (try simp only [Exit.inBlock, Exit.then])
  refine bodyPost_ret (v := .tuple #[hv o t n, .bool true]) ?hr rfl ?_
  case hr => simp [results, Tryz.results59, go_sem, go, gt, gn]
  refine ⟨rfl, ?_⟩
  exact ⟨H5.out.kept cS (fun e => nb e.symm), C5.out.then cS (fun i hi e => by have : i = w.heap.size := e; omega)⟩
end Go.Proofs.YtkialefhjfoniaaGreat
