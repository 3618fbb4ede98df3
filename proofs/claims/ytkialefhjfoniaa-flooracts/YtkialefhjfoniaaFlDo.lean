/-
  The document's floor: what each act does to it.
-/
import Derived.Test.YtkialefhjfoniaaFlObj
namespace Go.Proofs.Ytkialefhjfoniaa
open Go.RowKit Verge
attribute [local go_sem] Oper.semAt_some
set_option linter.unusedVariables false
set_option linter.unusedSimpArgs false

theorem IsVs.cells12 {w : World} {b : Nat} {v0 v1 v2 v3 v4 v5 v6 v7 v8 v9 v10 v11 : Value} (h : IsVs w b [v0, v1, v2, v3, v4, v5, v6, v7, v8, v9, v10, v11]) : w.cell? ⟨b, 0, none⟩ = some v0 ∧ w.cell? ⟨b, 1, none⟩ = some v1 ∧ w.cell? ⟨b, 2, none⟩ = some v2 ∧ w.cell? ⟨b, 3, none⟩ = some v3 ∧ w.cell? ⟨b, 4, none⟩ = some v4 ∧ w.cell? ⟨b, 5, none⟩ = some v5 ∧ w.cell? ⟨b, 6, none⟩ = some v6 ∧ w.cell? ⟨b, 7, none⟩ = some v7 ∧ w.cell? ⟨b, 8, none⟩ = some v8 ∧ w.cell? ⟨b, 9, none⟩ = some v9 ∧ w.cell? ⟨b, 10, none⟩ = some v10 ∧ w.cell? ⟨b, 11, none⟩ = some v11 :=
  ⟨h.c 0 _ rfl, h.c 1 _ rfl, h.c 2 _ rfl, h.c 3 _ rfl, h.c 4 _ rfl, h.c 5 _ rfl, h.c 6 _ rfl, h.c 7 _ rfl, h.c 8 _ rfl, h.c 9 _ rfl, h.c 10 _ rfl, h.c 11 _ rfl⟩
/-- the document's floor in block vb -/
structure Rf (w : World) (vb : Nat) (s : St) (a : Option Addr) (tc : Nat) : Prop where
  v : IsVs w vb [.int .i64 (s.i : Nat), .int .i64 (s.b : Nat), .bool s.cl, .int .u64 (s.t : Nat), .slice a s.L.length tc]
  tr : ERow w a tc s.L
  nb : ¬ OwnS a vb
def RfS (vb : Nat) (a : Option Addr) : Nat → Prop := fun k => k = vb ∨ OwnS a k
section
variable {S : Nat → Prop} {w w' : World} {vb : Nat} {s : St} {a : Option Addr} {tc : Nat}
theorem Rf.kept (h : Rf w vb s a tc) (c : Ch S w w') (hn : ∀ k, RfS vb a k → ¬ S k) : Rf w' vb s a tc :=
  ⟨h.v.kept c (hn vb (.inl rfl)), h.tr.kept c (fun k hk => hn k (.inr hk)), h.nb⟩
theorem Rf.quiet (h : Rf w vb s a tc) (c : Ch Nil w w') : Rf w' vb s a tc := h.kept c (fun _ _ e => e)
theorem Rf.lt (h : Rf w vb s a tc) {k : Nat} (hk : RfS vb a k) : k < w.heap.size := by
  rcases hk with rfl | hk
  · exact h.v.lt
  · exact h.tr.lt k hk
set_option maxHeartbeats 4000000 in
theorem do_enter (h : Rf w vb s a tc) (u : Ev) (on : Bool) (hi : s.i ≤ 1000000) :
    Calls Try.prog 29 #[.pointer (some ⟨vb, 0, none⟩), .agg #[.int .i64 0, .bool on, .int .i64 u.k, .int .i64 u.t, .int .i64 u.c, .int .i64 u.h, .int .u64 u.i, .int .u64 u.g, .int .u64 u.d, .int .u64 u.p, .int .u64 u.q, .int .i64 u.e]] w fun e w' => e = .returned (.tuple #[.int .i64 0, .bool false]) ∧ Rf w' vb { s with i := s.i + 1 } a tc ∧ Ch (RfS vb a) w w' := by
  have cA : Ch Nil w (w.alloc (Obj.cells #[.int .i64 0, .bool on, .int .i64 u.k, .int .i64 u.t, .int .i64 u.c, .int .i64 u.h, .int .u64 u.i, .int .u64 u.g, .int .u64 u.d, .int .u64 u.p, .int .u64 u.q, .int .i64 u.e] 57)) := (Ch.refl _ _).alloc _
  have bx : IsVs (w.alloc (Obj.cells #[.int .i64 0, .bool on, .int .i64 u.k, .int .i64 u.t, .int .i64 u.c, .int .i64 u.h, .int .u64 u.i, .int .u64 u.g, .int .u64 u.d, .int .u64 u.p, .int .u64 u.q, .int .i64 u.e] 57)) w.heap.size [.int .i64 0, .bool on, .int .i64 u.k, .int .i64 u.t, .int .i64 u.c, .int .i64 u.h, .int .u64 u.i, .int .u64 u.g, .int .u64 u.d, .int .u64 u.p, .int .u64 u.q, .int .i64 u.e] := IsVs.new w [.int .i64 0, .bool on, .int .i64 u.k, .int .i64 u.t, .int .i64 u.c, .int .i64 u.h, .int .u64 u.i, .int .u64 u.g, .int .u64 u.d, .int .u64 u.p, .int .u64 u.q, .int .i64 u.e] 57
  have HA := Lib.hid (h.quiet cA)
  have CA := Lib.hid cA
  clear h cA
  go_enter Try.func29, Try.ntmps29
  go_upto_region 1 with (fail)
  generalize w.alloc (Obj.cells #[.int .i64 0, .bool on, .int .i64 u.k, .int .i64 u.t, .int .i64 u.c, .int .i64 u.h, .int .u64 u.i, .int .u64 u.g, .int .u64 u.d, .int .u64 u.p, .int .u64 u.q, .int .i64 u.e] 57) = W at HA bx CA ⊢
  generalize w.heap.size = B at bx ⊢
  obtain ⟨c0, c1, c2, c3, c4, c5, c6, c7, c8, c9, c10, c11⟩ := bx.cells12
  have r0 := HA.out.v.c 0 _ rfl
  have r1 := HA.out.v.c 1 _ rfl
  have r2 := HA.out.v.c 2 _ rfl
  have r3 := HA.out.v.c 3 _ rfl
  have f0 := HA.out.v.b.fz 0
  have f1 := HA.out.v.b.fz 1
  have f2 := HA.out.v.b.fz 2
  have f3 := HA.out.v.b.fz 3
  clear bx
  go_wp2
  go_ret2
  have cS : Ch (One vb) W (W.setCell ⟨vb, 0, none⟩ (.int .i64 ((s.i : Int) + 1))) := (Ch.refl _ _).setB 0 _
  exact ⟨by first | rfl | simp, ⟨HA.out.v.setAt 0 (.int .i64 ((s.i : Int) + 1)), HA.out.tr.kept cS (fun k hk e => HA.out.nb (by have e' : k = vb := e; rw [← e']; exact hk)), HA.out.nb⟩, (CA.out.mono fun _ _ e => e.elim).then cS (fun k _ e => .inl e)⟩
set_option maxHeartbeats 4000000 in
theorem do_leave0 (h : Rf w vb s a tc) (u : Ev) (on : Bool) (h0 : s.i = 0) :
    Calls Try.prog 29 #[.pointer (some ⟨vb, 0, none⟩), .agg #[.int .i64 1, .bool on, .int .i64 u.k, .int .i64 u.t, .int .i64 u.c, .int .i64 u.h, .int .u64 u.i, .int .u64 u.g, .int .u64 u.d, .int .u64 u.p, .int .u64 u.q, .int .i64 u.e]] w fun e w' => e = .returned (.tuple #[.int .i64 6, .bool false]) ∧ Rf w' vb s a tc ∧ Ch (RfS vb a) w w' := by
  have cA : Ch Nil w (w.alloc (Obj.cells #[.int .i64 1, .bool on, .int .i64 u.k, .int .i64 u.t, .int .i64 u.c, .int .i64 u.h, .int .u64 u.i, .int .u64 u.g, .int .u64 u.d, .int .u64 u.p, .int .u64 u.q, .int .i64 u.e] 57)) := (Ch.refl _ _).alloc _
  have bx : IsVs (w.alloc (Obj.cells #[.int .i64 1, .bool on, .int .i64 u.k, .int .i64 u.t, .int .i64 u.c, .int .i64 u.h, .int .u64 u.i, .int .u64 u.g, .int .u64 u.d, .int .u64 u.p, .int .u64 u.q, .int .i64 u.e] 57)) w.heap.size [.int .i64 1, .bool on, .int .i64 u.k, .int .i64 u.t, .int .i64 u.c, .int .i64 u.h, .int .u64 u.i, .int .u64 u.g, .int .u64 u.d, .int .u64 u.p, .int .u64 u.q, .int .i64 u.e] := IsVs.new w [.int .i64 1, .bool on, .int .i64 u.k, .int .i64 u.t, .int .i64 u.c, .int .i64 u.h, .int .u64 u.i, .int .u64 u.g, .int .u64 u.d, .int .u64 u.p, .int .u64 u.q, .int .i64 u.e] 57
  have HA := Lib.hid (h.quiet cA)
  have CA := Lib.hid cA
  have z1 : ((s.i : Int) == 0) = true := by rw [beq_iff_eq]; omega
  clear h0
  clear h cA
  go_enter Try.func29, Try.ntmps29
  go_upto_region 1 with (fail)
  generalize w.alloc (Obj.cells #[.int .i64 1, .bool on, .int .i64 u.k, .int .i64 u.t, .int .i64 u.c, .int .i64 u.h, .int .u64 u.i, .int .u64 u.g, .int .u64 u.d, .int .u64 u.p, .int .u64 u.q, .int .i64 u.e] 57) = W at HA bx CA ⊢
  generalize w.heap.size = B at bx ⊢
  obtain ⟨c0, c1, c2, c3, c4, c5, c6, c7, c8, c9, c10, c11⟩ := bx.cells12
  have r0 := HA.out.v.c 0 _ rfl
  have r1 := HA.out.v.c 1 _ rfl
  have r2 := HA.out.v.c 2 _ rfl
  have r3 := HA.out.v.c 3 _ rfl
  have f0 := HA.out.v.b.fz 0
  have f1 := HA.out.v.b.fz 1
  have f2 := HA.out.v.b.fz 2
  have f3 := HA.out.v.b.fz 3
  clear bx
  go_wp2
  go_ret2
  exact ⟨rfl, HA.out, CA.out.mono fun _ _ e => e.elim⟩
set_option maxHeartbeats 4000000 in
theorem do_leave (h : Rf w vb s a tc) (u : Ev) (on : Bool) (j : Nat) (h0 : s.i = j + 1) (hj : j ≤ 1000000) :
    Calls Try.prog 29 #[.pointer (some ⟨vb, 0, none⟩), .agg #[.int .i64 1, .bool on, .int .i64 u.k, .int .i64 u.t, .int .i64 u.c, .int .i64 u.h, .int .u64 u.i, .int .u64 u.g, .int .u64 u.d, .int .u64 u.p, .int .u64 u.q, .int .i64 u.e]] w fun e w' => e = .returned (.tuple #[.int .i64 0, .bool false]) ∧ Rf w' vb { s with i := j } a tc ∧ Ch (RfS vb a) w w' := by
  have cA : Ch Nil w (w.alloc (Obj.cells #[.int .i64 1, .bool on, .int .i64 u.k, .int .i64 u.t, .int .i64 u.c, .int .i64 u.h, .int .u64 u.i, .int .u64 u.g, .int .u64 u.d, .int .u64 u.p, .int .u64 u.q, .int .i64 u.e] 57)) := (Ch.refl _ _).alloc _
  have bx : IsVs (w.alloc (Obj.cells #[.int .i64 1, .bool on, .int .i64 u.k, .int .i64 u.t, .int .i64 u.c, .int .i64 u.h, .int .u64 u.i, .int .u64 u.g, .int .u64 u.d, .int .u64 u.p, .int .u64 u.q, .int .i64 u.e] 57)) w.heap.size [.int .i64 1, .bool on, .int .i64 u.k, .int .i64 u.t, .int .i64 u.c, .int .i64 u.h, .int .u64 u.i, .int .u64 u.g, .int .u64 u.d, .int .u64 u.p, .int .u64 u.q, .int .i64 u.e] := IsVs.new w [.int .i64 1, .bool on, .int .i64 u.k, .int .i64 u.t, .int .i64 u.c, .int .i64 u.h, .int .u64 u.i, .int .u64 u.g, .int .u64 u.d, .int .u64 u.p, .int .u64 u.q, .int .i64 u.e] 57
  have HA := Lib.hid (h.quiet cA)
  have CA := Lib.hid cA
  have z1 : ((s.i : Int) == 0) = false := by rw [beq_eq_false_iff_ne]; omega
  have zs : (s.i : Int) - 1 = (j : Int) := by omega
  clear h0
  clear h cA
  go_enter Try.func29, Try.ntmps29
  go_upto_region 1 with (fail)
  generalize w.alloc (Obj.cells #[.int .i64 1, .bool on, .int .i64 u.k, .int .i64 u.t, .int .i64 u.c, .int .i64 u.h, .int .u64 u.i, .int .u64 u.g, .int .u64 u.d, .int .u64 u.p, .int .u64 u.q, .int .i64 u.e] 57) = W at HA bx CA ⊢
  generalize w.heap.size = B at bx ⊢
  obtain ⟨c0, c1, c2, c3, c4, c5, c6, c7, c8, c9, c10, c11⟩ := bx.cells12
  have r0 := HA.out.v.c 0 _ rfl
  have r1 := HA.out.v.c 1 _ rfl
  have r2 := HA.out.v.c 2 _ rfl
  have r3 := HA.out.v.c 3 _ rfl
  have f0 := HA.out.v.b.fz 0
  have f1 := HA.out.v.b.fz 1
  have f2 := HA.out.v.b.fz 2
  have f3 := HA.out.v.b.fz 3
  clear bx
  go_wp2
  go_ret2
  have cS : Ch (One vb) W (W.setCell ⟨vb, 0, none⟩ (.int .i64 (j : Int))) := (Ch.refl _ _).setB 0 _
  exact ⟨by first | rfl | simp, ⟨HA.out.v.setAt 0 (.int .i64 (j : Int)), HA.out.tr.kept cS (fun k hk e => HA.out.nb (by have e' : k = vb := e; rw [← e']; exact hk)), HA.out.nb⟩, (CA.out.mono fun _ _ e => e.elim).then cS (fun k _ e => .inl e)⟩
set_option maxHeartbeats 4000000 in
theorem do_workon (h : Rf w vb s a tc) (u : Ev) (hb : s.b ≤ 1000000) :
    Calls Try.prog 29 #[.pointer (some ⟨vb, 0, none⟩), .agg #[.int .i64 2, .bool true, .int .i64 u.k, .int .i64 u.t, .int .i64 u.c, .int .i64 u.h, .int .u64 u.i, .int .u64 u.g, .int .u64 u.d, .int .u64 u.p, .int .u64 u.q, .int .i64 u.e]] w fun e w' => e = .returned (.tuple #[.int .i64 0, .bool false]) ∧ Rf w' vb { s with b := s.b + 1 } a tc ∧ Ch (RfS vb a) w w' := by
  have cA : Ch Nil w (w.alloc (Obj.cells #[.int .i64 2, .bool true, .int .i64 u.k, .int .i64 u.t, .int .i64 u.c, .int .i64 u.h, .int .u64 u.i, .int .u64 u.g, .int .u64 u.d, .int .u64 u.p, .int .u64 u.q, .int .i64 u.e] 57)) := (Ch.refl _ _).alloc _
  have bx : IsVs (w.alloc (Obj.cells #[.int .i64 2, .bool true, .int .i64 u.k, .int .i64 u.t, .int .i64 u.c, .int .i64 u.h, .int .u64 u.i, .int .u64 u.g, .int .u64 u.d, .int .u64 u.p, .int .u64 u.q, .int .i64 u.e] 57)) w.heap.size [.int .i64 2, .bool true, .int .i64 u.k, .int .i64 u.t, .int .i64 u.c, .int .i64 u.h, .int .u64 u.i, .int .u64 u.g, .int .u64 u.d, .int .u64 u.p, .int .u64 u.q, .int .i64 u.e] := IsVs.new w [.int .i64 2, .bool true, .int .i64 u.k, .int .i64 u.t, .int .i64 u.c, .int .i64 u.h, .int .u64 u.i, .int .u64 u.g, .int .u64 u.d, .int .u64 u.p, .int .u64 u.q, .int .i64 u.e] 57
  have HA := Lib.hid (h.quiet cA)
  have CA := Lib.hid cA
  clear h cA
  go_enter Try.func29, Try.ntmps29
  go_upto_region 1 with (fail)
  generalize w.alloc (Obj.cells #[.int .i64 2, .bool true, .int .i64 u.k, .int .i64 u.t, .int .i64 u.c, .int .i64 u.h, .int .u64 u.i, .int .u64 u.g, .int .u64 u.d, .int .u64 u.p, .int .u64 u.q, .int .i64 u.e] 57) = W at HA bx CA ⊢
  generalize w.heap.size = B at bx ⊢
  obtain ⟨c0, c1, c2, c3, c4, c5, c6, c7, c8, c9, c10, c11⟩ := bx.cells12
  have r0 := HA.out.v.c 0 _ rfl
  have r1 := HA.out.v.c 1 _ rfl
  have r2 := HA.out.v.c 2 _ rfl
  have r3 := HA.out.v.c 3 _ rfl
  have f0 := HA.out.v.b.fz 0
  have f1 := HA.out.v.b.fz 1
  have f2 := HA.out.v.b.fz 2
  have f3 := HA.out.v.b.fz 3
  clear bx
  go_wp2
  go_ret2
  have cS : Ch (One vb) W (W.setCell ⟨vb, 1, none⟩ (.int .i64 ((s.b : Int) + 1))) := (Ch.refl _ _).setB 1 _
  exact ⟨by first | rfl | simp, ⟨HA.out.v.setAt 1 (.int .i64 ((s.b : Int) + 1)), HA.out.tr.kept cS (fun k hk e => HA.out.nb (by have e' : k = vb := e; rw [← e']; exact hk)), HA.out.nb⟩, (CA.out.mono fun _ _ e => e.elim).then cS (fun k _ e => .inl e)⟩
set_option maxHeartbeats 4000000 in
theorem do_work0 (h : Rf w vb s a tc) (u : Ev) (h0 : s.b = 0) :
    Calls Try.prog 29 #[.pointer (some ⟨vb, 0, none⟩), .agg #[.int .i64 2, .bool false, .int .i64 u.k, .int .i64 u.t, .int .i64 u.c, .int .i64 u.h, .int .u64 u.i, .int .u64 u.g, .int .u64 u.d, .int .u64 u.p, .int .u64 u.q, .int .i64 u.e]] w fun e w' => e = .returned (.tuple #[.int .i64 6, .bool false]) ∧ Rf w' vb s a tc ∧ Ch (RfS vb a) w w' := by
  have cA : Ch Nil w (w.alloc (Obj.cells #[.int .i64 2, .bool false, .int .i64 u.k, .int .i64 u.t, .int .i64 u.c, .int .i64 u.h, .int .u64 u.i, .int .u64 u.g, .int .u64 u.d, .int .u64 u.p, .int .u64 u.q, .int .i64 u.e] 57)) := (Ch.refl _ _).alloc _
  have bx : IsVs (w.alloc (Obj.cells #[.int .i64 2, .bool false, .int .i64 u.k, .int .i64 u.t, .int .i64 u.c, .int .i64 u.h, .int .u64 u.i, .int .u64 u.g, .int .u64 u.d, .int .u64 u.p, .int .u64 u.q, .int .i64 u.e] 57)) w.heap.size [.int .i64 2, .bool false, .int .i64 u.k, .int .i64 u.t, .int .i64 u.c, .int .i64 u.h, .int .u64 u.i, .int .u64 u.g, .int .u64 u.d, .int .u64 u.p, .int .u64 u.q, .int .i64 u.e] := IsVs.new w [.int .i64 2, .bool false, .int .i64 u.k, .int .i64 u.t, .int .i64 u.c, .int .i64 u.h, .int .u64 u.i, .int .u64 u.g, .int .u64 u.d, .int .u64 u.p, .int .u64 u.q, .int .i64 u.e] 57
  have HA := Lib.hid (h.quiet cA)
  have CA := Lib.hid cA
  have z1 : ((s.b : Int) == 0) = true := by rw [beq_iff_eq]; omega
  clear h0
  clear h cA
  go_enter Try.func29, Try.ntmps29
  go_upto_region 1 with (fail)
  generalize w.alloc (Obj.cells #[.int .i64 2, .bool false, .int .i64 u.k, .int .i64 u.t, .int .i64 u.c, .int .i64 u.h, .int .u64 u.i, .int .u64 u.g, .int .u64 u.d, .int .u64 u.p, .int .u64 u.q, .int .i64 u.e] 57) = W at HA bx CA ⊢
  generalize w.heap.size = B at bx ⊢
  obtain ⟨c0, c1, c2, c3, c4, c5, c6, c7, c8, c9, c10, c11⟩ := bx.cells12
  have r0 := HA.out.v.c 0 _ rfl
  have r1 := HA.out.v.c 1 _ rfl
  have r2 := HA.out.v.c 2 _ rfl
  have r3 := HA.out.v.c 3 _ rfl
  have f0 := HA.out.v.b.fz 0
  have f1 := HA.out.v.b.fz 1
  have f2 := HA.out.v.b.fz 2
  have f3 := HA.out.v.b.fz 3
  clear bx
  go_wp2
  go_ret2
  exact ⟨rfl, HA.out, CA.out.mono fun _ _ e => e.elim⟩
set_option maxHeartbeats 4000000 in
theorem do_work (h : Rf w vb s a tc) (u : Ev) (j : Nat) (h0 : s.b = j + 1) (hj : j ≤ 1000000) :
    Calls Try.prog 29 #[.pointer (some ⟨vb, 0, none⟩), .agg #[.int .i64 2, .bool false, .int .i64 u.k, .int .i64 u.t, .int .i64 u.c, .int .i64 u.h, .int .u64 u.i, .int .u64 u.g, .int .u64 u.d, .int .u64 u.p, .int .u64 u.q, .int .i64 u.e]] w fun e w' => e = .returned (.tuple #[.int .i64 0, .bool false]) ∧ Rf w' vb { s with b := j } a tc ∧ Ch (RfS vb a) w w' := by
  have cA : Ch Nil w (w.alloc (Obj.cells #[.int .i64 2, .bool false, .int .i64 u.k, .int .i64 u.t, .int .i64 u.c, .int .i64 u.h, .int .u64 u.i, .int .u64 u.g, .int .u64 u.d, .int .u64 u.p, .int .u64 u.q, .int .i64 u.e] 57)) := (Ch.refl _ _).alloc _
  have bx : IsVs (w.alloc (Obj.cells #[.int .i64 2, .bool false, .int .i64 u.k, .int .i64 u.t, .int .i64 u.c, .int .i64 u.h, .int .u64 u.i, .int .u64 u.g, .int .u64 u.d, .int .u64 u.p, .int .u64 u.q, .int .i64 u.e] 57)) w.heap.size [.int .i64 2, .bool false, .int .i64 u.k, .int .i64 u.t, .int .i64 u.c, .int .i64 u.h, .int .u64 u.i, .int .u64 u.g, .int .u64 u.d, .int .u64 u.p, .int .u64 u.q, .int .i64 u.e] := IsVs.new w [.int .i64 2, .bool false, .int .i64 u.k, .int .i64 u.t, .int .i64 u.c, .int .i64 u.h, .int .u64 u.i, .int .u64 u.g, .int .u64 u.d, .int .u64 u.p, .int .u64 u.q, .int .i64 u.e] 57
  have HA := Lib.hid (h.quiet cA)
  have CA := Lib.hid cA
  have z1 : ((s.b : Int) == 0) = false := by rw [beq_eq_false_iff_ne]; omega
  have zs : (s.b : Int) - 1 = (j : Int) := by omega
  clear h0
  clear h cA
  go_enter Try.func29, Try.ntmps29
  go_upto_region 1 with (fail)
  generalize w.alloc (Obj.cells #[.int .i64 2, .bool false, .int .i64 u.k, .int .i64 u.t, .int .i64 u.c, .int .i64 u.h, .int .u64 u.i, .int .u64 u.g, .int .u64 u.d, .int .u64 u.p, .int .u64 u.q, .int .i64 u.e] 57) = W at HA bx CA ⊢
  generalize w.heap.size = B at bx ⊢
  obtain ⟨c0, c1, c2, c3, c4, c5, c6, c7, c8, c9, c10, c11⟩ := bx.cells12
  have r0 := HA.out.v.c 0 _ rfl
  have r1 := HA.out.v.c 1 _ rfl
  have r2 := HA.out.v.c 2 _ rfl
  have r3 := HA.out.v.c 3 _ rfl
  have f0 := HA.out.v.b.fz 0
  have f1 := HA.out.v.b.fz 1
  have f2 := HA.out.v.b.fz 2
  have f3 := HA.out.v.b.fz 3
  clear bx
  go_wp2
  go_ret2
  have cS : Ch (One vb) W (W.setCell ⟨vb, 1, none⟩ (.int .i64 (j : Int))) := (Ch.refl _ _).setB 1 _
  exact ⟨by first | rfl | simp, ⟨HA.out.v.setAt 1 (.int .i64 (j : Int)), HA.out.tr.kept cS (fun k hk e => HA.out.nb (by have e' : k = vb := e; rw [← e']; exact hk)), HA.out.nb⟩, (CA.out.mono fun _ _ e => e.elim).then cS (fun k _ e => .inl e)⟩
set_option maxHeartbeats 4000000 in
theorem do_shut (h : Rf w vb s a tc) (u : Ev) (on : Bool) :
    Calls Try.prog 29 #[.pointer (some ⟨vb, 0, none⟩), .agg #[.int .i64 3, .bool on, .int .i64 u.k, .int .i64 u.t, .int .i64 u.c, .int .i64 u.h, .int .u64 u.i, .int .u64 u.g, .int .u64 u.d, .int .u64 u.p, .int .u64 u.q, .int .i64 u.e]] w fun e w' => e = .returned (.tuple #[.int .i64 0, .bool (!s.cl)]) ∧ Rf w' vb { s with cl := true } a tc ∧ Ch (RfS vb a) w w' := by
  have cA : Ch Nil w (w.alloc (Obj.cells #[.int .i64 3, .bool on, .int .i64 u.k, .int .i64 u.t, .int .i64 u.c, .int .i64 u.h, .int .u64 u.i, .int .u64 u.g, .int .u64 u.d, .int .u64 u.p, .int .u64 u.q, .int .i64 u.e] 57)) := (Ch.refl _ _).alloc _
  have bx : IsVs (w.alloc (Obj.cells #[.int .i64 3, .bool on, .int .i64 u.k, .int .i64 u.t, .int .i64 u.c, .int .i64 u.h, .int .u64 u.i, .int .u64 u.g, .int .u64 u.d, .int .u64 u.p, .int .u64 u.q, .int .i64 u.e] 57)) w.heap.size [.int .i64 3, .bool on, .int .i64 u.k, .int .i64 u.t, .int .i64 u.c, .int .i64 u.h, .int .u64 u.i, .int .u64 u.g, .int .u64 u.d, .int .u64 u.p, .int .u64 u.q, .int .i64 u.e] := IsVs.new w [.int .i64 3, .bool on, .int .i64 u.k, .int .i64 u.t, .int .i64 u.c, .int .i64 u.h, .int .u64 u.i, .int .u64 u.g, .int .u64 u.d, .int .u64 u.p, .int .u64 u.q, .int .i64 u.e] 57
  have HA := Lib.hid (h.quiet cA)
  have CA := Lib.hid cA
  clear h cA
  go_enter Try.func29, Try.ntmps29
  go_upto_region 1 with (fail)
  generalize w.alloc (Obj.cells #[.int .i64 3, .bool on, .int .i64 u.k, .int .i64 u.t, .int .i64 u.c, .int .i64 u.h, .int .u64 u.i, .int .u64 u.g, .int .u64 u.d, .int .u64 u.p, .int .u64 u.q, .int .i64 u.e] 57) = W at HA bx CA ⊢
  generalize w.heap.size = B at bx ⊢
  obtain ⟨c0, c1, c2, c3, c4, c5, c6, c7, c8, c9, c10, c11⟩ := bx.cells12
  have r0 := HA.out.v.c 0 _ rfl
  have r1 := HA.out.v.c 1 _ rfl
  have r2 := HA.out.v.c 2 _ rfl
  have r3 := HA.out.v.c 3 _ rfl
  have f0 := HA.out.v.b.fz 0
  have f1 := HA.out.v.b.fz 1
  have f2 := HA.out.v.b.fz 2
  have f3 := HA.out.v.b.fz 3
  clear bx
  go_wp2
  go_ret2
  have cS : Ch (One vb) W (W.setCell ⟨vb, 2, none⟩ (.bool true)) := (Ch.refl _ _).setB 2 _
  exact ⟨by first | rfl | simp, ⟨HA.out.v.setAt 2 (.bool true), HA.out.tr.kept cS (fun k hk e => HA.out.nb (by have e' : k = vb := e; rw [← e']; exact hk)), HA.out.nb⟩, (CA.out.mono fun _ _ e => e.elim).then cS (fun k _ e => .inl e)⟩
set_option maxHeartbeats 4000000 in
theorem do_turn (h : Rf w vb s a tc) (u : Ev) (on : Bool) (ht : s.t ≤ 1000000) :
    Calls Try.prog 29 #[.pointer (some ⟨vb, 0, none⟩), .agg #[.int .i64 4, .bool on, .int .i64 u.k, .int .i64 u.t, .int .i64 u.c, .int .i64 u.h, .int .u64 u.i, .int .u64 u.g, .int .u64 u.d, .int .u64 u.p, .int .u64 u.q, .int .i64 u.e]] w fun e w' => e = .returned (.tuple #[.int .i64 0, .bool false]) ∧ Rf w' vb { s with t := s.t + 1 } a tc ∧ Ch (RfS vb a) w w' := by
  have cA : Ch Nil w (w.alloc (Obj.cells #[.int .i64 4, .bool on, .int .i64 u.k, .int .i64 u.t, .int .i64 u.c, .int .i64 u.h, .int .u64 u.i, .int .u64 u.g, .int .u64 u.d, .int .u64 u.p, .int .u64 u.q, .int .i64 u.e] 57)) := (Ch.refl _ _).alloc _
  have bx : IsVs (w.alloc (Obj.cells #[.int .i64 4, .bool on, .int .i64 u.k, .int .i64 u.t, .int .i64 u.c, .int .i64 u.h, .int .u64 u.i, .int .u64 u.g, .int .u64 u.d, .int .u64 u.p, .int .u64 u.q, .int .i64 u.e] 57)) w.heap.size [.int .i64 4, .bool on, .int .i64 u.k, .int .i64 u.t, .int .i64 u.c, .int .i64 u.h, .int .u64 u.i, .int .u64 u.g, .int .u64 u.d, .int .u64 u.p, .int .u64 u.q, .int .i64 u.e] := IsVs.new w [.int .i64 4, .bool on, .int .i64 u.k, .int .i64 u.t, .int .i64 u.c, .int .i64 u.h, .int .u64 u.i, .int .u64 u.g, .int .u64 u.d, .int .u64 u.p, .int .u64 u.q, .int .i64 u.e] 57
  have HA := Lib.hid (h.quiet cA)
  have CA := Lib.hid cA
  clear h cA
  go_enter Try.func29, Try.ntmps29
  go_upto_region 1 with (fail)
  generalize w.alloc (Obj.cells #[.int .i64 4, .bool on, .int .i64 u.k, .int .i64 u.t, .int .i64 u.c, .int .i64 u.h, .int .u64 u.i, .int .u64 u.g, .int .u64 u.d, .int .u64 u.p, .int .u64 u.q, .int .i64 u.e] 57) = W at HA bx CA ⊢
  generalize w.heap.size = B at bx ⊢
  obtain ⟨c0, c1, c2, c3, c4, c5, c6, c7, c8, c9, c10, c11⟩ := bx.cells12
  have r0 := HA.out.v.c 0 _ rfl
  have r1 := HA.out.v.c 1 _ rfl
  have r2 := HA.out.v.c 2 _ rfl
  have r3 := HA.out.v.c 3 _ rfl
  have f0 := HA.out.v.b.fz 0
  have f1 := HA.out.v.b.fz 1
  have f2 := HA.out.v.b.fz 2
  have f3 := HA.out.v.b.fz 3
  clear bx
  go_wp2
  go_ret2
  have cS : Ch (One vb) W (W.setCell ⟨vb, 3, none⟩ (.int .u64 ((s.t : Int) + 1))) := (Ch.refl _ _).setB 3 _
  exact ⟨by first | rfl | simp, ⟨HA.out.v.setAt 3 (.int .u64 ((s.t : Int) + 1)), HA.out.tr.kept cS (fun k hk e => HA.out.nb (by have e' : k = vb := e; rw [← e']; exact hk)), HA.out.nb⟩, (CA.out.mono fun _ _ e => e.elim).then cS (fun k _ e => .inl e)⟩
set_option maxHeartbeats 4000000 in
theorem do_none (h : Rf w vb s a tc) (u : Ev) (k : Int) (on : Bool) (hk : k < 0 ∨ 5 < k) :
    Calls Try.prog 29 #[.pointer (some ⟨vb, 0, none⟩), .agg #[.int .i64 k, .bool on, .int .i64 u.k, .int .i64 u.t, .int .i64 u.c, .int .i64 u.h, .int .u64 u.i, .int .u64 u.g, .int .u64 u.d, .int .u64 u.p, .int .u64 u.q, .int .i64 u.e]] w fun e w' => e = .returned (.tuple #[.int .i64 0, .bool false]) ∧ Rf w' vb s a tc ∧ Ch (RfS vb a) w w' := by
  have cA : Ch Nil w (w.alloc (Obj.cells #[.int .i64 k, .bool on, .int .i64 u.k, .int .i64 u.t, .int .i64 u.c, .int .i64 u.h, .int .u64 u.i, .int .u64 u.g, .int .u64 u.d, .int .u64 u.p, .int .u64 u.q, .int .i64 u.e] 57)) := (Ch.refl _ _).alloc _
  have bx : IsVs (w.alloc (Obj.cells #[.int .i64 k, .bool on, .int .i64 u.k, .int .i64 u.t, .int .i64 u.c, .int .i64 u.h, .int .u64 u.i, .int .u64 u.g, .int .u64 u.d, .int .u64 u.p, .int .u64 u.q, .int .i64 u.e] 57)) w.heap.size [.int .i64 k, .bool on, .int .i64 u.k, .int .i64 u.t, .int .i64 u.c, .int .i64 u.h, .int .u64 u.i, .int .u64 u.g, .int .u64 u.d, .int .u64 u.p, .int .u64 u.q, .int .i64 u.e] := IsVs.new w [.int .i64 k, .bool on, .int .i64 u.k, .int .i64 u.t, .int .i64 u.c, .int .i64 u.h, .int .u64 u.i, .int .u64 u.g, .int .u64 u.d, .int .u64 u.p, .int .u64 u.q, .int .i64 u.e] 57
  have HA := Lib.hid (h.quiet cA)
  have CA := Lib.hid cA
  have z0 : (k == 0) = false := by rw [beq_eq_false_iff_ne]; omega
  have z1 : (k == 1) = false := by rw [beq_eq_false_iff_ne]; omega
  have z2 : (k == 2) = false := by rw [beq_eq_false_iff_ne]; omega
  have z3 : (k == 3) = false := by rw [beq_eq_false_iff_ne]; omega
  have z4 : (k == 4) = false := by rw [beq_eq_false_iff_ne]; omega
  have z5 : (k == 5) = false := by rw [beq_eq_false_iff_ne]; omega
  clear hk
  clear h cA
  go_enter Try.func29, Try.ntmps29
  go_upto_region 1 with (fail)
  generalize w.alloc (Obj.cells #[.int .i64 k, .bool on, .int .i64 u.k, .int .i64 u.t, .int .i64 u.c, .int .i64 u.h, .int .u64 u.i, .int .u64 u.g, .int .u64 u.d, .int .u64 u.p, .int .u64 u.q, .int .i64 u.e] 57) = W at HA bx CA ⊢
  generalize w.heap.size = B at bx ⊢
  obtain ⟨c0, c1, c2, c3, c4, c5, c6, c7, c8, c9, c10, c11⟩ := bx.cells12
  have r0 := HA.out.v.c 0 _ rfl
  have r1 := HA.out.v.c 1 _ rfl
  have r2 := HA.out.v.c 2 _ rfl
  have r3 := HA.out.v.c 3 _ rfl
  have f0 := HA.out.v.b.fz 0
  have f1 := HA.out.v.b.fz 1
  have f2 := HA.out.v.b.fz 2
  have f3 := HA.out.v.b.fz 3
  clear bx
  go_wp2
  go_ret2
  exact ⟨rfl, HA.out, CA.out.mono fun _ _ e => e.elim⟩
set_option maxHeartbeats 8000000 in
set_option maxRecDepth 100000 in
theorem do_note (h : Rf w vb s a tc) (u : Ev) (on : Bool) (hl : s.L.length ≤ 100000) :
    Calls Try.prog 29 #[.pointer (some ⟨vb, 0, none⟩), .agg #[.int .i64 5, .bool on, .int .i64 u.k, .int .i64 u.t, .int .i64 u.c, .int .i64 u.h, .int .u64 u.i, .int .u64 u.g, .int .u64 u.d, .int .u64 u.p, .int .u64 u.q, .int .i64 u.e]] w fun e w' => ∃ a' tc', e = .returned (.tuple #[.int .i64 0, .bool false]) ∧ Rf w' vb { s with L := s.L ++ [u] } a' tc' ∧ Ch (RfS vb a) w w' ∧ ∀ k, OwnS a' k → OwnS a k ∨ w.heap.size ≤ k := by
  have cA : Ch Nil w (w.alloc (Obj.cells #[.int .i64 5, .bool on, .int .i64 u.k, .int .i64 u.t, .int .i64 u.c, .int .i64 u.h, .int .u64 u.i, .int .u64 u.g, .int .u64 u.d, .int .u64 u.p, .int .u64 u.q, .int .i64 u.e] 57)) := (Ch.refl _ _).alloc _
  have bx : IsVs (w.alloc (Obj.cells #[.int .i64 5, .bool on, .int .i64 u.k, .int .i64 u.t, .int .i64 u.c, .int .i64 u.h, .int .u64 u.i, .int .u64 u.g, .int .u64 u.d, .int .u64 u.p, .int .u64 u.q, .int .i64 u.e] 57)) w.heap.size [.int .i64 5, .bool on, .int .i64 u.k, .int .i64 u.t, .int .i64 u.c, .int .i64 u.h, .int .u64 u.i, .int .u64 u.g, .int .u64 u.d, .int .u64 u.p, .int .u64 u.q, .int .i64 u.e] := IsVs.new w [.int .i64 5, .bool on, .int .i64 u.k, .int .i64 u.t, .int .i64 u.c, .int .i64 u.h, .int .u64 u.i, .int .u64 u.g, .int .u64 u.d, .int .u64 u.p, .int .u64 u.q, .int .i64 u.e] 57
  have HA := Lib.hid (h.quiet cA)
  have LTA := Lib.hid (fun k (hk : RfS vb a k) => h.lt hk)
  have CA := Lib.hid cA
  obtain ⟨L, hL⟩ : ∃ L, L = s.L := ⟨_, rfl⟩
  obtain ⟨nl, hnl⟩ : ∃ nl, nl = L.length := ⟨_, rfl⟩
  have HLS := Lib.hid hL
  have HNL := Lib.hid hnl
  have hLn : nl ≤ 1000000 := by rw [hnl, hL]; omega
  clear h cA hL hnl hl
  go_enter Try.func29, Try.ntmps29
  go_upto_region 1 with (fail)
  generalize w.alloc (Obj.cells #[.int .i64 5, .bool on, .int .i64 u.k, .int .i64 u.t, .int .i64 u.c, .int .i64 u.h, .int .u64 u.i, .int .u64 u.g, .int .u64 u.d, .int .u64 u.p, .int .u64 u.q, .int .i64 u.e] 57) = W at HA bx CA ⊢
  obtain ⟨B, hB⟩ : ∃ B, B = w.heap.size := ⟨_, rfl⟩
  rw [← hB] at bx ⊢
  have HB := Lib.hid hB
  have nab : ¬ OwnS a B := fun e => by have := LTA.out B (.inr e); omega
  have nar : ¬ OwnS a vb := HA.out.nb
  have nbb : ¬ B = vb := fun e => by have := LTA.out vb (.inl rfl); omega
  have BX := Lib.hid bx
  obtain ⟨c0, c1, c2, c3, c4, c5, c6, c7, c8, c9, c10, c11⟩ := bx.cells12
  clear bx hB
  go_upto_region 20 with (fail)
  clear c0 c1 c2 c3 c4 c5 c6 c7 c8 c9 c10 c11
  have y : W.drew.cell? ⟨B, 2, none⟩ = some (.int .i64 u.k) ∧ W.drew.cell? ⟨B, 3, none⟩ = some (.int .i64 u.t) ∧ W.drew.cell? ⟨B, 4, none⟩ = some (.int .i64 u.c) ∧ W.drew.cell? ⟨B, 5, none⟩ = some (.int .i64 u.h) ∧ W.drew.cell? ⟨B, 6, none⟩ = some (.int .u64 u.i) ∧ W.drew.cell? ⟨B, 7, none⟩ = some (.int .u64 u.g) ∧ W.drew.cell? ⟨B, 8, none⟩ = some (.int .u64 u.d) ∧ W.drew.cell? ⟨B, 9, none⟩ = some (.int .u64 u.p) ∧ W.drew.cell? ⟨B, 10, none⟩ = some (.int .u64 u.q) ∧ W.drew.cell? ⟨B, 11, none⟩ = some (.int .i64 u.e) := by
    obtain ⟨-, -, y⟩ := (BX.out.kept (show Ch Nil W W.drew from (Ch.refl _ _).drew) (fun e => e)).cells12
    exact y
  have R8 := Lib.hid (HA.out.quiet (show Ch Nil W W.drew from (Ch.refl _ _).drew))
  have CW := Lib.hid (CA.out.trans (show Ch Nil W W.drew from (Ch.refl _ _).drew))
  clear HA BX
  refine wp_region_held_drew (S := fun w' => w'.cell? ⟨B, 2, none⟩ = some (.int .i64 u.k) ∧ w'.cell? ⟨B, 3, none⟩ = some (.int .i64 u.t) ∧ w'.cell? ⟨B, 4, none⟩ = some (.int .i64 u.c) ∧ w'.cell? ⟨B, 5, none⟩ = some (.int .i64 u.h) ∧ w'.cell? ⟨B, 6, none⟩ = some (.int .u64 u.i) ∧ w'.cell? ⟨B, 7, none⟩ = some (.int .u64 u.g) ∧ w'.cell? ⟨B, 8, none⟩ = some (.int .u64 u.d) ∧ w'.cell? ⟨B, 9, none⟩ = some (.int .u64 u.p) ∧ w'.cell? ⟨B, 10, none⟩ = some (.int .u64 u.q) ∧ w'.cell? ⟨B, 11, none⟩ = some (.int .i64 u.e)) (by kernel_rfl) y (fun hHeld => ?_)
  clear y
  generalize W.drew = X at *
  have cX : Ch Nil X (X.alloc (.cells #[.int .i64 u.k, .int .i64 u.t, .int .i64 u.c, .int .i64 u.h, .int .u64 u.i, .int .u64 u.g, .int .u64 u.d, .int .u64 u.p, .int .u64 u.q, .int .i64 u.e] 55)) := (Ch.refl _ _).alloc _
  have c1 := (show X.cell? ⟨vb, 4, none⟩ = some (.slice a nl tc) from by have := R8.out.v.c 4 _ rfl; rw [← HLS.out, ← HNL.out] at this; exact this)
  have c2 := cX.keeps c1 (fun e => e)
  have S2 : (X.alloc (.cells #[.int .i64 u.k, .int .i64 u.t, .int .i64 u.c, .int .i64 u.h, .int .u64 u.i, .int .u64 u.g, .int .u64 u.d, .int .u64 u.p, .int .u64 u.q, .int .i64 u.e] 55)).cell? ⟨B, 2, none⟩ = some (.int .i64 u.k) ∧ (X.alloc (.cells #[.int .i64 u.k, .int .i64 u.t, .int .i64 u.c, .int .i64 u.h, .int .u64 u.i, .int .u64 u.g, .int .u64 u.d, .int .u64 u.p, .int .u64 u.q, .int .i64 u.e] 55)).cell? ⟨B, 3, none⟩ = some (.int .i64 u.t) ∧ (X.alloc (.cells #[.int .i64 u.k, .int .i64 u.t, .int .i64 u.c, .int .i64 u.h, .int .u64 u.i, .int .u64 u.g, .int .u64 u.d, .int .u64 u.p, .int .u64 u.q, .int .i64 u.e] 55)).cell? ⟨B, 4, none⟩ = some (.int .i64 u.c) ∧ (X.alloc (.cells #[.int .i64 u.k, .int .i64 u.t, .int .i64 u.c, .int .i64 u.h, .int .u64 u.i, .int .u64 u.g, .int .u64 u.d, .int .u64 u.p, .int .u64 u.q, .int .i64 u.e] 55)).cell? ⟨B, 5, none⟩ = some (.int .i64 u.h) ∧ (X.alloc (.cells #[.int .i64 u.k, .int .i64 u.t, .int .i64 u.c, .int .i64 u.h, .int .u64 u.i, .int .u64 u.g, .int .u64 u.d, .int .u64 u.p, .int .u64 u.q, .int .i64 u.e] 55)).cell? ⟨B, 6, none⟩ = some (.int .u64 u.i) ∧ (X.alloc (.cells #[.int .i64 u.k, .int .i64 u.t, .int .i64 u.c, .int .i64 u.h, .int .u64 u.i, .int .u64 u.g, .int .u64 u.d, .int .u64 u.p, .int .u64 u.q, .int .i64 u.e] 55)).cell? ⟨B, 7, none⟩ = some (.int .u64 u.g) ∧ (X.alloc (.cells #[.int .i64 u.k, .int .i64 u.t, .int .i64 u.c, .int .i64 u.h, .int .u64 u.i, .int .u64 u.g, .int .u64 u.d, .int .u64 u.p, .int .u64 u.q, .int .i64 u.e] 55)).cell? ⟨B, 8, none⟩ = some (.int .u64 u.d) ∧ (X.alloc (.cells #[.int .i64 u.k, .int .i64 u.t, .int .i64 u.c, .int .i64 u.h, .int .u64 u.i, .int .u64 u.g, .int .u64 u.d, .int .u64 u.p, .int .u64 u.q, .int .i64 u.e] 55)).cell? ⟨B, 9, none⟩ = some (.int .u64 u.p) ∧ (X.alloc (.cells #[.int .i64 u.k, .int .i64 u.t, .int .i64 u.c, .int .i64 u.h, .int .u64 u.i, .int .u64 u.g, .int .u64 u.d, .int .u64 u.p, .int .u64 u.q, .int .i64 u.e] 55)).cell? ⟨B, 10, none⟩ = some (.int .u64 u.q) ∧ (X.alloc (.cells #[.int .i64 u.k, .int .i64 u.t, .int .i64 u.c, .int .i64 u.h, .int .u64 u.i, .int .u64 u.g, .int .u64 u.d, .int .u64 u.p, .int .u64 u.q, .int .i64 u.e] 55)).cell? ⟨B, 11, none⟩ = some (.int .i64 u.e) := ⟨cX.keeps hHeld.1 (fun e => e), cX.keeps hHeld.2.1 (fun e => e), cX.keeps hHeld.2.2.1 (fun e => e), cX.keeps hHeld.2.2.2.1 (fun e => e), cX.keeps hHeld.2.2.2.2.1 (fun e => e), cX.keeps hHeld.2.2.2.2.2.1 (fun e => e), cX.keeps hHeld.2.2.2.2.2.2.1 (fun e => e), cX.keeps hHeld.2.2.2.2.2.2.2.1 (fun e => e), cX.keeps hHeld.2.2.2.2.2.2.2.2.1 (fun e => e), cX.keeps hHeld.2.2.2.2.2.2.2.2.2 (fun e => e)⟩
  refine take_at (v := ?_) 0 (some 93) rfl (by kernel_rfl) (by kernel_rfl) (by kernel_rfl) (by kernel_rfl) (fun _ _ _ h => h) (Or.inl ⟨by rfl, ?_⟩) (by assumption) ?_
  rotate_left
  · intro w hSw; (try dsimp only at hSw); go_simp; try (with_reducible rfl)
  (try simp only [Act.put, List.setIfInBounds_toArray, List.set_cons_zero, List.set_cons_succ])
  refine take_at (v := ?_) 1 (some 94) rfl (by kernel_rfl) (by kernel_rfl) (by kernel_rfl) (by kernel_rfl) (fun _ _ _ h => h) (Or.inl ⟨by rfl, ?_⟩) (by assumption) ?_
  rotate_left
  · intro w hSw; (try dsimp only at hSw); go_simp; try (with_reducible rfl)
  (try simp only [Act.put, List.setIfInBounds_toArray, List.set_cons_zero, List.set_cons_succ])
  refine take_at (v := ?_) 2 (some 95) rfl (by kernel_rfl) (by kernel_rfl) (by kernel_rfl) (by kernel_rfl) (fun _ _ _ h => h) (Or.inl ⟨by rfl, ?_⟩) (by assumption) ?_
  rotate_left
  · intro w hSw; (try dsimp only at hSw); go_simp; try (with_reducible rfl)
  (try simp only [Act.put, List.setIfInBounds_toArray, List.set_cons_zero, List.set_cons_succ])
  refine take_at (v := ?_) 3 (some 96) rfl (by kernel_rfl) (by kernel_rfl) (by kernel_rfl) (by kernel_rfl) (fun _ _ _ h => h) (Or.inl ⟨by rfl, ?_⟩) (by assumption) ?_
  rotate_left
  · intro w hSw; (try dsimp only at hSw); go_simp; try (with_reducible rfl)
  (try simp only [Act.put, List.setIfInBounds_toArray, List.set_cons_zero, List.set_cons_succ])
  refine take_at (v := ?_) 5 (some 98) rfl (by kernel_rfl) (by kernel_rfl) (by kernel_rfl) (by kernel_rfl) (fun _ _ _ h => h) (Or.inl ⟨by rfl, ?_⟩) (by assumption) ?_
  rotate_left
  · intro w hSw; (try dsimp only at hSw); go_simp; try (with_reducible rfl)
  (try simp only [Act.put, List.setIfInBounds_toArray, List.set_cons_zero, List.set_cons_succ])
  refine take_at (v := ?_) 6 (some 99) rfl (by kernel_rfl) (by kernel_rfl) (by kernel_rfl) (by kernel_rfl) (fun _ _ _ h => h) (Or.inl ⟨by rfl, ?_⟩) (by assumption) ?_
  rotate_left
  · intro w hSw; (try dsimp only at hSw); go_simp; try (with_reducible rfl)
  (try simp only [Act.put, List.setIfInBounds_toArray, List.set_cons_zero, List.set_cons_succ])
  refine wpAnyH_ready (rs := [4, 7]) (by kernel_rfl) (by simp) ?_
  refine AllReadyH.cons rfl (fun K hK => ?_) ?_
  go_simp
  refine hK.out _ _ hHeld (fun hh => ?_)
  clear hK K hh
  (try simp only [Act.put, List.setIfInBounds_toArray, List.set_cons_zero, List.set_cons_succ])
  refine wpAnyH_ready (rs := [7]) (by kernel_rfl) (by simp) ?_
  refine AllReadyH.cons rfl (fun K hK => ?_) AllReadyH.nil
  go_simp
  refine hK.out _ _ S2 (fun hh => ?_)
  clear hK K hh
  (try simp only [Act.put, List.setIfInBounds_toArray, List.set_cons_zero, List.set_cons_succ])
  refine ?tail1
  rotate_left
  refine AllReadyH.cons rfl (fun K hK => ?_) AllReadyH.nil
  go_simp
  refine hK.out _ _ S2 (fun hh => ?_)
  clear hK K hh
  (try simp only [Act.put, List.setIfInBounds_toArray, List.set_cons_zero, List.set_cons_succ])
  refine wpAnyH_ready (rs := [4]) (by kernel_rfl) (by simp) ?_
  refine AllReadyH.cons rfl (fun K hK => ?_) AllReadyH.nil
  go_simp
  refine hK.out _ _ S2 (fun hh => ?_)
  clear hK K hh
  (try simp only [Act.put, List.setIfInBounds_toArray, List.set_cons_zero, List.set_cons_succ])
  exact ?tail1
  have R5 : Hid (Row (X.alloc (.cells #[.int .i64 u.k, .int .i64 u.t, .int .i64 u.c, .int .i64 u.h, .int .u64 u.i, .int .u64 u.g, .int .u64 u.d, .int .u64 u.p, .int .u64 u.q, .int .i64 u.e] 55)) 55 10 a nl tc (ec L)) := Lib.hid (by have := Row.kept (by have := R8.out.tr; rw [← HLS.out] at this; exact this : ERow X a tc L) cX (fun _ _ e => e); rw [← HNL.out] at this; exact this)
  have V1 : Hid (∀ i, i < nl * 10 → ec (L ++ [u]) i = ec L i) := Lib.hid fun i hi => ec_left _ (by rw [← HNL.out]; exact hi)
  have V2 : Hid (∀ (j : Nat) (v : Value), (evV u)[j]? = some v → ec (L ++ [u]) (nl * 10 + j) = v) := Lib.hid fun j v hv => by
    obtain ⟨hj, rfl⟩ := evV_get hv
    rw [HNL.out]; exact ec_snoc _ hj
  refine wpAnyH_ready (rs := [8]) (by kernel_rfl) (by simp) ?_
  refine AllReadyH.cons rfl (fun K hK => ?_) AllReadyH.nil
  refine step_row rfl _ _ _ rfl 55 (.agg #[.int .i64 0, .int .i64 0, .int .i64 0, .int .i64 0, .int .u64 0, .int .u64 0, .int .u64 0, .int .u64 0, .int .u64 0, .int .i64 0]) 10 80 Try.underlying51 (by kernel_rfl) rfl (by omega) (by omega) rfl R5.out hLn X.heap.size 1 (evV u) 55 rfl rfl (heap_alloc_new X _) (by simp [evV, Value.oneCell']) (ec (L ++ [u])) V1.out V2.out _ rfl ?_
  intro g6 cap6 w9 row6 ch6 at6 lt6
  have S3 : w9.cell? ⟨B, 2, none⟩ = some (.int .i64 u.k) ∧ w9.cell? ⟨B, 3, none⟩ = some (.int .i64 u.t) ∧ w9.cell? ⟨B, 4, none⟩ = some (.int .i64 u.c) ∧ w9.cell? ⟨B, 5, none⟩ = some (.int .i64 u.h) ∧ w9.cell? ⟨B, 6, none⟩ = some (.int .u64 u.i) ∧ w9.cell? ⟨B, 7, none⟩ = some (.int .u64 u.g) ∧ w9.cell? ⟨B, 8, none⟩ = some (.int .u64 u.d) ∧ w9.cell? ⟨B, 9, none⟩ = some (.int .u64 u.p) ∧ w9.cell? ⟨B, 10, none⟩ = some (.int .u64 u.q) ∧ w9.cell? ⟨B, 11, none⟩ = some (.int .i64 u.e) := ⟨ch6.keeps S2.1 nab, ch6.keeps S2.2.1 nab, ch6.keeps S2.2.2.1 nab, ch6.keeps S2.2.2.2.1 nab, ch6.keeps S2.2.2.2.2.1 nab, ch6.keeps S2.2.2.2.2.2.1 nab, ch6.keeps S2.2.2.2.2.2.2.1 nab, ch6.keeps S2.2.2.2.2.2.2.2.1 nab, ch6.keeps S2.2.2.2.2.2.2.2.2.1 nab, ch6.keeps S2.2.2.2.2.2.2.2.2.2 nab⟩
  have c3 := ch6.keeps c2 nar
  have z3 := (((R8.out.v.b).kept cX (fun e => e)).kept ch6 nar).fz 4
  have C9 := Lib.hid ((cX.mono fun _ _ e => e.elim).trans ch6)
  have AT : Hid (OwnS a g6 ∨ X.heap.size ≤ g6) := Lib.hid (by rcases at6 with h | h; exact .inl h; exact .inr (by (try simp at h); omega))
  have ROW := Lib.hid row6
  refine hK.out _ _ S3 (fun hh => ?_)
  clear hK K hh ch6 row6 at6 lt6 R5 S2 c2 c1 hHeld cX
  (try simp only [Act.put, List.setIfInBounds_toArray, List.set_cons_zero, List.set_cons_succ])
  refine take_at (v := ?_) 9 (some 102) rfl (by kernel_rfl) (by kernel_rfl) (by kernel_rfl) (by kernel_rfl) (fun _ _ _ h => h) (Or.inl ⟨by rfl, ?_⟩) (by assumption) ?_
  rotate_left
  · intro w hSw; (try dsimp only at hSw); go_simp; try (with_reducible rfl)
  (try simp only [Act.put, List.setIfInBounds_toArray, List.set_cons_zero, List.set_cons_succ])
  refine take_at (v := ?_) 10 (some 103) rfl (by kernel_rfl) (by kernel_rfl) (by kernel_rfl) (by kernel_rfl) (fun _ _ _ h => h) (Or.inl ⟨by rfl, ?_⟩) (by assumption) ?_
  rotate_left
  · intro w hSw; (try dsimp only at hSw); go_simp; try (with_reducible rfl)
  (try simp only [Act.put, List.setIfInBounds_toArray, List.set_cons_zero, List.set_cons_succ])
  refine wpAnyH_ready (rs := [11]) (by kernel_rfl) (by simp) ?_
  refine AllReadyH.cons rfl (fun K hK => ?_) AllReadyH.nil
  go_simp
  have cS : Ch (One vb) w9 (w9.setCell ⟨vb, 4, none⟩ (.slice (some ⟨g6, 0, none⟩) (nl + 1) cap6)) := (Ch.refl _ _).setB 4 _
  have S4 : (w9.setCell ⟨vb, 4, none⟩ (.slice (some ⟨g6, 0, none⟩) (nl + 1) cap6)).cell? ⟨B, 2, none⟩ = some (.int .i64 u.k) ∧ (w9.setCell ⟨vb, 4, none⟩ (.slice (some ⟨g6, 0, none⟩) (nl + 1) cap6)).cell? ⟨B, 3, none⟩ = some (.int .i64 u.t) ∧ (w9.setCell ⟨vb, 4, none⟩ (.slice (some ⟨g6, 0, none⟩) (nl + 1) cap6)).cell? ⟨B, 4, none⟩ = some (.int .i64 u.c) ∧ (w9.setCell ⟨vb, 4, none⟩ (.slice (some ⟨g6, 0, none⟩) (nl + 1) cap6)).cell? ⟨B, 5, none⟩ = some (.int .i64 u.h) ∧ (w9.setCell ⟨vb, 4, none⟩ (.slice (some ⟨g6, 0, none⟩) (nl + 1) cap6)).cell? ⟨B, 6, none⟩ = some (.int .u64 u.i) ∧ (w9.setCell ⟨vb, 4, none⟩ (.slice (some ⟨g6, 0, none⟩) (nl + 1) cap6)).cell? ⟨B, 7, none⟩ = some (.int .u64 u.g) ∧ (w9.setCell ⟨vb, 4, none⟩ (.slice (some ⟨g6, 0, none⟩) (nl + 1) cap6)).cell? ⟨B, 8, none⟩ = some (.int .u64 u.d) ∧ (w9.setCell ⟨vb, 4, none⟩ (.slice (some ⟨g6, 0, none⟩) (nl + 1) cap6)).cell? ⟨B, 9, none⟩ = some (.int .u64 u.p) ∧ (w9.setCell ⟨vb, 4, none⟩ (.slice (some ⟨g6, 0, none⟩) (nl + 1) cap6)).cell? ⟨B, 10, none⟩ = some (.int .u64 u.q) ∧ (w9.setCell ⟨vb, 4, none⟩ (.slice (some ⟨g6, 0, none⟩) (nl + 1) cap6)).cell? ⟨B, 11, none⟩ = some (.int .i64 u.e) := ⟨cS.keeps S3.1 nbb, cS.keeps S3.2.1 nbb, cS.keeps S3.2.2.1 nbb, cS.keeps S3.2.2.2.1 nbb, cS.keeps S3.2.2.2.2.1 nbb, cS.keeps S3.2.2.2.2.2.1 nbb, cS.keeps S3.2.2.2.2.2.2.1 nbb, cS.keeps S3.2.2.2.2.2.2.2.1 nbb, cS.keeps S3.2.2.2.2.2.2.2.2.1 nbb, cS.keeps S3.2.2.2.2.2.2.2.2.2 nbb⟩
  refine hK.out _ _ S4 (fun hh => ?_)
  clear hK K hh
  (try simp only [Act.put, List.setIfInBounds_toArray, List.set_cons_zero, List.set_cons_succ])
  refine wpAnyH_done (by kernel_rfl) ?_ _
  have C3 := Lib.hid c3
  have CS := Lib.hid cS
  clear S3 S4 c3 z3 cS
  go_wp2
  go_ret2
  have hXs : w.heap.size ≤ X.heap.size := CW.out.size
  have FX := Lib.hid (fun k (hk : RfS vb a k) => R8.out.lt hk)
  have gf : g6 ≠ vb := fun e => by
    rcases AT.out with h | h
    · exact nar (e ▸ h)
    · have := FX.out vb (.inl rfl); omega
  have eL : s.L = L := HLS.out.symm
  refine ⟨some ⟨g6, 0, none⟩, cap6, rfl, ⟨?_, ?_, fun e => by cases e; exact gf rfl⟩, ?_, fun k hk => ?_⟩
  · have := (R8.out.v.kept C9.out nar).setAt 4 (.slice (some ⟨g6, 0, none⟩) (nl + 1) cap6)
    show IsVs _ _ [.int .i64 (s.i : Nat), .int .i64 (s.b : Nat), .bool s.cl, .int .u64 (s.t : Nat), .slice (some ⟨g6, 0, none⟩) (s.L ++ [u]).length cap6]
    rw [List.length_append, eL, ← HNL.out]
    exact this
  · show Row _ _ _ _ (s.L ++ [u]).length _ (ec (s.L ++ [u]))
    rw [eL, List.length_append, ← HNL.out]
    exact Row.kept ROW.out CS.out (fun k hk e => by cases hk; have e' : g6 = vb := e; exact gf e')
  · exact ((CW.out.mono fun _ _ e => e.elim).then C9.out (fun k _ e => .inr e)).then CS.out (fun k _ e => .inl e)
  · cases hk
    rcases AT.out with h | h
    · exact .inl h
    · exact .inr (by dsimp only; omega)
end
end Go.Proofs.Ytkialefhjfoniaa
