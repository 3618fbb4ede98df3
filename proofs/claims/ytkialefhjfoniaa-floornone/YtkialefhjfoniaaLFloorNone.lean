/-
  Proved: for every number and every event the statement FloorNone returns true: no floor has nothing, and does nothing; and nothing that was there is changed. Conditions: none.
-/
import Derived.Test.YtkialefhjfoniaaFlAlive
import Derived.Test.YtkialefhjfoniaaFlEv
import Derived.Test.YtkialefhjfoniaaIntsArg
import Derived.ProofKit
import Derived.OpenShut
import Derived.ChangeOld
import Derived.Below
namespace Go.Proofs.Ytkialefhjfoniaa
open Go.ChangeShapes Go.WideShapes Go.ChangeAt Go.RowKit Verge
set_option linter.unusedVariables false
set_option linter.unusedSimpArgs false
attribute [local go_sem] Oper.semAt_some

set_option maxHeartbeats 8000000 in
set_option maxRecDepth 100000 in
theorem FloorNone_go (i : Int) (u : Ev) (w : World) :
    Calls Try.prog 7 #[.int .i64 i, .agg #[.int .i64 u.k, .int .i64 u.t, .int .i64 u.c, .int .i64 u.h, .int .u64 u.i, .int .u64 u.g, .int .u64 u.d, .int .u64 u.p, .int .u64 u.q, .int .i64 u.e]] w fun e w' => e = .returned (.bool true) ∧ Ch Nil w w' := by
  have cA : Ch Nil w (w.alloc (Obj.cells #[.int .i64 u.k, .int .i64 u.t, .int .i64 u.c, .int .i64 u.h, .int .u64 u.i, .int .u64 u.g, .int .u64 u.d, .int .u64 u.p, .int .u64 u.q, .int .i64 u.e] 55)) := (Ch.refl _ _).alloc _
  have bx : IsVs (w.alloc (Obj.cells #[.int .i64 u.k, .int .i64 u.t, .int .i64 u.c, .int .i64 u.h, .int .u64 u.i, .int .u64 u.g, .int .u64 u.d, .int .u64 u.p, .int .u64 u.q, .int .i64 u.e] 55)) w.heap.size [.int .i64 u.k, .int .i64 u.t, .int .i64 u.c, .int .i64 u.h, .int .u64 u.i, .int .u64 u.g, .int .u64 u.d, .int .u64 u.p, .int .u64 u.q, .int .i64 u.e] := IsVs.new w [.int .i64 u.k, .int .i64 u.t, .int .i64 u.c, .int .i64 u.h, .int .u64 u.i, .int .u64 u.g, .int .u64 u.d, .int .u64 u.p, .int .u64 u.q, .int .i64 u.e] 55
  have CA := Lib.hid cA
  have heq := eqCf 0 0 0 0 0 0
  clear cA
  go_enter Try.func7, Try.ntmps7
  go_upto_region 1 with (fail)
  generalize w.alloc (Obj.cells #[.int .i64 u.k, .int .i64 u.t, .int .i64 u.c, .int .i64 u.h, .int .u64 u.i, .int .u64 u.g, .int .u64 u.d, .int .u64 u.p, .int .u64 u.q, .int .i64 u.e] 55) = W at CA bx ⊢
  generalize w.heap.size = B at bx ⊢
  have BX := Lib.hid bx
  clear bx
  go_wp2_with fail
  refine (alive_any _).mono ?_
  rintro e w1 ⟨rfl, c1⟩
  have C1 := Lib.hid (CA.out.trans c1)
  have BX1 := Lib.hid (BX.out.kept c1 (fun e => e))
  clear c1
  go_wp2_with fail
  refine (enter_nil _).mono ?_
  rintro e w2 ⟨rfl, c2⟩
  have C2 := Lib.hid (C1.out.trans c2)
  have BX2 := Lib.hid (BX1.out.kept c2 (fun e => e))
  clear c2 C1
  obtain ⟨x0, x1, x2, x3, x4, x5, x6, x7, x8, x9⟩ := BX2.out.cells10
  go_wp2_with fail
  refine (note_nil u _).mono ?_
  rintro e w3 ⟨rfl, c3⟩
  have C3 := Lib.hid (C2.out.trans c3)
  clear c3 C2 x0 x1 x2 x3 x4 x5 x6 x7 x8 x9
  go_wp2_with fail
  refine (turn_nil _).mono ?_
  rintro e w4 ⟨rfl, c4⟩
  have C4 := Lib.hid (C3.out.trans c4)
  clear c4 C3
  go_wp2_with fail
  refine (number_nil i _).mono ?_
  rintro e w5 ⟨rfl, c5⟩
  have C5 := Lib.hid (C4.out.trans c5)
  clear c5 C4
  go_wp2_with fail
  refine (config_nil _).mono ?_
  rintro e w6 ⟨rfl, c6⟩
  have C6 := Lib.hid (C5.out.trans c6)
  clear c6 C5
  go_wp2_with fail
  refine (slab_nil _).mono ?_
  rintro e w7 ⟨rfl, c7⟩
  have C7 := Lib.hid (C6.out.trans c7)
  clear c7 C6
  go_wp2_with fail
  refine (shard_nil i _).mono ?_
  rintro e w8 ⟨rfl, c8⟩
  have C8 := Lib.hid (C7.out.trans c8)
  clear c8 C7
  go_wp2_with fail
  refine (home_nil i _).mono ?_
  rintro e w9 ⟨rfl, c9⟩
  have C9 := Lib.hid (C8.out.trans c9)
  clear c9 C8
  go_wp2_with fail
  refine (pipe_nil _).mono ?_
  rintro e w10 ⟨rfl, c10⟩
  have C10 := Lib.hid (C9.out.trans c10)
  clear c10 C9
  go_wp2_with fail
  refine (log_nil _).mono ?_
  rintro e w11 ⟨rfl, c11⟩
  have C11 := Lib.hid (C10.out.trans c11)
  clear c11 C10
  go_wp2_with fail
  refine (leave_nil _).mono ?_
  rintro e w12 ⟨rfl, c12⟩
  have C12 := Lib.hid (C11.out.trans c12)
  clear c12 C11
  go_wp2_with fail
  refine (work_nil _).mono ?_
  rintro e w13 ⟨rfl, c13⟩
  have C13 := Lib.hid (C12.out.trans c13)
  clear c13 C12
  go_wp2_with fail
  refine (inside_nil _).mono ?_
  rintro e w14 ⟨rfl, c14⟩
  have C14 := Lib.hid (C13.out.trans c14)
  clear c14 C13
  go_wp2_with fail
  refine (busy_nil _).mono ?_
  rintro e w15 ⟨rfl, c15⟩
  have C15 := Lib.hid (C14.out.trans c15)
  clear c15 C14
  go_wp2_with fail
  refine (trace_nil _).mono ?_
  rintro e w16 ⟨rfl, c16⟩
  have C16 := Lib.hid (C15.out.trans c16)
  clear c16 C15
  go_wp2_with fail
  refine (shut_nil _).mono ?_
  rintro e w17 ⟨rfl, c17⟩
  have C17 := Lib.hid (C16.out.trans c17)
  clear c17 C16
  go_wp2_with fail
  refine (closed_nil _).mono ?_
  rintro e w18 ⟨rfl, c18⟩
  have C18 := Lib.hid (C17.out.trans c18)
  clear c18 C17
  go_wp2_with fail
  refine (now_nil _).mono ?_
  rintro e w19 ⟨rfl, c19⟩
  have C19 := Lib.hid (C18.out.trans c19)
  clear c19 C18
  go_wp2
  go_ret
  exact ⟨rfl, C19.out⟩
theorem FloorNone_walk (i a0 a1 a2 a3 a4 a5 a6 a7 a8 a9 : Int) (w0 : (Lit.int .i64 i).wf = true) (q0 : (Lit.int .i64 a0).wf = true) (q1 : (Lit.int .i64 a1).wf = true) (q2 : (Lit.int .i64 a2).wf = true) (q3 : (Lit.int .i64 a3).wf = true) (q4 : (Lit.int .u64 a4).wf = true) (q5 : (Lit.int .u64 a5).wf = true) (q6 : (Lit.int .u64 a6).wf = true) (q7 : (Lit.int .u64 a7).wf = true) (q8 : (Lit.int .u64 a8).wf = true) (q9 : (Lit.int .i64 a9).wf = true) (w : World) :
    Calls Try.prog 7 #[.int .i64 i, .agg #[.int .i64 a0, .int .i64 a1, .int .i64 a2, .int .i64 a3, .int .u64 a4, .int .u64 a5, .int .u64 a6, .int .u64 a7, .int .u64 a8, .int .i64 a9]] w fun e w' => e = .returned (.bool true) ∧ Below w.heap.size w w' :=
  (FloorNone_go i ⟨a0, a1, a2, a3, a4, a5, a6, a7, a8, a9⟩ w).mono fun e w' ⟨he, c⟩ => ⟨he, c.below (Nat.le_refl _) (fun _ _ e => e.elim)⟩

theorem FloorNone_own : ownKnob Try.prog.godebug = none := by kernel_rfl

set_option maxRecDepth 100000 in
theorem FloorNone_lifted (os : Os) (started : os.Started) (H : Type) (enc : TypeId × Value → H) :
    ReturnsInHanded {} Try.checked os 7 .any (Rows.floorNoneSpec.pre6 enc Try.prog Try.f7 Rows.floorNoneRow.domain false) (Rows.floorNoneSpec.post enc Try.prog Try.f7 false true false false) := by
  refine returnsInHanded_of_change (C := Try.checked) FloorNone_own started (by kernel_rfl) Try.func7
    (ChangeSpec.witness6 (enc := enc) (C := Try.checked) false ⟨#[], #[.int .i64 0, .agg #[.int .i64 0, .int .i64 0, .int .i64 0, .int .i64 0, .int .u64 0, .int .u64 0, .int .u64 0, .int .u64 0, .int .u64 0, .int .i64 0]], []⟩ 8 (by kernel_rfl) (by kernel_rfl) (by kernel_rfl) (by kernel_rfl)) ?_
  intro W base args ds gs before hval0 hW hcnd _
  have hval : ∀ (j : Nat) t v, Try.f7.params[j]? = some t → args[j]? = some v → Value.okWide Try.prog W .any base t v := hval0
  have hW' := hW
  obtain ⟨p, q, hA0, hV, rfl, hfz, hnd⟩ := hW
  have hA : DataW.TrodAll enc Try.prog W 0 (fun _ => true) true Try.f7.params.toList args.toList ds p := hA0
  rw [Try.params7] at hA hval
  obtain ⟨v0, vs0, d0, ds0, p0, q0, hargs, rfl, rfl, h0, r0⟩ := trodAll_cons hA
  obtain ⟨v1, vs1, d1, ds1, p1, q1, rfl, rfl, rfl, h1, r1⟩ := trodAll_cons r0
  obtain ⟨rfl, rfl, rfl⟩ := trodAll_nil r1
  obtain rfl : args = #[v0, v1] := by cases args; simp_all
  obtain ⟨rfl, rfl⟩ := trodVars_none hV
  obtain ⟨a0, rfl, rfl, rfl, w0⟩ := open_int Try.underlying3 (hval 0 3 v0 rfl rfl) h0
  obtain ⟨a10, a11, a12, a13, a14, a15, a16, a17, a18, a19, rfl, rfl, rfl, w10, w11, w12, w13, w14, w15, w16, w17, w18, w19⟩ := open_ten ten_fits (hval 1 55 v1 rfl rfl) h1
  clear hA0 hval0
  simp only [List.nil_append, List.append_nil] at hW'
  refine (FloorNone_walk a0 a10 a11 a12 a13 a14 a15 a16 a17 a18 a19 w0 w10 w11 w12 w13 w14 w15 w16 w17 w18 w19 W).mono fun e W' ⟨he, bel⟩ => ?_
  subst he
  exact ⟨_, rfl, _, _, _, [], _, [], hW', trodAll_mk1 (shut_bool Try.underlying4 _), (trodAll_cons_mk (shut_int Try.underlying3 w0) (trodAll_cons_mk (shut_ten ten_fits w10 w11 w12 w13 w14 w15 w16 w17 w18 w19) trodAll_mk0)), rfl, bel.frame _, fun h => by cases h⟩

theorem floorNone_holds : Rows.FloorNoneSaid :=
  OpenClaim.holds_of_wide 7 Try.f7 rfl rfl rfl rfl rfl rfl rfl ⟨rfl, rfl, rfl, rfl, rfl⟩ rfl rfl rfl rfl rfl (by kernel_rfl) Try.func7 (by kernel_rfl)
    (of_decide_eq_true (by kernel_rfl)) (by unfold Func.isWrapper; rw [if_neg (of_decide_eq_false (by kernel_rfl))]; exact ⟨rfl, rfl⟩)
    (fun os started H enc _ => FloorNone_lifted os started H enc)
end Go.Proofs.Ytkialefhjfoniaa
