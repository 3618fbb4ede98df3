/-
  Proved: for every config and every number the statement FloorMade returns true: whether the config may be is the document's answer, and a floor has what its config says; and nothing that was there is changed. Conditions: none.
-/
import Derived.Test.YtkialefhjfoniaaFlMadeA
import Derived.Test.YtkialefhjfoniaaFlMadeB
import Derived.Test.YtkialefhjfoniaaFlMadeC
import Derived.Test.YtkialefhjfoniaaIntsArg
import Derived.ProofKit
import Derived.OpenShut
import Derived.ChangeOld
import Derived.Below
namespace Go.Proofs.Ytkialefhjfoniaa
open Go.ChangeShapes Go.WideShapes Go.ChangeAt Go.RowKit Verge
set_option linter.unusedVariables false
set_option linter.unusedSimpArgs false
attribute [local go_sem] Oper.semAt_some

set_option maxHeartbeats 8000000 in
set_option maxRecDepth 100000 in
theorem FloorMade_bad (c : Cf) (hc : ¬ cfOk c) (i : Int) (w : World) :
    Calls Try.prog 3 #[.agg #[.int .i64 c.s, .int .i64 c.c, .int .i64 c.r, .int .i64 c.m, .int .i64 c.k, .int .i64 c.l], .int .i64 i] w fun e w' => e = .returned (.bool true) ∧ Ch Nil w w' := by
  have cA : Ch Nil w (w.alloc (Obj.cells #[.int .i64 c.s, .int .i64 c.c, .int .i64 c.r, .int .i64 c.m, .int .i64 c.k, .int .i64 c.l] 23)) := (Ch.refl _ _).alloc _
  have bx : IsVs (w.alloc (Obj.cells #[.int .i64 c.s, .int .i64 c.c, .int .i64 c.r, .int .i64 c.m, .int .i64 c.k, .int .i64 c.l] 23)) w.heap.size (cfV c) := IsVs.new w (cfV c) 23
  have CA := Lib.hid cA
  have HC := Lib.hid hc
  clear cA hc
  go_enter Try.func3, Try.ntmps3
  go_upto_region 1 with (fail)
  generalize w.alloc (Obj.cells #[.int .i64 c.s, .int .i64 c.c, .int .i64 c.r, .int .i64 c.m, .int .i64 c.k, .int .i64 c.l] 23) = W at CA bx ⊢
  generalize w.heap.size = B at bx ⊢
  have BX := Lib.hid bx
  clear bx
  go_wp2_with fail
  refine (alive_any _).mono ?_
  rintro e w1 ⟨rfl, k1⟩
  have C1 := Lib.hid (CA.out.trans k1)
  have B1 := Lib.hid (BX.out.kept k1 (fun e => e))
  clear k1
  obtain ⟨c0, c1, c2, c3, c4, c5⟩ := B1.out.cells6
  go_wp2_with fail
  clear c0 c1 c2 c3 c4 c5
  refine (floorNew_bad c HC.out _).mono ?_
  rintro e w2 ⟨rfl, k2⟩
  have C2 := Lib.hid (C1.out.trans k2)
  have B2 := Lib.hid (B1.out.kept k2 (fun e => e))
  clear k2 C1 B1
  obtain ⟨c0, c1, c2, c3, c4, c5⟩ := B2.out.cells6
  go_wp2_with fail
  clear c0 c1 c2 c3 c4 c5
  refine (refCheck_of c _ false (Lib.hid (decide_eq_false HC.out).symm)).mono ?_
  rintro e w3 ⟨rfl, k3⟩
  have C3 := Lib.hid (C2.out.trans k3)
  have B3 := Lib.hid (B2.out.kept k3 (fun e => e))
  clear k3 C2 B2
  obtain ⟨c0, c1, c2, c3, c4, c5⟩ := B3.out.cells6
  go_wp2_with fail
  clear c0 c1 c2 c3 c4 c5
  refine (check_of c 8 (Lib.hid (by rw [if_neg HC.out])) _).mono ?_
  rintro e w4 ⟨rfl, k4⟩
  have C4 := Lib.hid (C3.out.trans k4)
  clear k4
  go_wp2
  go_ret
  exact ⟨rfl, C4.out⟩
theorem FloorMade_walk (a0 a1 a2 a3 a4 a5 i : Int) (w0 : (Lit.int .i64 a0).wf = true) (w1 : (Lit.int .i64 a1).wf = true) (w2 : (Lit.int .i64 a2).wf = true) (w3 : (Lit.int .i64 a3).wf = true) (w4 : (Lit.int .i64 a4).wf = true) (w5 : (Lit.int .i64 a5).wf = true) (wi : (Lit.int .i64 i).wf = true) (w : World) :
    Calls Try.prog 3 #[.agg #[.int .i64 a0, .int .i64 a1, .int .i64 a2, .int .i64 a3, .int .i64 a4, .int .i64 a5], .int .i64 i] w fun e w' => e = .returned (.bool true) ∧ Below w.heap.size w w' := by
  have fin : ∀ {P : Ending → World → Prop}, (∀ e w', P e w' → e = .returned (.bool true) ∧ Ch Nil w w') → Calls Try.prog 3 #[.agg #[.int .i64 a0, .int .i64 a1, .int .i64 a2, .int .i64 a3, .int .i64 a4, .int .i64 a5], .int .i64 i] w P → Calls Try.prog 3 #[.agg #[.int .i64 a0, .int .i64 a1, .int .i64 a2, .int .i64 a3, .int .i64 a4, .int .i64 a5], .int .i64 i] w fun e w' => e = .returned (.bool true) ∧ Below w.heap.size w w' :=
    fun h hc => hc.mono fun e w' hp => ⟨(h e w' hp).1, (h e w' hp).2.below (Nat.le_refl _) (fun _ _ e => e.elim)⟩
  by_cases hc : cfOk ⟨a0, a1, a2, a3, a4, a5⟩
  · have h0 : 1 ≤ a0 ∧ a0 ≤ 4 := hc 0 (by omega)
    have h1 : 1 ≤ a1 ∧ a1 ≤ 64 := hc 1 (by omega)
    have h2 : 1 ≤ a2 ∧ a2 ≤ 64 := hc 2 (by omega)
    have h3 : 1 ≤ a3 ∧ a3 ≤ 16 := hc 3 (by omega)
    obtain ⟨n, rfl⟩ := Int.eq_ofNat_of_zero_le (show 0 ≤ a0 by omega)
    obtain ⟨cp, rfl⟩ := Int.eq_ofNat_of_zero_le (show 0 ≤ a1 by omega)
    obtain ⟨rg, rfl⟩ := Int.eq_ofNat_of_zero_le (show 0 ≤ a2 by omega)
    obtain ⟨rm, rfl⟩ := Int.eq_ofNat_of_zero_le (show 0 ≤ a3 by omega)
    by_cases hi : 0 ≤ i
    · obtain ⟨j, rfl⟩ := Int.eq_ofNat_of_zero_le hi
      by_cases hj : j < n
      · exact fin (fun _ _ h => h) (FloorMade_in n cp rg rm a4 a5 hc j hj w)
      · exact fin (fun _ _ h => h) (FloorMade_behind n cp rg rm a4 a5 hc j hj w)
    · exact fin (fun _ _ h => h) (FloorMade_below n cp rg rm a4 a5 hc i hi w)
  · exact fin (fun _ _ h => h) (FloorMade_bad ⟨a0, a1, a2, a3, a4, a5⟩ hc i w)

theorem FloorMade_own : ownKnob Try.prog.godebug = none := by kernel_rfl

set_option maxRecDepth 100000 in
theorem FloorMade_lifted (os : Os) (started : os.Started) (H : Type) (enc : TypeId × Value → H) :
    ReturnsInHanded {} Try.checked os 3 .any (Rows.floorMadeSpec.pre6 enc Try.prog Try.f3 Rows.floorMadeRow.domain false) (Rows.floorMadeSpec.post enc Try.prog Try.f3 false true false false) := by
  refine returnsInHanded_of_change (C := Try.checked) FloorMade_own started (by kernel_rfl) Try.func3
    (ChangeSpec.witness6 (enc := enc) (C := Try.checked) false ⟨#[], #[.agg #[.int .i64 0, .int .i64 0, .int .i64 0, .int .i64 0, .int .i64 0, .int .i64 0], .int .i64 0], []⟩ 8 (by kernel_rfl) (by kernel_rfl) (by kernel_rfl) (by kernel_rfl)) ?_
  intro W base args ds gs before hval0 hW hcnd _
  have hval : ∀ (j : Nat) t v, Try.f3.params[j]? = some t → args[j]? = some v → Value.okWide Try.prog W .any base t v := hval0
  have hW' := hW
  obtain ⟨p, q, hA0, hV, rfl, hfz, hnd⟩ := hW
  have hA : DataW.TrodAll enc Try.prog W 0 (fun _ => true) true Try.f3.params.toList args.toList ds p := hA0
  rw [Try.params3] at hA hval
  obtain ⟨v0, vs0, d0, ds0, p0, q0, hargs, rfl, rfl, h0, r0⟩ := trodAll_cons hA
  obtain ⟨v1, vs1, d1, ds1, p1, q1, rfl, rfl, rfl, h1, r1⟩ := trodAll_cons r0
  obtain ⟨rfl, rfl, rfl⟩ := trodAll_nil r1
  obtain rfl : args = #[v0, v1] := by cases args; simp_all
  obtain ⟨rfl, rfl⟩ := trodVars_none hV
  obtain ⟨a00, a01, a02, a03, a04, a05, rfl, rfl, rfl, w00, w01, w02, w03, w04, w05⟩ := open_six six_fits (hval 0 23 v0 rfl rfl) h0
  obtain ⟨a1, rfl, rfl, rfl, w1⟩ := open_int Try.underlying3 (hval 1 3 v1 rfl rfl) h1
  clear hA0 hval0
  simp only [List.nil_append, List.append_nil] at hW'
  refine (FloorMade_walk a00 a01 a02 a03 a04 a05 a1 w00 w01 w02 w03 w04 w05 w1 W).mono fun e W' ⟨he, bel⟩ => ?_
  subst he
  exact ⟨_, rfl, _, _, _, [], _, [], hW', trodAll_mk1 (shut_bool Try.underlying4 _), (trodAll_cons_mk (shut_six six_fits w00 w01 w02 w03 w04 w05) (trodAll_cons_mk (shut_int Try.underlying3 w1) trodAll_mk0)), rfl, bel.frame _, fun h => by cases h⟩

theorem floorMade_holds : Rows.FloorMadeSaid :=
  OpenClaim.holds_of_wide 3 Try.f3 rfl rfl rfl rfl rfl rfl rfl ⟨rfl, rfl, rfl, rfl, rfl⟩ rfl rfl rfl rfl rfl (by kernel_rfl) Try.func3 (by kernel_rfl)
    (of_decide_eq_true (by kernel_rfl)) (by unfold Func.isWrapper; rw [if_neg (of_decide_eq_false (by kernel_rfl))]; exact ⟨rfl, rfl⟩)
    (fun os started H enc _ => FloorMade_lifted os started H enc)
end Go.Proofs.Ytkialefhjfoniaa
