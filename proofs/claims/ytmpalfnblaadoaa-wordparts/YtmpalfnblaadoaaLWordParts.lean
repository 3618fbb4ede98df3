/-
  Proved: for every n the statement WordParts returns true: the parts of any number, and whether it may be, are the document's, and nothing that was there is changed. Conditions: none.
-/
import Derived.Test.YtmpalfnblaadoaaWordWalks4
import Derived.ProofKit
import Derived.OpenShut
import Derived.ChangeOld
import Derived.Below
namespace Go.Proofs.Ytmpalfnblaadoaa
open Go.ChangeShapes Go.WideShapes Go.ChangeAt Go.RowKit Verge
set_option linter.unusedVariables false

set_option maxHeartbeats 4000000 in
theorem WordParts_walk (a : Int) (wa : (Lit.int .u64 a).wf = true) (w : World) :
    Calls Try.prog 3 #[.int .u64 a] w fun e w' => e = .returned (.bool true) ∧ Below w.heap.size w w' := by
  obtain ⟨ha, ha'⟩ := bounds_u64 wa
  obtain ⟨n, rfl⟩ := Int.eq_ofNat_of_zero_le ha
  have hn : n < 18446744073709551616 := by omega
  clear wa ha ha'
  cases hok : okW n
  all_goals
    have HO := Lib.hid hok
    clear hok
    go_enter Try.func3, Try.ntmps3
    go_wp2_with fail
    refine (alive_any _).mono ?_
    rintro e w1 ⟨rfl, rfl⟩
    go_wp2_with fail
    refine (parts_any n hn _).mono ?_
    rintro e w1 ⟨rfl, rfl⟩
    rw [HO.out]
    simp only [Bool.false_eq_true, if_false, if_true, Bool.true_and, Bool.false_and]
    go_wp2_with fail
    refine (ok_any n hn _).mono ?_
    rintro e w1 ⟨rfl, rfl⟩
    rw [HO.out]
    go_wp2_with fail
    refine (state_any n hn _).mono ?_
    rintro e w1 ⟨rfl, rfl⟩
    rw [HO.out]
    simp only [Bool.false_eq_true, if_false, if_true]
    go_wp2_with fail
    refine (gen_any n hn _).mono ?_
    rintro e w1 ⟨rfl, rfl⟩
    rw [HO.out]
    simp only [Bool.false_eq_true, if_false, if_true]
    go_wp2_with fail
    refine (last_any n hn _).mono ?_
    rintro e w1 ⟨rfl, rfl⟩
    rw [HO.out]
    simp only [Bool.true_and, Bool.false_and]
    go_wp2
    go_ret
    exact ⟨rfl, Below.refl _ _⟩

theorem WordParts_own : ownKnob Try.prog.godebug = none := by kernel_rfl

set_option maxRecDepth 100000 in
theorem WordParts_lifted (os : Os) (started : os.Started) (H : Type) (enc : TypeId × Value → H) :
    ReturnsInHanded {} Try.checked os 3 .any (Rows.wordPartsSpec.pre6 enc Try.prog Try.f3 Rows.wordPartsRow.domain false) (Rows.wordPartsSpec.post enc Try.prog Try.f3 false true false false) := by
  refine returnsInHanded_of_change (C := Try.checked) WordParts_own started (by kernel_rfl) Try.func3
    (ChangeSpec.witness6 (enc := enc) (C := Try.checked) false ⟨#[], #[.int .u64 0], []⟩ 8 (by kernel_rfl) (by kernel_rfl) (by kernel_rfl) (by kernel_rfl)) ?_
  intro W base args ds gs before hval0 hW hcnd _
  have hval : ∀ (j : Nat) t v, Try.f3.params[j]? = some t → args[j]? = some v → Value.okWide Try.prog W .any base t v := hval0
  have hW' := hW
  obtain ⟨p, q, hA0, hV, rfl, hfz, hnd⟩ := hW
  have hA : DataW.TrodAll enc Try.prog W 0 (fun _ => true) true Try.f3.params.toList args.toList ds p := hA0
  rw [Try.params3] at hA hval
  obtain ⟨v0, vs0, d0, ds0, p0, q0, hargs, rfl, rfl, h0, r0⟩ := trodAll_cons hA
  obtain ⟨rfl, rfl, rfl⟩ := trodAll_nil r0
  obtain rfl : args = #[v0] := by cases args; simp_all
  obtain ⟨rfl, rfl⟩ := trodVars_none hV
  obtain ⟨a0, rfl, rfl, rfl, w0⟩ := open_int Try.underlying22 (hval 0 22 v0 rfl rfl) h0
  clear hA0 hval0
  simp only [List.append_nil] at hW'
  refine (WordParts_walk a0 w0 W).mono fun e W' ⟨he, bel⟩ => ?_
  subst he
  exact ⟨_, rfl, _, _, _, [], _, [], hW', trodAll_mk1 (shut_bool Try.underlying4 _), (trodAll_cons_mk (shut_int Try.underlying22 w0) trodAll_mk0), rfl, bel.frame _, fun h => by cases h⟩

theorem wordParts_holds : Rows.WordPartsSaid :=
  OpenClaim.holds_of_wide 3 Try.f3 rfl rfl rfl rfl rfl rfl rfl ⟨rfl, rfl, rfl, rfl, rfl⟩ rfl rfl rfl rfl rfl (by kernel_rfl) Try.func3 (by kernel_rfl)
    (of_decide_eq_true (by kernel_rfl)) (by unfold Func.isWrapper; rw [if_neg (of_decide_eq_false (by kernel_rfl))]; exact ⟨rfl, rfl⟩)
    (fun os started H enc _ => WordParts_lifted os started H enc)
end Go.Proofs.Ytmpalfnblaadoaa
