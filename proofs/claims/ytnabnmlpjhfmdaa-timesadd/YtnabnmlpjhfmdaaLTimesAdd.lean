/-
  Proved: for every a and b the statement TimesAdd returns true: times.Add and times.Later answer the sum and the later time, or that there is none, and nothing that was there is changed. Conditions: none.
-/
import Derived.Test.YtnabnmlpjhfmdaaTimesWalks7
import Derived.ProofKit
import Derived.OpenShut
import Derived.ChangeOld
import Derived.Below
namespace Go.Proofs.Ytnabnmlpjhfmdaa
open Go.ChangeShapes Go.WideShapes Go.ChangeAt Go.RowKit Verge
set_option linter.unusedVariables false

set_option maxHeartbeats 4000000 in
set_option maxRecDepth 1000000 in
theorem TimesAdd_walk (a b : Int) (wa : (Lit.int .u64 a).wf = true) (wb : (Lit.int .u64 b).wf = true) (w : World) :
    Calls Try.prog 6 #[.int .u64 a, .int .u64 b] w fun e w' => e = .returned (.bool true) ∧ Below w.heap.size w w' := by
  obtain ⟨ha, ha'⟩ := bounds_u64 wa
  obtain ⟨hb, hb'⟩ := bounds_u64 wb
  clear wa wb
  go_enter Try.func6, Try.ntmps6
  go_wp2_with fail
  refine (alive_any _).mono ?_
  rintro e w1 ⟨rfl, hb1⟩
  by_cases h : a + b < 18446744073709551616
  · by_cases hg : b = 18446744073709551615
    · obtain rfl : a = 0 := by omega
      subst hg
      go_wp2_with fail
      refine (add_ok _ _ (by omega) (by omega) (by omega) _).mono ?_
      rintro e w2 ⟨rfl, rfl⟩
      go_wp2_with fail
      refine (later_over _ _).mono ?_
      rintro e w2 ⟨rfl, rfl⟩
      go_wp2
      go_ret
      exact ⟨rfl, hb1⟩
    · have hb2 : b < 18446744073709551615 := by omega
      have hg' : (b == 18446744073709551615) = false := by rw [beq_eq_false_iff_ne]; exact hg
      clear hg
      go_wp2_with fail
      refine (add_ok a b ha hb h _).mono ?_
      rintro e w2 ⟨rfl, rfl⟩
      go_wp2_with fail
      refine (later_ok a b ha (by omega) hb hb2 _).mono ?_
      rintro e w2 ⟨rfl, rfl⟩
      by_cases hm : a ≤ b + 1
      · rw [show max a (b + 1) = b + 1 by omega]
        by_cases hm2 : a = b + 1
        · have e1 : (b + 1 == a) = true := by rw [beq_iff_eq]; omega
          go_wp2
          go_ret
          exact ⟨rfl, hb1⟩
        · have e1 : (b + 1 == a) = false := by rw [beq_eq_false_iff_ne]; omega
          go_wp2
          go_ret
          exact ⟨rfl, hb1⟩
      · rw [show max a (b + 1) = a by omega]
        go_wp2
        go_ret
        exact ⟨rfl, hb1⟩
  · have h' : 18446744073709551616 ≤ a + b := by omega
    clear h
    by_cases hg : b = 18446744073709551615
    · subst hg
      go_wp2_with fail
      refine (add_over _ _ (by omega) (by omega) (by omega) (by omega) (by omega) _).mono ?_
      rintro e w2 ⟨rfl, rfl⟩
      go_wp2_with fail
      refine (later_over _ _).mono ?_
      rintro e w2 ⟨rfl, rfl⟩
      go_wp2
      go_ret
      exact ⟨rfl, hb1⟩
    · have hb2 : b < 18446744073709551615 := by omega
      have hg' : (b == 18446744073709551615) = false := by rw [beq_eq_false_iff_ne]; exact hg
      clear hg
      go_wp2_with fail
      refine (add_over a b ha (by omega) hb (by omega) h' _).mono ?_
      rintro e w2 ⟨rfl, rfl⟩
      go_wp2_with fail
      refine (later_ok a b ha (by omega) hb hb2 _).mono ?_
      rintro e w2 ⟨rfl, rfl⟩
      by_cases hm : a ≤ b + 1
      · rw [show max a (b + 1) = b + 1 by omega]
        by_cases hm2 : a = b + 1
        · have e1 : (b + 1 == a) = true := by rw [beq_iff_eq]; omega
          go_wp2
          go_ret
          exact ⟨rfl, hb1⟩
        · have e1 : (b + 1 == a) = false := by rw [beq_eq_false_iff_ne]; omega
          go_wp2
          go_ret
          exact ⟨rfl, hb1⟩
      · rw [show max a (b + 1) = a by omega]
        go_wp2
        go_ret
        exact ⟨rfl, hb1⟩

theorem TimesAdd_own : ownKnob Try.prog.godebug = none := by kernel_rfl

set_option maxRecDepth 100000 in
theorem TimesAdd_lifted (os : Os) (started : os.Started) (H : Type) (enc : TypeId × Value → H) :
    ReturnsInHanded {} Try.checked os 6 .any (Rows.timesAddSpec.pre6 enc Try.prog Try.f6 Rows.timesAddRow.domain false) (Rows.timesAddSpec.post enc Try.prog Try.f6 false true false false) := by
  refine returnsInHanded_of_change (C := Try.checked) TimesAdd_own started (by kernel_rfl) Try.func6
    (ChangeSpec.witness6 (enc := enc) (C := Try.checked) false ⟨#[], #[.int .u64 0, .int .u64 0], []⟩ 8 (by kernel_rfl) (by kernel_rfl) (by kernel_rfl) (by kernel_rfl)) ?_
  intro W base args ds gs before hval0 hW hcnd _
  have hval : ∀ (j : Nat) t v, Try.f6.params[j]? = some t → args[j]? = some v → Value.okWide Try.prog W .any base t v := hval0
  have hW' := hW
  obtain ⟨p, q, hA0, hV, rfl, hfz, hnd⟩ := hW
  have hA : DataW.TrodAll enc Try.prog W 0 (fun _ => true) true Try.f6.params.toList args.toList ds p := hA0
  rw [Try.params6] at hA hval
  obtain ⟨v0, vs0, d0, ds0, p0, q0, hargs, rfl, rfl, h0, r0⟩ := trodAll_cons hA
  obtain ⟨v1, vs1, d1, ds1, p1, q1, rfl, rfl, rfl, h1, r1⟩ := trodAll_cons r0
  obtain ⟨rfl, rfl, rfl⟩ := trodAll_nil r1
  obtain rfl : args = #[v0, v1] := by cases args; simp_all
  obtain ⟨rfl, rfl⟩ := trodVars_none hV
  obtain ⟨a0, rfl, rfl, rfl, w0⟩ := open_int Try.underlying22 (hval 0 22 v0 rfl rfl) h0
  obtain ⟨a1, rfl, rfl, rfl, w1⟩ := open_int Try.underlying22 (hval 1 22 v1 rfl rfl) h1
  clear hA0 hval0
  simp only [List.append_nil] at hW'
  refine (TimesAdd_walk a0 a1 w0 w1 W).mono fun e W' ⟨he, bel⟩ => ?_
  subst he
  exact ⟨_, rfl, _, _, _, [], _, [], hW', trodAll_mk1 (shut_bool Try.underlying4 _), (trodAll_cons_mk (shut_int Try.underlying22 w0) (trodAll_cons_mk (shut_int Try.underlying22 w1) trodAll_mk0)), rfl, bel.frame _, fun h => by cases h⟩

theorem timesAdd_holds : Rows.TimesAddSaid :=
  OpenClaim.holds_of_wide 6 Try.f6 rfl rfl rfl rfl rfl rfl rfl ⟨rfl, rfl, rfl, rfl, rfl⟩ rfl rfl rfl rfl rfl (by kernel_rfl) Try.func6 (by kernel_rfl)
    (of_decide_eq_true (by kernel_rfl)) (by unfold Func.isWrapper; rw [if_neg (of_decide_eq_false (by kernel_rfl))]; exact ⟨rfl, rfl⟩)
    (fun os started H enc _ => TimesAdd_lifted os started H enc)
end Go.Proofs.Ytnabnmlpjhfmdaa
