/-
  Proved: for every a, b and c the statement TimesThird returns true: of three times the level at which two differ is never above both others' levels, by times.Apart, and nothing that was there is changed. Conditions: none.
-/
import Derived.Test.YtnabnmlpjhfmdaaTimesWalks7
import Derived.ProofKit
import Derived.OpenShut
import Derived.ChangeOld
import Derived.Below
namespace Go.Proofs.Ytnabnmlpjhfmdaa
open Go.ChangeShapes Go.WideShapes Go.ChangeAt Go.RowKit Verge
set_option linter.unusedVariables false

set_option maxHeartbeats 4000000 in
set_option maxRecDepth 1000000 in
theorem TimesThird_walk (a b c : Int) (wa : (Lit.int .u64 a).wf = true) (wb : (Lit.int .u64 b).wf = true) (wc : (Lit.int .u64 c).wf = true) (w : World) :
    Calls Try.prog 8 #[.int .u64 a, .int .u64 b, .int .u64 c] w fun e w' => e = .returned (.bool true) ∧ Below w.heap.size w w' := by
  obtain ⟨ha, ha'⟩ := bounds_u64 wa
  obtain ⟨hb, hb'⟩ := bounds_u64 wb
  obtain ⟨x, rfl⟩ := Int.eq_ofNat_of_zero_le ha
  obtain ⟨y, rfl⟩ := Int.eq_ofNat_of_zero_le hb
  have hx : x < 18446744073709551616 := by omega
  have hy : y < 18446744073709551616 := by omega
  clear wa wb ha ha' hb hb'
  obtain ⟨hc, hc'⟩ := bounds_u64 wc
  obtain ⟨z, rfl⟩ := Int.eq_ofNat_of_zero_le hc
  have hz : z < 18446744073709551616 := by omega
  clear wc hc hc'
  obtain ⟨p, hp⟩ : ∃ p, ap x y 11 = p := ⟨_, rfl⟩
  obtain ⟨q, hq⟩ : ∃ q, ap y z 11 = q := ⟨_, rfl⟩
  obtain ⟨r, hr⟩ : ∃ r, ap x z 11 = r := ⟨_, rfl⟩
  have t1 := ap_third x y z
  have t2 := ap_third x z y
  have t3 := ap_third y x z
  rw [ap_symm z y] at t2
  rw [ap_symm y x] at t3
  rw [hp, hq, hr] at t1 t2 t3
  have cs : (p = q ∧ r < p) ∨ (p = q ∧ p = r) ∨ (p = r ∧ q < p) ∨ (q = r ∧ p < q) := by omega
  clear t1 t2 t3
  have HP := Lib.hid hp
  have HQ := Lib.hid hq
  have HR := Lib.hid hr
  have HC := Lib.hid cs
  clear hp hq hr cs
  go_enter Try.func8, Try.ntmps8
  go_wp2_with fail
  refine (alive_any _).mono ?_
  rintro e w1 ⟨rfl, hb1⟩
  go_wp2_with fail
  refine (apart_any x y hx hy _).mono ?_
  rintro e w2 ⟨rfl, hb2⟩
  rw [HP.out]
  go_wp2_with fail
  refine (apart_any y z hy hz _).mono ?_
  rintro e w3 ⟨rfl, hb3⟩
  rw [HQ.out]
  go_wp2_with fail
  refine (apart_any x z hx hz _).mono ?_
  rintro e w4 ⟨rfl, hb4⟩
  rw [HR.out]
  have h2 : Below w.heap.size w w2 := hb1.trans (hb2.mono hb1.size)
  have h3 : Below w.heap.size w w3 := h2.trans (hb3.mono h2.size)
  have h4 : Below w.heap.size w w4 := h3.trans (hb4.mono h3.size)
  rcases HC.out with ⟨rfl, hc1⟩ | ⟨rfl, rfl⟩ | ⟨rfl, hc1⟩ | ⟨rfl, hc1⟩
  all_goals
    clear HP HQ HR HC
    go_wp2
    go_ret
    exact ⟨rfl, h4⟩

theorem TimesThird_own : ownKnob Try.prog.godebug = none := by kernel_rfl

set_option maxRecDepth 100000 in
theorem TimesThird_lifted (os : Os) (started : os.Started) (H : Type) (enc : TypeId × Value → H) :
    ReturnsInHanded {} Try.checked os 8 .any (Rows.timesThirdSpec.pre6 enc Try.prog Try.f8 Rows.timesThirdRow.domain false) (Rows.timesThirdSpec.post enc Try.prog Try.f8 false true false false) := by
  refine returnsInHanded_of_change (C := Try.checked) TimesThird_own started (by kernel_rfl) Try.func8
    (ChangeSpec.witness6 (enc := enc) (C := Try.checked) false ⟨#[], #[.int .u64 0, .int .u64 0, .int .u64 0], []⟩ 8 (by kernel_rfl) (by kernel_rfl) (by kernel_rfl) (by kernel_rfl)) ?_
  intro W base args ds gs before hval0 hW hcnd _
  have hval : ∀ (j : Nat) t v, Try.f8.params[j]? = some t → args[j]? = some v → Value.okWide Try.prog W .any base t v := hval0
  have hW' := hW
  obtain ⟨p, q, hA0, hV, rfl, hfz, hnd⟩ := hW
  have hA : DataW.TrodAll enc Try.prog W 0 (fun _ => true) true Try.f8.params.toList args.toList ds p := hA0
  rw [Try.params8] at hA hval
  obtain ⟨v0, vs0, d0, ds0, p0, q0, hargs, rfl, rfl, h0, r0⟩ := trodAll_cons hA
  obtain ⟨v1, vs1, d1, ds1, p1, q1, rfl, rfl, rfl, h1, r1⟩ := trodAll_cons r0
  obtain ⟨v2, vs2, d2, ds2, p2, q2, rfl, rfl, rfl, h2, r2⟩ := trodAll_cons r1
  obtain ⟨rfl, rfl, rfl⟩ := trodAll_nil r2
  obtain rfl : args = #[v0, v1, v2] := by cases args; simp_all
  obtain ⟨rfl, rfl⟩ := trodVars_none hV
  obtain ⟨a0, rfl, rfl, rfl, w0⟩ := open_int Try.underlying22 (hval 0 22 v0 rfl rfl) h0
  obtain ⟨a1, rfl, rfl, rfl, w1⟩ := open_int Try.underlying22 (hval 1 22 v1 rfl rfl) h1
  obtain ⟨a2, rfl, rfl, rfl, w2⟩ := open_int Try.underlying22 (hval 2 22 v2 rfl rfl) h2
  clear hA0 hval0
  simp only [List.append_nil] at hW'
  refine (TimesThird_walk a0 a1 a2 w0 w1 w2 W).mono fun e W' ⟨he, bel⟩ => ?_
  subst he
  exact ⟨_, rfl, _, _, _, [], _, [], hW', trodAll_mk1 (shut_bool Try.underlying4 _), (trodAll_cons_mk (shut_int Try.underlying22 w0) (trodAll_cons_mk (shut_int Try.underlying22 w1) (trodAll_cons_mk (shut_int Try.underlying22 w2) trodAll_mk0))), rfl, bel.frame _, fun h => by cases h⟩

theorem timesThird_holds : Rows.TimesThirdSaid :=
  OpenClaim.holds_of_wide 8 Try.f8 rfl rfl rfl rfl rfl rfl rfl ⟨rfl, rfl, rfl, rfl, rfl⟩ rfl rfl rfl rfl rfl (by kernel_rfl) Try.func8 (by kernel_rfl)
    (of_decide_eq_true (by kernel_rfl)) (by unfold Func.isWrapper; rw [if_neg (of_decide_eq_false (by kernel_rfl))]; exact ⟨rfl, rfl⟩)
    (fun os started H enc _ => TimesThird_lifted os started H enc)
end Go.Proofs.Ytnabnmlpjhfmdaa
