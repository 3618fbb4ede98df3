/-
  Proved: for every a, b and level the statement TimesLevels returns true: by times.Cut, times.Apart and times.Zeros two times are cut alike at a level just if they are apart below it, and a time is alike to itself cut by as many digits as are 0, and by no more; nothing that was there is changed. Conditions: none.
-/
import Derived.Test.YtnabnmlpjhfmdaaTimesWalks7
import Derived.ProofKit
import Derived.OpenShut
import Derived.ChangeOld
import Derived.Below
namespace Go.Proofs.Ytnabnmlpjhfmdaa
open Go.ChangeShapes Go.WideShapes Go.ChangeAt Go.RowKit Verge
set_option linter.unusedVariables false

set_option maxHeartbeats 4000000 in
set_option maxRecDepth 1000000 in
theorem TimesLevels_walk (a b c : Int) (wa : (Lit.int .u64 a).wf = true) (wb : (Lit.int .u64 b).wf = true) (wc : (Lit.int .u8 c).wf = true) (w : World) :
    Calls Try.prog 7 #[.int .u64 a, .int .u64 b, .int .u8 c] w fun e w' => e = .returned (.bool true) ∧ Below w.heap.size w w' := by
  obtain ⟨ha, ha'⟩ := bounds_u64 wa
  obtain ⟨hb, hb'⟩ := bounds_u64 wb
  obtain ⟨x, rfl⟩ := Int.eq_ofNat_of_zero_le ha
  obtain ⟨y, rfl⟩ := Int.eq_ofNat_of_zero_le hb
  have hx : x < 18446744073709551616 := by omega
  have hy : y < 18446744073709551616 := by omega
  clear wa wb ha ha' hb hb'
  obtain ⟨hc, hc'⟩ := bounds_u8 wc
  obtain ⟨z, rfl⟩ := Int.eq_ofNat_of_zero_le hc
  clear wc
  obtain ⟨k, hk⟩ : ∃ k, k = z % 12 := ⟨_, rfl⟩
  have hk12 : k < 12 := by omega
  have hkz : (z : Int) % 12 = k := by omega
  have e1 := ct_eq_ap x y k hx hy (by omega)
  have E1 := Lib.hid e1
  clear hk e1
  go_enter Try.func7, Try.ntmps7
  go_wp2_with fail
  refine (alive_any _).mono ?_
  rintro e w1 ⟨rfl, hb1⟩
  go_wp2_with fail
  refine (cut_any x k hx _).mono ?_
  rintro e w2 ⟨rfl, rfl⟩
  rw [Int.toNat_natCast]
  go_wp2_with fail
  refine (cut_any y k hy _).mono ?_
  rintro e w2 ⟨rfl, rfl⟩
  rw [Int.toNat_natCast]
  go_wp2_with fail
  refine (zeros_any x hx _).mono ?_
  rintro e w2 ⟨n, hz, rfl, hb2⟩
  have hn11 : n ≤ 11 := hz.1
  have HZ := Lib.hid (ct_zeros x n hx hz)
  clear hz
  have h2 : Below w.heap.size w w2 := hb1.trans (hb2.mono hb1.size)
  go_wp2_with fail
  refine (apart_any x y hx hy _).mono ?_
  rintro e w3 ⟨rfl, hb3⟩
  have h3 : Below w.heap.size w w3 := h2.trans (hb3.mono h2.size)
  have e2 : (((ct x k : Nat) : Int) == ((ct y k : Nat) : Int)) = decide (ap x y 11 < (k : Int)) := by
    rw [Bool.eq_iff_iff, beq_iff_eq, decide_eq_true_iff, ← E1.out]; omega
  obtain ⟨q, hq⟩ : ∃ q, decide (ap x y 11 < (k : Int)) = q := ⟨_, rfl⟩
  rw [hq] at e2
  go_wp2_with fail
  refine (cut_any x n hx _).mono ?_
  rintro e w4 ⟨rfl, rfl⟩
  rw [Int.toNat_natCast, HZ.out.1]
  by_cases hn : n = 11
  · subst hn
    go_wp2
    go_ret
    exact ⟨rfl, h3⟩
  · have hn' : ((n : Int) == 11) = false := by rw [beq_eq_false_iff_ne]; omega
    have hct : (((ct x (n + 1) : Nat) : Int) != (x : Int)) = true := by
      rw [bne_iff_ne]
      rcases HZ.out.2 with h | h
      · exact absurd h hn
      · omega
    go_wp2_with fail
    refine (cut_any x _ hx _).mono ?_
    rintro e w4 ⟨rfl, rfl⟩
    rw [show ((n : Int) + 1).toNat = n + 1 by omega]
    go_wp2
    go_ret
    exact ⟨rfl, h3⟩

theorem TimesLevels_own : ownKnob Try.prog.godebug = none := by kernel_rfl

set_option maxRecDepth 100000 in
theorem TimesLevels_lifted (os : Os) (started : os.Started) (H : Type) (enc : TypeId × Value → H) :
    ReturnsInHanded {} Try.checked os 7 .any (Rows.timesLevelsSpec.pre6 enc Try.prog Try.f7 Rows.timesLevelsRow.domain false) (Rows.timesLevelsSpec.post enc Try.prog Try.f7 false true false false) := by
  refine returnsInHanded_of_change (C := Try.checked) TimesLevels_own started (by kernel_rfl) Try.func7
    (ChangeSpec.witness6 (enc := enc) (C := Try.checked) false ⟨#[], #[.int .u64 0, .int .u64 0, .int .u8 0], []⟩ 8 (by kernel_rfl) (by kernel_rfl) (by kernel_rfl) (by kernel_rfl)) ?_
  intro W base args ds gs before hval0 hW hcnd _
  have hval : ∀ (j : Nat) t v, Try.f7.params[j]? = some t → args[j]? = some v → Value.okWide Try.prog W .any base t v := hval0
  have hW' := hW
  obtain ⟨p, q, hA0, hV, rfl, hfz, hnd⟩ := hW
  have hA : DataW.TrodAll enc Try.prog W 0 (fun _ => true) true Try.f7.params.toList args.toList ds p := hA0
  rw [Try.params7] at hA hval
  obtain ⟨v0, vs0, d0, ds0, p0, q0, hargs, rfl, rfl, h0, r0⟩ := trodAll_cons hA
  obtain ⟨v1, vs1, d1, ds1, p1, q1, rfl, rfl, rfl, h1, r1⟩ := trodAll_cons r0
  obtain ⟨v2, vs2, d2, ds2, p2, q2, rfl, rfl, rfl, h2, r2⟩ := trodAll_cons r1
  obtain ⟨rfl, rfl, rfl⟩ := trodAll_nil r2
  obtain rfl : args = #[v0, v1, v2] := by cases args; simp_all
  obtain ⟨rfl, rfl⟩ := trodVars_none hV
  obtain ⟨a0, rfl, rfl, rfl, w0⟩ := open_int Try.underlying22 (hval 0 22 v0 rfl rfl) h0
  obtain ⟨a1, rfl, rfl, rfl, w1⟩ := open_int Try.underlying22 (hval 1 22 v1 rfl rfl) h1
  obtain ⟨a2, rfl, rfl, rfl, w2⟩ := open_int Try.underlying5 (hval 2 5 v2 rfl rfl) h2
  clear hA0 hval0
  simp only [List.append_nil] at hW'
  refine (TimesLevels_walk a0 a1 a2 w0 w1 w2 W).mono fun e W' ⟨he, bel⟩ => ?_
  subst he
  exact ⟨_, rfl, _, _, _, [], _, [], hW', trodAll_mk1 (shut_bool Try.underlying4 _), (trodAll_cons_mk (shut_int Try.underlying22 w0) (trodAll_cons_mk (shut_int Try.underlying22 w1) (trodAll_cons_mk (shut_int Try.underlying5 w2) trodAll_mk0))), rfl, bel.frame _, fun h => by cases h⟩

theorem timesLevels_holds : Rows.TimesLevelsSaid :=
  OpenClaim.holds_of_wide 7 Try.f7 rfl rfl rfl rfl rfl rfl rfl ⟨rfl, rfl, rfl, rfl, rfl⟩ rfl rfl rfl rfl rfl (by kernel_rfl) Try.func7 (by kernel_rfl)
    (of_decide_eq_true (by kernel_rfl)) (by unfold Func.isWrapper; rw [if_neg (of_decide_eq_false (by kernel_rfl))]; exact ⟨rfl, rfl⟩)
    (fun os started H enc _ => TimesLevels_lifted os started H enc)
end Go.Proofs.Ytnabnmlpjhfmdaa
