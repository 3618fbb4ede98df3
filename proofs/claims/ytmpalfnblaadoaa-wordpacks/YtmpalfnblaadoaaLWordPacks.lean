/-
  Proved: for every state, gen and last the statement WordPacks returns true: a word of any parts, or the error, is the document's, and has these parts, and nothing that was there is changed. Conditions: none.
-/
import Derived.Test.YtmpalfnblaadoaaWordWalks4
import Derived.ProofKit
import Derived.OpenShut
import Derived.ChangeOld
import Derived.Below
namespace Go.Proofs.Ytmpalfnblaadoaa
open Go.ChangeShapes Go.WideShapes Go.ChangeAt Go.RowKit Verge
set_option linter.unusedVariables false

set_option maxHeartbeats 4000000 in
theorem WordPacks_walk (s g : Int) (l : Bool) (ws : (Lit.int .i64 s).wf = true) (wg : (Lit.int .u64 g).wf = true) (w : World) :
    Calls Try.prog 4 #[.int .i64 s, .int .u64 g, .bool l] w fun e w' => e = .returned (.bool true) ∧ Below w.heap.size w w' := by
  obtain ⟨ha, ha'⟩ := bounds_u64 wg
  obtain ⟨n, rfl⟩ := Int.eq_ofNat_of_zero_le ha
  have hn : n < 18446744073709551616 := by omega
  clear wg ha ha' ws
  by_cases h : 0 ≤ s ∧ s ≤ 6 ∧ n ≤ 4294967295
  · have HH := Lib.hid h
    obtain ⟨h0, h6, hg⟩ := h
    obtain ⟨k, rfl⟩ := Int.eq_ofNat_of_zero_le h0
    have hk : k ≤ 6 := by omega
    have HS := Lib.hid (mkW_st k n l hk)
    have HG := Lib.hid (mkW_gn k n l hk)
    have HL := Lib.hid (mkW_ls k n l hk)
    have HO := Lib.hid (mkW_ok k n l hk hg)
    have hm := mkW_lt k n l hk hg
    obtain ⟨m, em⟩ : ∃ m, mkW k n l = m := ⟨_, rfl⟩
    have HM := Lib.hid em
    rw [em] at hm HS HG HL HO
    clear em
    go_enter Try.func4, Try.ntmps4
    go_wp2_with fail
    refine (alive_any _).mono ?_
    rintro e w1 ⟨rfl, rfl⟩
    go_wp2_with fail
    refine (pack_any _ n l hn _).mono ?_
    rintro e w1 ⟨rfl, rfl⟩
    rw [if_pos HH.out, Int.toNat_natCast, HM.out]
    go_wp2_with fail
    refine (refWord_any k n l hk hg _).mono ?_
    rintro e w1 ⟨rfl, rfl⟩
    rw [HM.out]
    go_wp2_with fail
    refine (ok_any m (by omega) _).mono ?_
    rintro e w1 ⟨rfl, rfl⟩
    rw [HO.out]
    go_wp2_with fail
    refine (state_any m (by omega) _).mono ?_
    rintro e w1 ⟨rfl, rfl⟩
    rw [HO.out, if_pos rfl, HS.out]
    go_wp2_with fail
    refine (gen_any m (by omega) _).mono ?_
    rintro e w1 ⟨rfl, rfl⟩
    rw [HO.out, if_pos rfl, HG.out]
    go_wp2_with fail
    refine (last_any m (by omega) _).mono ?_
    rintro e w1 ⟨rfl, rfl⟩
    rw [HO.out, Bool.true_and, HL.out]
    go_wp2
    go_ret
    exact ⟨rfl, Below.refl _ _⟩
  · have HH := Lib.hid h
    have hc : s < 0 ∨ (0 ≤ s ∧ 6 < s) ∨ (0 ≤ s ∧ s ≤ 6 ∧ (4294967295 : Int) < n) := by omega
    clear h
    rcases hc with hc | ⟨hc0, hc⟩ | ⟨hc0, hc6, hc⟩
    all_goals
      go_enter Try.func4, Try.ntmps4
      go_wp2_with fail
      refine (alive_any _).mono ?_
      rintro e w1 ⟨rfl, rfl⟩
      go_wp2_with fail
      refine (pack_any _ n l hn _).mono ?_
      rintro e w1 ⟨rfl, rfl⟩
      rw [if_neg HH.out]
      go_wp2
      go_ret
      exact ⟨rfl, Below.refl _ _⟩

theorem WordPacks_own : ownKnob Try.prog.godebug = none := by kernel_rfl

set_option maxRecDepth 100000 in
theorem WordPacks_lifted (os : Os) (started : os.Started) (H : Type) (enc : TypeId × Value → H) :
    ReturnsInHanded {} Try.checked os 4 .any (Rows.wordPacksSpec.pre6 enc Try.prog Try.f4 Rows.wordPacksRow.domain false) (Rows.wordPacksSpec.post enc Try.prog Try.f4 false true false false) := by
  refine returnsInHanded_of_change (C := Try.checked) WordPacks_own started (by kernel_rfl) Try.func4
    (ChangeSpec.witness6 (enc := enc) (C := Try.checked) false ⟨#[], #[.int .i64 0, .int .u64 0, .bool false], []⟩ 8 (by kernel_rfl) (by kernel_rfl) (by kernel_rfl) (by kernel_rfl)) ?_
  intro W base args ds gs before hval0 hW hcnd _
  have hval : ∀ (j : Nat) t v, Try.f4.params[j]? = some t → args[j]? = some v → Value.okWide Try.prog W .any base t v := hval0
  have hW' := hW
  obtain ⟨p, q, hA0, hV, rfl, hfz, hnd⟩ := hW
  have hA : DataW.TrodAll enc Try.prog W 0 (fun _ => true) true Try.f4.params.toList args.toList ds p := hA0
  rw [Try.params4] at hA hval
  obtain ⟨v0, vs0, d0, ds0, p0, q0, hargs, rfl, rfl, h0, r0⟩ := trodAll_cons hA
  obtain ⟨v1, vs1, d1, ds1, p1, q1, rfl, rfl, rfl, h1, r1⟩ := trodAll_cons r0
  obtain ⟨v2, vs2, d2, ds2, p2, q2, rfl, rfl, rfl, h2, r2⟩ := trodAll_cons r1
  obtain ⟨rfl, rfl, rfl⟩ := trodAll_nil r2
  obtain rfl : args = #[v0, v1, v2] := by cases args; simp_all
  obtain ⟨rfl, rfl⟩ := trodVars_none hV
  obtain ⟨a0, rfl, rfl, rfl, w0⟩ := open_int Try.underlying3 (hval 0 3 v0 rfl rfl) h0
  obtain ⟨a1, rfl, rfl, rfl, w1⟩ := open_int Try.underlying22 (hval 1 22 v1 rfl rfl) h1
  obtain ⟨a2, rfl, rfl, rfl⟩ := open_bool Try.underlying4 (hval 2 4 v2 rfl rfl) h2
  clear hA0 hval0
  simp only [List.append_nil] at hW'
  refine (WordPacks_walk a0 a1 a2 w0 w1 W).mono fun e W' ⟨he, bel⟩ => ?_
  subst he
  exact ⟨_, rfl, _, _, _, [], _, [], hW', trodAll_mk1 (shut_bool Try.underlying4 _), (trodAll_cons_mk (shut_int Try.underlying3 w0) (trodAll_cons_mk (shut_int Try.underlying22 w1) (trodAll_cons_mk (shut_bool Try.underlying4 _) trodAll_mk0))), rfl, bel.frame _, fun h => by cases h⟩

theorem wordPacks_holds : Rows.WordPacksSaid :=
  OpenClaim.holds_of_wide 4 Try.f4 rfl rfl rfl rfl rfl rfl rfl ⟨rfl, rfl, rfl, rfl, rfl⟩ rfl rfl rfl rfl rfl (by kernel_rfl) Try.func4 (by kernel_rfl)
    (of_decide_eq_true (by kernel_rfl)) (by unfold Func.isWrapper; rw [if_neg (of_decide_eq_false (by kernel_rfl))]; exact ⟨rfl, rfl⟩)
    (fun os started H enc _ => WordPacks_lifted os started H enc)
end Go.Proofs.Ytmpalfnblaadoaa
