/-
  Proved: for every n the statement ProgNone returns true: no program is done, and makes no step, and one of a zero stage, of a row of nothing, of a stage without a Do is done at once; and nothing that was there is changed. Conditions: none.
-/
import Derived.Test.YtjaalkjdpgnfjaaStgAlive
import Derived.Test.YtjaalkjdpgnfjaaStgUntil
import Derived.ProofKit
import Derived.OpenShut
import Derived.ChangeOld
import Derived.Below
namespace Go.Proofs.Ytjaalkjdpgnfjaa
open Go.ChangeShapes Go.WideShapes Go.ChangeAt Go.RowKit Verge
set_option linter.unusedVariables false
set_option linter.unusedSimpArgs false
attribute [local go_sem] Oper.semAt_some

theorem mod5 {t : Int} (wt : (Lit.int .u8 t).wf = true) : ∃ k : Nat, t.tmod 5 = k ∧ k < 5 := by
  obtain ⟨h0, h1⟩ := bounds_u8 wt
  obtain ⟨m, rfl⟩ := Int.eq_ofNat_of_zero_le h0
  exact ⟨m % 5, by rw [Int.tmod_eq_emod_of_nonneg (by omega)]; omega, by omega⟩
set_option maxHeartbeats 4000000 in
theorem ProgNone_walk (n : Int) (wa : (Lit.int .u8 n).wf = true) (w : World) :
    Calls Try.prog 6 #[.int .u8 n] w fun e w' => e = .returned (.bool true) ∧ Below w.heap.size w w' := by
  obtain ⟨k5, hk5, hk⟩ := mod5 wa
  have hw5 : IntKind.i64.wrap n = n := by
    obtain ⟨h0, h1⟩ := bounds_u8 wa
    exact IntWalk.i64_in _ (by omega)
  go_enter Try.func6, Try.ntmps6
  go_wp2_with fail
  refine (alive_any _).mono ?_
  rintro e w1 ⟨rfl, c1⟩
  have C1 := Lib.hid c1
  have N1 := Lib.hid (pg_new (X := fun k => k < w1.heap.size) (l := []) (Q := Triv) (S := Nil) (M := Nil) (v := .agg #[.nilFunc, .nilFunc]) (w := w1) ⟨_, .inl rfl, rfl⟩ (fun _ e => e) (fun _ e => e.elim) (fun _ e => e.elim) (fun k hk => ⟨hk, fun e => e⟩))
  clear c1
  go_wp2_with fail
  refine N1.out.mono ?_
  rintro e w2 ⟨b, rfl, p2, c2, hb2⟩
  have C2 := Lib.hid (C1.out.trans c2)
  have P2 := Lib.hid p2
  clear p2 c2 C1 N1
  go_wp2_with fail
  have c3 : Ch Nil w2 (w2.alloc (.cells #[.nilFunc, .nilFunc] 1)) := (Ch.refl _ _).alloc _
  have k3 : (w2.alloc (.cells #[.nilFunc, .nilFunc] 1)).cell? ⟨w2.heap.size, 0, none⟩ = some .nilFunc := by rw [cell_fresh]; rfl
  have k4 : (w2.alloc (.cells #[.nilFunc, .nilFunc] 1)).cell? ⟨w2.heap.size, 1, none⟩ = some .nilFunc := by rw [cell_fresh]; rfl
  generalize w2.alloc (.cells #[.nilFunc, .nilFunc] 1) = w3 at c3 k3 k4 ⊢
  refine (rowAll_of (S := Nil) (l := []) (Q0 := Triv) (F := [.nilFunc, .nilFunc]) (cap := 2) (.inl ⟨rfl, .inl ⟨rfl, trivial⟩⟩) (.inr ⟨w2.heap.size, 0, rfl, fun i v hi => ?_⟩) (fun _ e => e.elim) (by simp) (by simp) (by simp [maxLen])).mono ?_
  · have hl := (List.getElem?_eq_some_iff.1 hi).1
    simp at hl
    have : i = 0 ∨ i = 1 := by omega
    rcases this with rfl | rfl
    · cases hi; exact k3
    · cases hi; exact k4
  rintro e w4 ⟨v4, S4, rfl, st4, c4, s4, l4⟩
  have C4 := Lib.hid ((C2.out.trans c3).trans c4)
  have P4 := Lib.hid (P2.out.kept (c3.trans c4))
  have N4 := Lib.hid (pg_new (X := fun k => k < w4.heap.size) (M := Nil) st4 (fun _ e => e) (fun _ _ e => e) l4 (fun k hk => ⟨hk, fun e => e⟩))
  clear c3 c4 k3 k4 st4 s4 l4 C2 P2
  go_wp2_with fail
  refine N4.out.mono ?_
  rintro e w5 ⟨b5, rfl, p5, c5, hb5⟩
  have C5 := Lib.hid (C4.out.trans c5)
  have P5 := Lib.hid (P4.out.kept c5)
  have Q5 := Lib.hid p5
  clear p5 c5 C4 P4 N4
  go_wp2_with fail
  refine (until_fn _ _ _).mono ?_
  rintro e w6 ⟨rfl, c6⟩
  have C6 := Lib.hid (C5.out.trans c6)
  have P6 := Lib.hid (P5.out.kept c6)
  have Q6 := Lib.hid (Q5.out.kept c6)
  have N6 := Lib.hid (pg_new (X := fun k => k < w6.heap.size) (l := []) (Q := Triv) (S := Nil) (M := Nil) (v := .agg #[.func (.func 26) #[] #[], .nilFunc]) (w := w6) ⟨_, .inr ⟨_, _, rfl⟩, rfl⟩ (fun _ e => e) (fun _ e => e.elim) (fun _ e => e.elim) (fun k hk => ⟨hk, fun e => e⟩))
  clear c6 C5 P5 Q5
  go_wp2_with fail
  refine N6.out.mono ?_
  rintro e w7 ⟨b7, rfl, p7, c7, hb7⟩
  have C7 := Lib.hid (C6.out.trans c7)
  have P7 := Lib.hid (P6.out.kept c7)
  have Q7 := Lib.hid (Q6.out.kept c7)
  have R7 := Lib.hid p7
  clear c7 C6 P6 Q6 p7 N6
  go_wp2
  go_loopw [7] (fun i wr => ∃ k : Nat, k ≤ k5 ∧ i = .int .i64 k ∧ Ch Nil w7 wr) (fun i _ => k5 - (intOf i).toNat)
  case atStart => exact ⟨0, by omega, rfl, Ch.refl _ _⟩
  case round =>
    obtain ⟨k, hk1, rfl, hc⟩ := hrel
    have HC := Lib.hid hc
    clear hc
    by_cases hlt : k < k5
    · have hkz : (k : Int) < (k5 : Int) := by omega
      have D1 := Lib.hid (pStep_nil wr)
      go_wp2_with fail
      refine D1.out.mono ?_
      rintro e x1 ⟨rfl, d1⟩
      have G1 := Lib.hid (HC.out.trans d1)
      have D2 := Lib.hid ((P7.out.kept G1.out).stuck)
      clear d1 HC D1
      go_wp2_with fail
      refine D2.out.mono ?_
      rintro e x2 ⟨rfl, d2⟩
      have G2 := Lib.hid (G1.out.trans d2)
      have D3 := Lib.hid ((Q7.out.kept G2.out).stuck)
      clear d2 G1 D2
      go_wp2_with fail
      refine D3.out.mono ?_
      rintro e x3 ⟨rfl, d3⟩
      have G3 := Lib.hid (G2.out.trans d3)
      have D4 := Lib.hid ((R7.out.kept G3.out).stuck)
      clear d3 G2 D3
      go_wp2_with fail
      refine D4.out.mono ?_
      rintro e x4 ⟨rfl, d4⟩
      have G4 := Lib.hid (G3.out.trans d4)
      clear d4 G3 D4
      go_wp2
      go_roundw
      case rel => exact ⟨k + 1, by omega, by go_num, G4.out⟩
      case measure => simp [intOf]; omega
    · obtain rfl : k = k5 := by omega
      have D1 := Lib.hid (pDone_nil wr)
      go_wp2_with fail
      refine D1.out.mono ?_
      rintro e x1 ⟨rfl, d1⟩
      have G1 := Lib.hid (HC.out.trans d1)
      have D2 := Lib.hid (pMay_nil x1)
      clear d1 HC D1
      go_wp2_with fail
      refine D2.out.mono ?_
      rintro e x2 ⟨rfl, d2⟩
      have G2 := Lib.hid (G1.out.trans d2)
      have D3 := Lib.hid (pSteps_nil x2)
      clear d2 G1 D2
      go_wp2_with fail
      refine D3.out.mono ?_
      rintro e x3 ⟨rfl, d3⟩
      have G3 := Lib.hid (G2.out.trans d3)
      have D4 := Lib.hid ((P7.out.kept G3.out).done)
      clear d3 G2 D3
      go_wp2_with fail
      refine D4.out.mono ?_
      rintro e x4 ⟨rfl, d4⟩
      have G4 := Lib.hid (G3.out.trans d4)
      have D5 := Lib.hid ((P7.out.kept G4.out).may)
      clear d4 G3 D4
      simp only [List.isEmpty_nil]
      go_wp2_with fail
      refine D5.out.mono ?_
      rintro e x5 ⟨rfl, d5⟩
      have G5 := Lib.hid (G4.out.trans d5)
      have D6 := Lib.hid ((P7.out.kept G5.out).steps)
      clear d5 G4 D5
      simp only [List.isEmpty_nil]
      go_wp2_with fail
      refine D6.out.mono ?_
      rintro e x6 ⟨rfl, d6⟩
      have G6 := Lib.hid (G5.out.trans d6)
      have D7 := Lib.hid ((Q7.out.kept G6.out).done)
      clear d6 G5 D6
      go_wp2_with fail
      refine D7.out.mono ?_
      rintro e x7 ⟨rfl, d7⟩
      have G7 := Lib.hid (G6.out.trans d7)
      have D8 := Lib.hid ((R7.out.kept G7.out).done)
      clear d7 G6 D7
      simp only [List.isEmpty_nil]
      go_wp2_with fail
      refine D8.out.mono ?_
      rintro e x8 ⟨rfl, d8⟩
      have G8 := Lib.hid (G7.out.trans d8)
      have D9 := Lib.hid ((R7.out.kept G8.out).may)
      clear d8 G7 D8
      simp only [List.isEmpty_nil]
      go_wp2_with fail
      refine D9.out.mono ?_
      rintro e x9 ⟨rfl, d9⟩
      have G9 := Lib.hid (G8.out.trans d9)
      clear d9 G8 D9
      simp only [List.isEmpty_nil]
      go_wp2
      go_ret
      exact ⟨rfl, (C7.out.trans G9.out).below (Nat.le_refl _) (fun _ _ h => h.elim)⟩

theorem ProgNone_own : ownKnob Try.prog.godebug = none := by kernel_rfl

set_option maxRecDepth 100000 in
theorem ProgNone_lifted (os : Os) (started : os.Started) (H : Type) (enc : TypeId × Value → H) :
    ReturnsInHanded {} Try.checked os 6 .any (Rows.progNoneSpec.pre6 enc Try.prog Try.f6 Rows.progNoneRow.domain false) (Rows.progNoneSpec.post enc Try.prog Try.f6 false true false false) := by
  refine returnsInHanded_of_change (C := Try.checked) ProgNone_own started (by kernel_rfl) Try.func6
    (ChangeSpec.witness6 (enc := enc) (C := Try.checked) false ⟨#[], #[.int .u8 0], []⟩ 8 (by kernel_rfl) (by kernel_rfl) (by kernel_rfl) (by kernel_rfl)) ?_
  intro W base args ds gs before hval0 hW hcnd _
  have hval : ∀ (j : Nat) t v, Try.f6.params[j]? = some t → args[j]? = some v → Value.okWide Try.prog W .any base t v := hval0
  have hW' := hW
  obtain ⟨p, q, hA0, hV, rfl, hfz, hnd⟩ := hW
  have hA : DataW.TrodAll enc Try.prog W 0 (fun _ => true) true Try.f6.params.toList args.toList ds p := hA0
  rw [Try.params6] at hA hval
  obtain ⟨v0, vs0, d0, ds0, p0, q0, hargs, rfl, rfl, h0, r0⟩ := trodAll_cons hA
  obtain ⟨rfl, rfl, rfl⟩ := trodAll_nil r0
  obtain rfl : args = #[v0] := by cases args; simp_all
  obtain ⟨rfl, rfl⟩ := trodVars_none hV
  obtain ⟨a0, rfl, rfl, rfl, w0⟩ := open_int Try.underlying5 (hval 0 5 v0 rfl rfl) h0
  clear hA0 hval0
  simp only [List.append_nil] at hW'
  refine (ProgNone_walk a0 w0 W).mono fun e W' ⟨he, bel⟩ => ?_
  subst he
  exact ⟨_, rfl, _, _, _, [], _, [], hW', trodAll_mk1 (shut_bool Try.underlying4 _), (trodAll_cons_mk (shut_int Try.underlying5 w0) trodAll_mk0), rfl, bel.frame _, fun h => by cases h⟩

theorem progNone_holds : Rows.ProgNoneSaid :=
  OpenClaim.holds_of_wide 6 Try.f6 rfl rfl rfl rfl rfl rfl rfl ⟨rfl, rfl, rfl, rfl, rfl⟩ rfl rfl rfl rfl rfl (by kernel_rfl) Try.func6 (by kernel_rfl)
    (of_decide_eq_true (by kernel_rfl)) (by unfold Func.isWrapper; rw [if_neg (of_decide_eq_false (by kernel_rfl))]; exact ⟨rfl, rfl⟩)
    (fun os started H enc _ => ProgNone_lifted os started H enc)
end Go.Proofs.Ytjaalkjdpgnfjaa
