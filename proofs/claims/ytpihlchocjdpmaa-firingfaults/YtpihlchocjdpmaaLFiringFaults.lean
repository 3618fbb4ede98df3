/-
  Proved: for every l, start and period the statement FiringFaults returns true: the places of those that are early, or twice, are the document's, and whether they are a period apart; and nothing that was there is changed. Conditions: none.
-/
import Derived.Test.YtpihlchocjdpmaaFirAlive
import Derived.Test.YtpihlchocjdpmaaFirRhythm2
import Derived.Test.YtpihlchocjdpmaaFirTab
import Derived.ProofKit
import Derived.OpenShut
import Derived.ChangeOld
import Derived.Below
namespace Go.Proofs.Ytpihlchocjdpmaa
open Go.ChangeShapes Go.WideShapes Go.ChangeAt Go.RowKit Verge
set_option linter.unusedVariables false
set_option linter.unusedSimpArgs false
attribute [local go_sem] Oper.semAt_some

set_option maxRecDepth 100000 in
set_option maxHeartbeats 4000000 in
theorem FiringFaults_walk (ad : Option Addr) (len cap : Nat) (s p : Int) (ws : (Lit.int .u64 s).wf = true) (wp : (Lit.int .u64 p).wf = true) (w : World) (hv : IsTab [.i .u64, .i .u64, .i .u64, .i .u64] w ad len cap) :
    Calls Try.prog 4 #[.slice ad len cap, .int .u64 s, .int .u64 p] w fun e w' => e = .returned (.bool true) ∧ Below w.heap.size w w' := by
  obtain ⟨L, hlen, src, oks, -, hlc, hcm⟩ := Src.of_tab hv
  obtain ⟨s1, s2⟩ := bounds_u64 ws
  obtain ⟨s, rfl⟩ := Int.eq_ofNat_of_zero_le s1
  obtain ⟨p1, p2⟩ := bounds_u64 wp
  obtain ⟨p, rfl⟩ := Int.eq_ofNat_of_zero_le p1
  have hs : s < 18446744073709551616 := by omega
  have hp : p < 18446744073709551616 := by omega
  have HS := Lib.hid src
  have HO := Lib.hid oks
  have HL := Lib.hid hlen
  clear ws wp s1 s2 p1 p2 hv src oks hlen
  go_enter Try.func4, Try.ntmps4
  go_wp2_with fail
  refine (alive_any _).mono ?_
  rintro e w1 ⟨rfl, c1⟩
  have C1 := Lib.hid c1
  clear c1
  by_cases h200 : 100 < len
  · have hz : (100 : Int) < (len : Int) := by omega
    go_wp2
    go_ret
    exact ⟨rfl, C1.out.below (Nat.le_refl _) (fun _ _ e => e.elim)⟩
  · have hz : (len : Int) ≤ 100 := by omega
    obtain rfl := HL.out
    have S1 := Lib.hid (HS.out.kept C1.out (fun _ _ e => e))
    go_wp2_with fail
    refine (faults_of S1.out HO.out (by omega)).mono ?_
    rintro e w2 ⟨a2, cap2, rfl, r2, -, c2⟩
    have R2 := Lib.hid r2
    have C2 := Lib.hid (C1.out.trans c2)
    have S2 := Lib.hid (S1.out.kept c2 (fun _ _ e => e))
    clear r2 c2 C1 S1
    go_wp2_with fail
    refine (refFaults_of S2.out (by omega)).mono ?_
    rintro e w3 ⟨a3, cap3, rfl, r3, -, c3⟩
    have R3 := Lib.hid r3
    have R2' := Lib.hid (R2.out.kept c3 (fun _ _ e => e))
    have C3 := Lib.hid (C2.out.trans c3)
    have S3 := Lib.hid (S2.out.kept c3 (fun _ _ e => e))
    have HFL := Lib.hid (show (faultsTo L L.length).length ≤ 1000000 by have := faultsTo_le L L.length; omega)
    clear r3 c3 C2 S2 R2
    generalize (faultsTo L L.length).length = fl at *
    generalize qf (faultsTo L L.length) = fq at *
    go_wp2_with fail
    refine (ints_same R2'.out R3.out HFL.out).mono ?_
    rintro e w4 ⟨rfl, c4⟩
    have C4 := Lib.hid (C3.out.trans c4)
    have S4 := Lib.hid (S3.out.kept c4 (fun _ _ e => e))
    clear c4 C3 S3 R2' R3 HFL
    go_wp2_with fail
    refine (rhythm_of s p hs hp S4.out HO.out (by omega) hlc hcm).mono ?_
    rintro e w5 ⟨b1, rfl, hb1, c5⟩
    have C5 := Lib.hid (C4.out.trans c5)
    have S5 := Lib.hid (S4.out.kept c5 (fun _ _ e => e))
    have B1 := Lib.hid hb1
    clear c5 C4 S4 hb1
    go_wp2_with fail
    refine (refRhythm_of s p hs hp S5.out HO.out (by omega)).mono ?_
    rintro e w6 ⟨b2, rfl, hb2, c6⟩
    have C6 := Lib.hid (C5.out.trans c6)
    obtain rfl : b1 = b2 := Bool.eq_iff_iff.2 (B1.out.trans hb2.symm)
    clear c6 C5 S5 hb2 B1
    go_wp2
    go_ret
    exact ⟨by cases b1 <;> rfl, C6.out.below (Nat.le_refl _) (fun _ _ e => e.elim)⟩

theorem FiringFaults_own : ownKnob Try.prog.godebug = none := by kernel_rfl
theorem FiringFaults_laidOut : laidOutB Try.prog = true := by kernel_rfl

set_option maxRecDepth 100000 in
theorem FiringFaults_lifted (os : Os) (started : os.Started) (H : Type) (enc : TypeId × Value → H) :
    ReturnsInHanded {} Try.checked os 4 .any (Rows.firingFaultsSpec.pre6 enc Try.prog Try.f4 Rows.firingFaultsRow.domain false) (Rows.firingFaultsSpec.post enc Try.prog Try.f4 false true false false) := by
  refine returnsInHanded_of_change (C := Try.checked) FiringFaults_own started (by kernel_rfl) Try.func4
    (ChangeSpec.witness6 (enc := enc) (C := Try.checked) false ⟨#[], #[.slice none 0 0, .int .u64 0, .int .u64 0], []⟩ 8 (by kernel_rfl) (by kernel_rfl) (by kernel_rfl) (by kernel_rfl)) ?_
  intro W base args ds gs before hval0 hW hcnd _
  have hval : ∀ (j : Nat) t v, Try.f4.params[j]? = some t → args[j]? = some v → Value.okWide Try.prog W .any base t v := hval0
  have hW' := hW
  obtain ⟨p, q, hA0, hV, rfl, hfz, hnd⟩ := hW
  have hA : DataW.TrodAll enc Try.prog W 0 (fun _ => true) true Try.f4.params.toList args.toList ds p := hA0
  rw [Try.params4] at hA hval
  obtain ⟨v0, vs0, d0, ds0, p0, q0, hargs, rfl, rfl, h0, r0⟩ := trodAll_cons hA
  obtain ⟨v1, vs1, d1, ds1, p1, q1, rfl, rfl, rfl, h1, r1⟩ := trodAll_cons r0
  obtain ⟨v2, vs2, d2, ds2, p2, q2, rfl, rfl, rfl, h2, r2⟩ := trodAll_cons r1
  obtain ⟨rfl, rfl, rfl⟩ := trodAll_nil r2
  obtain rfl : args = #[v0, v1, v2] := by cases args; simp_all
  obtain ⟨rfl, rfl⟩ := trodVars_none hV
  obtain ⟨a0, len0, cap0, rfl⟩ := okWide_slice Try.underlying22 (hval 0 22 v0 rfl rfl)
  have k0 := h0
  have lt0 : ∀ x ∈ p0, x.block < W.heap.size := by obtain ⟨m, hm⟩ := k0; exact DataW.trod_lt m _ _ _ hm
  have w0 : IsTab [.i .u64, .i .u64, .i .u64, .i .u64] W a0 len0 cap0 := by
    obtain ⟨fuel, hf⟩ := h0
    exact open_tab _ Try.underlying22 Try.underlying43 (by kernel_rfl) (by kernel_rfl) hf
  obtain ⟨a1, rfl, rfl, rfl, w1⟩ := open_int Try.underlying23 (hval 1 23 v1 rfl rfl) h1
  obtain ⟨a2, rfl, rfl, rfl, w2⟩ := open_int Try.underlying23 (hval 2 23 v2 rfl rfl) h2
  clear hA0 hval0
  refine (FiringFaults_walk a0 len0 cap0 a1 a2 w1 w2 W w0).mono fun e W' ⟨he, bel⟩ => ?_
  subst he
  exact ⟨_, rfl, _, _, _, [], _, [], hW', trodAll_mk1 (shut_bool Try.underlying4 _), (trodAll_cons_mk (Below.trod FiringFaults_laidOut (by kernel_rfl) (of_decide_eq_true (by kernel_rfl)) k0 bel lt0) (trodAll_cons_mk (shut_int Try.underlying23 w1) (trodAll_cons_mk (shut_int Try.underlying23 w2) trodAll_mk0))), rfl, bel.frame _, fun h => by cases h⟩

theorem firingFaults_holds : Rows.FiringFaultsSaid :=
  OpenClaim.holds_of_wide 4 Try.f4 rfl rfl rfl rfl rfl rfl rfl ⟨rfl, rfl, rfl, rfl, rfl⟩ rfl rfl rfl rfl rfl (by kernel_rfl) Try.func4 (by kernel_rfl)
    (of_decide_eq_true (by kernel_rfl)) (by unfold Func.isWrapper; rw [if_neg (of_decide_eq_false (by kernel_rfl))]; exact ⟨rfl, rfl⟩)
    (fun os started H enc _ => FiringFaults_lifted os started H enc)
end Go.Proofs.Ytpihlchocjdpmaa
