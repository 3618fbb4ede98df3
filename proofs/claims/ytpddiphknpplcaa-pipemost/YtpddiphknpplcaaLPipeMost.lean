/-
  Proved: for every room and row of picks the statement PipeMost returns true: the greatest number that ever was in the spill never falls, and is that which was seen; and nothing that was there is changed. Conditions: none.
-/
import Derived.Test.YtpddiphknpplcaaPmA
import Derived.ProofKit
import Derived.OpenShut
import Derived.ChangeOld
import Derived.Below
namespace Go.Proofs.Ytpddiphknpplcaa
open Go.ChangeShapes Go.WideShapes Go.ChangeAt Go.RowKit PI
set_option linter.unusedVariables false
set_option linter.unusedSimpArgs false
attribute [local go_sem] Oper.semAt_some

set_option maxRecDepth 100000 in
set_option maxHeartbeats 0 in
theorem PipeMost_walk (nz : Int) (ad : Option Addr) (len cap : Nat) (B : Nat → Bool) (wn : (Lit.int .u8 nz).wf = true) (w : World) (hv : IsBools w ad len cap B) :
    Calls Try.prog 6 #[.int .u8 nz, .slice ad len cap] w fun e w' => e = .returned (.bool true) ∧ Below w.heap.size w w' := by
  have HV := Lib.hid hv
  have hsm := hv.small
  obtain ⟨bz1, bz2⟩ := bounds_u8 wn
  clear hv wn
  have tm : nz.tmod 16 = nz % 16 := Int.tmod_eq_emod_of_nonneg bz1
  obtain ⟨r, hr⟩ : ∃ r : Nat, nz.tmod 16 = (r : Int) := ⟨(nz.tmod 16).toNat, by omega⟩
  have hr16 : r < 16 := by omega
  clear tm
  obtain ⟨n, hn⟩ : ∃ n : Nat, n = 1 + r := ⟨_, rfl⟩
  have hw1 : IntKind.i64.wrap nz = nz := IntWalk.i64_in _ (by omega)
  have hn1 : 1 + (r : Int) = (n : Int) := by omega
  have hw2 : IntKind.i64.wrap (n : Int) = (n : Int) := IntWalk.i64_in _ (by omega)
  have b1 : 1 ≤ n := by omega
  have b2 : n ≤ 16 := by omega
  clear hn hr16
  go_enter Try.func6, Try.ntmps6
  go_wp2_with fail
  refine (alive_any _).mono ?_
  rintro e w1 ⟨rfl, c1⟩
  have C1 := Lib.hid c1
  clear c1
  by_cases h200 : 200 < len
  · have hz : (200 : Int) < (len : Int) := by omega
    go_wp2
    go_ret
    exact ⟨rfl, C1.out.below (Nat.le_refl _) (fun _ _ e => e.elim)⟩
  · have hz : (len : Int) ≤ 200 := by omega
    go_wp2_with fail
    refine (new_prs n b1 b2 w w1 C1.out).mono ?_
    rintro e w2 ⟨pb, cb, S, rfl, p2, -, -⟩
    have START := Lib.hid p2
    clear p2
    go_wp2
    refine wp_mono (pmA_loop w pb cb n ad len cap B HV.out (by omega) b1 b2 _ _ (by omega) ?hI) ?_
    case hI => exact ⟨[], 0, S, rfl, rfl, rfl, rfl, rfl, rfl, ⟨START.out, by simp, by omega, by simp⟩⟩
    rename_i K hK
    intro e a' w' hp
    obtain ⟨rfl, H⟩ := Qx_inv hp
    exact hK _ _ (pm_end w pb cb n ad len cap B HV.out (by omega) b1 b2 a' w' H)

theorem PipeMost_own : ownKnob Try.prog.godebug = none := by kernel_rfl
theorem PipeMost_laidOut : laidOutB Try.prog = true := by kernel_rfl

set_option maxRecDepth 100000 in
theorem PipeMost_lifted (os : Os) (started : os.Started) (H : Type) (enc : TypeId × Value → H) :
    ReturnsInHanded {} Try.checked os 6 .any (Rows.pipeMostSpec.pre6 enc Try.prog Try.f6 Rows.pipeMostRow.domain false) (Rows.pipeMostSpec.post enc Try.prog Try.f6 false true false false) := by
  refine returnsInHanded_of_change (C := Try.checked) PipeMost_own started (by kernel_rfl) Try.func6
    (ChangeSpec.witness6 (enc := enc) (C := Try.checked) false ⟨#[], #[.int .u8 0, .slice none 0 0], []⟩ 8 (by kernel_rfl) (by kernel_rfl) (by kernel_rfl) (by kernel_rfl)) ?_
  intro W base args ds gs before hval0 hW hcnd _
  have hval : ∀ (j : Nat) t v, Try.f6.params[j]? = some t → args[j]? = some v → Value.okWide Try.prog W .any base t v := hval0
  have hW' := hW
  obtain ⟨p, q, hA0, hV, rfl, hfz, hnd⟩ := hW
  have hA : DataW.TrodAll enc Try.prog W 0 (fun _ => true) true Try.f6.params.toList args.toList ds p := hA0
  rw [Try.params6] at hA hval
  obtain ⟨v0, vs0, d0, ds0, p0, q0, hargs, rfl, rfl, h0, r0⟩ := trodAll_cons hA
  obtain ⟨v1, vs1, d1, ds1, p1, q1, rfl, rfl, rfl, h1, r1⟩ := trodAll_cons r0
  obtain ⟨rfl, rfl, rfl⟩ := trodAll_nil r1
  obtain rfl : args = #[v0, v1] := by cases args; simp_all
  obtain ⟨rfl, rfl⟩ := trodVars_none hV
  obtain ⟨a0, rfl, rfl, rfl, w0⟩ := open_int Try.underlying5 (hval 0 5 v0 rfl rfl) h0
  obtain ⟨a1, len1, cap1, rfl⟩ := okWide_slice Try.underlying47 (hval 1 47 v1 rfl rfl)
  have k1 := h1
  have lt1 : ∀ x ∈ p1, x.block < W.heap.size := by obtain ⟨m, hm⟩ := k1; exact DataW.trod_lt m _ _ _ hm
  obtain ⟨z1, w1⟩ : ∃ B, IsBools W a1 len1 cap1 B := by
    obtain ⟨fuel, hf⟩ := h1
    exact open_bools11 Try.underlying47 Try.underlying4 (by kernel_rfl) hf
  clear hA0 hval0
  refine (PipeMost_walk a0 a1 len1 cap1 z1 w0 W w1).mono fun e W' ⟨he, bel⟩ => ?_
  subst he
  exact ⟨_, rfl, _, _, _, [], _, [], hW', trodAll_mk1 (shut_bool Try.underlying4 _), (trodAll_cons_mk (shut_int Try.underlying5 w0) (trodAll_cons_mk (Below.trod PipeMost_laidOut (by kernel_rfl) (of_decide_eq_true (by kernel_rfl)) k1 bel lt1) trodAll_mk0)), rfl, bel.frame _, fun h => by cases h⟩

theorem pipeMost_holds : Rows.PipeMostSaid :=
  OpenClaim.holds_of_wide 6 Try.f6 rfl rfl rfl rfl rfl rfl rfl ⟨rfl, rfl, rfl, rfl, rfl⟩ rfl rfl rfl rfl rfl (by kernel_rfl) Try.func6 (by kernel_rfl)
    (of_decide_eq_true (by kernel_rfl)) (by unfold Func.isWrapper; rw [if_neg (of_decide_eq_false (by kernel_rfl))]; exact ⟨rfl, rfl⟩)
    (fun os started H enc _ => PipeMost_lifted os started H enc)
end Go.Proofs.Ytpddiphknpplcaa
