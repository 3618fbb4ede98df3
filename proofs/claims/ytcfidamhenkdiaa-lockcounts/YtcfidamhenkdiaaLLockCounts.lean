/-
  Proved: for every row of acts the statement LockCounts returns true: a lock became somebody's just as often as a try said so; and nothing that was there is changed. Conditions: none.
-/
import Derived.Test.YtcfidamhenkdiaaLcA
import Derived.ProofKit
import Derived.OpenShut
import Derived.ChangeOld
import Derived.Below
namespace Go.Proofs.Ytcfidamhenkdiaa
open Go.ChangeShapes Go.WideShapes Go.ChangeAt Go.RowKit
set_option linter.unusedVariables false
set_option linter.unusedSimpArgs false
attribute [local go_sem] Oper.semAt_some

set_option maxRecDepth 100000 in
set_option maxHeartbeats 0 in
theorem LockCounts_walk (ad : Option Addr) (len cap : Nat)  (w : World) (hv : IsTab [.i .i64, .b] w ad len cap) :
    Calls Try.prog 6 #[.slice ad len cap] w fun e w' => e = .returned (.bool true) ∧ Below w.heap.size w w' := by
  have HV := Lib.hid hv
  have hsm := hv.small
  clear hv
  go_enter Try.func6, Try.ntmps6
  go_wp2_with fail
  refine (alive_any _).mono ?_
  rintro e w1 ⟨rfl, c1⟩
  have C1 := Lib.hid c1
  clear c1
  by_cases h200 : 200 < len
  · have hz : (200 : Int) < (len : Int) := by omega
    go_wp2
    go_ret
    exact ⟨rfl, C1.out.below (Nat.le_refl _) (fun _ _ e => e.elim)⟩
  · have hz : (len : Int) ≤ 200 := by omega
    go_wp2_with fail
    refine (new_lk _).mono ?_
    rintro e w2 ⟨rfl, s2, c2⟩
    have START : Hid (LkR w w2 w1.heap.size ⟨0, false, 0⟩ 0) := Lib.hid ⟨s2, Nat.le_refl _, C1.out.trans c2, C1.out.size⟩
    have HB : Hid (w1.heap.size < w2.heap.size) := Lib.hid s2.lt
    clear s2 c2
    go_wp2
    refine wp_mono (lcA_loop w w1.heap.size ad len cap HV.out (by omega) _ _ (by omega) ?hI) ?_
    case hI => exact ⟨⟨0, false, 0⟩, rfl, rfl, rfl, rfl, rfl, rfl, START.out⟩
    rename_i K hK
    intro e a' w' hp
    cases e with
    | exit n =>
      obtain ⟨rfl, H⟩ := hp
      exact hK _ _ (lc_end w w1.heap.size ad len cap HV.out (by omega) a' w' H)
    | ret => exact ret_done rfl hp
    | _ => exact hp.elim

theorem LockCounts_own : ownKnob Try.prog.godebug = none := by kernel_rfl
theorem LockCounts_laidOut : laidOutB Try.prog = true := by kernel_rfl

set_option maxRecDepth 100000 in
theorem LockCounts_lifted (os : Os) (started : os.Started) (H : Type) (enc : TypeId × Value → H) :
    ReturnsInHanded {} Try.checked os 6 .any (Rows.lockCountsSpec.pre6 enc Try.prog Try.f6 Rows.lockCountsRow.domain false) (Rows.lockCountsSpec.post enc Try.prog Try.f6 false true false false) := by
  refine returnsInHanded_of_change (C := Try.checked) LockCounts_own started (by kernel_rfl) Try.func6
    (ChangeSpec.witness6 (enc := enc) (C := Try.checked) false ⟨#[], #[.slice none 0 0], []⟩ 8 (by kernel_rfl) (by kernel_rfl) (by kernel_rfl) (by kernel_rfl)) ?_
  intro W base args ds gs before hval0 hW hcnd _
  have hval : ∀ (j : Nat) t v, Try.f6.params[j]? = some t → args[j]? = some v → Value.okWide Try.prog W .any base t v := hval0
  have hW' := hW
  obtain ⟨p, q, hA0, hV, rfl, hfz, hnd⟩ := hW
  have hA : DataW.TrodAll enc Try.prog W 0 (fun _ => true) true Try.f6.params.toList args.toList ds p := hA0
  rw [Try.params6] at hA hval
  obtain ⟨v0, vs0, d0, ds0, p0, q0, hargs, rfl, rfl, h0, r0⟩ := trodAll_cons hA
  obtain ⟨rfl, rfl, rfl⟩ := trodAll_nil r0
  obtain rfl : args = #[v0] := by cases args; simp_all
  obtain ⟨rfl, rfl⟩ := trodVars_none hV
  obtain ⟨a0, len0, cap0, rfl⟩ := okWide_slice Try.underlying22 (hval 0 22 v0 rfl rfl)
  have k0 := h0
  have lt0 : ∀ x ∈ p0, x.block < W.heap.size := by obtain ⟨m, hm⟩ := k0; exact DataW.trod_lt m _ _ _ hm
  have w0 : IsTab [.i .i64, .b] W a0 len0 cap0 := by
    obtain ⟨fuel, hf⟩ := h0
    exact open_tab _ Try.underlying22 Try.underlying30 (by kernel_rfl) (by kernel_rfl) hf
  clear hA0 hval0
  refine (LockCounts_walk a0 len0 cap0 W w0).mono fun e W' ⟨he, bel⟩ => ?_
  subst he
  exact ⟨_, rfl, _, _, _, [], _, [], hW', trodAll_mk1 (shut_bool Try.underlying4 _), (trodAll_cons_mk (Below.trod LockCounts_laidOut (by kernel_rfl) (of_decide_eq_true (by kernel_rfl)) k0 bel lt0) trodAll_mk0), rfl, bel.frame _, fun h => by cases h⟩

theorem lockCounts_holds : Rows.LockCountsSaid :=
  OpenClaim.holds_of_wide 6 Try.f6 rfl rfl rfl rfl rfl rfl rfl ⟨rfl, rfl, rfl, rfl, rfl⟩ rfl rfl rfl rfl rfl (by kernel_rfl) Try.func6 (by kernel_rfl)
    (of_decide_eq_true (by kernel_rfl)) (by unfold Func.isWrapper; rw [if_neg (of_decide_eq_false (by kernel_rfl))]; exact ⟨rfl, rfl⟩)
    (fun os started H enc _ => LockCounts_lifted os started H enc)
end Go.Proofs.Ytcfidamhenkdiaa
