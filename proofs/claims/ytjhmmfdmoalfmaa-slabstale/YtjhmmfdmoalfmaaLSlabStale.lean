/-
  Proved: for every times and event the statement SlabStale returns true: a number whose slot was given again is another one's, a word that was seen ahead cannot be tried any more, and no number that was not given is known; and nothing that was there is changed. Conditions: none.
-/
import Derived.Test.YtjhmmfdmoalfmaaStB
import Derived.ProofKit
import Derived.OpenShut
import Derived.ChangeOld
import Derived.Below
namespace Go.Proofs.Ytjhmmfdmoalfmaa
open Go.ChangeShapes Go.WideShapes Go.ChangeAt Go.RowKit Verge
set_option linter.unusedVariables false
set_option linter.unusedSimpArgs false
attribute [local go_sem] Oper.semAt_some

set_option maxRecDepth 100000 in
set_option maxHeartbeats 0 in
theorem SlabStale_walk (tz ev : Int) (wt : (Lit.int .u8 tz).wf = true) (we : (Lit.int .u8 ev).wf = true) (w : World) :
    Calls Try.prog 6 #[.int .u8 tz, .int .u8 ev] w fun e w' => e = .returned (.bool true) ∧ Below w.heap.size w w' := by
  obtain ⟨t1, t2⟩ := bounds_u8 wt
  obtain ⟨tz, rfl⟩ := Int.eq_ofNat_of_zero_le t1
  obtain ⟨e1, e2⟩ := bounds_u8 we
  obtain ⟨ev, rfl⟩ := Int.eq_ofNat_of_zero_le e1
  clear wt we t1 e1
  go_enter Try.func6, Try.ntmps6
  go_wp2_with fail
  refine (alive_any _).mono ?_
  rintro e w1 ⟨rfl, c1⟩
  have C1 := Lib.hid c1
  clear c1
  go_wp2_with fail
  refine (new_of 1 w1 (by decide) (by decide)).mono ?_
  rintro e w2 ⟨b, rb, rfl, hb, hr, s2, c2⟩
  have cz := C1.out.size
  have START : Hid (SlR w w2 b rb 1 0 zeroR 0 ∧ (zeroR 0).gv = 0 ∧ Rows2 w w2 b rb 0 none 0 none 0) := Lib.hid ⟨⟨s2, Inv.zero _, C1.out.trans c2, by omega, by omega⟩, rfl, ⟨Row.nil _ _ _ _, Row.nil _ _ _ _, fun j hj => by simp [OwnS] at hj, fun j hj => by simp [OwnS] at hj⟩⟩
  clear s2 c2 hb hr cz
  go_wp2
  refine wp_mono (stA_loop w b rb tz ev (tz % 6) rfl (by omega) (by omega) _ _ (by omega) ?hI) ?_
  case hI => exact ⟨_, _, _, _, _, rfl, rfl, rfl, rfl, rfl, rfl, rfl, rfl, START.out⟩
  rename_i K hK
  intro e a' w' hp
  obtain ⟨rfl, H⟩ := Qx_inv hp
  exact hK _ _ (st_end w b rb tz ev (tz % 6) rfl (by omega) (by omega) a' w' H)

theorem SlabStale_own : ownKnob Try.prog.godebug = none := by kernel_rfl

set_option maxRecDepth 100000 in
theorem SlabStale_lifted (os : Os) (started : os.Started) (H : Type) (enc : TypeId × Value → H) :
    ReturnsInHanded {} Try.checked os 6 .any (Rows.slabStaleSpec.pre6 enc Try.prog Try.f6 Rows.slabStaleRow.domain false) (Rows.slabStaleSpec.post enc Try.prog Try.f6 false true false false) := by
  refine returnsInHanded_of_change (C := Try.checked) SlabStale_own started (by kernel_rfl) Try.func6
    (ChangeSpec.witness6 (enc := enc) (C := Try.checked) false ⟨#[], #[.int .u8 0, .int .u8 0], []⟩ 8 (by kernel_rfl) (by kernel_rfl) (by kernel_rfl) (by kernel_rfl)) ?_
  intro W base args ds gs before hval0 hW hcnd _
  have hval : ∀ (j : Nat) t v, Try.f6.params[j]? = some t → args[j]? = some v → Value.okWide Try.prog W .any base t v := hval0
  have hW' := hW
  obtain ⟨p, q, hA0, hV, rfl, hfz, hnd⟩ := hW
  have hA : DataW.TrodAll enc Try.prog W 0 (fun _ => true) true Try.f6.params.toList args.toList ds p := hA0
  rw [Try.params6] at hA hval
  obtain ⟨v0, vs0, d0, ds0, p0, q0, hargs, rfl, rfl, h0, r0⟩ := trodAll_cons hA
  obtain ⟨v1, vs1, d1, ds1, p1, q1, rfl, rfl, rfl, h1, r1⟩ := trodAll_cons r0
  obtain ⟨rfl, rfl, rfl⟩ := trodAll_nil r1
  obtain rfl : args = #[v0, v1] := by cases args; simp_all
  obtain ⟨rfl, rfl⟩ := trodVars_none hV
  obtain ⟨a0, rfl, rfl, rfl, w0⟩ := open_int Try.underlying5 (hval 0 5 v0 rfl rfl) h0
  obtain ⟨a1, rfl, rfl, rfl, w1⟩ := open_int Try.underlying5 (hval 1 5 v1 rfl rfl) h1
  clear hA0 hval0
  simp only [List.append_nil] at hW'
  refine (SlabStale_walk a0 a1 w0 w1 W).mono fun e W' ⟨he, bel⟩ => ?_
  subst he
  exact ⟨_, rfl, _, _, _, [], _, [], hW', trodAll_mk1 (shut_bool Try.underlying4 _), (trodAll_cons_mk (shut_int Try.underlying5 w0) (trodAll_cons_mk (shut_int Try.underlying5 w1) trodAll_mk0)), rfl, bel.frame _, fun h => by cases h⟩

theorem slabStale_holds : Rows.SlabStaleSaid :=
  OpenClaim.holds_of_wide 6 Try.f6 rfl rfl rfl rfl rfl rfl rfl ⟨rfl, rfl, rfl, rfl, rfl⟩ rfl rfl rfl rfl rfl (by kernel_rfl) Try.func6 (by kernel_rfl)
    (of_decide_eq_true (by kernel_rfl)) (by unfold Func.isWrapper; rw [if_neg (of_decide_eq_false (by kernel_rfl))]; exact ⟨rfl, rfl⟩)
    (fun os started H enc _ => SlabStale_lifted os started H enc)
end Go.Proofs.Ytjhmmfdmoalfmaa
