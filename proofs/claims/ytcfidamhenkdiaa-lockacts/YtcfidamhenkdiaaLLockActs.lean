/-
  Proved: for every row of acts and every number the statement LockActs returns true: whoever tries and leaves, each answer, whose the lock is, and how often it became somebody's, are the document's all along; and nothing that was there is changed. Conditions: none.
-/
import Derived.Test.YtcfidamhenkdiaaLaA
import Derived.ProofKit
import Derived.OpenShut
import Derived.ChangeOld
import Derived.Below
namespace Go.Proofs.Ytcfidamhenkdiaa
open Go.ChangeShapes Go.WideShapes Go.ChangeAt Go.RowKit
set_option linter.unusedVariables false
set_option linter.unusedSimpArgs false
attribute [local go_sem] Oper.semAt_some

set_option maxRecDepth 100000 in
set_option maxHeartbeats 0 in
theorem LockActs_walk (ad : Option Addr) (len cap : Nat) (wh : Int) (wa : (Lit.int .i64 wh).wf = true) (w : World) (hv : IsTab [.i .i64, .b] w ad len cap) :
    Calls Try.prog 3 #[.slice ad len cap, .int .i64 wh] w fun e w' => e = .returned (.bool true) ∧ Below w.heap.size w w' := by
  have HV := Lib.hid hv
  have hsm := hv.small
  clear hv
  go_enter Try.func3, Try.ntmps3
  go_wp2_with fail
  refine (alive_any _).mono ?_
  rintro e w1 ⟨rfl, c1⟩
  have C1 := Lib.hid c1
  clear c1
  by_cases h200 : 200 < len
  · have hz : (200 : Int) < (len : Int) := by omega
    go_wp2
    go_ret
    exact ⟨rfl, C1.out.below (Nat.le_refl _) (fun _ _ e => e.elim)⟩
  · have hz : (len : Int) ≤ 200 := by omega
    go_wp2_with fail
    refine (new_lk _).mono ?_
    rintro e w2 ⟨rfl, s2, c2⟩
    have START : Hid (LkR w w2 w1.heap.size ⟨0, false, 0⟩ 0) := Lib.hid ⟨s2, Nat.le_refl _, C1.out.trans c2, C1.out.size⟩
    have HB : Hid (w1.heap.size < w2.heap.size) := Lib.hid s2.lt
    clear s2 c2
    have c3 : Ch Nil w2 (w2.alloc (Obj.cells #[.bool false, .int .i64 0, .int .i64 0] 28)) := (Ch.refl _ _).alloc _
    have START2 : Hid (LaR w (w2.alloc (Obj.cells #[.bool false, .int .i64 0, .int .i64 0] 28)) w1.heap.size w2.heap.size ⟨0, false, 0⟩ 0) := Lib.hid
      ⟨⟨START.out.l.kept c3 (fun e => e), START.out.n, START.out.c.trans c3, START.out.hb⟩, isRk_new w2 _, by have := HB.out; omega, by have := HB.out; have := START.out.hb; omega⟩
    clear c3
    go_wp2
    refine wp_mono (laA_loop w w1.heap.size w2.heap.size ad len cap wh HV.out (by omega) _ _ (by omega) ?hI) ?_
    case hI => exact ⟨⟨0, false, 0⟩, rfl, rfl, rfl, rfl, rfl, rfl, rfl, START2.out⟩
    rename_i K hK
    intro e a' w' hp
    cases e with
    | exit n =>
      obtain ⟨rfl, H⟩ := hp
      exact hK _ _ (la_end w w1.heap.size w2.heap.size ad len cap wh HV.out (by omega) a' w' H)
    | ret => exact ret_done rfl hp
    | _ => exact hp.elim

theorem LockActs_own : ownKnob Try.prog.godebug = none := by kernel_rfl
theorem LockActs_laidOut : laidOutB Try.prog = true := by kernel_rfl

set_option maxRecDepth 100000 in
theorem LockActs_lifted (os : Os) (started : os.Started) (H : Type) (enc : TypeId × Value → H) :
    ReturnsInHanded {} Try.checked os 3 .any (Rows.lockActsSpec.pre6 enc Try.prog Try.f3 Rows.lockActsRow.domain false) (Rows.lockActsSpec.post enc Try.prog Try.f3 false true false false) := by
  refine returnsInHanded_of_change (C := Try.checked) LockActs_own started (by kernel_rfl) Try.func3
    (ChangeSpec.witness6 (enc := enc) (C := Try.checked) false ⟨#[], #[.slice none 0 0, .int .i64 0], []⟩ 8 (by kernel_rfl) (by kernel_rfl) (by kernel_rfl) (by kernel_rfl)) ?_
  intro W base args ds gs before hval0 hW hcnd _
  have hval : ∀ (j : Nat) t v, Try.f3.params[j]? = some t → args[j]? = some v → Value.okWide Try.prog W .any base t v := hval0
  have hW' := hW
  obtain ⟨p, q, hA0, hV, rfl, hfz, hnd⟩ := hW
  have hA : DataW.TrodAll enc Try.prog W 0 (fun _ => true) true Try.f3.params.toList args.toList ds p := hA0
  rw [Try.params3] at hA hval
  obtain ⟨v0, vs0, d0, ds0, p0, q0, hargs, rfl, rfl, h0, r0⟩ := trodAll_cons hA
  obtain ⟨v1, vs1, d1, ds1, p1, q1, rfl, rfl, rfl, h1, r1⟩ := trodAll_cons r0
  obtain ⟨rfl, rfl, rfl⟩ := trodAll_nil r1
  obtain rfl : args = #[v0, v1] := by cases args; simp_all
  obtain ⟨rfl, rfl⟩ := trodVars_none hV
  obtain ⟨a0, len0, cap0, rfl⟩ := okWide_slice Try.underlying22 (hval 0 22 v0 rfl rfl)
  have k0 := h0
  have lt0 : ∀ x ∈ p0, x.block < W.heap.size := by obtain ⟨m, hm⟩ := k0; exact DataW.trod_lt m _ _ _ hm
  have w0 : IsTab [.i .i64, .b] W a0 len0 cap0 := by
    obtain ⟨fuel, hf⟩ := h0
    exact open_tab _ Try.underlying22 Try.underlying30 (by kernel_rfl) (by kernel_rfl) hf
  obtain ⟨a1, rfl, rfl, rfl, w1⟩ := open_int Try.underlying3 (hval 1 3 v1 rfl rfl) h1
  clear hA0 hval0
  refine (LockActs_walk a0 len0 cap0 a1 w1 W w0).mono fun e W' ⟨he, bel⟩ => ?_
  subst he
  exact ⟨_, rfl, _, _, _, [], _, [], hW', trodAll_mk1 (shut_bool Try.underlying4 _), (trodAll_cons_mk (Below.trod LockActs_laidOut (by kernel_rfl) (of_decide_eq_true (by kernel_rfl)) k0 bel lt0) (trodAll_cons_mk (shut_int Try.underlying3 w1) trodAll_mk0)), rfl, bel.frame _, fun h => by cases h⟩

theorem lockActs_holds : Rows.LockActsSaid :=
  OpenClaim.holds_of_wide 3 Try.f3 rfl rfl rfl rfl rfl rfl rfl ⟨rfl, rfl, rfl, rfl, rfl⟩ rfl rfl rfl rfl rfl (by kernel_rfl) Try.func3 (by kernel_rfl)
    (of_decide_eq_true (by kernel_rfl)) (by unfold Func.isWrapper; rw [if_neg (of_decide_eq_false (by kernel_rfl))]; exact ⟨rfl, rfl⟩)
    (fun os started H enc _ => LockActs_lifted os started H enc)
end Go.Proofs.Ytcfidamhenkdiaa
