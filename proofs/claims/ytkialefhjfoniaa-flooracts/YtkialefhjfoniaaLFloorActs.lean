/-
  Proved: for every row of acts the statement FloorActs returns true: whoever enters, leaves, works, shuts, turns and notes, each answer, and all that is counted, are the document's all along; and nothing that was there is changed. Conditions: none.
-/
import Derived.Test.YtkialefhjfoniaaFaA
import Derived.ProofKit
import Derived.OpenShut
import Derived.ChangeOld
import Derived.Below
namespace Go.Proofs.Ytkialefhjfoniaa
open Go.ChangeShapes Go.WideShapes Go.ChangeAt Go.RowKit Verge
set_option linter.unusedVariables false
set_option linter.unusedSimpArgs false
attribute [local go_sem] Oper.semAt_some

set_option maxRecDepth 100000 in
set_option maxHeartbeats 0 in
theorem FloorActs_walk (ad : Option Addr) (len cap : Nat) (w : World) (hv : IsActs14 w ad len cap) :
    Calls Try.prog 4 #[.slice ad len cap] w fun e w' => e = .returned (.bool true) ∧ Below w.heap.size w w' := by
  obtain ⟨Ls, hl, hs, h1, h2⟩ := hv
  have HV := Lib.hid hs
  have HLL := Lib.hid hl
  have hsm : len ≤ maxLen := by omega
  clear hl hs h1 h2
  go_enter Try.func4, Try.ntmps4
  go_wp2_with fail
  refine (alive_any _).mono ?_
  rintro e w1 ⟨rfl, c1⟩
  have C1 := Lib.hid c1
  clear c1
  by_cases h200 : 200 < len
  · have hz : (200 : Int) < (len : Int) := by omega
    go_wp2
    go_ret
    exact ⟨rfl, C1.out.below (Nat.le_refl _) (fun _ _ e => e.elim)⟩
  · have hz : (len : Int) ≤ 200 := by omega
    go_wp2_with fail
    refine (plain_of 1 1 _).mono ?_
    rintro e w2 ⟨rfl, c2⟩
    have C2 := Lib.hid (C1.out.trans c2)
    clear c2 C1
    go_wp2_with fail
    refine (newPlain 1 1 1 1 rfl rfl (by omega) (by omega) _).mono ?_
    rintro e w3 ⟨F, rfl, hF, hn, n3⟩
    have cA : Ch Nil w3 (w3.alloc (.cells #[.int .i64 0, .int .i64 0, .bool false, .int .u64 0, .slice none 0 0] 53)) := (Ch.refl _ _).alloc _
    have rv : IsVs (w3.alloc (.cells #[.int .i64 0, .int .i64 0, .bool false, .int .u64 0, .slice none 0 0] 53)) w3.heap.size [.int .i64 ((0 : Nat) : Int), .int .i64 ((0 : Nat) : Int), .bool false, .int .u64 ((0 : Nat) : Int), .slice none ([] : List Ev).length 0] := IsVs.new w3 [.int .i64 0, .int .i64 0, .bool false, .int .u64 0, .slice none 0 0] 53
    have fl : Fl w3 F ⟨0, 0, false, 0, []⟩ none 0 := ⟨n3.fl, n3.pc, n3.pi, n3.pb, n3.pn, Row.nil _ _ _ _, fun _ => ⟨rfl, rfl⟩, ⟨_, n3.o⟩, fun k hk => by simp [OwnS] at hk⟩
    have hlo : w.heap.size ≤ F.cl := by have := n3.o.ids; have := C2.out.size; omega
    have START : Hid (AcK w (w3.alloc (.cells #[.int .i64 0, .int .i64 0, .bool false, .int .u64 0, .slice none 0 0] 53)) F w3.heap.size ⟨0, 0, false, 0, []⟩ ⟨0, 0, false, 0, []⟩ none 0 none 0 ∧ stLe ⟨0, 0, false, 0, []⟩ 0) := Lib.hid ⟨⟨fl.quiet cA, ⟨rv, Row.nil _ _ _ _, fun e => by simp [OwnS] at e⟩, (C2.out.trans n3.c).trans cA, hlo, by have := (C2.out.trans n3.c).size; omega, fun k hk => by simp [OwnS] at hk, fun k hk => by simp [OwnS] at hk, fun k hk e => by
      have h1 := fl.lt e
      rcases hk with hk | hk
      · omega
      · simp [OwnS] at hk⟩, by unfold stLe; simp⟩
    clear hF hn n3 cA rv fl hlo
    go_wp2
    refine wp_mono (faA_loop w F w3.heap.size ad len cap Ls HV.out HLL.out (by omega) _ _ (by omega) ?hI) ?_
    case hI => exact ⟨_, _, _, _, _, rfl, rfl, rfl, rfl, rfl, rfl, START.out⟩
    rename_i K hK
    intro e a' w' hp
    obtain ⟨rfl, H⟩ := Qx_inv hp
    exact hK _ _ (fa_end w F w3.heap.size ad len cap Ls HV.out HLL.out (by omega) a' w' H)

theorem FloorActs_own : ownKnob Try.prog.godebug = none := by kernel_rfl
theorem FloorActs_laidOut : laidOutB Try.prog = true := by kernel_rfl

set_option maxRecDepth 100000 in
theorem FloorActs_lifted (os : Os) (started : os.Started) (H : Type) (enc : TypeId × Value → H) :
    ReturnsInHanded {} Try.checked os 4 .any (Rows.floorActsSpec.pre6 enc Try.prog Try.f4 Rows.floorActsRow.domain false) (Rows.floorActsSpec.post enc Try.prog Try.f4 false true false false) := by
  refine returnsInHanded_of_change (C := Try.checked) FloorActs_own started (by kernel_rfl) Try.func4
    (ChangeSpec.witness6 (enc := enc) (C := Try.checked) false ⟨#[], #[.slice none 0 0], []⟩ 8 (by kernel_rfl) (by kernel_rfl) (by kernel_rfl) (by kernel_rfl)) ?_
  intro W base args ds gs before hval0 hW hcnd _
  have hval : ∀ (j : Nat) t v, Try.f4.params[j]? = some t → args[j]? = some v → Value.okWide Try.prog W .any base t v := hval0
  have hW' := hW
  obtain ⟨p, q, hA0, hV, rfl, hfz, hnd⟩ := hW
  have hA : DataW.TrodAll enc Try.prog W 0 (fun _ => true) true Try.f4.params.toList args.toList ds p := hA0
  rw [Try.params4] at hA hval
  obtain ⟨v0, vs0, d0, ds0, p0, q0, hargs, rfl, rfl, h0, r0⟩ := trodAll_cons hA
  obtain ⟨rfl, rfl, rfl⟩ := trodAll_nil r0
  obtain rfl : args = #[v0] := by cases args; simp_all
  obtain ⟨rfl, rfl⟩ := trodVars_none hV
  obtain ⟨a0, len0, cap0, rfl⟩ := okWide_slice Try.underlying48 (hval 0 48 v0 rfl rfl)
  have k0 := h0
  have lt0 : ∀ x ∈ p0, x.block < W.heap.size := by obtain ⟨m, hm⟩ := k0; exact DataW.trod_lt m _ _ _ hm
  have w0 : IsActs14 W a0 len0 cap0 := by
    obtain ⟨fuel, hf⟩ := h0
    exact open_acts14 Try.underlying48 act14_fields hf
  clear hA0 hval0
  refine (FloorActs_walk a0 len0 cap0 W w0).mono fun e W' ⟨he, bel⟩ => ?_
  subst he
  exact ⟨_, rfl, _, _, _, [], _, [], hW', trodAll_mk1 (shut_bool Try.underlying4 _), (trodAll_cons_mk (Below.trod FloorActs_laidOut (by kernel_rfl) (of_decide_eq_true (by kernel_rfl)) k0 bel lt0) trodAll_mk0), rfl, bel.frame _, fun h => by cases h⟩

theorem floorActs_holds : Rows.FloorActsSaid :=
  OpenClaim.holds_of_wide 4 Try.f4 rfl rfl rfl rfl rfl rfl rfl ⟨rfl, rfl, rfl, rfl, rfl⟩ rfl rfl rfl rfl rfl (by kernel_rfl) Try.func4 (by kernel_rfl)
    (of_decide_eq_true (by kernel_rfl)) (by unfold Func.isWrapper; rw [if_neg (of_decide_eq_false (by kernel_rfl))]; exact ⟨rfl, rfl⟩)
    (fun os started H enc _ => FloorActs_lifted os started H enc)
end Go.Proofs.Ytkialefhjfoniaa
