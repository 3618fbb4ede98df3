/-
  Proved: for every row of acts and every slot the statement FloorOwn returns true: whatever is done to one floor and its parts, a second one, made beside it, is as new; and nothing that was there is changed. Conditions: none.
-/
import Derived.Test.YtkialefhjfoniaaGreatFoB
import Derived.Test.YtkialefhjfoniaaGreatFlAlive
import Derived.ProofKit
import Derived.OpenShut
import Derived.ChangeOld
import Derived.Below
namespace Go.Proofs.YtkialefhjfoniaaGreat
open Go.ChangeShapes Go.WideShapes Go.ChangeAt Go.RowKit Verge
set_option linter.unusedVariables false
set_option linter.unusedSimpArgs false
attribute [local go_sem] Oper.semAt_some

set_option maxRecDepth 100000 in
set_option maxHeartbeats 0 in
theorem FloorOwn_walk (ad : Option Addr) (len cap : Nat) (v : Int) (hwf : (Lit.int .u8 v).wf = true) (w : World) (hv : IsActs14 w ad len cap) :
    Calls Tryz.prog 3 #[.slice ad len cap, .int .u8 v] w fun e w' => e = .returned (.bool true) ∧ Below w.heap.size w w' := by
  have h01 : 0 ≤ v ∧ v ≤ 255 := by simpa [Lit.wf, IntKind.min, IntKind.max, IntKind.signed, IntKind.bits] using hwf
  obtain ⟨h0, h1⟩ := h01
  clear hwf
  obtain ⟨q, rfl⟩ : ∃ q : Nat, v = (q : Nat) := ⟨v.toNat, by omega⟩
  obtain ⟨Ls, hl, hs, h2, h3⟩ := hv
  have HV := Lib.hid hs
  have HLL := Lib.hid hl
  have hsm : len ≤ maxLen := by omega
  have HQ : Hid (q < 256) := Lib.hid (by omega)
  clear hl hs h0 h1 h2 h3
  go_enter Tryz.func3, Tryz.ntmps3
  go_wp2_with fail
  refine (alive_any _).mono ?_
  rintro e w1 ⟨rfl, c1⟩
  have C1 := Lib.hid c1
  clear c1
  by_cases h200 : 200 < len
  · have hz : (200 : Int) < (len : Int) := by omega
    go_wp2
    go_ret
    exact ⟨rfl, C1.out.below (Nat.le_refl _) (fun _ _ e => e.elim)⟩
  · have hz : (len : Int) ≤ 200 := by omega
    go_wp2_with fail
    refine (plain_of 2 8 _).mono ?_
    rintro e wa ⟨rfl, c2⟩
    have C2 := Lib.hid (C1.out.trans c2)
    clear c2 C1
    go_wp2_with fail
    refine (newPlain 2 8 2 8 rfl rfl (by omega) (by omega) _).mono ?_
    rintro e wb ⟨F, rfl, hF, hn, n3⟩
    have N3 := Lib.hid n3
    have HF := Lib.hid (show F.c.s = F.n ∧ F.n = 2 from ⟨by rw [hF, hn], hn⟩)
    clear hF hn n3
    go_wp2_with fail
    refine (plain_of 2 8 _).mono ?_
    rintro e wc ⟨rfl, c4⟩
    have C4 := Lib.hid c4
    clear c4
    go_wp2_with fail
    refine (newPlain 2 8 2 8 rfl rfl (by omega) (by omega) _).mono ?_
    rintro e wz ⟨G, rfl, hG, hm, n5⟩
    have C5 : Hid (Ch Nil wb wz) := Lib.hid (C4.out.trans n5.c)
    have CZ : Hid (Ch Nil w wz) := Lib.hid ((C2.out.trans N3.out.c).trans C5.out)
    have HMM : Hid (w.heap.size ≤ wa.heap.size ∧ wb.heap.size ≤ wc.heap.size ∧ wb.heap.size ≤ wz.heap.size ∧ q < 256) := Lib.hid ⟨C2.out.size, C4.out.size, C5.out.size, HQ.out⟩
    have GB : Hid (OwA wc.heap.size wz.heap.size wz G ⟨0, 0, false, 0, []⟩ none 0 True True True True wz) := Lib.hid (OwA.new n5 (Ch.refl _ _) (Nat.le_refl _) (Nat.le_refl _) (by rw [hG, hm]) hm)
    have START : Hid (OwA wa.heap.size wb.heap.size wz F ⟨0, 0, false, 0, []⟩ none 0 True True True True wz ∧ stLe14 ⟨0, 0, false, 0, []⟩ 0) := Lib.hid ⟨OwA.new N3.out C5.out (Nat.le_refl _) C5.out.size HF.out.1 HF.out.2, by unfold stLe14; simp⟩
    clear hG hm n5 N3 HF C2 C4 C5 HQ
    go_wp2
    refine wp_mono (foA_loop w wz F G wa.heap.size wb.heap.size wc.heap.size wz.heap.size q ad len cap Ls HV.out HLL.out (by omega) CZ.out HMM.out GB.out _ _ (by omega) ?hI) ?_
    case hI => exact ⟨_, _, _, rfl, rfl, rfl, rfl, rfl, rfl, rfl, START.out⟩
    rename_i K hK
    intro e a' w' hp
    obtain ⟨rfl, H⟩ := Qx_inv hp
    exact hK _ _ (fo_end w wz F G wa.heap.size wb.heap.size wc.heap.size wz.heap.size q ad len cap Ls HV.out HLL.out (by omega) CZ.out HMM.out GB.out a' w' H)

theorem FloorOwn_own : ownKnob Tryz.prog.godebug = none := by kernel_rfl
theorem FloorOwn_laidOut : laidOutB Tryz.prog = true := by kernel_rfl

set_option maxRecDepth 100000 in
theorem FloorOwn_lifted (os : Os) (started : os.Started) (H : Type) (enc : TypeId × Value → H) :
    ReturnsInHanded {} Tryz.checked os 3 .any (Rows.floorOwnSpec.pre6 enc Tryz.prog Tryz.f3 Rows.floorOwnRow.domain false) (Rows.floorOwnSpec.post enc Tryz.prog Tryz.f3 false true false false) := by
  refine returnsInHanded_of_change (C := Tryz.checked) FloorOwn_own started (by kernel_rfl) Tryz.func3
    (ChangeSpec.witness6 (enc := enc) (C := Tryz.checked) false ⟨#[], #[.slice none 0 0, .int .u8 0], []⟩ 8 (by kernel_rfl) (by kernel_rfl) (by kernel_rfl) (by kernel_rfl)) ?_
  intro W base args ds gs before hval0 hW hcnd _
  have hval : ∀ (j : Nat) t v, Tryz.f3.params[j]? = some t → args[j]? = some v → Value.okWide Tryz.prog W .any base t v := hval0
  have hW' := hW
  obtain ⟨p, q, hA0, hV, rfl, hfz, hnd⟩ := hW
  have hA : DataW.TrodAll enc Tryz.prog W 0 (fun _ => true) true Tryz.f3.params.toList args.toList ds p := hA0
  rw [Tryz.params3] at hA hval
  obtain ⟨v0, vs0, d0, ds0, p0, q0, hargs, rfl, rfl, h0, r0⟩ := trodAll_cons hA
  obtain ⟨v1, vs1, d1, ds1, p1, q1, rfl, rfl, rfl, h1, r1⟩ := trodAll_cons r0
  obtain ⟨rfl, rfl, rfl⟩ := trodAll_nil r1
  obtain rfl : args = #[v0, v1] := by cases args; simp_all
  obtain ⟨rfl, rfl⟩ := trodVars_none hV
  obtain ⟨a0, len0, cap0, rfl⟩ := okWide_slice Tryz.underlying22 (hval 0 22 v0 rfl rfl)
  have k0 := h0
  have lt0 : ∀ x ∈ p0, x.block < W.heap.size := by obtain ⟨m, hm⟩ := k0; exact DataW.trod_lt m _ _ _ hm
  have w0 : IsActs14 W a0 len0 cap0 := by
    obtain ⟨fuel, hf⟩ := h0
    exact open_acts14 Tryz.underlying22 act14_fields hf
  obtain ⟨a1, rfl, rfl, rfl, w1⟩ := open_int Tryz.underlying5 (hval 1 5 v1 rfl rfl) h1
  clear hA0 hval0
  refine (FloorOwn_walk a0 len0 cap0 a1 w1 W w0).mono fun e W' ⟨he, bel⟩ => ?_
  subst he
  exact ⟨_, rfl, _, _, _, [], _, [], hW', trodAll_mk1 (shut_bool Tryz.underlying4 _), (trodAll_cons_mk (Below.trod FloorOwn_laidOut (by kernel_rfl) (of_decide_eq_true (by kernel_rfl)) k0 bel lt0) (trodAll_cons_mk (shut_int Tryz.underlying5 w1) trodAll_mk0)), rfl, bel.frame _, fun h => by cases h⟩

theorem floorOwn_holds : Rows.FloorOwnSaid :=
  OpenClaim.holds_of_wide 3 Tryz.f3 rfl rfl rfl rfl rfl rfl rfl ⟨rfl, rfl, rfl, rfl, rfl⟩ rfl rfl rfl rfl rfl (by kernel_rfl) Tryz.func3 (by kernel_rfl)
    (of_decide_eq_true (by kernel_rfl)) (by unfold Func.isWrapper; rw [if_neg (of_decide_eq_false (by kernel_rfl))]; exact ⟨rfl, rfl⟩)
    (fun os started H enc _ => FloorOwn_lifted os started H enc)
end Go.Proofs.YtkialefhjfoniaaGreat
