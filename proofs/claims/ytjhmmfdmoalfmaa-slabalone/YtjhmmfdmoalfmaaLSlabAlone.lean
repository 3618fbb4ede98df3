/-
  Proved: for every n and frees the statement SlabAlone returns true: a request that works alone, where the count is below the room, holds a record behind as many steps as the room and two at most, and is full behind one else; and nothing that was there is changed. Conditions: none.
-/
import Derived.Test.YtjhmmfdmoalfmaaSaA
import Derived.ProofKit
import Derived.OpenShut
import Derived.ChangeOld
import Derived.Below
namespace Go.Proofs.Ytjhmmfdmoalfmaa
open Go.ChangeShapes Go.WideShapes Go.ChangeAt Go.RowKit Verge
set_option linter.unusedVariables false
set_option linter.unusedSimpArgs false
attribute [local go_sem] Oper.semAt_some

set_option maxRecDepth 100000 in
set_option maxHeartbeats 0 in
theorem SlabAlone_walk (n0 : Int) (ad : Option Addr) (len cap : Nat) (zs : List Int) (wn : (Lit.int .u8 n0).wf = true) (w : World) (hv : IsRow .u8 w ad len cap zs) :
    Calls Try.prog 5 #[.int .u8 n0, .slice ad len cap] w fun e w' => e = .returned (.bool true) ∧ Below w.heap.size w w' := by
  have HV := Lib.hid hv
  have hsm := hv.small
  clear hv
  obtain ⟨n1, n2⟩ := bounds_u8 wn
  obtain ⟨n0, rfl⟩ := Int.eq_ofNat_of_zero_le n1
  clear wn n1
  have tm := tmod_nat n0 16
  have hm := Nat.mod_lt n0 (show 0 < 16 by decide)
  obtain ⟨r, hr⟩ : ∃ r, r = n0 % 16 := ⟨_, rfl⟩
  rw [← hr] at tm hm
  have em : (n0 : Int) % 16 = (r : Int) := by rw [hr, Int.natCast_emod]; rfl
  clear hr
  replace tm : ((n0 : Int)).tmod 16 = (r : Int) := tm
  go_enter Try.func5, Try.ntmps5
  go_wp2_with fail
  refine (alive_any _).mono ?_
  rintro e w1 ⟨rfl, c1⟩
  have C1 := Lib.hid c1
  clear c1
  by_cases h200 : 200 < len
  · have hz : (200 : Int) < (len : Int) := by omega
    go_wp2
    go_ret
    exact ⟨rfl, C1.out.below (Nat.le_refl _) (fun _ _ e => e.elim)⟩
  · have hz : (len : Int) ≤ 200 := by omega
    go_wp2_with fail
    have nw := new_of (r + 1) w1 (by omega) (by omega)
    rw [show ((r + 1 : Nat) : Int) = 1 + (r : Int) by omega] at nw
    have NW := Lib.hid nw
    clear nw
    refine NW.out.mono ?_
    rintro e w2 ⟨b, rb, rfl, hb, hr, s2, c2⟩
    have cz := C1.out.size
    have START : Hid (SlR w w2 b rb (r + 1) 0 zeroR 0) := Lib.hid ⟨s2, Inv.zero _, C1.out.trans c2, by omega, by omega⟩
    clear s2 c2 hb hr cz NW
    go_wp2
    refine wp_mono (saA_loop w b rb (r + 1) ad len cap zs HV.out (by omega) (by omega) (by omega) _ _ (by omega) ?hI) ?_
    case hI => exact ⟨_, _, rfl, rfl, rfl, val_eq (by omega), rfl, rfl, START.out⟩
    rename_i K hK
    intro e a' w' hp
    obtain ⟨rfl, H⟩ := Qx_inv hp
    exact hK _ _ (sa_end w b rb (r + 1) ad len cap zs HV.out (by omega) (by omega) (by omega) a' w' H)

theorem SlabAlone_own : ownKnob Try.prog.godebug = none := by kernel_rfl
theorem SlabAlone_laidOut : laidOutB Try.prog = true := by kernel_rfl

set_option maxRecDepth 100000 in
theorem SlabAlone_lifted (os : Os) (started : os.Started) (H : Type) (enc : TypeId × Value → H) :
    ReturnsInHanded {} Try.checked os 5 .any (Rows.slabAloneSpec.pre6 enc Try.prog Try.f5 Rows.slabAloneRow.domain false) (Rows.slabAloneSpec.post enc Try.prog Try.f5 false true false false) := by
  refine returnsInHanded_of_change (C := Try.checked) SlabAlone_own started (by kernel_rfl) Try.func5
    (ChangeSpec.witness6 (enc := enc) (C := Try.checked) false ⟨#[], #[.int .u8 0, .slice none 0 0], []⟩ 8 (by kernel_rfl) (by kernel_rfl) (by kernel_rfl) (by kernel_rfl)) ?_
  intro W base args ds gs before hval0 hW hcnd _
  have hval : ∀ (j : Nat) t v, Try.f5.params[j]? = some t → args[j]? = some v → Value.okWide Try.prog W .any base t v := hval0
  have hW' := hW
  obtain ⟨p, q, hA0, hV, rfl, hfz, hnd⟩ := hW
  have hA : DataW.TrodAll enc Try.prog W 0 (fun _ => true) true Try.f5.params.toList args.toList ds p := hA0
  rw [Try.params5] at hA hval
  obtain ⟨v0, vs0, d0, ds0, p0, q0, hargs, rfl, rfl, h0, r0⟩ := trodAll_cons hA
  obtain ⟨v1, vs1, d1, ds1, p1, q1, rfl, rfl, rfl, h1, r1⟩ := trodAll_cons r0
  obtain ⟨rfl, rfl, rfl⟩ := trodAll_nil r1
  obtain rfl : args = #[v0, v1] := by cases args; simp_all
  obtain ⟨rfl, rfl⟩ := trodVars_none hV
  obtain ⟨a0, rfl, rfl, rfl, w0⟩ := open_int Try.underlying5 (hval 0 5 v0 rfl rfl) h0
  obtain ⟨a1, len1, cap1, rfl⟩ := okWide_slice Try.underlying56 (hval 1 56 v1 rfl rfl)
  have k1 := h1
  have lt1 : ∀ x ∈ p1, x.block < W.heap.size := by obtain ⟨m, hm⟩ := k1; exact DataW.trod_lt m _ _ _ hm
  obtain ⟨z1, w1⟩ : ∃ zs, IsRow .u8 W a1 len1 cap1 zs := by
    obtain ⟨fuel, hf⟩ := h1
    rcases open_ints Try.underlying56 Try.underlying5 (by kernel_rfl) hf with ⟨hcs, _⟩ | ⟨x, l, c, zs, hcs, _, hl, hm, hz, _, hcell, hwz⟩
    · simp [Value.cells] at hcs
      obtain ⟨rfl, rfl, rfl⟩ := hcs
      exact ⟨[], .inl ⟨rfl, rfl, rfl, rfl⟩⟩
    · simp [Value.cells] at hcs
      obtain ⟨rfl, rfl, rfl⟩ := hcs
      exact ⟨zs, .inr ⟨_, rfl, hl, hm, by simpa using hz, hcell, hwz⟩⟩
  clear hA0 hval0
  refine (SlabAlone_walk a0 a1 len1 cap1 z1 w0 W w1).mono fun e W' ⟨he, bel⟩ => ?_
  subst he
  exact ⟨_, rfl, _, _, _, [], _, [], hW', trodAll_mk1 (shut_bool Try.underlying4 _), (trodAll_cons_mk (shut_int Try.underlying5 w0) (trodAll_cons_mk (Below.trod SlabAlone_laidOut (by kernel_rfl) (of_decide_eq_true (by kernel_rfl)) k1 bel lt1) trodAll_mk0)), rfl, bel.frame _, fun h => by cases h⟩

theorem slabAlone_holds : Rows.SlabAloneSaid :=
  OpenClaim.holds_of_wide 5 Try.f5 rfl rfl rfl rfl rfl rfl rfl ⟨rfl, rfl, rfl, rfl, rfl⟩ rfl rfl rfl rfl rfl (by kernel_rfl) Try.func5 (by kernel_rfl)
    (of_decide_eq_true (by kernel_rfl)) (by unfold Func.isWrapper; rw [if_neg (of_decide_eq_false (by kernel_rfl))]; exact ⟨rfl, rfl⟩)
    (fun os started H enc _ => SlabAlone_lifted os started H enc)
end Go.Proofs.Ytjhmmfdmoalfmaa
