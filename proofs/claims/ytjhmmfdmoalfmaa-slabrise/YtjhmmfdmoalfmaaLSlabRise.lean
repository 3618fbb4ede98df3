/-
  Proved: for every n and frees the statement SlabRise returns true: the numbers that are given of one slot rise by 64, and each is its own till its slot is given again; and nothing that was there is changed. Conditions: none.
-/
import Derived.Test.YtjhmmfdmoalfmaaSrB
import Derived.ProofKit
import Derived.OpenShut
import Derived.ChangeOld
import Derived.Below
namespace Go.Proofs.Ytjhmmfdmoalfmaa
open Go.ChangeShapes Go.WideShapes Go.ChangeAt Go.RowKit Verge
set_option linter.unusedVariables false
set_option linter.unusedSimpArgs false
attribute [local go_sem] Oper.semAt_some

set_option maxRecDepth 100000 in
set_option maxHeartbeats 0 in
theorem SlabRise_walk (n0 : Int) (ad : Option Addr) (len cap : Nat) (zs : List Int) (wn : (Lit.int .u8 n0).wf = true) (w : World) (hv : IsRow .u8 w ad len cap zs) :
    Calls Try.prog 8 #[.int .u8 n0, .slice ad len cap] w fun e w' => e = .returned (.bool true) ∧ Below w.heap.size w w' := by
  have HV := Lib.hid hv
  have hsm := hv.small
  clear hv
  obtain ⟨n1, n2⟩ := bounds_u8 wn
  obtain ⟨n0, rfl⟩ := Int.eq_ofNat_of_zero_le n1
  clear wn n1
  have tm := tmod_nat n0 8
  have hm := Nat.mod_lt n0 (show 0 < 8 by decide)
  obtain ⟨r, hr⟩ : ∃ r, r = n0 % 8 := ⟨_, rfl⟩
  rw [← hr] at tm hm
  have em : (n0 : Int) % 8 = (r : Int) := by rw [hr, Int.natCast_emod]; rfl
  clear hr
  replace tm : ((n0 : Int)).tmod 8 = (r : Int) := tm
  go_enter Try.func8, Try.ntmps8
  go_wp2_with fail
  refine (alive_any _).mono ?_
  rintro e w1 ⟨rfl, c1⟩
  have C1 := Lib.hid c1
  clear c1
  by_cases h200 : 100 < len
  · have hz : (100 : Int) < (len : Int) := by omega
    go_wp2
    go_ret
    exact ⟨rfl, C1.out.below (Nat.le_refl _) (fun _ _ e => e.elim)⟩
  · have hz : (len : Int) ≤ 100 := by omega
    go_wp2_with fail
    have nw := new_of (r + 1) w1 (by omega) (by omega)
    rw [show ((r + 1 : Nat) : Int) = 1 + (r : Int) by omega] at nw
    have NW := Lib.hid nw
    clear nw
    refine NW.out.mono ?_
    rintro e w2 ⟨b, rb, rfl, hb, hr, s2, c2⟩
    have cz := C1.out.size
    have START : Hid (SlR w w2 b rb (r + 1) 0 zeroR 0) := Lib.hid ⟨s2, Inv.zero _, C1.out.trans c2, by omega, by omega⟩
    clear s2 c2 hb hr cz NW
    have cA : Ch Nil w2 (w2.alloc (.cells #[.int .u64 0, .int .u64 0, .int .u64 0, .int .u64 0, .int .u64 0, .int .u64 0, .int .u64 0, .int .u64 0] 72)) := (Ch.refl _ _).alloc _
    have ST2 : Hid (SlR w (w2.alloc (.cells #[.int .u64 0, .int .u64 0, .int .u64 0, .int .u64 0, .int .u64 0, .int .u64 0, .int .u64 0, .int .u64 0] 72)) b rb (r + 1) 0 zeroR 0 ∧ Lst (w2.alloc (.cells #[.int .u64 0, .int .u64 0, .int .u64 0, .int .u64 0, .int .u64 0, .int .u64 0, .int .u64 0, .int .u64 0] 72)) w2.heap.size zeroR) := Lib.hid ⟨START.out.quiet cA, ⟨fun j hj => by
        rcases (by omega : j = 0 ∨ j = 1 ∨ j = 2 ∨ j = 3 ∨ j = 4 ∨ j = 5 ∨ j = 6 ∨ j = 7) with rfl | rfl | rfl | rfl | rfl | rfl | rfl | rfl <;> simp [go_sem, lastN, zeroR], fun j hj => by simp [go_sem]⟩⟩
    have hlb : w.heap.size ≤ w2.heap.size ∧ w2.heap.size ≠ b ∧ w2.heap.size ≠ rb := ⟨START.out.c.size, by have := START.out.s.lt; omega, by have := START.out.s.lt2; omega⟩
    have HLB := Lib.hid hlb
    clear cA hlb START
    go_wp2
    refine wp_mono (srA_loop w b rb (r + 1) _ ad len cap zs HV.out (by omega) (by omega) (by omega) HLB.out _ _ (by omega) ?hI) ?_
    case hI => exact ⟨_, _, rfl, rfl, rfl, val_eq (by omega), rfl, rfl, rfl, ST2.out⟩
    rename_i K hK
    intro e a' w' hp
    obtain ⟨rfl, H⟩ := Qx_inv hp
    exact hK _ _ (sr_end w b rb (r + 1) _ ad len cap zs HV.out (by omega) (by omega) (by omega) HLB.out a' w' H)

theorem SlabRise_own : ownKnob Try.prog.godebug = none := by kernel_rfl
theorem SlabRise_laidOut : laidOutB Try.prog = true := by kernel_rfl

set_option maxRecDepth 100000 in
theorem SlabRise_lifted (os : Os) (started : os.Started) (H : Type) (enc : TypeId × Value → H) :
    ReturnsInHanded {} Try.checked os 8 .any (Rows.slabRiseSpec.pre6 enc Try.prog Try.f8 Rows.slabRiseRow.domain false) (Rows.slabRiseSpec.post enc Try.prog Try.f8 false true false false) := by
  refine returnsInHanded_of_change (C := Try.checked) SlabRise_own started (by kernel_rfl) Try.func8
    (ChangeSpec.witness6 (enc := enc) (C := Try.checked) false ⟨#[], #[.int .u8 0, .slice none 0 0], []⟩ 8 (by kernel_rfl) (by kernel_rfl) (by kernel_rfl) (by kernel_rfl)) ?_
  intro W base args ds gs before hval0 hW hcnd _
  have hval : ∀ (j : Nat) t v, Try.f8.params[j]? = some t → args[j]? = some v → Value.okWide Try.prog W .any base t v := hval0
  have hW' := hW
  obtain ⟨p, q, hA0, hV, rfl, hfz, hnd⟩ := hW
  have hA : DataW.TrodAll enc Try.prog W 0 (fun _ => true) true Try.f8.params.toList args.toList ds p := hA0
  rw [Try.params8] at hA hval
  obtain ⟨v0, vs0, d0, ds0, p0, q0, hargs, rfl, rfl, h0, r0⟩ := trodAll_cons hA
  obtain ⟨v1, vs1, d1, ds1, p1, q1, rfl, rfl, rfl, h1, r1⟩ := trodAll_cons r0
  obtain ⟨rfl, rfl, rfl⟩ := trodAll_nil r1
  obtain rfl : args = #[v0, v1] := by cases args; simp_all
  obtain ⟨rfl, rfl⟩ := trodVars_none hV
  obtain ⟨a0, rfl, rfl, rfl, w0⟩ := open_int Try.underlying5 (hval 0 5 v0 rfl rfl) h0
  obtain ⟨a1, len1, cap1, rfl⟩ := okWide_slice Try.underlying56 (hval 1 56 v1 rfl rfl)
  have k1 := h1
  have lt1 : ∀ x ∈ p1, x.block < W.heap.size := by obtain ⟨m, hm⟩ := k1; exact DataW.trod_lt m _ _ _ hm
  obtain ⟨z1, w1⟩ : ∃ zs, IsRow .u8 W a1 len1 cap1 zs := by
    obtain ⟨fuel, hf⟩ := h1
    rcases open_ints Try.underlying56 Try.underlying5 (by kernel_rfl) hf with ⟨hcs, _⟩ | ⟨x, l, c, zs, hcs, _, hl, hm, hz, _, hcell, hwz⟩
    · simp [Value.cells] at hcs
      obtain ⟨rfl, rfl, rfl⟩ := hcs
      exact ⟨[], .inl ⟨rfl, rfl, rfl, rfl⟩⟩
    · simp [Value.cells] at hcs
      obtain ⟨rfl, rfl, rfl⟩ := hcs
      exact ⟨zs, .inr ⟨_, rfl, hl, hm, by simpa using hz, hcell, hwz⟩⟩
  clear hA0 hval0
  refine (SlabRise_walk a0 a1 len1 cap1 z1 w0 W w1).mono fun e W' ⟨he, bel⟩ => ?_
  subst he
  exact ⟨_, rfl, _, _, _, [], _, [], hW', trodAll_mk1 (shut_bool Try.underlying4 _), (trodAll_cons_mk (shut_int Try.underlying5 w0) (trodAll_cons_mk (Below.trod SlabRise_laidOut (by kernel_rfl) (of_decide_eq_true (by kernel_rfl)) k1 bel lt1) trodAll_mk0)), rfl, bel.frame _, fun h => by cases h⟩

theorem slabRise_holds : Rows.SlabRiseSaid :=
  OpenClaim.holds_of_wide 8 Try.f8 rfl rfl rfl rfl rfl rfl rfl ⟨rfl, rfl, rfl, rfl, rfl⟩ rfl rfl rfl rfl rfl (by kernel_rfl) Try.func8 (by kernel_rfl)
    (of_decide_eq_true (by kernel_rfl)) (by unfold Func.isWrapper; rw [if_neg (of_decide_eq_false (by kernel_rfl))]; exact ⟨rfl, rfl⟩)
    (fun os started H enc _ => SlabRise_lifted os started H enc)
end Go.Proofs.Ytjhmmfdmoalfmaa
