/-
  Proved: for every n and pops the statement RingAlone returns true: a ticket that works alone holds a position behind three steps, as long as there is room, and else is full behind two; and nothing that was there is changed. Conditions: none.
-/
import Derived.Test.YtklgmecmgbfhgaaRingAlive
import Derived.Test.YtklgmecmgbfhgaaRingS6
import Derived.Test.YtklgmecmgbfhgaaIsRow
import Derived.ProofKit
import Derived.OpenShut
import Derived.ChangeOld
import Derived.Below
namespace Go.Proofs.Ytklgmecmgbfhgaa
open Go.ChangeShapes Go.WideShapes Go.ChangeAt Go.RowKit Verge
set_option linter.unusedVariables false
set_option linter.unusedSimpArgs false
attribute [local go_sem] Oper.semAt_some

namespace RS
/-- what the loops keep -/
structure AloneIn (w wr : World) (b sb m k nx fi : Nat) (V : Nat → ByteArray) : Prop where
  r : IsRing wr b sb m nx fi (pubTo nx) V
  le : fi ≤ nx
  room : nx ≤ fi + m
  few : nx ≤ k
  ch : Ch Nil w wr
end RS
open RS

set_option maxHeartbeats 8000000 in
set_option maxRecDepth 100000 in
theorem RingAlone_walk (n : Int) (a1 : Option Addr) (len cap : Nat) (zs : List Int) (wa : (Lit.int .u8 n).wf = true) (w : World) (hr : IsRow .u8 w a1 len cap zs) :
    Calls Try.prog 5 #[.int .u8 n, .slice a1 len cap] w fun e w' => e = .returned (.bool true) ∧ Below w.heap.size w w' := by
  obtain ⟨ha, ha'⟩ := bounds_u8 wa
  obtain ⟨m, hm⟩ : ∃ m : Nat, 1 + n % 64 = (m : Int) := ⟨(1 + n % 64).toNat, by omega⟩
  have m0 : 0 < m := by omega
  have m1 : m ≤ 64 := by omega
  have HM := Lib.hid hm
  clear wa hm
  have HR := Lib.hid hr
  have hsm := hr.small
  clear hr
  by_cases h2 : 100 < (len : Int)
  · go_enter Try.func5, Try.ntmps5
    go_wp2_with fail
    refine (alive_any _).mono ?_
    rintro e w1 ⟨rfl, c1⟩
    go_wp2
    go_ret
    exact ⟨rfl, c1.below (Nat.le_refl _) (fun _ _ h => h.elim)⟩
  · go_enter Try.func5, Try.ntmps5
    go_wp2_with fail
    refine (alive_any _).mono ?_
    rintro e w1 ⟨rfl, c1⟩
    go_wp2_with fail
    rw [HM.out]
    refine (new_of m _ m0 m1).mono ?_
    rintro e w2 ⟨b, sb, rfl, hb, hs, h2', c2⟩
    have hbw : w.heap.size ≤ b := by have := c1.size; omega
    have hsw : w.heap.size ≤ sb := by have := c1.size; omega
    rw [← pubTo_zero] at h2'
    have A0 : Hid (AloneIn w w2 b sb m 0 0 0 (fun _ => ⟨#[]⟩)) := ⟨h2', by omega, by omega, by omega, c1.trans c2⟩
    clear h2' c1 c2
    go_wp2
    go_loopw [8] (fun i wr => ∃ (k nx fi : Nat) (V : Nat → ByteArray), k ≤ len ∧ i = .int .i64 k ∧ AloneIn w wr b sb m k nx fi V) (fun i _ => len - (intOf i).toNat)
    case atStart => exact ⟨0, 0, 0, _, Nat.zero_le _, rfl, A0.out⟩
    case round =>
      obtain ⟨k, nx, fi, V, hk, rfl, hA⟩ := hrel
      have A := Lib.hid hA
      clear hA A0
      by_cases hlt : k < len
      · obtain ⟨x, rfl, hc, hwf⟩ := HR.out.item hlt
        have HC := Lib.hid hc
        clear hc
        obtain ⟨z, hz⟩ : ∃ z, zs.getD k 0 = z := ⟨_, rfl⟩
        rw [hz] at HC hwf
        clear hz
        obtain ⟨hz0, hz1⟩ := bounds_u8 hwf
        clear hwf
        go_wp2
        go_loopw [9] (fun i wr' => ∃ (j fi' : Nat), (j : Int) ≤ z % 4 ∧ i = .int .i64 j ∧ AloneIn w wr' b sb m k nx fi' V) (fun i _ => 4 - (intOf i).toNat)
        case atStart => exact ⟨0, fi, by omega, rfl, A.out⟩
        case round =>
          clear A
          obtain ⟨j, fi, hj, rfl, hA⟩ := hrel
          have A := Lib.hid hA
          have hle := hA.le
          have hroom := hA.room
          have hfew := hA.few
          clear hA
          have hc := A.out.ch.keeps HC.out (fun e => e)
          by_cases hjl : (j : Int) < z % 4
          · go_wp2_with fail
            clear hc
            refine (pop_seq A.out.r hle hroom (by omega)).mono ?_
            rintro e w3 ⟨v, c, fi', rfl, hf1, hf2, h3, c3⟩
            have A3 : Hid (AloneIn w w3 b sb m k nx fi' V) := ⟨h3, hf2, by omega, hfew, Ch_upTwo A.out.ch c3 hbw hsw⟩
            clear h3 c3
            go_wp2
            go_roundw
            case rel => exact ⟨j + 1, fi', by omega, by go_num, A3.out⟩
            case measure => simp [intOf]; omega
          · have hjl' : decide ((j : Int) < z % 4) = false := by rw [decide_eq_false_iff_not]; exact hjl
            obtain ⟨d, hd⟩ : ∃ d, nx = fi + d := ⟨nx - fi, by omega⟩
            have HD := Lib.hid hd
            clear hd
            go_wp2_with fail
            clear hc
            refine (len_of A.out.r d HD (by omega)).mono ?_
            rintro e w3 ⟨rfl, h3, c3⟩
            have A3 : Hid (AloneIn w w3 b sb m k nx fi V) := ⟨h3, hle, hroom, hfew, Ch_upTwo A.out.ch c3 hbw hsw⟩
            clear h3 c3 A
            by_cases hfull : d = m
            · subst hfull
              have hfu : fi + d ≤ nx := by have := HD.out; omega
              go_wp2_with fail
              refine (begin_of A3.out.r).mono ?_
              rintro e w4 ⟨t, rfl, ht, htb, hts, k4, h4, c4⟩
              have H4 := Lib.hid h4
              have K4 := Lib.hid k4
              have hwt : w.heap.size ≤ t := by have := A3.out.ch.size; omega
              have D4 := Lib.hid (A3.out.ch.trans c4)
              clear h4 k4 c4
              go_wp2_with fail
              refine (step_to ⟨0, 0, 0, false⟩ ⟨1, 0, nx, false⟩ nx H4.out K4.out htb hts (by simp) (by simp) (tick_choose _ _ _ _ _)).mono ?_
              rintro e w5 ⟨rfl, h5, k5, c5⟩
              have H5 := Lib.hid h5
              have K5 := Lib.hid k5
              have D5 := Lib.hid (Ch_upTri D4.out c5 hwt hbw hsw)
              clear h5 k5 c5
              go_wp2_with fail
              refine (step_to ⟨1, 0, nx, false⟩ ⟨1, 1, nx, false⟩ nx H5.out K5.out htb hts (by dsimp only; omega) (by simp) (tick_full _ _ _ _ hfu)).mono ?_
              rintro e w6 ⟨rfl, h6, k6, c6⟩
              have H6 := Lib.hid h6
              have K6 := Lib.hid k6
              have D6 := Lib.hid (Ch_upTri D5.out c6 hwt hbw hsw)
              clear h6 k6 c6
              go_wp2_with fail
              refine (step_to ⟨1, 1, nx, false⟩ ⟨1, 1, nx, false⟩ nx H6.out K6.out htb hts (by dsimp only; omega) (by simp) (tick_still _ _ _ _ _ _ _)).mono ?_
              rintro e w7 ⟨rfl, h7, k7, c7⟩
              have H7 := Lib.hid h7
              have K7 := Lib.hid k7
              have D7 := Lib.hid (Ch_upTri D6.out c7 hwt hbw hsw)
              clear h7 k7 c7
              go_wp2_with fail
              refine (fill_early t b 1 1 nx false _ _ K7.out (by omega)).mono ?_
              rintro e w8 ⟨rfl, rfl⟩
              go_wp2
              go_roundw
              case rel => exact ⟨k + 1, nx, fi, V, by omega, by go_num, H7.out, hle, hroom, by omega, D7.out⟩
              case measure => simp [intOf]; omega
            · have d1 : ((d : Int) == (m : Int)) = false := by rw [beq_eq_false_iff_ne]; omega
              have d2 : (d == m) = false := by rw [beq_eq_false_iff_ne]; omega
              have hfu : ¬ fi + m ≤ nx := by have := HD.out; omega
              go_wp2_with fail
              refine (begin_of A3.out.r).mono ?_
              rintro e w4 ⟨t, rfl, ht, htb, hts, k4, h4, c4⟩
              have H4 := Lib.hid h4
              have K4 := Lib.hid k4
              have hwt : w.heap.size ≤ t := by have := A3.out.ch.size; omega
              have D4 := Lib.hid (A3.out.ch.trans c4)
              clear h4 k4 c4
              go_wp2_with fail
              refine (step_to ⟨0, 0, 0, false⟩ ⟨1, 0, nx, false⟩ nx H4.out K4.out htb hts (by simp) (by simp) (tick_choose _ _ _ _ _)).mono ?_
              rintro e w5 ⟨rfl, h5, k5, c5⟩
              have H5 := Lib.hid h5
              have K5 := Lib.hid k5
              have D5 := Lib.hid (Ch_upTri D4.out c5 hwt hbw hsw)
              clear h5 k5 c5
              go_wp2_with fail
              refine (step_to ⟨1, 0, nx, false⟩ ⟨2, 0, nx, false⟩ nx H5.out K5.out htb hts (by dsimp only; omega) (by simp) (tick_go _ _ _ _ hfu (by omega) (pubTo_no (Nat.le_refl _)))).mono ?_
              rintro e w6 ⟨rfl, h6, k6, c6⟩
              have H6 := Lib.hid h6
              have K6 := Lib.hid k6
              have D6 := Lib.hid (Ch_upTri D5.out c6 hwt hbw hsw)
              clear h6 k6 c6
              go_wp2_with fail
              refine (step_to ⟨2, 0, nx, false⟩ ⟨2, 2, nx, false⟩ (nx + 1) H6.out K6.out htb hts (by dsimp only; omega) (by simp) (tick_take _ _ _ _)).mono ?_
              rintro e w7 ⟨rfl, h7, k7, c7⟩
              have H7 := Lib.hid h7
              have K7 := Lib.hid k7
              have D7 := Lib.hid (Ch_upTri D6.out c7 hwt hbw hsw)
              clear h7 k7 c7
              go_wp2_with fail
              refine (step_to ⟨2, 2, nx, false⟩ ⟨2, 2, nx, false⟩ (nx + 1) H7.out K7.out htb hts (by dsimp only; omega) (by simp) (tick_held _ _ _ _ _ _ _)).mono ?_
              rintro e w8 ⟨rfl, h8, k8, c8⟩
              have H8 := Lib.hid h8
              have K8 := Lib.hid k8
              have D8 := Lib.hid (Ch_upTri D7.out c8 hwt hbw hsw)
              clear h8 k8 c8
              go_wp2_with fail
              refine (fill_ok t b sb m (nx + 1) fi _ V 2 nx _ _ H8.out K8.out htb hts (by omega) (by omega)).mono ?_
              rw [pubTo_fill]
              rintro e w9 ⟨rfl, h9, k9, c9⟩
              have H9 := Lib.hid h9
              have K9 := Lib.hid k9
              have D9 := Lib.hid (Ch_upTri D8.out c9 hwt hbw hsw)
              clear h9 k9 c9
              go_wp2_with fail
              refine (fill_again t b 2 nx _ _ K9.out).mono ?_
              rintro e w10 ⟨rfl, rfl⟩
              go_wp2
              go_roundw
              case rel => exact ⟨k + 1, nx + 1, fi, _, by omega, by go_num, H9.out, by omega, by omega, by omega, D9.out⟩
              case measure => simp [intOf]; omega
      · obtain rfl : k = len := by omega
        clear hlt
        go_wp2
        go_ret
        exact ⟨rfl, A.out.ch.below (Nat.le_refl _) (fun _ _ h => h.elim)⟩

theorem RingAlone_own : ownKnob Try.prog.godebug = none := by kernel_rfl
theorem RingAlone_laidOut : laidOutB Try.prog = true := by kernel_rfl

set_option maxRecDepth 100000 in
theorem RingAlone_lifted (os : Os) (started : os.Started) (H : Type) (enc : TypeId × Value → H) :
    ReturnsInHanded {} Try.checked os 5 .any (Rows.ringAloneSpec.pre6 enc Try.prog Try.f5 Rows.ringAloneRow.domain false) (Rows.ringAloneSpec.post enc Try.prog Try.f5 false true false false) := by
  refine returnsInHanded_of_change (C := Try.checked) RingAlone_own started (by kernel_rfl) Try.func5
    (ChangeSpec.witness6 (enc := enc) (C := Try.checked) false ⟨#[], #[.int .u8 0, .slice none 0 0], []⟩ 8 (by kernel_rfl) (by kernel_rfl) (by kernel_rfl) (by kernel_rfl)) ?_
  intro W base args ds gs before hval0 hW hcnd _
  have hval : ∀ (j : Nat) t v, Try.f5.params[j]? = some t → args[j]? = some v → Value.okWide Try.prog W .any base t v := hval0
  have hW' := hW
  obtain ⟨p, q, hA0, hV, rfl, hfz, hnd⟩ := hW
  have hA : DataW.TrodAll enc Try.prog W 0 (fun _ => true) true Try.f5.params.toList args.toList ds p := hA0
  rw [Try.params5] at hA hval
  obtain ⟨v0, vs0, d0, ds0, p0, q0, hargs, rfl, rfl, h0, r0⟩ := trodAll_cons hA
  obtain ⟨v1, vs1, d1, ds1, p1, q1, rfl, rfl, rfl, h1, r1⟩ := trodAll_cons r0
  obtain ⟨rfl, rfl, rfl⟩ := trodAll_nil r1
  obtain rfl : args = #[v0, v1] := by cases args; simp_all
  obtain ⟨rfl, rfl⟩ := trodVars_none hV
  obtain ⟨a0, rfl, rfl, rfl, w0⟩ := open_int Try.underlying5 (hval 0 5 v0 rfl rfl) h0
  obtain ⟨a1, len1, cap1, rfl⟩ := okWide_slice Try.underlying52 (hval 1 52 v1 rfl rfl)
  have k1 := h1
  have lt1 : ∀ x ∈ p1, x.block < W.heap.size := by obtain ⟨m, hm⟩ := k1; exact DataW.trod_lt m _ _ _ hm
  obtain ⟨z1, w1⟩ : ∃ zs, IsRow .u8 W a1 len1 cap1 zs := by
    obtain ⟨fuel, hf⟩ := h1
    rcases open_ints Try.underlying52 Try.underlying5 (by kernel_rfl) hf with ⟨hcs, _⟩ | ⟨x, l, c, zs, hcs, _, hl, hm, hz, _, hcell, hwz⟩
    · simp [Value.cells] at hcs
      obtain ⟨rfl, rfl, rfl⟩ := hcs
      exact ⟨[], .inl ⟨rfl, rfl, rfl, rfl⟩⟩
    · simp [Value.cells] at hcs
      obtain ⟨rfl, rfl, rfl⟩ := hcs
      exact ⟨zs, .inr ⟨_, rfl, hl, hm, by simpa using hz, hcell, hwz⟩⟩
  clear hA0 hval0
  refine (RingAlone_walk a0 a1 len1 cap1 z1 w0 W w1).mono fun e W' ⟨he, bel⟩ => ?_
  subst he
  exact ⟨_, rfl, _, _, _, [], _, [], hW', trodAll_mk1 (shut_bool Try.underlying4 _), (trodAll_cons_mk (shut_int Try.underlying5 w0) (trodAll_cons_mk (Below.trod RingAlone_laidOut (by kernel_rfl) (of_decide_eq_true (by kernel_rfl)) k1 bel lt1) trodAll_mk0)), rfl, bel.frame _, fun h => by cases h⟩

theorem ringAlone_holds : Rows.RingAloneSaid :=
  OpenClaim.holds_of_wide 5 Try.f5 rfl rfl rfl rfl rfl rfl rfl ⟨rfl, rfl, rfl, rfl, rfl⟩ rfl rfl rfl rfl rfl (by kernel_rfl) Try.func5 (by kernel_rfl)
    (of_decide_eq_true (by kernel_rfl)) (by unfold Func.isWrapper; rw [if_neg (of_decide_eq_false (by kernel_rfl))]; exact ⟨rfl, rfl⟩)
    (fun os started H enc _ => RingAlone_lifted os started H enc)
end Go.Proofs.Ytklgmecmgbfhgaa
