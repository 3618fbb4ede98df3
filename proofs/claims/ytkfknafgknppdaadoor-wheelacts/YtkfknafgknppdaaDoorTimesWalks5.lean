/-
  Contracts of vergeref01's Ints, Apart, Zeros, Cut: what each returns; nothing that was there is changed.
-/
import Derived.Test.YtkfknafgknppdaaDoorTimesWalks4
import Derived.Deep.QuietTactic
import Derived.BigQuiet
import Derived.WalkSmall
namespace Go.Proofs.YtkfknafgknppdaaDoor
open Go.RowKit Go.Shelf Verge
set_option linter.unusedVariables false
attribute [local go_sem] Oper.semAt_some

set_option maxHeartbeats 1600000 in
set_option maxRecDepth 1000000 in
theorem refApart_any (a b : Nat) (ha : a < 18446744073709551616) (hb : b < 18446744073709551616) (w : World) :
    Calls Tryd.prog 20 #[.int .u64 a, .int .u64 b] w fun e w' => e = .returned (.int .i64 (ap a b 11)) ∧ Below w.heap.size w w' := by
  go_enter Tryd.func20, Tryd.ntmps20
  go_wp2_with fail
  refine (refDigits_any a ha _).mono ?_
  rintro e w1 ⟨g, c, rfl, hg1, hg2, hc, hdc, hb1⟩
  have H1 := Lib.hid hdc
  clear hdc
  go_wp2_with fail
  refine (refDigits_any b hb _).mono ?_
  rintro e w2 ⟨h, d, rfl, hh1, hh2, hd, hdd, hb2⟩
  have H1 := Lib.hid (H1.out.below hb2 hg2)
  have H2 := Lib.hid hdd
  clear hdd
  have hg3 : g < w2.heap.size := by omega
  have hB : Below w.heap.size w w2 := hb1.trans (hb2.mono hb1.size)
  have H3 : Hid (∀ l, 11 ≤ l → l < 11 → dg a l = dg b l) := fun l h1 h2 => absurd h1 (by omega)
  go_wp2
  go_loopw [7] (fun i wr => ∃ k : Nat, k ≤ 11 ∧ i = .int .i64 (k - 1) ∧ Hid (∀ l, k ≤ l → l < 11 → dg a l = dg b l) ∧ Below w2.heap.size w2 wr) (fun i _ => (intOf i + 1).toNat)
  case atStart => exact ⟨11, by omega, by go_num, H3, Below.refl _ _⟩
  case round =>
    obtain ⟨k, hk, rfl, hq, hnx⟩ := hrel
    clear H3
    have HF := Lib.hid (ap_skip a b k hq.out hk)
    by_cases hlt : 0 < k
    · obtain ⟨j, rfl⟩ : ∃ j, k = j + 1 := ⟨k - 1, by omega⟩
      have ej : ((j + 1 : Nat) : Int) - 1 = j := by omega
      rw [ej]
      clear ej
      have c1 := (hnx.cell (p := ⟨g, j, none⟩) hg3).trans (H1.out j (by omega))
      have c2 := (hnx.cell (p := ⟨h, j, none⟩) hh2).trans (H2.out j (by omega))
      by_cases hdj : dg a j = dg b j
      · have hne : (((dg a j : Nat) : Int) != ((dg b j : Nat) : Int)) = false := by simp [hdj]
        have HD := Lib.hid hdj
        clear hdj
        go_wp2
        go_quiet (fail)
        go_wp2
        go_roundw
        case rel =>
          refine ⟨j, by omega, by go_num, ?_, below_drewN hnx _⟩
          intro l hl hl2
          by_cases e : l = j
          · rw [e]; exact HD.out
          · exact hq.out l (by omega) hl2
        case measure => simp [intOf]
      · have hne : (((dg a j : Nat) : Int) != ((dg b j : Nat) : Int)) = true := by rw [bne_iff_ne]; omega
        have HD := Lib.hid (HF.out.trans (ap_ne a b j hdj))
        clear hdj
        go_wp2
        go_quiet (fail)
        go_wp2
        go_ret
        exact ⟨ret_int HD.out.symm, hB.trans ((below_drewN hnx _).mono hB.size)⟩
    · obtain rfl : k = 0 := by omega
      go_wp2
      go_ret
      exact ⟨ret_int HF.out.symm, hB.trans (hnx.mono hB.size)⟩

set_option maxHeartbeats 1600000 in
set_option maxRecDepth 1000000 in
theorem refZeros_any (t : Nat) (ht : t < 18446744073709551616) (w : World) :
    Calls Tryd.prog 30 #[.int .u64 t] w fun e w' => ∃ z : Nat, Zeros t z ∧ e = .returned (.int .i64 z) ∧ Below w.heap.size w w' := by
  go_enter Tryd.func30, Tryd.ntmps30
  go_wp2_with fail
  refine (refDigits_any t ht _).mono ?_
  rintro e w1 ⟨g, c, rfl, hg1, hg2, hc, hdc, hb1⟩
  have H1 := Lib.hid hdc
  clear hdc
  go_wp2
  go_loop [4] (fun i => ∃ k : Nat, k ≤ 11 ∧ i = .int .i64 k ∧ Hid (∀ l, l < k → dg t l = 0)) (fun i => 11 - (intOf i).toNat)
  case atStart => exact ⟨0, by omega, rfl, fun l h => absurd h (by omega)⟩
  case round =>
    obtain ⟨k, hk, rfl, hq⟩ := hrel
    by_cases hlt : k < 11
    · have c1 := H1.out k hlt
      have hd1 : decide ((k : Int) < 11) = true := by simp; omega
      by_cases hz : dg t k = 0
      · have hz' : (((dg t k : Nat) : Int) == 0) = true := by rw [hz]; rfl
        have HZ := Lib.hid hz
        clear hz
        go_wp2
        go_round
        case rel =>
          refine ⟨k + 1, by omega, by go_num, ?_⟩
          intro l hl
          by_cases e : l = k
          · rw [e]; exact HZ.out
          · exact hq.out l (by omega)
        case measure => simp [intOf]; omega
      · have hz' : (((dg t k : Nat) : Int) == 0) = false := by rw [beq_eq_false_iff_ne]; omega
        have HZ := Lib.hid hz
        clear hz
        go_wp2
        go_ret
        exact ⟨k, ⟨hk, hq.out, .inr HZ.out⟩, rfl, hb1⟩
    · obtain rfl : k = 11 := by omega
      go_wp2
      go_ret
      exact ⟨11, ⟨hk, hq.out, .inl rfl⟩, rfl, hb1⟩
end Go.Proofs.YtkfknafgknppdaaDoor
