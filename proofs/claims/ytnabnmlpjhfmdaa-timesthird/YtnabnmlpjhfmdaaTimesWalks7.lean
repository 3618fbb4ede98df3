/-
  Contracts of vergeref01.Cut and of the statements' own check of the document's examples (alive): what each returns; nothing that was there is changed.
-/
import Derived.Test.YtnabnmlpjhfmdaaTimesWalks6
namespace Go.Proofs.Ytnabnmlpjhfmdaa
open Go.RowKit Go.Shelf Verge
set_option linter.unusedVariables false

theorem zeros_any (t : Nat) (ht : t < 18446744073709551616) (w : World) :
    Calls Try.prog 16 #[.int .u64 t] w fun e W' => ∃ z : Nat, Zeros t z ∧ e = .returned (.int .i64 z) ∧ Below w.heap.size w W' := callsIn_wide.1 (zeros_in t ht 3 (Nat.le_refl _) w)
theorem apart_any (a b : Nat) (ha : a < 18446744073709551616) (hb : b < 18446744073709551616) (w : World) :
    Calls Try.prog 15 #[.int .u64 a, .int .u64 b] w fun e W' => e = .returned (.int .i64 (ap a b 11)) ∧ Below w.heap.size w W' := callsIn_wide.1 (apart_in a b ha hb 3 (Nat.le_refl _) w)
theorem digits_any (t : Nat) (ht : t < 18446744073709551616) (w : World) : Calls Try.prog 12 #[.int .u64 t] w (DigsPost w t) := callsIn_wide.1 (digits_in t ht 3 (Nat.le_refl _) w)

theorem digit_65 (w : World) : Calls Try.prog 13 #[.int .u64 65, .int .i64 1] w fun e w' => e = .returned (.int .i64 1) ∧ w = w' := digit_at 65 1 (by decide) (by decide) w
theorem ap_ex : ap 63 64 11 = 1 := by decide +kernel
theorem apart_63 (w : World) : Calls Try.prog 15 #[.int .u64 63, .int .u64 64] w fun e w' => e = .returned (.int .i64 1) ∧ Below w.heap.size w w' := by
  have h := apart_any 63 64 (by decide) (by decide) w
  rw [ap_ex] at h
  exact h
theorem zeros_ex : Zeros 4096 2 := ⟨by decide, by decide +kernel, .inr (by decide +kernel)⟩
theorem zeros_4096 (w : World) : Calls Try.prog 16 #[.int .u64 4096] w fun e w' => e = .returned (.int .i64 2) ∧ Below w.heap.size w w' := by
  have h := (zeros_any 4096 (by decide) w).mono (fun e w' (h : ∃ z : Nat, Zeros 4096 z ∧ e = .returned (.int .i64 z) ∧ Below w.heap.size w w') => by
    obtain ⟨z, hz, he, hb⟩ := h
    obtain rfl := hz.unique zeros_ex
    exact (⟨he, hb⟩ : e = .returned (.int .i64 ((2 : Nat) : Int)) ∧ Below w.heap.size w w'))
  exact h
theorem later_37 (w : World) : Calls Try.prog 21 #[.int .u64 3, .int .u64 7] w fun e w' => e = .returned (.tuple #[.int .u64 8, .int .i64 0]) ∧ w = w' :=
  later_ok 3 7 (by decide) (by decide) (by decide) (by decide) w

set_option maxHeartbeats 1600000 in
set_option maxRecDepth 1000000 in
theorem alive_any (w : World) : Calls Try.prog 9 #[] w fun e w' => e = .returned (.bool true) ∧ Below w.heap.size w w' := by
  go_enter Try.func9, Try.ntmps9
  go_wp2_with fail
  refine (later_37 _).mono ?_
  rintro e w1 ⟨rfl, rfl⟩
  go_wp2_with fail
  refine (digit_65 _).mono ?_
  rintro e w1 ⟨rfl, rfl⟩
  go_wp2_with fail
  refine (apart_63 _).mono ?_
  rintro e w1 ⟨rfl, hb1⟩
  go_wp2_with fail
  refine (zeros_4096 _).mono ?_
  rintro e w2 ⟨rfl, hb2⟩
  go_wp2
  go_ret
  exact ⟨rfl, hb1.trans (hb2.mono hb1.size)⟩

set_option maxHeartbeats 1600000 in
set_option maxRecDepth 1000000 in
theorem refCut_any (t : Nat) (l : Int) (ht : t < 18446744073709551616) (w : World) :
    Calls Try.prog 19 #[.int .u64 t, .int .i64 l] w fun e w' => e = .returned (.int .u64 (ct t l.toNat : Nat)) ∧ Below w.heap.size w w' := by
  obtain ⟨c, hc⟩ : ∃ c, c = ct t l.toNat := ⟨_, rfl⟩
  have hcb : c < 18446744073709551616 := by have := ct_le t l.toNat; omega
  have HC := Lib.hid hc
  rw [← hc]
  clear hc
  go_enter Try.func19, Try.ntmps19
  go_wp2_with fail
  refine (refDigits_any t ht _).mono ?_
  rintro e w1 ⟨g, cp, rfl, hg1, hg2, hcp, hdc, hb1⟩
  have H1 := Lib.hid hdc
  clear hdc
  go_wp2
  go_loop [6, 7] (fun n i => ∃ (k u : Nat), k ≤ 11 ∧ i = .int .i64 (k - 1) ∧ Hid (u = c / 64 ^ k) ∧ n = .int .u64 u) (fun _ i => (intOf i + 1).toNat)
  case atStart => exact ⟨11, 0, by omega, by go_num, (div_top c hcb).symm, rfl⟩
  case round =>
    obtain ⟨k, u, hk, rfl, hu, rfl⟩ := hrel
    by_cases hlt : 0 < k
    · obtain ⟨j, rfl⟩ : ∃ j, k = j + 1 := ⟨k - 1, by omega⟩
      have ej : ((j + 1 : Nat) : Int) - 1 = j := by omega
      rw [ej]
      clear ej
      have hst := div_step c j
      have hle := Nat.div_le_self c (64 ^ j)
      rw [← hu.out] at hst
      have hu1 : (u : Int) * 64 < 18446744073709551616 := by omega
      have hdd := dg_ct t l.toNat j
      rw [← HC.out] at hdd
      have HS := Lib.hid hst
      by_cases hj : l ≤ j
      · rw [if_pos (by omega)] at hdd
        have hu2 : (u : Int) * 64 + (dg t j : Nat) < 18446744073709551616 := by omega
        have hd1 := dg_lt t j
        have HD := Lib.hid hdd
        have c1 := H1.out j (by omega)
        clear hst hle hdd
        go_wp2
        go_round
        case rel => exact ⟨j, u * 64 + dg t j, by omega, by go_num, by show _ = _; rw [HS.out, HD.out], by go_num⟩
        case measure => simp [intOf]
      · rw [if_neg (by omega)] at hdd
        have HD := Lib.hid hdd
        clear hst hle hdd
        go_wp2
        go_round
        case rel => exact ⟨j, u * 64, by omega, by go_num, by show _ = _; rw [HS.out, HD.out, Nat.add_zero], by go_num⟩
        case measure => simp [intOf]
    · obtain rfl : k = 0 := by omega
      have hu' : Hid (u = c) := by show u = c; rw [hu.out]; simp
      go_wp2
      go_ret
      exact ⟨ret_int (by rw [hu'.out]), hb1⟩
end Go.Proofs.Ytnabnmlpjhfmdaa
