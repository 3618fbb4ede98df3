/-
  Contracts of package word's small functions: Ok, State, Gen, Last, Pack, may, grows, stateBehind, lastBehind: what each returns, at every argument.
-/
import Derived.Test.YtkialefhjfoniaaGreatRows
import Derived.Test.YtkialefhjfoniaaGreatWordPlain
import Derived.WalkKit
import Derived.Laws.BitsAllLaws
import Derived.Lib.Hide
namespace Go.Proofs.YtkialefhjfoniaaGreat
open Go.RowKit Verge
attribute [local go_sem] Oper.semAt_some
set_option linter.unusedVariables false

theorem ret_int {k : IntKind} {a b : Int} (h : a = b) : Ending.returned (.int k a) = .returned (.int k b) := by rw [h]
theorem ret_bool {a b : Bool} (h : a = b) : Ending.returned (.bool a) = .returned (.bool b) := by rw [h]
theorem ret2 {k k' : IntKind} {a b a' b' : Int} (h : a = b) (h' : a' = b') : Ending.returned (.tuple #[.int k a, .int k' a']) = .returned (.tuple #[.int k b, .int k' b']) := by rw [h, h']

theorem bits_used (n : Nat) (hn : n < 18446744073709551616) : bits BinOp.andNot IntKind.u64 (n : Int) 1099511627535 = ((n &&& (18446744073709551615 - 1099511627535) : Nat) : Int) :=
  u64_andNot_nat n 1099511627535 hn (by decide)
theorem bits_and7 (n : Nat) (hn : n < 18446744073709551616) : bits BinOp.and IntKind.u64 (n : Int) 7 = ((n % 8 : Nat) : Int) := by
  have := u64_and_nat n 7 hn (by decide)
  rw [and7] at this; exact this
theorem bits_and8 (n : Nat) (hn : n < 18446744073709551616) : bits BinOp.and IntKind.u64 (n : Int) 8 = ((if lsW n = true then 8 else 0 : Nat) : Int) := by
  have := u64_and_nat n 8 hn (by decide)
  rw [and8] at this; exact this

theorem ok_any (n : Nat) (hn : n < 18446744073709551616) (w : World) :
    Calls Tryz.prog 93 #[.int .u64 n] w fun e w' => e = .returned (.bool (okW n)) ∧ w = w' := by
  have e1 := bits_used n hn
  have e2 := bits_and7 n hn
  have e3 := andNot_used n hn
  by_cases h : n / 16 % 16 = 0 ∧ n / 256 ≤ 4294967295
  · have e4 : bits BinOp.andNot IntKind.u64 (n : Int) 1099511627535 = 0 := by rw [e1, e3.2 h]; rfl
    have e5 : okW n = decide (n % 8 ≤ 6) := by unfold okW; simp [h]
    rw [e5]
    clear e1 e3 h e5
    have E2 := Lib.hid e2
    clear e2
    go_enter Tryz.func93, Tryz.ntmps93
    go_wp2
    go_ret
    refine ⟨ret_bool ?_, rfl⟩
    rw [E2.out]
    exact decide_eq_decide.2 (by omega)
  · have e4 : (bits BinOp.andNot IntKind.u64 (n : Int) 1099511627535 == 0) = false := by
      rw [beq_eq_false_iff_ne, e1]
      intro hc
      exact h (e3.1 (by omega))
    have e5 : okW n = false := by rw [okW_false]; omega
    rw [e5]
    clear e1 e2 e3 h e5
    go_enter Tryz.func93, Tryz.ntmps93
    go_wp2
    go_ret
    exact ⟨rfl, rfl⟩

theorem state_any (n : Nat) (hn : n < 18446744073709551616) (w : World) :
    Calls Tryz.prog 94 #[.int .u64 n] w fun e w' => e = .returned (.int .i64 ((if okW n = true then n % 8 else 0 : Nat) : Int)) ∧ w = w' := by
  have e2 := bits_and7 n hn
  have E2 := Lib.hid e2
  clear e2
  cases h : okW n
  all_goals
    have H := Lib.hid h
    clear h
    go_enter Tryz.func94, Tryz.ntmps94
    go_wp2_with fail
    refine (ok_any n hn _).mono ?_
    rintro e w1 ⟨rfl, rfl⟩
    rw [H.out]
    go_wp2
    go_ret
    refine ⟨ret_int ?_, rfl⟩
  · rfl
  · rw [E2.out]; simp [wrap64]; try omega

theorem gen_any (n : Nat) (hn : n < 18446744073709551616) (w : World) :
    Calls Tryz.prog 95 #[.int .u64 n] w fun e w' => e = .returned (.int .u64 ((if okW n = true then n / 256 else 0 : Nat) : Int)) ∧ w = w' := by
  cases h : okW n
  all_goals
    have H := Lib.hid h
    clear h
    go_enter Tryz.func95, Tryz.ntmps95
    go_wp2_with fail
    refine (ok_any n hn _).mono ?_
    rintro e w1 ⟨rfl, rfl⟩
    rw [H.out]
    go_wp2
    go_ret
    refine ⟨ret_int ?_, rfl⟩
  · rfl
  · simp

theorem last_any (n : Nat) (hn : n < 18446744073709551616) (w : World) :
    Calls Tryz.prog 96 #[.int .u64 n] w fun e w' => e = .returned (.bool (okW n && lsW n)) ∧ w = w' := by
  have e2 := bits_and8 n hn
  have E2 := Lib.hid e2
  clear e2
  cases h : okW n
  all_goals
    have H := Lib.hid h
    clear h
    go_enter Tryz.func96, Tryz.ntmps96
    go_wp2_with fail
    refine (ok_any n hn _).mono ?_
    rintro e w1 ⟨rfl, rfl⟩
    rw [H.out]
    go_wp2
    go_ret
    refine ⟨ret_bool ?_, rfl⟩
  · rfl
  · rw [E2.out]
    cases lsW n <;> rfl

theorem pack_any (s : Int) (g : Nat) (l : Bool) (hg : g < 18446744073709551616) (w : World) :
    Calls Tryz.prog 99 #[.int .i64 s, .int .u64 g, .bool l] w fun e w' =>
      e = .returned (if 0 ≤ s ∧ s ≤ 6 ∧ g ≤ 4294967295 then .tuple #[.int .u64 (mkW s.toNat g l : Nat), .int .i64 0] else .tuple #[.int .u64 0, .int .i64 4]) ∧ w = w' := by
  by_cases h : 0 ≤ s ∧ s ≤ 6 ∧ g ≤ 4294967295
  · rw [if_pos h]
    obtain ⟨h0, h6, hg2⟩ := h
    obtain ⟨k, rfl⟩ := Int.eq_ofNat_of_zero_le h0
    rw [Int.toNat_natCast]
    have hk : k ≤ 6 := by omega
    have a1 : bits BinOp.or IntKind.u64 (k : Int) ((g : Int) * 256) = ((256 * g + k : Nat) : Int) := by
      have := u64_or_nat k (g * 256) (by omega) (by omega)
      rw [or_sg k g hk] at this
      rw [← this]; simp
    have a2 : bits BinOp.or IntKind.u64 ((256 * g + k : Nat) : Int) 8 = ((256 * g + k + 8 : Nat) : Int) := by
      have := u64_or_nat (256 * g + k) 8 (by omega) (by omega)
      rw [or_8 k g hk] at this
      exact this
    have A1 := Lib.hid a1
    have A2 := Lib.hid a2
    clear a1 a2
    cases l
    all_goals
      go_enter Tryz.func99, Tryz.ntmps99
      go_wp2
      go_ret2
      refine ⟨ret2 ?_ rfl, rfl⟩
    · rw [A1.out]; rfl
    · rw [A1.out, A2.out]; rfl
  · rw [if_neg h]
    by_cases h0 : s < 0
    · clear h
      go_enter Tryz.func99, Tryz.ntmps99
      go_wp2
      go_ret2
      exact ⟨rfl, rfl⟩
    · by_cases h6 : 6 < s
      · clear h
        go_enter Tryz.func99, Tryz.ntmps99
        go_wp2
        go_ret2
        exact ⟨rfl, rfl⟩
      · have hg2 : 4294967295 < g := by omega
        clear h
        go_enter Tryz.func99, Tryz.ntmps99
        go_wp2
        go_ret2
        exact ⟨rfl, rfl⟩

end Go.Proofs.YtkialefhjfoniaaGreat
