/-
  Contracts of package bits' small functions: bit, Has, With, Without, Len, and of math/bits.TrailingZeros64, OnesCount64: what each returns, at every argument.
-/
import Derived.Test.YtkfknafgknppdaaDoorLaid
import Derived.Test.YtkfknafgknppdaaDoorBitsCount
import Derived.RangeFuncNested
import Derived.RangeFuncBound
import Derived.RangeFuncCalls
import Derived.RangeFuncLeaves
import Derived.Shelf.Abstract
import Derived.Shelf.RegionOpen
import Derived.WalkKit
import Derived.OwnWalkIn
import Derived.TacticsInMore
import Derived.LoopNIn
import Derived.LoopIn
import Derived.Lib.Hide
import Derived.IntWalk
namespace Go.Proofs.YtkfknafgknppdaaDoor
open Go.RowKit Go.Shelf Verge
attribute [local go_sem] Oper.semAt_some
set_option linter.unusedVariables false

theorem ret_int {k : IntKind} {a b : Int} (h : a = b) : Ending.returned (.int k a) = .returned (.int k b) := by rw [h]
theorem ret_bool {a b : Bool} (h : a = b) : Ending.returned (.bool a) = .returned (.bool b) := by rw [h]

theorem wrap_nat (a : Nat) (h : a < 18446744073709551616) : IntKind.u64.wrap (a : Int) = (a : Int) := by rw [IntKind.wrap_u64]; omega
theorem wrap_pow (k : Nat) (h : k < 64) : IntKind.u64.wrap (2 ^ k) = ((2 ^ k : Nat) : Int) := by
  have := pow_lt64 k h
  have e : (2 : Int) ^ k = ((2 ^ k : Nat) : Int) := by simp
  rw [e]
  exact wrap_nat _ this

theorem bit_any (s : Int) (w : World) :
    Calls Tryd.prog 63 #[.int .i64 s] w fun e w' => e = .returned (.int .u64 (bitN s : Nat)) ∧ w = w' := by
  by_cases h : 0 ≤ s ∧ s < 64
  · obtain ⟨h0, h1⟩ := h
    obtain ⟨k, rfl⟩ := Int.eq_ofNat_of_zero_le h0
    rw [bitN_at k (by omega)]
    go_enter Tryd.func63, Tryd.ntmps63
    go_wp2
    go_ret
    exact ⟨ret_int (wrap_pow k (by omega)), rfl⟩
  · rw [bitN_no s h]
    by_cases h0 : s < 0
    · go_enter Tryd.func63, Tryd.ntmps63
      go_wp2
      go_ret
      exact ⟨rfl, rfl⟩
    · have h1 : 64 ≤ s := by omega
      go_enter Tryd.func63, Tryd.ntmps63
      go_wp2
      go_ret
      exact ⟨rfl, rfl⟩

theorem with_any (m : Nat) (s : Int) (hm : m < 18446744073709551616) (w : World) :
    Calls Tryd.prog 56 #[.int .u64 m, .int .i64 s] w fun e w' => e = .returned (.int .u64 (withN m s : Nat)) ∧ w = w' := by
  have E := Lib.hid (bits_or_u64_nat m (bitN s) hm (bitN_lt s))
  go_enter Tryd.func56, Tryd.ntmps56
  go_wp2_with fail
  refine (bit_any s _).mono ?_
  rintro e w' ⟨rfl, rfl⟩
  go_wp2
  go_ret
  exact ⟨ret_int E.out, rfl⟩

theorem without_any (m : Nat) (s : Int) (hm : m < 18446744073709551616) (w : World) :
    Calls Tryd.prog 57 #[.int .u64 m, .int .i64 s] w fun e w' => e = .returned (.int .u64 (woN m s : Nat)) ∧ w = w' := by
  have E := Lib.hid (bits_andNot_u64_nat m (bitN s) hm (bitN_lt s))
  go_enter Tryd.func57, Tryd.ntmps57
  go_wp2_with fail
  refine (bit_any s _).mono ?_
  rintro e w' ⟨rfl, rfl⟩
  go_wp2
  go_ret
  exact ⟨ret_int E.out, rfl⟩

theorem tz_key (x a : Nat) (hx : x < 18446744073709551616) (hx0 : x ≠ 0) (hlow : x &&& (18446744073709551616 - x) = a) :
    IntKind.u64.wrap (bits BinOp.and IntKind.u64 (x : Int) (IntKind.u64.wrap (-(x : Int))) * 285870213051353865) / 288230376151711744 = ((a * 285870213051353865 % 18446744073709551616 / 288230376151711744 : Nat) : Int) := by
  have e1 : IntKind.u64.wrap (-(x : Int)) = ((18446744073709551616 - x : Nat) : Int) := by rw [IntKind.wrap_u64]; omega
  rw [e1, bits_and_u64_nat x _ hx (by omega), hlow, IntKind.wrap_u64]
  omega
set_option maxHeartbeats 1000000 in
theorem tz_core (x k idx : Nat) (w : World) (hx0 : ((x : Int) == 0) = false)
    (key : IntKind.u64.wrap (bits BinOp.and IntKind.u64 (x : Int) (IntKind.u64.wrap (-(x : Int))) * 285870213051353865) / 288230376151711744 = (idx : Int))
    (hi : idx < 64) (hk : k < 64) (hcell : w.cell? ⟨0, idx, none⟩ = some (.int .u8 k)) :
    Calls Tryd.prog 66 #[.int .u64 x] w fun e w' => e = .returned (.int .i64 k) ∧ w = w' := by
  go_enter Tryd.func66, Tryd.ntmps66
  go_wp2_with (simp only [key])
  go_ret
  exact ⟨rfl, rfl⟩
theorem tz_any (x : Nat) (hx : x < 18446744073709551616) (hx0 : x ≠ 0) (w : World) (T : Tab w) :
    Calls Tryd.prog 66 #[.int .u64 x] w fun e w' => e = .returned (.int .i64 (Lib.ctz 64 x : Nat)) ∧ w = w' := by
  obtain ⟨hlow, hk⟩ := Lib.lowest_bit 64 x hx0 hx
  obtain ⟨hi, htab⟩ := Lib.deBruijn64_at _ hk
  have hcell := T _ hi
  rw [htab] at hcell
  exact tz_core x _ _ w (by simp; omega) (tz_key x _ hx hx0 hlow) hi hk hcell

theorem and_div (x c d : Nat) (hx : x < 18446744073709551616) (hc : c < 18446744073709551616) : bits .and .u64 ((x : Int) / (d : Int)) (c : Int) = ((x / d &&& c : Nat) : Int) := by
  have e : (x : Int) / (d : Int) = ((x / d : Nat) : Int) := by simp
  rw [e]
  exact bits_and_u64_nat _ _ (Nat.lt_of_le_of_lt (Nat.div_le_self _ _) hx) hc
theorem wrap_add (a b : Nat) (h : a + b < 18446744073709551616) : IntKind.u64.wrap ((a : Int) + (b : Int)) = ((a + b : Nat) : Int) := by
  rw [IntKind.wrap_u64]; omega
theorem and127 (a : Nat) (h : a < 9223372036854775808) : bits .and .i64 (a : Int) 127 = ((a % 128 : Nat) : Int) := by
  have h1 : (BitVec.ofInt 64 (a : Int)).toNat = a := by
    rw [BitVec.ofInt_natCast, BitVec.toNat_ofNat]; exact Nat.mod_eq_of_lt (by omega)
  have h2 : (BitVec.ofInt 64 (127 : Int)).toNat = 127 := by decide
  show IntKind.i64.wrap ((BitVec.ofInt 64 (a : Int) &&& BitVec.ofInt 64 (127 : Int)).toNat : Int) = _
  have e : a &&& 127 = a % 128 := Nat.and_two_pow_sub_one_eq_mod _ 7
  rw [BitVec.toNat_and, h1, h2, e]
  exact IntWalk.i64_in _ (by omega)
set_option maxHeartbeats 1000000 in
theorem ones_any (x : Nat) (hx : x < 18446744073709551616) (w : World) :
    Calls Tryd.prog 67 #[.int .u64 x] w fun e w' => e = .returned (.int .i64 ((slots x).length : Nat)) ∧ w = w' := by
  obtain ⟨x1, e1⟩ : ∃ x1, x1 = (x / 2 &&& 6148914691236517205) + (x &&& 6148914691236517205) := ⟨_, rfl⟩
  obtain ⟨x2, e2⟩ : ∃ x2, x2 = (x1 / 4 &&& 3689348814741910323) + (x1 &&& 3689348814741910323) := ⟨_, rfl⟩
  obtain ⟨x3, e3⟩ : ∃ x3, x3 = (x2 / 16 + x2) &&& 1085102592571150095 := ⟨_, rfl⟩
  obtain ⟨x4, e4⟩ : ∃ x4, x4 = x3 + x3 / 256 := ⟨_, rfl⟩
  obtain ⟨x5, e5⟩ : ∃ x5, x5 = x4 + x4 / 65536 := ⟨_, rfl⟩
  obtain ⟨x6, e6⟩ : ∃ x6, x6 = x5 + x5 / 4294967296 := ⟨_, rfl⟩
  obtain ⟨l1, l2, l2b, l3, l4, l5, l6, fin⟩ := ones x x1 x2 x3 x4 x5 x6 hx e1 e2 e3 e4 e5 e6
  have k1 : IntKind.u64.wrap (bits .and .u64 ((x : Int) / 2) 6148914691236517205 + bits .and .u64 (x : Int) 6148914691236517205) = (x1 : Int) := by
    have a : bits .and .u64 ((x : Int) / 2) 6148914691236517205 = ((x / 2 &&& 6148914691236517205 : Nat) : Int) := and_div x 6148914691236517205 2 hx (by decide)
    have b : bits .and .u64 (x : Int) 6148914691236517205 = ((x &&& 6148914691236517205 : Nat) : Int) := bits_and_u64_nat x 6148914691236517205 hx (by decide)
    rw [a, b, wrap_add _ _ (by rw [← e1]; exact l1), ← e1]
  have k2 : IntKind.u64.wrap (bits .and .u64 ((x1 : Int) / 4) 3689348814741910323 + bits .and .u64 (x1 : Int) 3689348814741910323) = (x2 : Int) := by
    have a : bits .and .u64 ((x1 : Int) / 4) 3689348814741910323 = ((x1 / 4 &&& 3689348814741910323 : Nat) : Int) := and_div x1 3689348814741910323 4 l1 (by decide)
    have b : bits .and .u64 (x1 : Int) 3689348814741910323 = ((x1 &&& 3689348814741910323 : Nat) : Int) := bits_and_u64_nat x1 3689348814741910323 l1 (by decide)
    rw [a, b, wrap_add _ _ (by rw [← e2]; exact l2), ← e2]
  have k3 : bits .and .u64 (IntKind.u64.wrap ((x2 : Int) / 16 + (x2 : Int))) 1085102592571150095 = (x3 : Int) := by
    have a : (x2 : Int) / 16 = ((x2 / 16 : Nat) : Int) := by simp
    have b : bits .and .u64 ((x2 / 16 + x2 : Nat) : Int) 1085102592571150095 = (((x2 / 16 + x2) &&& 1085102592571150095 : Nat) : Int) := bits_and_u64_nat (x2 / 16 + x2) 1085102592571150095 l2b (by decide)
    rw [a, wrap_add _ _ l2b, b, ← e3]
  have k4 : IntKind.u64.wrap ((x3 : Int) + (x3 : Int) / 256) = (x4 : Int) := by
    have a : (x3 : Int) / 256 = ((x3 / 256 : Nat) : Int) := by simp
    rw [a, wrap_add _ _ (by rw [← e4]; exact l4), ← e4]
  have k5 : IntKind.u64.wrap ((x4 : Int) + (x4 : Int) / 65536) = (x5 : Int) := by
    have a : (x4 : Int) / 65536 = ((x4 / 65536 : Nat) : Int) := by simp
    rw [a, wrap_add _ _ (by rw [← e5]; exact l5), ← e5]
  have k6 : IntKind.u64.wrap ((x5 : Int) + (x5 : Int) / 4294967296) = (x6 : Int) := by
    have a : (x5 : Int) / 4294967296 = ((x5 / 4294967296 : Nat) : Int) := by simp
    rw [a, wrap_add _ _ (by rw [← e6]; omega), ← e6]
  have k7 : wrap64 (x6 : Int) = (x6 : Int) := by unfold wrap64; omega
  have K1 := Lib.hid k1; have K2 := Lib.hid k2; have K3 := Lib.hid k3; have K4 := Lib.hid k4; have K5 := Lib.hid k5; have K6 := Lib.hid k6; have K7 := Lib.hid k7
  have F := Lib.hid (and127 x6 l6)
  have G := Lib.hid fin
  clear k1 k2 k3 k4 k5 k6 k7 e1 e2 e3 e4 e5 e6 fin l1 l2 l2b l3 l4 l5 l6
  go_enter Tryd.func67, Tryd.ntmps67
  go_wp2
  go_ret
  simp only [K1.out, K2.out, K3.out, K4.out, K5.out, K6.out]
  refine ⟨ret_int ?_, trivial⟩
  rw [K7.out, F.out, G.out]
theorem len_any (x : Nat) (hx : x < 18446744073709551616) (w : World) :
    Calls Tryd.prog 65 #[.int .u64 x] w fun e w' => e = .returned (.int .i64 ((slots x).length : Nat)) ∧ w = w' := by
  go_enter Tryd.func65, Tryd.ntmps65
  go_wp2_with fail
  refine (ones_any x hx _).mono ?_
  rintro e w' ⟨rfl, rfl⟩
  go_wp2
  go_ret
  exact ⟨rfl, rfl⟩
end Go.Proofs.YtkfknafgknppdaaDoor
