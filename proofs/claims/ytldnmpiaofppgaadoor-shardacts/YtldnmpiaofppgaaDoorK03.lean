import Derived.Test.YtldnmpiaofppgaaDoorK02
import Derived.RangeFuncNested
import Derived.RangeFuncBound
import Derived.RangeFuncCalls
import Derived.RangeFuncLeaves
import Derived.Shelf.Abstract
import Derived.Shelf.RegionOpen
import Derived.WalkKit
import Derived.OwnWalkIn
import Derived.TacticsInMore
import Derived.LoopNIn
import Derived.LoopIn
import Derived.Lib.Hide
import Derived.IntWalk
import Derived.Test.YtldnmpiaofppgaaDoorK01
import Derived.TacticsIn
/-
  Plain facts: how many bits of a number of 64 bits are set, reckoned as math/bits.OnesCount64 does.
-/
namespace Verge
open Go
set_option linter.unusedVariables false

theorem and_split (a b : Nat) : a &&& b = (a % 256 &&& b % 256) + 256 * (a / 256 &&& b / 256) := by
  have h1 := Nat.and_div_two_pow (a := a) (b := b) (n := 8)
  have h2 := Nat.and_mod_two_pow (a := a) (b := b) (n := 8)
  have h3 := Nat.div_add_mod (a &&& b) 256
  rw [show (256 : Nat) = 2 ^ 8 from rfl]
  rw [← h1, ← h2]
  omega

/-- the numbers of eight bytes -/
def by8 (y : Nat → Nat) : Nat := y 0 + 256 * (y 1 + 256 * (y 2 + 256 * (y 3 + 256 * (y 4 + 256 * (y 5 + 256 * (y 6 + 256 * y 7))))))
def byteAt (x j : Nat) : Nat := x / 256 ^ j % 256
theorem byteAt_lt (x j : Nat) : byteAt x j < 256 := Nat.mod_lt _ (by decide)
theorem of_bytes (x : Nat) (h : x < 18446744073709551616) : x = by8 (byteAt x) := by
  unfold by8 byteAt
  simp only [Nat.reducePow]
  omega
theorem by8_congr {y z : Nat → Nat} (h : ∀ j, j < 8 → y j = z j) : by8 y = by8 z := by
  unfold by8
  rw [h 0 (by decide), h 1 (by decide), h 2 (by decide), h 3 (by decide), h 4 (by decide), h 5 (by decide), h 6 (by decide), h 7 (by decide)]
theorem and_by8 (y : Nat → Nat) (c : Nat) (hy : ∀ j, j < 8 → y j < 256) (hc : c < 256) : by8 y &&& by8 (fun _ => c) = by8 (fun j => y j &&& c) := by
  have step : ∀ a r s : Nat, a < 256 → (a + 256 * r) &&& (c + 256 * s) = (a &&& c) + 256 * (r &&& s) := fun a r s ha => by
    rw [and_split]
    have e1 : (a + 256 * r) % 256 = a := by omega
    have e2 : (c + 256 * s) % 256 = c := by omega
    have e3 : (a + 256 * r) / 256 = r := by omega
    have e4 : (c + 256 * s) / 256 = s := by omega
    rw [e1, e2, e3, e4]
  unfold by8
  rw [step _ _ _ (hy 0 (by decide)), step _ _ _ (hy 1 (by decide)), step _ _ _ (hy 2 (by decide)), step _ _ _ (hy 3 (by decide)), step _ _ _ (hy 4 (by decide)), step _ _ _ (hy 5 (by decide)), step _ _ _ (hy 6 (by decide))]
theorem mask (y : Nat → Nat) (c M : Nat) (hy : ∀ j, j < 8 → y j < 256) (hc : c < 256) (hM : by8 (fun _ => c) = M) : by8 y &&& M = by8 (fun j => y j &&& c) := by
  rw [← hM]; exact and_by8 y c hy hc

/-- the bytes of a number that was shifted -/
def shB (s : Nat) (y : Nat → Nat) (j : Nat) : Nat := y j / 2 ^ s + (if j = 7 then 0 else (y (j + 1) * 2 ^ (8 - s)) % 256)
theorem sh1 (y : Nat → Nat) (hy : ∀ j, j < 8 → y j < 256) : by8 y / 2 = by8 (shB 1 y) := by
  have h0 := hy 0 (by decide); have h1 := hy 1 (by decide); have h2 := hy 2 (by decide); have h3 := hy 3 (by decide)
  have h4 := hy 4 (by decide); have h5 := hy 5 (by decide); have h6 := hy 6 (by decide); have h7 := hy 7 (by decide)
  unfold by8 shB
  simp
  omega
theorem sh2 (y : Nat → Nat) (hy : ∀ j, j < 8 → y j < 256) : by8 y / 4 = by8 (shB 2 y) := by
  have h0 := hy 0 (by decide); have h1 := hy 1 (by decide); have h2 := hy 2 (by decide); have h3 := hy 3 (by decide)
  have h4 := hy 4 (by decide); have h5 := hy 5 (by decide); have h6 := hy 6 (by decide); have h7 := hy 7 (by decide)
  unfold by8 shB
  simp
  omega
theorem shB_lt (s : Nat) (hs : s = 1 ∨ s = 2) (y : Nat → Nat) (hy : ∀ j, j < 8 → y j < 256) (j : Nat) (hj : j < 8) : shB s y j < 256 := by
  have h1 := hy j hj
  unfold shB
  by_cases h : j = 7
  · rw [if_pos h]; rcases hs with rfl | rfl <;> omega
  · have h2 := hy (j + 1) (by omega)
    rw [if_neg h]
    rcases hs with rfl | rfl <;> simp <;> omega

theorem tab1 : ∀ a, a < 256 → ∀ b, b < 2 → (a / 2 + b * 128) &&& 85 = (a / 2) &&& 85 := by decide +kernel
theorem tab2 : ∀ a, a < 256 → ∀ b, b < 4 → (a / 4 + b * 64) &&& 51 = (a / 4) &&& 51 := by decide +kernel
theorem sh1_and (y : Nat → Nat) (hy : ∀ j, j < 8 → y j < 256) (j : Nat) (hj : j < 8) : shB 1 y j &&& 85 = (y j / 2) &&& 85 := by
  unfold shB
  by_cases h : j = 7
  · rw [if_pos h]; simp
  · rw [if_neg h]
    have := tab1 (y j) (hy j hj) (y (j + 1) % 2) (by omega)
    rw [← this]
    congr 1
    omega
theorem sh2_and (y : Nat → Nat) (hy : ∀ j, j < 8 → y j < 256) (j : Nat) (hj : j < 8) : shB 2 y j &&& 51 = (y j / 4) &&& 51 := by
  unfold shB
  by_cases h : j = 7
  · rw [if_pos h]; simp
  · rw [if_neg h]
    have := tab2 (y j) (hy j hj) (y (j + 1) % 4) (by omega)
    rw [← this]
    congr 1
    omega

def f1 (y : Nat) : Nat := (y / 2 &&& 85) + (y &&& 85)
def f2 (y : Nat) : Nat := (y / 4 &&& 51) + (y &&& 51)
def f3 (y : Nat) : Nat := y / 16 + y % 16
def cnt8 (y : Nat) : Nat := (List.range 8).countP y.testBit
theorem f1_lt : ∀ y, y < 256 → f1 y < 256 := by decide +kernel
theorem f2_lt : ∀ y, y < 256 → f2 (f1 y) / 16 ≤ 4 ∧ f2 (f1 y) % 16 ≤ 4 := by decide +kernel
theorem f_cnt : ∀ y, y < 256 → f3 (f2 (f1 y)) = cnt8 y := by decide +kernel
theorem cnt8_le (y : Nat) : cnt8 y ≤ 8 := by unfold cnt8; have := List.countP_le_length (p := y.testBit) (l := List.range 8); simpa using this

theorem by8_add (y z : Nat → Nat) : by8 y + by8 z = by8 (fun j => y j + z j) := by unfold by8; dsimp only; omega
theorem step1 (x : Nat) (h : x < 18446744073709551616) : (x / 2 &&& 6148914691236517205) + (x &&& 6148914691236517205) = by8 (fun j => f1 (byteAt x j)) := by
  have hb : ∀ j, j < 8 → byteAt x j < 256 := fun j _ => byteAt_lt x j
  have e := of_bytes x h
  have e1 : x / 2 &&& 6148914691236517205 = by8 (fun j => byteAt x j / 2 &&& 85) := by
    conv => lhs; rw [e]
    rw [sh1 _ hb, mask _ 85 _ (shB_lt 1 (.inl rfl) _ hb) (by decide) (by decide)]
    exact by8_congr fun j hj => sh1_and _ hb j hj
  have e2 : x &&& 6148914691236517205 = by8 (fun j => byteAt x j &&& 85) := by
    conv => lhs; rw [e]
    exact mask _ 85 _ hb (by decide) (by decide)
  rw [e1, e2, by8_add]; rfl
theorem step2 (y : Nat → Nat) (hb : ∀ j, j < 8 → y j < 256) : (by8 y / 4 &&& 3689348814741910323) + (by8 y &&& 3689348814741910323) = by8 (fun j => f2 (y j)) := by
  have e1 : by8 y / 4 &&& 3689348814741910323 = by8 (fun j => y j / 4 &&& 51) := by
    rw [sh2 _ hb, mask _ 51 _ (shB_lt 2 (.inr rfl) _ hb) (by decide) (by decide)]
    exact by8_congr fun j hj => sh2_and _ hb j hj
  have e2 : by8 y &&& 3689348814741910323 = by8 (fun j => y j &&& 51) := mask _ 51 _ hb (by decide) (by decide)
  rw [e1, e2, by8_add]; rfl
def g3 (y : Nat → Nat) (j : Nat) : Nat := y j / 16 + y j + (if j = 7 then 0 else (y (j + 1) % 16) * 16)
theorem step3 (y : Nat → Nat) (hb : ∀ j, j < 8 → y j / 16 ≤ 4 ∧ y j % 16 ≤ 4) : (by8 y / 16 + by8 y) &&& 1085102592571150095 = by8 (fun j => f3 (y j)) := by
  have h0 := hb 0 (by decide); have h1 := hb 1 (by decide); have h2 := hb 2 (by decide); have h3 := hb 3 (by decide)
  have h4 := hb 4 (by decide); have h5 := hb 5 (by decide); have h6 := hb 6 (by decide); have h7 := hb 7 (by decide)
  have e : by8 y / 16 + by8 y = by8 (g3 y) := by
    unfold by8 g3
    simp
    omega
  have hg : ∀ j, j < 8 → g3 y j < 256 ∧ g3 y j % 16 = f3 (y j) := fun j hj => by
    have a := hb j hj
    unfold g3 f3
    by_cases h : j = 7
    · rw [if_pos h]; omega
    · have b := hb (j + 1) (by omega)
      rw [if_neg h]; omega
  rw [e, mask _ 15 _ (fun j hj => (hg j hj).1) (by decide) (by decide)]
  refine by8_congr fun j hj => ?_
  rw [← (hg j hj).2]
  exact Nat.and_two_pow_sub_one_eq_mod _ 4
theorem steps (c : Nat → Nat) (hc : ∀ j, j < 8 → c j ≤ 8) (x4 x5 x6 : Nat) (e4 : x4 = by8 c + by8 c / 256) (e5 : x5 = x4 + x4 / 65536) (e6 : x6 = x5 + x5 / 4294967296) :
    x4 < 18446744073709551616 ∧ x5 < 18446744073709551616 ∧ x6 < 9223372036854775808 ∧ x6 % 128 = c 0 + c 1 + c 2 + c 3 + c 4 + c 5 + c 6 + c 7 := by
  have h0 := hc 0 (by decide); have h1 := hc 1 (by decide); have h2 := hc 2 (by decide); have h3 := hc 3 (by decide)
  have h4 := hc 4 (by decide); have h5 := hc 5 (by decide); have h6 := hc 6 (by decide); have h7 := hc 7 (by decide)
  unfold by8 at e4
  generalize c 0 = c0 at *; generalize c 1 = c1 at *; generalize c 2 = c2 at *; generalize c 3 = c3 at *
  generalize c 4 = c4 at *; generalize c 5 = c5 at *; generalize c 6 = c6 at *; generalize c 7 = c7 at *
  have a4 : x4 = (c0 + c1) + 256 * ((c1 + c2) + 256 * ((c2 + c3) + 256 * ((c3 + c4) + 256 * ((c4 + c5) + 256 * ((c5 + c6) + 256 * ((c6 + c7) + 256 * c7)))))) := by omega
  clear e4
  have a5 : x5 = (c0 + c1 + c2 + c3) + 256 * ((c1 + c2 + c3 + c4) + 256 * ((c2 + c3 + c4 + c5) + 256 * ((c3 + c4 + c5 + c6) + 256 * ((c4 + c5 + c6 + c7) + 256 * ((c5 + c6 + c7) + 256 * ((c6 + c7) + 256 * c7)))))) := by omega
  have b4 : x4 < 18446744073709551616 := by omega
  clear e5 a4
  have b5 : x5 < 18446744073709551616 := by omega
  have q5 : x5 / 4294967296 = (c4 + c5 + c6 + c7) + 256 * ((c5 + c6 + c7) + 256 * ((c6 + c7) + 256 * c7)) := by omega
  have r5 : x5 % 128 = (c0 + c1 + c2 + c3) % 128 := by omega
  have z5 : x5 < 4611686018427387904 := by omega
  clear a5
  refine ⟨b4, b5, by omega, by omega⟩

theorem slots_count (x : Nat) (h : x < 18446744073709551616) : (slots x).length = cnt8 (byteAt x 0) + cnt8 (byteAt x 1) + cnt8 (byteAt x 2) + cnt8 (byteAt x 3) + cnt8 (byteAt x 4) + cnt8 (byteAt x 5) + cnt8 (byteAt x 6) + cnt8 (byteAt x 7) := by
  have hb : ∀ j i, i < 8 → (byteAt x j).testBit i = x.testBit (8 * j + i) := fun j i hi => by
    unfold byteAt
    rw [show (256 : Nat) ^ j = 2 ^ (8 * j) by rw [Nat.pow_mul], show (256 : Nat) = 2 ^ 8 from rfl, Nat.testBit_mod_two_pow, Nat.testBit_div_two_pow]
    simp [hi, Nat.add_comm]
  have hc : ∀ j, cnt8 (byteAt x j) = (List.range 8).countP (fun i => x.testBit (8 * j + i)) := fun j => by
    unfold cnt8
    apply List.countP_congr
    intro i hi
    rw [List.mem_range] at hi
    rw [hb j i hi]
  simp only [hc]
  unfold slots
  rw [← List.countP_eq_length_filter]
  have e : List.range 64 = (List.range 8).map (8 * 0 + ·) ++ (List.range 8).map (8 * 1 + ·) ++ (List.range 8).map (8 * 2 + ·) ++ (List.range 8).map (8 * 3 + ·) ++ (List.range 8).map (8 * 4 + ·) ++ (List.range 8).map (8 * 5 + ·) ++ (List.range 8).map (8 * 6 + ·) ++ (List.range 8).map (8 * 7 + ·) := by decide
  rw [e]
  simp only [List.countP_append, List.countP_map]
  rfl

/-- all of it -/
theorem ones (x x1 x2 x3 x4 x5 x6 : Nat) (h : x < 18446744073709551616)
    (e1 : x1 = (x / 2 &&& 6148914691236517205) + (x &&& 6148914691236517205)) (e2 : x2 = (x1 / 4 &&& 3689348814741910323) + (x1 &&& 3689348814741910323))
    (e3 : x3 = (x2 / 16 + x2) &&& 1085102592571150095) (e4 : x4 = x3 + x3 / 256) (e5 : x5 = x4 + x4 / 65536) (e6 : x6 = x5 + x5 / 4294967296) :
    x1 < 18446744073709551616 ∧ x2 < 18446744073709551616 ∧ x2 / 16 + x2 < 18446744073709551616 ∧ x3 < 18446744073709551616 ∧ x4 < 18446744073709551616 ∧ x5 < 18446744073709551616 ∧ x6 < 9223372036854775808 ∧ x6 % 128 = (slots x).length := by
  have hb : ∀ j, j < 8 → byteAt x j < 256 := fun j _ => byteAt_lt x j
  rw [step1 x h] at e1
  have b1 : ∀ j, j < 8 → f1 (byteAt x j) < 256 := fun j hj => f1_lt _ (hb j hj)
  rw [e1, step2 _ b1] at e2
  have b2 : ∀ j, j < 8 → f2 (f1 (byteAt x j)) / 16 ≤ 4 ∧ f2 (f1 (byteAt x j)) % 16 ≤ 4 := fun j hj => f2_lt _ (hb j hj)
  rw [e2, step3 _ b2] at e3
  have e3' : x3 = by8 (fun j => cnt8 (byteAt x j)) := e3.trans (by8_congr fun j hj => f_cnt _ (hb j hj))
  rw [e3'] at e4
  obtain ⟨q4, q5, q6, q7⟩ := steps _ (fun j _ => cnt8_le (byteAt x j)) x4 x5 x6 e4 e5 e6
  rw [slots_count x h]
  have lt : ∀ y : Nat → Nat, (∀ j, j < 8 → y j < 256) → by8 y < 18446744073709551616 := fun y hy => by
    have h0 := hy 0 (by decide); have h1 := hy 1 (by decide); have h2 := hy 2 (by decide); have h3 := hy 3 (by decide)
    have h4 := hy 4 (by decide); have h5 := hy 5 (by decide); have h6 := hy 6 (by decide); have h7 := hy 7 (by decide)
    unfold by8; omega
  have l2 : by8 (fun j => f2 (f1 (byteAt x j))) < 5000000000000000000 := by
    have h0 := b2 0 (by decide); have h1 := b2 1 (by decide); have h2 := b2 2 (by decide); have h3 := b2 3 (by decide)
    have h4 := b2 4 (by decide); have h5 := b2 5 (by decide); have h6 := b2 6 (by decide); have h7 := b2 7 (by decide)
    unfold by8; dsimp only; omega
  refine ⟨by rw [e1]; exact lt _ b1, by rw [e2]; omega, by rw [e2]; omega, by rw [e3']; exact lt _ fun j _ => by have := cnt8_le (byteAt x j); omega, q4, q5, q6, q7⟩
end Verge

/-
  Contracts of package bits' small functions: bit, Has, With, Without, Len, and of math/bits.TrailingZeros64, OnesCount64: what each returns, at every argument.
-/
namespace Go.Proofs.YtldnmpiaofppgaaDoor
open Go.RowKit Go.Shelf Verge
attribute [local go_sem] Oper.semAt_some
set_option linter.unusedVariables false

theorem ret_int {k : IntKind} {a b : Int} (h : a = b) : Ending.returned (.int k a) = .returned (.int k b) := by rw [h]
theorem ret_bool {a b : Bool} (h : a = b) : Ending.returned (.bool a) = .returned (.bool b) := by rw [h]

theorem wrap_nat (a : Nat) (h : a < 18446744073709551616) : IntKind.u64.wrap (a : Int) = (a : Int) := by rw [IntKind.wrap_u64]; omega
theorem wrap_pow (k : Nat) (h : k < 64) : IntKind.u64.wrap (2 ^ k) = ((2 ^ k : Nat) : Int) := by
  have := pow_lt64 k h
  have e : (2 : Int) ^ k = ((2 ^ k : Nat) : Int) := by simp
  rw [e]
  exact wrap_nat _ this

theorem bit_any (s : Int) (w : World) :
    Calls Tryd.prog 109 #[.int .i64 s] w fun e w' => e = .returned (.int .u64 (bitN s : Nat)) ∧ w = w' := by
  by_cases h : 0 ≤ s ∧ s < 64
  · obtain ⟨h0, h1⟩ := h
    obtain ⟨k, rfl⟩ := Int.eq_ofNat_of_zero_le h0
    rw [bitN_at k (by omega)]
    go_enter Tryd.func109, Tryd.ntmps109
    go_wp2
    go_ret
    exact ⟨ret_int (wrap_pow k (by omega)), rfl⟩
  · rw [bitN_no s h]
    by_cases h0 : s < 0
    · go_enter Tryd.func109, Tryd.ntmps109
      go_wp2
      go_ret
      exact ⟨rfl, rfl⟩
    · have h1 : 64 ≤ s := by omega
      go_enter Tryd.func109, Tryd.ntmps109
      go_wp2
      go_ret
      exact ⟨rfl, rfl⟩

theorem with_any (m : Nat) (s : Int) (hm : m < 18446744073709551616) (w : World) :
    Calls Tryd.prog 104 #[.int .u64 m, .int .i64 s] w fun e w' => e = .returned (.int .u64 (withN m s : Nat)) ∧ w = w' := by
  have E := Lib.hid (bits_or_u64_nat m (bitN s) hm (bitN_lt s))
  go_enter Tryd.func104, Tryd.ntmps104
  go_wp2_with fail
  refine (bit_any s _).mono ?_
  rintro e w' ⟨rfl, rfl⟩
  go_wp2
  go_ret
  exact ⟨ret_int E.out, rfl⟩

theorem without_any (m : Nat) (s : Int) (hm : m < 18446744073709551616) (w : World) :
    Calls Tryd.prog 105 #[.int .u64 m, .int .i64 s] w fun e w' => e = .returned (.int .u64 (woN m s : Nat)) ∧ w = w' := by
  have E := Lib.hid (bits_andNot_u64_nat m (bitN s) hm (bitN_lt s))
  go_enter Tryd.func105, Tryd.ntmps105
  go_wp2_with fail
  refine (bit_any s _).mono ?_
  rintro e w' ⟨rfl, rfl⟩
  go_wp2
  go_ret
  exact ⟨ret_int E.out, rfl⟩

theorem tz_key (x a : Nat) (hx : x < 18446744073709551616) (hx0 : x ≠ 0) (hlow : x &&& (18446744073709551616 - x) = a) :
    IntKind.u64.wrap (bits BinOp.and IntKind.u64 (x : Int) (IntKind.u64.wrap (-(x : Int))) * 285870213051353865) / 288230376151711744 = ((a * 285870213051353865 % 18446744073709551616 / 288230376151711744 : Nat) : Int) := by
  have e1 : IntKind.u64.wrap (-(x : Int)) = ((18446744073709551616 - x : Nat) : Int) := by rw [IntKind.wrap_u64]; omega
  rw [e1, bits_and_u64_nat x _ hx (by omega), hlow, IntKind.wrap_u64]
  omega
set_option maxHeartbeats 1000000 in
theorem tz_core (x k idx : Nat) (w : World) (hx0 : ((x : Int) == 0) = false)
    (key : IntKind.u64.wrap (bits BinOp.and IntKind.u64 (x : Int) (IntKind.u64.wrap (-(x : Int))) * 285870213051353865) / 288230376151711744 = (idx : Int))
    (hi : idx < 64) (hk : k < 64) (hcell : w.cell? ⟨0, idx, none⟩ = some (.int .u8 k)) :
    Calls Tryd.prog 107 #[.int .u64 x] w fun e w' => e = .returned (.int .i64 k) ∧ w = w' := by
  go_enter Tryd.func107, Tryd.ntmps107
  go_wp2_with (simp only [key])
  go_ret
  exact ⟨rfl, rfl⟩
theorem tz_any (x : Nat) (hx : x < 18446744073709551616) (hx0 : x ≠ 0) (w : World) (T : Tab w) :
    Calls Tryd.prog 107 #[.int .u64 x] w fun e w' => e = .returned (.int .i64 (Lib.ctz 64 x : Nat)) ∧ w = w' := by
  obtain ⟨hlow, hk⟩ := Lib.lowest_bit 64 x hx0 hx
  obtain ⟨hi, htab⟩ := Lib.deBruijn64_at _ hk
  have hcell := T _ hi
  rw [htab] at hcell
  exact tz_core x _ _ w (by simp; omega) (tz_key x _ hx hx0 hlow) hi hk hcell

theorem and_div (x c d : Nat) (hx : x < 18446744073709551616) (hc : c < 18446744073709551616) : bits .and .u64 ((x : Int) / (d : Int)) (c : Int) = ((x / d &&& c : Nat) : Int) := by
  have e : (x : Int) / (d : Int) = ((x / d : Nat) : Int) := by simp
  rw [e]
  exact bits_and_u64_nat _ _ (Nat.lt_of_le_of_lt (Nat.div_le_self _ _) hx) hc
theorem wrap_add (a b : Nat) (h : a + b < 18446744073709551616) : IntKind.u64.wrap ((a : Int) + (b : Int)) = ((a + b : Nat) : Int) := by
  rw [IntKind.wrap_u64]; omega
theorem and127 (a : Nat) (h : a < 9223372036854775808) : bits .and .i64 (a : Int) 127 = ((a % 128 : Nat) : Int) := by
  have h1 : (BitVec.ofInt 64 (a : Int)).toNat = a := by
    rw [BitVec.ofInt_natCast, BitVec.toNat_ofNat]; exact Nat.mod_eq_of_lt (by omega)
  have h2 : (BitVec.ofInt 64 (127 : Int)).toNat = 127 := by decide
  show IntKind.i64.wrap ((BitVec.ofInt 64 (a : Int) &&& BitVec.ofInt 64 (127 : Int)).toNat : Int) = _
  have e : a &&& 127 = a % 128 := Nat.and_two_pow_sub_one_eq_mod _ 7
  rw [BitVec.toNat_and, h1, h2, e]
  exact IntWalk.i64_in _ (by omega)
set_option maxHeartbeats 1000000 in
theorem ones_any (x : Nat) (hx : x < 18446744073709551616) (w : World) :
    Calls Tryd.prog 108 #[.int .u64 x] w fun e w' => e = .returned (.int .i64 ((slots x).length : Nat)) ∧ w = w' := by
  obtain ⟨x1, e1⟩ : ∃ x1, x1 = (x / 2 &&& 6148914691236517205) + (x &&& 6148914691236517205) := ⟨_, rfl⟩
  obtain ⟨x2, e2⟩ : ∃ x2, x2 = (x1 / 4 &&& 3689348814741910323) + (x1 &&& 3689348814741910323) := ⟨_, rfl⟩
  obtain ⟨x3, e3⟩ : ∃ x3, x3 = (x2 / 16 + x2) &&& 1085102592571150095 := ⟨_, rfl⟩
  obtain ⟨x4, e4⟩ : ∃ x4, x4 = x3 + x3 / 256 := ⟨_, rfl⟩
  obtain ⟨x5, e5⟩ : ∃ x5, x5 = x4 + x4 / 65536 := ⟨_, rfl⟩
  obtain ⟨x6, e6⟩ : ∃ x6, x6 = x5 + x5 / 4294967296 := ⟨_, rfl⟩
  obtain ⟨l1, l2, l2b, l3, l4, l5, l6, fin⟩ := ones x x1 x2 x3 x4 x5 x6 hx e1 e2 e3 e4 e5 e6
  have k1 : IntKind.u64.wrap (bits .and .u64 ((x : Int) / 2) 6148914691236517205 + bits .and .u64 (x : Int) 6148914691236517205) = (x1 : Int) := by
    have a : bits .and .u64 ((x : Int) / 2) 6148914691236517205 = ((x / 2 &&& 6148914691236517205 : Nat) : Int) := and_div x 6148914691236517205 2 hx (by decide)
    have b : bits .and .u64 (x : Int) 6148914691236517205 = ((x &&& 6148914691236517205 : Nat) : Int) := bits_and_u64_nat x 6148914691236517205 hx (by decide)
    rw [a, b, wrap_add _ _ (by rw [← e1]; exact l1), ← e1]
  have k2 : IntKind.u64.wrap (bits .and .u64 ((x1 : Int) / 4) 3689348814741910323 + bits .and .u64 (x1 : Int) 3689348814741910323) = (x2 : Int) := by
    have a : bits .and .u64 ((x1 : Int) / 4) 3689348814741910323 = ((x1 / 4 &&& 3689348814741910323 : Nat) : Int) := and_div x1 3689348814741910323 4 l1 (by decide)
    have b : bits .and .u64 (x1 : Int) 3689348814741910323 = ((x1 &&& 3689348814741910323 : Nat) : Int) := bits_and_u64_nat x1 3689348814741910323 l1 (by decide)
    rw [a, b, wrap_add _ _ (by rw [← e2]; exact l2), ← e2]
  have k3 : bits .and .u64 (IntKind.u64.wrap ((x2 : Int) / 16 + (x2 : Int))) 1085102592571150095 = (x3 : Int) := by
    have a : (x2 : Int) / 16 = ((x2 / 16 : Nat) : Int) := by simp
    have b : bits .and .u64 ((x2 / 16 + x2 : Nat) : Int) 1085102592571150095 = (((x2 / 16 + x2) &&& 1085102592571150095 : Nat) : Int) := bits_and_u64_nat (x2 / 16 + x2) 1085102592571150095 l2b (by decide)
    rw [a, wrap_add _ _ l2b, b, ← e3]
  have k4 : IntKind.u64.wrap ((x3 : Int) + (x3 : Int) / 256) = (x4 : Int) := by
    have a : (x3 : Int) / 256 = ((x3 / 256 : Nat) : Int) := by simp
    rw [a, wrap_add _ _ (by rw [← e4]; exact l4), ← e4]
  have k5 : IntKind.u64.wrap ((x4 : Int) + (x4 : Int) / 65536) = (x5 : Int) := by
    have a : (x4 : Int) / 65536 = ((x4 / 65536 : Nat) : Int) := by simp
    rw [a, wrap_add _ _ (by rw [← e5]; exact l5), ← e5]
  have k6 : IntKind.u64.wrap ((x5 : Int) + (x5 : Int) / 4294967296) = (x6 : Int) := by
    have a : (x5 : Int) / 4294967296 = ((x5 / 4294967296 : Nat) : Int) := by simp
    rw [a, wrap_add _ _ (by rw [← e6]; omega), ← e6]
  have k7 : wrap64 (x6 : Int) = (x6 : Int) := by unfold wrap64; omega
  have K1 := Lib.hid k1; have K2 := Lib.hid k2; have K3 := Lib.hid k3; have K4 := Lib.hid k4; have K5 := Lib.hid k5; have K6 := Lib.hid k6; have K7 := Lib.hid k7
  have F := Lib.hid (and127 x6 l6)
  have G := Lib.hid fin
  clear k1 k2 k3 k4 k5 k6 k7 e1 e2 e3 e4 e5 e6 fin l1 l2 l2b l3 l4 l5 l6
  go_enter Tryd.func108, Tryd.ntmps108
  go_wp2
  go_ret
  simp only [K1.out, K2.out, K3.out, K4.out, K5.out, K6.out]
  refine ⟨ret_int ?_, trivial⟩
  rw [K7.out, F.out, G.out]
theorem len_any (x : Nat) (hx : x < 18446744073709551616) (w : World) :
    Calls Tryd.prog 102 #[.int .u64 x] w fun e w' => e = .returned (.int .i64 ((slots x).length : Nat)) ∧ w = w' := by
  go_enter Tryd.func102, Tryd.ntmps102
  go_wp2_with fail
  refine (ones_any x hx _).mono ?_
  rintro e w' ⟨rfl, rfl⟩
  go_wp2
  go_ret
  exact ⟨rfl, rfl⟩
end Go.Proofs.YtldnmpiaofppgaaDoor

/-
  'for x := range f': a law of our own for a loop whose rounds are told by their number and may leave it (a return, a break).
-/
namespace Go.Proofs.YtldnmpiaofppgaaDoor
open Go.RowKit
set_option linter.unusedVariables false

/-- how a round is left: it goes on, or it leaves by a return or a break -/
def somePost (B : Nat) (I : Nat → World → Prop) (Ix : Code → Nat → World → Prop) (k : Nat) (W : World) : Exit → Act → World → Prop
  | .normal, _, W' => KeepsFrom B W W' ∧ I (k + 1) W'
  | .ret, _, W' => KeepsFrom B W W' ∧ Ix .ret k W'
  | .exit id, _, W' => KeepsFrom B W W' ∧ Ix (.exit id) k W'
  | _, _, _ => False

/-- what is asked of the iterator: whatever the caller's words J, Jx of the rounds, as long as J tells I -/
def TellsSome (n : Nat) (P : Program) (gf : Nat) (args : Nat → Array Value) (N : Nat) (val : Nat → Value) (I : Nat → World → Prop) : Prop :=
  ∀ (l : Nat) (J Jx : Nat → World → Prop) (W : World), (∀ k W, J k W → I k W) →
    (∀ k W1, J k W1 → k < N → YieldAt Fence.wide (n - 1) P l #[val k] W1 fun e W' => (e = .returned (.bool true) ∧ J (k + 1) W') ∨ (e = .returned (.bool false) ∧ Jx k W')) → J 0 W →
    CallsIn Fence.wide n P gf (args l) W fun e W' => (∃ v, e = .returned v) ∧ (J N W' ∨ ∃ k, k < N ∧ Jx k W')

theorem range_some {n : Nat} {P : Program} {g : Operand} {ps : Array Tmp} {assign body : Code} {Q : Exit → Act → World → Prop} {a : Act} {w : World} {gf : Nat} {ba : Array Value}
    (hg : a.eval g = .func (.func gf) ba #[]) (eg : ∀ args w, (callFunc gf args).run P w = .ok (.enter gf args) w)
    (N : Nat) (val : Nat → Value) (hps : ps.size = 1) (I : Nat → World → Prop) (Ix : Code → Nat → World → Prop) (hI : Steady w.heap.size I) (hIx : ∀ c, Steady w.heap.size (Ix c)) (h0 : I 0 w)
    (hit : TellsSome (n - 1) P gf (fun l => ba ++ #[.func (.yield l) #[] #[]]) N val I) (a₁ : Nat → Act)
    (hassign : ∀ (l k : Nat) (W : World) (K : Act → World → Prop), K (a₁ k) W →
      assign.wpIn (Fence.wide.inRound l) (n - 1 - 1) P (Exit.then K (fun _ _ _ => False)) { tmps := (ps.zip #[val k]).foldl (fun t (p, v) => t.setIfInBounds p v) a.tmps, defers := [] } W)
    (hbody : ∀ (l k : Nat) (W : World), I k W → k < N → body.wpIn (Fence.wide.inRound l) (n - 1 - 1) P (somePost w.heap.size I Ix k W) (a₁ k) W)
    (hdone : ∀ (D : Nat) (W : World), w.heap.size ≤ D → I N W → W.heap[D]? = some (.deferred (some [])) → Q .normal { a with defers := { target := .collected D, args := #[] } :: a.defers } W)
    (hstop : ∀ (D : Nat) (c : Code) (k : Nat) (W : World), w.heap.size ≤ D → k < N → Ix c k W → W.heap[D]? = some (.deferred (some [])) → c.wpIn Fence.wide n P Q { a with defers := { target := .collected D, args := #[] } :: a.defers } W) :
    (Code.rangeFunc g ps assign body).wpIn Fence.wide n P Q a w := by
  refine wpIn_rangeFunc ?_
  intro fn hfn
  obtain ⟨D, hD⟩ : ∃ D, D = w.heap.size := ⟨_, rfl⟩
  obtain ⟨rec, hrec⟩ : ∃ rec : LoopState → Option Code → Loop, rec = fun st pe => { state := st, pending := pe, fn, tmps := a.tmps, params := ps, assign, body, defers := D } := ⟨_, rfl⟩
  obtain ⟨W1, hW1⟩ : ∃ W1, W1 = (w.alloc (.deferred (some []))).alloc (.loop (rec .ready none)) := ⟨_, rfl⟩
  have hs1 : (w.alloc (.deferred (some []))).heap.size = D + 1 := by rw [World.size_alloc, hD]
  have hK1 : W1.heap[D]? = some (.deferred (some [])) := by
    rw [hW1, Below.heap_alloc _ _ _ (by omega), hD]; exact World.alloc_heap_new w _
  have hL1 : W1.heap[D + 1]? = some (.loop (rec .ready none)) := by
    rw [hW1, ← hs1]; exact World.alloc_heap_new _ _
  have hI1 : I 0 W1 := by rw [hW1]; exact hI.new _ (hI.new _ h0 (Nat.le_refl _)) (by rw [World.size_alloc]; omega)
  let J : Nat → World → Prop := fun k W => I k W ∧ W.heap[D + 1]? = some (.loop (rec .ready none)) ∧ W.heap[D]? = some (.deferred (some []))
  let Jx : Nat → World → Prop := fun k W => ∃ c, Ix c k W ∧ W.heap[D + 1]? = some (.loop (rec .done (some c))) ∧ W.heap[D]? = some (.deferred (some []))
  refine ⟨D + 1, [{ target := .collected D, args := #[] }], W1, { target := .fn (.func gf) #[], args := ba ++ #[.func (.yield (D + 1)) #[] #[]] }, W1, gf, ba ++ #[.func (.yield (D + 1)) #[] #[]], W1, ?_, ?_, fun _ _ => trivial, ?_, fun h => (by cases h), ?_⟩
  · rw [hW1, hrec, hD]; exact run_enterLoop_outer fn a.tmps ps assign body
  · simp only [resolve, hg]; simp [go_sem]
  · simp [invoke, go_sem, eg]
  · refine (hit (D + 1) J Jx W1 (fun k W h => h.1) ?_ ⟨hI1, hL1, hK1⟩).mono ?_
    · rintro k W ⟨hi, hl, hk⟩ hkN
      have hlt := (Array.getElem?_eq_some_iff.1 hl).1
      have hy := run_yield (P := P) (args := #[val k]) hl (by rw [hrec]; simp [hps])
      rw [hrec] at hy
      refine ⟨fn, _, assign, body, hy, roundIn_of_wpIn hfn (hassign _ k W _ ⟨_, run_beginRound hl (by rw [hrec]), ?_⟩)⟩
      have hl2 : (W.putObj (D + 1) (.loop { rec .ready none with state := .busy })).heap[D + 1]? = some (.loop { rec .ready none with state := .busy }) := World.putObj_heap_same hlt
      have hk2 : (W.putObj (D + 1) (.loop { rec .ready none with state := .busy })).heap[D]? = some (.deferred (some [])) := (World.putObj_heap_other (by omega)).trans hk
      refine wpIn_mono (hbody _ k _ (hI.put _ hi (by omega) hl rfl) hkN) ?_
      have fin : ∀ (jump : Option Code) (W3 : World), KeepsFrom w.heap.size (W.putObj (D + 1) (.loop { rec .ready none with state := .busy })) W3 →
          (Instr.endRound (D + 1) jump).run P W3 = .ok (.bool jump.isNone) (W3.putObj (D + 1) (.loop (rec (if jump.isNone then .ready else .done) jump))) ∧
          W3.heap[D + 1]? = some (.loop { rec .ready none with state := .busy }) ∧
          (W3.putObj (D + 1) (.loop (rec (if jump.isNone then .ready else .done) jump))).heap[D + 1]? = some (.loop (rec (if jump.isNone then .ready else .done) jump)) ∧
          (W3.putObj (D + 1) (.loop (rec (if jump.isNone then .ready else .done) jump))).heap[D]? = some (.deferred (some [])) := fun jump W3 kf => by
        have hl3 := kf.same _ _ (by omega) hl2 rfl
        have hk3 := kf.same _ _ (Nat.le_of_eq hD.symm) hk2 rfl
        have hr := run_endRound (P := P) jump hl3
        refine ⟨by rw [hr, hrec], hl3, ?_, (World.putObj_heap_other (by omega)).trans hk3⟩
        rw [World.putObj_heap_same (Array.getElem?_eq_some_iff.1 hl3).1]
      rintro e a3 W3 hp
      cases e with
      | normal =>
        obtain ⟨kf, hi3⟩ := hp
        obtain ⟨hr, hl3, hl4, hk4⟩ := fin none W3 kf
        exact ⟨_, _, hr, .inl ⟨rfl, hI.put _ hi3 (by omega) hl3 rfl, hl4, hk4⟩⟩
      | ret =>
        obtain ⟨kf, hi3⟩ := hp
        obtain ⟨hr, hl3, hl4, hk4⟩ := fin (some .ret) W3 kf
        exact ⟨_, _, hr, .inr ⟨rfl, .ret, (hIx _).put _ hi3 (by omega) hl3 rfl, hl4, hk4⟩⟩
      | exit id =>
        obtain ⟨kf, hi3⟩ := hp
        obtain ⟨hr, hl3, hl4, hk4⟩ := fin (some (.exit id)) W3 kf
        exact ⟨_, _, hr, .inr ⟨rfl, .exit id, (hIx _).put _ hi3 (by omega) hl3 rfl, hl4, hk4⟩⟩
      | goto t => exact hp.elim
      | panic ch => exact hp.elim
      | outgrown => exact hp.elim
    · rintro e W2 ⟨⟨v, rfl⟩, (⟨hi, hl, hk⟩ | ⟨k, hkN, c, hi, hl, hk⟩)⟩
      · have hE := run_endLoop (P := P) hl (by rw [hrec]; simp)
        have hp : (rec .ready none).pending = none := by rw [hrec]
        rw [hp] at hE
        exact ⟨none, _, hE, hdone D _ (Nat.le_of_eq hD.symm) (hI.put _ hi (by omega) hl rfl) ((World.putObj_heap_other (by omega)).trans hk)⟩
      · have hE := run_endLoop (P := P) hl (by rw [hrec]; simp)
        have hp : (rec .done (some c)).pending = some c := by rw [hrec]
        rw [hp] at hE
        exact ⟨some c, _, hE, hstop D c k _ (Nat.le_of_eq hD.symm) hkN ((hIx c).put _ hi (by omega) hl rfl) ((World.putObj_heap_other (by omega)).trans hk)⟩
end Go.Proofs.YtldnmpiaofppgaaDoor

/-
  Contracts of package bits' iterator (slots) and of From, Round: the least slot from one on, at every argument.
-/
namespace Go.Proofs.YtldnmpiaofppgaaDoor
open Go.RowKit Go.Shelf Verge
attribute [local go_sem] Oper.semAt_some
set_option linter.unusedVariables false
set_option linter.unusedSimpArgs false

/-- how many slots a map has -/
def left (v : Value) : Nat := (slots (intOf v).toNat).length

set_option maxRecDepth 100000 in
set_option maxHeartbeats 1000000 in
theorem slots_tells (n : Nat) (h1 : 1 ≤ n) (m : Nat) (hm : m < 18446744073709551616) (I : Nat → World → Prop) (hT : ∀ k W, I k W → Tab W) :
    TellsSome n Tryd.prog 101 (fun l => #[.int .u64 m] ++ #[.func (.yield l) #[] #[]]) (slots m).length (fun k => .int .i64 (slotAt m k : Nat)) I := by
  intro l J Jx W hJ hY h0
  have HT := Lib.hid fun k W h => hT k W (hJ k W h)
  have HY := Lib.hid hY
  have H0 := Lib.hid h0
  have HM := Lib.hid (show slots m = (slots m).drop 0 from rfl)
  clear hT hJ hY h0
  refine callsIn_of_wp Tryd.func101 rfl trivial ?_ rfl
  simp only [Tryd.ntmps101, List.size_toArray, List.length_cons, List.length_nil, Nat.reduceAdd, Nat.reduceSub, Array.replicate_succ, Array.replicate_zero, List.push_toArray, List.append_toArray, List.nil_append, List.cons_append]
  gi_wp2
  gi_loopw [0] (fun v wr => ∃ k r : Nat, k ≤ (slots m).length ∧ r < 18446744073709551616 ∧ v = .int .u64 r ∧ Hid (slots r = (slots m).drop k) ∧ J k wr) (fun v _ => left v)
  case atStart => exact ⟨0, m, by omega, hm, rfl, HM, H0.out⟩
  case round =>
    obtain ⟨k, r, hk, hr, rfl, HD, hj⟩ := hrel
    have HJ2 := Lib.hid hj
    clear hj
    by_cases hlt : k < (slots m).length
    · have hr0 : r ≠ 0 := by
        rintro rfl
        have := HD.out
        rw [slots_zero] at this
        have := congrArg List.length this
        simp at this; omega
      have hcons := slots_cons r hr hr0
      have hg : slotAt m k = Lib.ctz 64 r := by
        have h1 := HD.out
        rw [hcons] at h1
        have h2 := congrArg (·[0]?) h1
        simp only [List.getElem?_cons_zero, List.getElem?_drop, Nat.add_zero] at h2
        unfold slotAt; rw [List.getD_eq_getElem?_getD, ← h2]; rfl
      obtain ⟨fn, tmps, assign, body, hy, hR⟩ := HY.out k wr HJ2.out hlt
      rw [hg] at hy
      have hc := (ctz_spec r hr hr0).1
      have HR := Lib.hid hR
      have HC := Lib.hid hcons
      have b0 : ((r : Int) != 0) = true := by rw [bne_iff_ne]; omega
      have hd2 : slots (woN r (Lib.ctz 64 r : Nat)) = (slots m).drop (k + 1) := by
        have h1 := HD.out
        rw [hcons] at h1
        have h2 := congrArg List.tail h1
        simpa using h2
      have HD2 := Lib.hid hd2
      have hw := woN_lt r (Lib.ctz 64 r : Nat) hr
      have TZ := fun W T => tz_any r hr hr0 W T
      have HTZ := Lib.hid TZ
      have T0 := Lib.hid (HT.out k wr HJ2.out)
      clear hR hcons hg hd2 TZ
      generalize Lib.ctz 64 r = c at *
      gi_wp2_with (refine ⟨trivial, ?_⟩; gi_at_call 107; refine (callsIn_wide.2 (HTZ.out _ T0.out)).mono ?_; rintro e w' ⟨rfl, rfl⟩)
      refine HR.out.mono ?_
      rintro e W3 (⟨rfl, hJ3⟩ | ⟨rfl, hJx3⟩)
      · have HJ3 := Lib.hid hJ3
        clear hJ3
        gi_wp2_with (refine ⟨trivial, ?_⟩; gi_at_call 105; refine (callsIn_wide.2 (without_any r c hr _)).mono ?_; rintro e w' ⟨rfl, rfl⟩)
        go_roundw
        case rel => exact ⟨k + 1, _, by omega, hw, rfl, HD2, HJ3.out⟩
        case measure =>
          simp only [left, intOf, Int.toNat_natCast]
          rw [HC.out]; simp
      · have HJ3 := Lib.hid hJx3
        clear hJx3
        gi_wp2
        refine bodyPost_ret (results_none rfl _ _ _) rfl ?_
        exact ⟨⟨_, rfl⟩, .inr ⟨k, hlt, HJ3.out⟩⟩
    · obtain rfl : k = (slots m).length := by omega
      have hr0 : r = 0 := slots_nil r hr (by rw [HD.out]; simp)
      clear HD
      subst hr0
      gi_wp2
      go_end0
      exact ⟨⟨_, rfl⟩, .inl HJ2.out⟩
end Go.Proofs.YtldnmpiaofppgaaDoor

/-
  Contracts of package bits' From and Round: the least slot from one on, at every argument.
-/
namespace Go.Proofs.YtldnmpiaofppgaaDoor
open Go.RowKit Go.Shelf Verge
attribute [local go_sem] Oper.semAt_some
set_option linter.unusedVariables false
set_option linter.unusedSimpArgs false

theorem Ch.later {S : Nat → Prop} {r : Nat} {a w w' : World} (h : Ch S a w) (c : Ch (One r) w w') (hr : a.heap.size ≤ r) : Ch S a w' :=
  h.then c fun i hi e => by subst e; omega
theorem Keeps.of_chl {S : Nat → Prop} {w w' : World} {B : Nat} (c : Ch S w w') (hS : ∀ k, S k → k < B) : KeepsFrom B w w' :=
  ⟨c.size, fun k o hB hk ho => (c.block k (Array.getElem?_eq_some_iff.1 hk).1 fun hs => by have := hS k hs; omega).trans hk⟩

/-- between two rounds of From: none so far -/
structure FrIn (w : World) (m : Nat) (s : Int) (k : Nat) (W : World) : Prop where
  t : Tab W
  sc : W.cell? ⟨w.heap.size, 0, none⟩ = some (.int .i64 s)
  r : ∃ x, W.cell? ⟨w.heap.size + 1, 0, none⟩ = some (.int .i64 x)
  f : W.frozen? ⟨w.heap.size + 1, 0, none⟩ = false
  c : Ch Nil w W
  no : ∀ j x, j < k → (slots m)[j]? = some x → (x : Int) < s
/-- From has found it in round k -/
structure FrOut (w : World) (m : Nat) (s : Int) (k : Nat) (W : World) : Prop where
  x : W.cell? ⟨w.heap.size + 1, 0, none⟩ = some (.int .i64 (slotAt m k : Nat))
  c : Ch Nil w W
  no : ∀ j x, j < k → (slots m)[j]? = some x → (x : Int) < s
  yes : s ≤ (slotAt m k : Nat)
theorem FrIn.steady {w : World} {m : Nat} {s : Int} {B : Nat} (hB : w.heap.size + 2 ≤ B) : Steady B (FrIn w m s) := fun k W W' r h c hr nc => by
  obtain ⟨x, hx⟩ := h.r
  exact ⟨h.t.keeps c (fun e => by have := h.t.lt; have := nc.cell (h.t 0 (by omega)); exact this e), c.keeps h.sc (fun e => nc.cell h.sc e), ⟨x, c.keeps hx (fun e => nc.cell hx e)⟩,
    (c.frozen (p := ⟨w.heap.size + 1, 0, none⟩) (lt_of_cell hx) (fun e => nc.cell hx e)).trans h.f, h.c.later c (by omega), h.no⟩
theorem FrOut.steady {w : World} {m : Nat} {s : Int} {B : Nat} (hB : w.heap.size + 2 ≤ B) : Steady B (FrOut w m s) := fun k W W' r h c hr nc =>
  ⟨c.keeps h.x (fun e => nc.cell h.x e), h.c.later c (by omega), h.no, h.yes⟩

theorem find_none (l : List Nat) (s : Int) (h : ∀ (j x : Nat), j < l.length → l[j]? = some x → (x : Int) < s) : l.find? (fun x : Nat => decide (s ≤ (x : Int))) = none := by
  rw [List.find?_eq_none]
  intro x hx
  obtain ⟨j, hj, rfl⟩ := List.getElem_of_mem hx
  have := h j _ hj (List.getElem?_eq_getElem hj)
  simp; omega
theorem find_at (l : List Nat) (s : Int) (k : Nat) (hk : k < l.length) (h : ∀ (j x : Nat), j < k → l[j]? = some x → (x : Int) < s) (hy : s ≤ (l.getD k 0 : Nat)) : l.find? (fun x : Nat => decide (s ≤ (x : Int))) = some (l.getD k 0) := by
  have e : l.getD k 0 = l[k] := by rw [List.getD_eq_getElem?_getD, List.getElem?_eq_getElem hk]; rfl
  rw [e] at hy ⊢
  rw [List.find?_eq_some_iff_getElem]
  refine ⟨by simpa using hy, k, hk, rfl, fun j hj => ?_⟩
  have := h j _ hj (List.getElem?_eq_getElem (by omega))
  simp; omega
theorem FrIn.none {w : World} {m : Nat} {s : Int} {W : World} (h : FrIn w m s (slots m).length W) : fromN m s = -1 := by
  unfold fromN; rw [find_none _ _ h.no]
theorem FrOut.some {w : World} {m : Nat} {s : Int} {k : Nat} {W : World} (h : FrOut w m s k W) (hk : k < (slots m).length) : fromN m s = (slotAt m k : Nat) := by
  unfold fromN; rw [find_at _ _ k hk h.no h.yes]; rfl

set_option maxRecDepth 100000 in
set_option maxHeartbeats 1000000 in
theorem from_any (m : Nat) (s : Int) (hm : m < 18446744073709551616) (w : World) (T : Tab w) :
    Calls Tryd.prog 89 #[.int .u64 m, .int .i64 s] w fun e w' => e = .returned (.int .i64 (fromN m s)) ∧ Ch Nil w w' := by
  have hI0 : FrIn w m s 0 ((w.alloc (.cells #[.int .i64 s] 3)).alloc (.cells #[.int .i64 0] 3)) := by
    have c1 : Ch Nil w (w.alloc (.cells #[.int .i64 s] 3)) := (Ch.refl _ _).alloc _
    have c2 : Ch Nil (w.alloc (.cells #[.int .i64 s] 3)) ((w.alloc (.cells #[.int .i64 s] 3)).alloc (.cells #[.int .i64 0] 3)) := (Ch.refl _ _).alloc _
    have hs : (w.alloc (.cells #[.int .i64 s] 3)).heap.size = w.heap.size + 1 := by simp
    refine ⟨T.keeps (c1.trans c2) (fun e => e), c2.keeps (by simp [cell_fresh]) (fun e => e), ⟨0, ?_⟩, ?_, c1.trans c2, fun j x hj => by omega⟩
    · rw [← hs]; simp [cell_fresh]
    · rw [← hs]; simp [frozen_fresh]
  have HI0 := Lib.hid hI0
  have hsz : ((w.alloc (.cells #[.int .i64 s] 3)).alloc (.cells #[.int .i64 0] 3)).heap.size = w.heap.size + 2 := by simp
  clear hI0 T
  refine (callsIn_wide (n := 5)).1 ?_
  refine callsIn_of_wp_marks Tryd.func89 rfl trivial ?_ rfl
  simp only [Tryd.ntmps89, List.size_toArray, List.length_cons, List.length_nil, Nat.reduceAdd, Nat.reduceSub, Array.replicate_succ, Array.replicate_zero, List.push_toArray, List.append_toArray, List.nil_append, List.cons_append]
  gi_wp2
  generalize hW0 : ((w.alloc (.cells #[.int .i64 s] 3)).alloc (.cells #[.int .i64 0] 3)) = W0 at *
  clear hW0
  refine range_some (n := 5) (gf := 101) (ba := #[.int .u64 m]) rfl (enters_of Tryd.func101 (by kernel_rfl) rfl) (slots m).length (fun k => .int .i64 (slotAt m k : Nat)) rfl
    (FrIn w m s) (fun c k W => c = .ret ∧ FrOut w m s k W) (FrIn.steady (by omega)) ?hIx HI0.out (slots_tells 4 (by omega) m hm _ (fun k W h => h.t)) ?act1 ?assign ?body ?done ?stop
  case hIx => exact fun c k W W' r h ch hr nc => ⟨h.1, FrOut.steady (B := W0.heap.size) (by omega) k W W' r h.2 ch hr nc⟩
  case assign =>
    intro l k W K hK
    gi_wp2
    exact hK
  case body =>
    intro l k W hW hk
    have c1 := hW.sc
    have f1 := hW.f
    obtain ⟨x, c2⟩ := hW.r
    have HW := Lib.hid hW
    clear hW
    have hg := slotAt_get m k hk
    have HG := Lib.hid hg
    clear hg
    have hlt := lt_of_cell c2
    by_cases hs : s ≤ (slotAt m k : Nat)
    · gi_wp2
      have ch : Ch (One (w.heap.size + 1)) W (W.setCell ⟨w.heap.size + 1, 0, none⟩ (.int .i64 (slotAt m k : Nat))) := (Ch.refl _ _).setB 0 _
      refine ⟨Keeps.of_chl ch (fun j hj => by rw [hj]; omega), rfl, World.cell?_setCell_same _ _ _ c2, HW.out.c.then ch (fun i hi e => by subst e; omega), HW.out.no, hs⟩
    · gi_wp2
      refine ⟨KeepsFrom.refl _ _, HW.out.t, HW.out.sc, HW.out.r, HW.out.f, HW.out.c, fun j x hj hx => ?_⟩
      by_cases e : j < k
      · exact HW.out.no j x e hx
      · obtain rfl : j = k := by omega
        rw [HG.out] at hx
        cases hx
        omega
  case done =>
    intro D W hD hW hK
    have hput := (FrIn.steady (B := w.heap.size + 2) (Nat.le_refl _)).put (.deferred none) hW (by omega) hK rfl
    have f1 := hW.f
    obtain ⟨x, c2⟩ := hW.r
    have hF := hW.none
    have HP := Lib.hid hput
    have HF := Lib.hid hF
    have hc := hW.c
    have HC := Lib.hid hc
    clear hW hput hF hc
    gi_wp2
    have hlt := lt_of_cell c2
    have ch : Ch (One (w.heap.size + 1)) W (W.setCell ⟨w.heap.size + 1, 0, none⟩ (.int .i64 (-1))) := (Ch.refl _ _).setB 0 _
    have hK2 : (W.setCell ⟨w.heap.size + 1, 0, none⟩ (.int .i64 (-1))).heap[D]? = some (.deferred (some [])) := (ch.block D (Array.getElem?_eq_some_iff.1 hK).1 (by intro e; omega)).trans hK
    refine ⟨by simp, .inl ⟨_, _, rfl, run_takeDeferred hK2, ?_⟩⟩
    have c3 := (Ch.put (W := W.setCell ⟨w.heap.size + 1, 0, none⟩ (.int .i64 (-1))) D (.deferred none)).keeps (World.cell?_setCell_same _ _ _ c2) (by intro e; simp at e; omega)
    refine ⟨.int .i64 (-1), by simp [results, Tryd.results89, go_sem, c3], ?_, ?_⟩
    · rw [HF.out]
    · exact (HC.out.then ch (fun i hi e => by subst e; omega)).later (Ch.put D (.deferred none)) (by omega)
  case stop =>
    intro D c k W hD hk hW hK
    obtain ⟨rfl, hW⟩ := hW
    have hF := hW.some hk
    have hput := (FrOut.steady (B := w.heap.size + 2) (Nat.le_refl _)).put (.deferred none) hW (by omega) hK rfl
    have HP := Lib.hid hput
    have HF := Lib.hid hF
    clear hW hput hF
    gi_wp2
    refine ⟨by simp, .inl ⟨_, _, rfl, run_takeDeferred hK, ?_⟩⟩
    have c3 := HP.out.x
    refine ⟨.int .i64 (slotAt m k : Nat), by simp [results, Tryd.results89, go_sem, c3], ?_, HP.out.c⟩
    rw [HF.out]

end Go.Proofs.YtldnmpiaofppgaaDoor

/-
  A region that keeps the text's order, in a round of a range over a function: walked as anywhere.
-/
namespace Go.Proofs.YtldnmpiaofppgaaDoor
open Go.RowKit
set_option linter.unusedVariables false

theorem list_round {P : Program} {ops : Array Oper} {Q : Exit → Act → World → Prop} {l n : Nat} (hL : ¬ LetsOut Q) :
    ∀ (os : List Oper), (∀ o ∈ os, ∀ c, o.op ≠ .defer c) → ∀ (a : Act) (w : World), wpList P ops Q os a w → wpListIn (Fence.wide.inRound l) n P ops Q os a w
  | [], _, _, _, h => h
  | o :: rest, hd, a, w, h => by
    have ih := list_round (P := P) (ops := ops) (n := n) (l := l) hL rest (fun x hx => hd x (List.mem_cons_of_mem _ hx))
    unfold wpList at h
    unfold wpListIn
    split at h
    · rename_i hw
      rw [if_pos hw]
      rcases h with h | ⟨-, h⟩
      · refine ⟨fun _ _ => trivial, ?_⟩
        rw [Oper.semAt_eq _ _ _ (fun c => hd o (List.mem_cons_self) c)]
        unfold Oper.wp at h
        generalize (execOp a.eval o).run P w = r at h
        cases r with
        | ok x w' =>
          cases x with
          | value v => exact ih _ _ h
          | skip => exact ih _ _ h
          | defer d => exact ih _ _ h
          | enter f args =>
            refine ⟨fun h => (by cases h), CallsIn.inRound l (callsIn_wide.2 (Calls.mono h ?_))⟩
            intro e w'' he
            cases e with
            | returned v => exact ih _ _ he
            | panicked c => exact he
            | outgrown => exact he
          | row row args =>
            refine ⟨fun h => (by cases h), fun c cs _ => ?_⟩
            obtain ⟨v, w'', hr, hs⟩ := h c cs
            exact ⟨v, w'', ih _ _ hr, stepsIn_wide.2 hs⟩
          | _ => exact h.elim
        | halt x w' => cases x <;> first | exact h | exact h.elim
      · exact absurd h hL
    · rename_i hw
      rw [if_neg hw]
      exact ⟨fun _ _ => trivial, ih _ _ h⟩
/-- no operation is a defer statement -/
theorem noDefer_list {os : List Oper} (h : noDefer os.toArray = true) (o : Oper) (ho : o ∈ os) (c : Call) : o.op ≠ .defer c := by
  obtain ⟨i, hi⟩ := List.getElem?_of_mem ho
  exact noDefer_spec h i o c (by simpa using hi)
end Go.Proofs.YtldnmpiaofppgaaDoor

/-
  Contract of package bits' All: the slots in order, in memory of one's own.
-/
namespace Go.Proofs.YtldnmpiaofppgaaDoor
open Go.RowKit Go.Shelf Verge
attribute [local go_sem] Oper.semAt_some
set_option linter.unusedVariables false
set_option linter.unusedSimpArgs false

/-- the slot at place i, as a value -/
def slotV (m i : Nat) : Value := .int .i64 (slotAt m i : Nat)
theorem Row.blk {w : World} {e : TypeId} {size : Nat} {a : Option Addr} {n cap : Nat} {f : Nat → Value} (h : Row w e size a n cap f) {g : Nat} (hg : OwnS a g) : ∃ cs t z, w.heap[g]? = some (.cells cs t z) := by
  rcases h.2 with ⟨hv, -⟩ | ⟨g', cap', cur, hv, hb, hgg, -⟩
  · simp only [Value.slice.injEq] at hv; rw [OwnS, hv.1] at hg; cases hg
  · simp only [Value.slice.injEq] at hv
    rw [OwnS, hv.1] at hg
    cases hg
    exact ⟨_, _, _, hgg⟩
theorem Row.steady {w w' : World} {e : TypeId} {size : Nat} {a : Option Addr} {n cap : Nat} {f : Nat → Value} (h : Row w e size a n cap f) {r : Nat} (c : Ch (One r) w w') (hr : NoCells w r) : Row w' e size a n cap f :=
  h.kept c fun k hk => by obtain ⟨cs, t, z, hb⟩ := Row.blk h hk; exact hr.row hb
theorem Keeps.of_ch' {S : Nat → Prop} {w w' : World} {B : Nat} (c : Ch S w w') (hS : ∀ k, S k → k < B ∨ ∃ cs t z, w.heap[k]? = some (.cells cs t z)) : KeepsFrom B w w' :=
  ⟨c.size, fun k o hB hk ho => (c.block k (Array.getElem?_eq_some_iff.1 hk).1 fun hs => by
    rcases hS k hs with h | ⟨cs, t, z, h⟩
    · omega
    · rw [h] at hk; cases hk; cases ho).trans hk⟩
theorem NoCells.blkb {w : World} {r b : Nat} (h : NoCells w r) (hb : Blk w b) : b ≠ r := by
  obtain ⟨cs, t, hb⟩ := hb
  exact h.row hb

/-- between two rounds of All: the box in block B -/
structure AlIn (w : World) (B m k : Nat) (W : World) : Prop where
  t : Tab W
  row : ∃ a cap, W.cell? ⟨B, 0, none⟩ = some (.slice a k cap) ∧ Row W 3 1 a k cap (slotV m) ∧ ∀ g, OwnS a g → w.heap.size ≤ g ∧ g ≠ B
  b : Blk W B
  c : Ch Nil w W
theorem AlIn.steady {w : World} {B0 m B : Nat} (hB : w.heap.size ≤ B) : Steady B (AlIn w B0 m) := fun k W W' r h c hr nc => by
  obtain ⟨a, cap, h1, h2, h3⟩ := h.row
  exact ⟨h.t.keeps c (fun e => nc.cell (h.t 0 (by omega)) e), ⟨a, cap, c.keeps h1 (fun e => nc.cell h1 e), Row.steady h2 c nc, h3⟩, h.b.kept c (nc.blkb h.b), h.c.later c (by omega)⟩

theorem make_ints (w : World) (n : Nat) (hn : n ≤ 1000000) : ∃ w1, (Instr.makeSlice 135 (.int .i64 0) (.int .i64 (n : Int))).run Tryd.prog w = .ok (.slice (some ⟨w.heap.size, 0, none⟩) 0 n) w1 ∧
    (∀ f, Row w1 3 1 (some ⟨w.heap.size, 0, none⟩) 0 n f) ∧ Ch Nil w w1 ∧ w.heap.size < w1.heap.size := by
  obtain ⟨i, hi, hz0, hz1, hz2⟩ := info_parts (show (Tryd.prog.info? 3).map (fun i => (i.zero, i.size, i.bytes)) = some (some (.int .i64 0), 1, 8) by kernel_rfl)
  obtain ⟨w1, h1, h2, h3⟩ := run_make_own (P := Tryd.prog) w 0 135 3 i (.int .i64 0) 1 Tryd.underlying135 hi hz0 hz1 .i64 .i64 n (by rw [hz2]; omega) (by simp only [maxLen]; omega) (Nat.zero_le _)
  refine ⟨w1, h1, fun f => by unfold Row; simpa using h2, (Ch.of_grown h3).mono (fun _ _ e => by cases e), ?_⟩
  exact (World.ownsRow.lt h2 _ rfl).2

set_option maxRecDepth 100000 in
set_option maxHeartbeats 1000000 in
theorem all_any (m : Nat) (hm : m < 18446744073709551616) (w : World) (T : Tab w) :
    Calls Tryd.prog 91 #[.int .u64 m] w fun e w' => ∃ a cap, e = .returned (.slice a (slots m).length cap) ∧ Row w' 3 1 a (slots m).length cap (slotV m) ∧ (∀ g, OwnS a g → w.heap.size ≤ g) ∧ Ch Nil w w' := by
  have hl := slots_le m
  obtain ⟨w1, hrun, hrow, hch, hlt⟩ := make_ints w (slots m).length (by omega)
  have hI0 : AlIn w w1.heap.size m 0 (w1.alloc (.cells #[.slice (some ⟨w.heap.size, 0, none⟩) 0 (slots m).length] 135)) := by
    have c2 : Ch Nil w1 (w1.alloc (.cells #[.slice (some ⟨w.heap.size, 0, none⟩) 0 (slots m).length] 135)) := (Ch.refl _ _).alloc _
    refine ⟨T.keeps (hch.trans c2) (fun e => e), ⟨_, _, by simp [cell_fresh], (hrow _).kept c2 (fun _ _ e => e), fun g hg => ?_⟩, Blk.new _ _ _, hch.trans c2⟩
    have hg' : w.heap.size = g := by simpa [OwnS] using hg
    omega
  have HI0 := Lib.hid hI0
  have HLn := Lib.hid (len_any m hm)
  have HT := Lib.hid T.lt
  have hsz : (w1.alloc (.cells #[.slice (some ⟨w.heap.size, 0, none⟩) 0 (slots m).length] 135)).heap.size = w1.heap.size + 1 := by simp
  clear hI0 T hrow hch
  refine (callsIn_wide (n := 5)).1 ?_
  refine callsIn_of_wp_marks Tryd.func91 rfl trivial ?_ rfl
  simp only [Tryd.ntmps91, List.size_toArray, List.length_cons, List.length_nil, Nat.reduceAdd, Nat.reduceSub, Array.replicate_succ, Array.replicate_zero, List.push_toArray, List.append_toArray, List.nil_append, List.cons_append]
  gi_wp2_with (refine ⟨trivial, ?_⟩; gi_at_call 102; refine (callsIn_wide.2 (HLn.out _)).mono ?_; rintro e w' ⟨rfl, rfl⟩)
  generalize hW0 : (w1.alloc (.cells #[.slice (some ⟨w.heap.size, 0, none⟩) 0 (slots m).length] 135)) = W0 at *
  clear hW0 hrun
  generalize w1.heap.size = B at *
  refine range_some (n := 5) (gf := 101) (ba := #[.int .u64 m]) rfl (enters_of Tryd.func101 (by kernel_rfl) rfl) (slots m).length (fun k => .int .i64 (slotAt m k : Nat)) rfl
    (AlIn w B m) (fun c k W => False) (AlIn.steady (by omega)) ?hIx HI0.out (slots_tells 4 (by omega) m hm _ (fun k W h => h.t)) ?act1 ?assign ?body ?done ?stop
  case hIx => exact fun c k W W' r h ch hr nc => h
  case assign =>
    intro l k W K hK
    gi_wp2
    exact hK
  case body =>
    intro l k W hW hk
    obtain ⟨a, cap, c1, r1, g1⟩ := hW.row
    have f1 := hW.b.fz 0
    have hWc := hW.c.size
    have hWb := hW.b.lt
    have HW := Lib.hid hW
    have R1 := Lib.hid r1
    have G1 := Lib.hid g1
    have hv : slotV m k = .int .i64 (slotAt m k : Nat) := rfl
    have HV := Lib.hid hv
    clear hW r1 g1 hv
    refine wpIn_block ?_
    refine wpIn_region_lit (list_round (by rintro ⟨a, w, h⟩; exact h) _ (noDefer_list (by kernel_rfl)) _ _ ?_)
    have hXc : Ch Nil W (W.alloc (.cells #[.int .i64 (slotAt m k : Nat)] 3)) := (Ch.refl _ _).alloc _
    have R2 : Row (W.alloc (.cells #[.int .i64 (slotAt m k : Nat)] 3)) 3 1 a k cap (slotV m) := R1.out.kept hXc (fun _ _ e => e)
    have d1 := hXc.keeps c1 (fun e => e)
    have e1 := (hXc.frozen (p := ⟨B, 0, none⟩) hWb (fun e => e)).trans f1
    have HX := Lib.hid hXc
    have HR2 := Lib.hid R2
    clear hXc R2
    go_wp2_with (at_builtin; refine append_row _ rfl _ _ _ rfl 3 (.int .i64 0) 1 8 Tryd.underlying135 (by kernel_rfl) rfl (by omega) (by omega) rfl HR2.out (by omega) W.heap.size 1 [.int .i64 (slotAt m k : Nat)] 3 rfl rfl (heap_alloc_new W _) (by simp [Value.oneCell']) (slotV m) (fun _ _ => rfl) (by intro j u hu; obtain rfl : j = 0 := (by cases j; rfl; simp at hu); simp at hu; subst hu; simpa using HV.out) _ rfl ?_)
    intro g cap' w' row ch at_ lt
    have ROW := Lib.hid row
    have CH := Lib.hid ch
    have AT := Lib.hid at_
    have hbox : ¬ OwnS a B := fun e => (G1.out _ e).2 rfl
    have d2 := ch.keeps d1 hbox
    have e2 := (ch.frozen (p := ⟨B, 0, none⟩) (by simp; omega) hbox).trans e1
    clear row ch at_
    go_wp2
    have T0 : Ch (OwnS a) W w' := (HX.out.mono (fun _ _ e => e.elim)).trans CH.out
    have T : Ch (fun k => OwnS a k ∨ k = B) W (w'.setCell ⟨B, 0, none⟩ (.slice (some ⟨g, 0, none⟩) (k + 1) cap')) :=
      Ch.set (p := ⟨B, 0, none⟩) (T0.mono fun _ _ e => .inl e) (fun _ => .inr rfl) _
    have gt : w.heap.size ≤ g ∧ g ≠ B := by
      rcases AT.out with h | h
      · exact G1.out g h
      · omega
    refine ⟨Keeps.of_ch' T fun j hj => ?_, HW.out.t.keeps T ?_, ⟨_, cap', World.cell?_setCell_same _ _ _ d2, ?_, ?_⟩, (HW.out.b.kept T0 hbox).set _ _, HW.out.c.then T fun i hi e => ?_⟩
    · rcases hj with hj | rfl
      · exact .inr (Row.blk R1.out hj)
      · exact .inl (by omega)
    · rintro (e | e)
      · have := (G1.out _ e).1; have := HT.out; omega
      · omega
    · exact ROW.out.kept (S := One B) ((Ch.refl _ _).setB 0 _) (fun k e h => by cases e; simp at h; omega)
    · intro g' e; cases e; exact gt
    · rcases e with e | e
      · have := (G1.out i e).1; omega
      · omega
  case done =>
    intro D W hD hW hK
    have hput := (AlIn.steady (B := w.heap.size) (Nat.le_refl _)).put (.deferred none) hW (by omega) hK rfl
    obtain ⟨a, cap, c1, r1, g1⟩ := hW.row
    have R1 := Lib.hid (Row.steady r1 (Ch.put D (.deferred none)) (.of_loop hK rfl))
    have G1 := Lib.hid g1
    have HP := Lib.hid hput
    clear hW hput r1 g1
    gi_wp2
    refine ⟨by simp, .inl ⟨_, _, rfl, run_takeDeferred hK, ?_⟩⟩
    exact ⟨_, results_tmp rfl _ _ _, a, cap, rfl, R1.out, fun g hg => (G1.out g hg).1, HP.out.c⟩
  case stop => intro D c k W hD hk hW hK; exact hW.elim
end Go.Proofs.YtldnmpiaofppgaaDoor
