/-
  Plain facts: how many bits of a number of 64 bits are set, reckoned as math/bits.OnesCount64 does.
-/
import Derived.Test.YtkfknafgknppdaaDoorBitsPlain
namespace Verge
open Go
set_option linter.unusedVariables false

theorem and_split (a b : Nat) : a &&& b = (a % 256 &&& b % 256) + 256 * (a / 256 &&& b / 256) := by
  have h1 := Nat.and_div_two_pow (a := a) (b := b) (n := 8)
  have h2 := Nat.and_mod_two_pow (a := a) (b := b) (n := 8)
  have h3 := Nat.div_add_mod (a &&& b) 256
  rw [show (256 : Nat) = 2 ^ 8 from rfl]
  rw [← h1, ← h2]
  omega

/-- the numbers of eight bytes -/
def by8 (y : Nat → Nat) : Nat := y 0 + 256 * (y 1 + 256 * (y 2 + 256 * (y 3 + 256 * (y 4 + 256 * (y 5 + 256 * (y 6 + 256 * y 7))))))
def byteAt (x j : Nat) : Nat := x / 256 ^ j % 256
theorem byteAt_lt (x j : Nat) : byteAt x j < 256 := Nat.mod_lt _ (by decide)
theorem of_bytes (x : Nat) (h : x < 18446744073709551616) : x = by8 (byteAt x) := by
  unfold by8 byteAt
  simp only [Nat.reducePow]
  omega
theorem by8_congr {y z : Nat → Nat} (h : ∀ j, j < 8 → y j = z j) : by8 y = by8 z := by
  unfold by8
  rw [h 0 (by decide), h 1 (by decide), h 2 (by decide), h 3 (by decide), h 4 (by decide), h 5 (by decide), h 6 (by decide), h 7 (by decide)]
theorem and_by8 (y : Nat → Nat) (c : Nat) (hy : ∀ j, j < 8 → y j < 256) (hc : c < 256) : by8 y &&& by8 (fun _ => c) = by8 (fun j => y j &&& c) := by
  have step : ∀ a r s : Nat, a < 256 → (a + 256 * r) &&& (c + 256 * s) = (a &&& c) + 256 * (r &&& s) := fun a r s ha => by
    rw [and_split]
    have e1 : (a + 256 * r) % 256 = a := by omega
    have e2 : (c + 256 * s) % 256 = c := by omega
    have e3 : (a + 256 * r) / 256 = r := by omega
    have e4 : (c + 256 * s) / 256 = s := by omega
    rw [e1, e2, e3, e4]
  unfold by8
  rw [step _ _ _ (hy 0 (by decide)), step _ _ _ (hy 1 (by decide)), step _ _ _ (hy 2 (by decide)), step _ _ _ (hy 3 (by decide)), step _ _ _ (hy 4 (by decide)), step _ _ _ (hy 5 (by decide)), step _ _ _ (hy 6 (by decide))]
theorem mask (y : Nat → Nat) (c M : Nat) (hy : ∀ j, j < 8 → y j < 256) (hc : c < 256) (hM : by8 (fun _ => c) = M) : by8 y &&& M = by8 (fun j => y j &&& c) := by
  rw [← hM]; exact and_by8 y c hy hc

/-- the bytes of a number that was shifted -/
def shB (s : Nat) (y : Nat → Nat) (j : Nat) : Nat := y j / 2 ^ s + (if j = 7 then 0 else (y (j + 1) * 2 ^ (8 - s)) % 256)
theorem sh1 (y : Nat → Nat) (hy : ∀ j, j < 8 → y j < 256) : by8 y / 2 = by8 (shB 1 y) := by
  have h0 := hy 0 (by decide); have h1 := hy 1 (by decide); have h2 := hy 2 (by decide); have h3 := hy 3 (by decide)
  have h4 := hy 4 (by decide); have h5 := hy 5 (by decide); have h6 := hy 6 (by decide); have h7 := hy 7 (by decide)
  unfold by8 shB
  simp
  omega
theorem sh2 (y : Nat → Nat) (hy : ∀ j, j < 8 → y j < 256) : by8 y / 4 = by8 (shB 2 y) := by
  have h0 := hy 0 (by decide); have h1 := hy 1 (by decide); have h2 := hy 2 (by decide); have h3 := hy 3 (by decide)
  have h4 := hy 4 (by decide); have h5 := hy 5 (by decide); have h6 := hy 6 (by decide); have h7 := hy 7 (by decide)
  unfold by8 shB
  simp
  omega
theorem shB_lt (s : Nat) (hs : s = 1 ∨ s = 2) (y : Nat → Nat) (hy : ∀ j, j < 8 → y j < 256) (j : Nat) (hj : j < 8) : shB s y j < 256 := by
  have h1 := hy j hj
  unfold shB
  by_cases h : j = 7
  · rw [if_pos h]; rcases hs with rfl | rfl <;> omega
  · have h2 := hy (j + 1) (by omega)
    rw [if_neg h]
    rcases hs with rfl | rfl <;> simp <;> omega

theorem tab1 : ∀ a, a < 256 → ∀ b, b < 2 → (a / 2 + b * 128) &&& 85 = (a / 2) &&& 85 := by decide +kernel
theorem tab2 : ∀ a, a < 256 → ∀ b, b < 4 → (a / 4 + b * 64) &&& 51 = (a / 4) &&& 51 := by decide +kernel
theorem sh1_and (y : Nat → Nat) (hy : ∀ j, j < 8 → y j < 256) (j : Nat) (hj : j < 8) : shB 1 y j &&& 85 = (y j / 2) &&& 85 := by
  unfold shB
  by_cases h : j = 7
  · rw [if_pos h]; simp
  · rw [if_neg h]
    have := tab1 (y j) (hy j hj) (y (j + 1) % 2) (by omega)
    rw [← this]
    congr 1
    omega
theorem sh2_and (y : Nat → Nat) (hy : ∀ j, j < 8 → y j < 256) (j : Nat) (hj : j < 8) : shB 2 y j &&& 51 = (y j / 4) &&& 51 := by
  unfold shB
  by_cases h : j = 7
  · rw [if_pos h]; simp
  · rw [if_neg h]
    have := tab2 (y j) (hy j hj) (y (j + 1) % 4) (by omega)
    rw [← this]
    congr 1
    omega

def f1 (y : Nat) : Nat := (y / 2 &&& 85) + (y &&& 85)
def f2 (y : Nat) : Nat := (y / 4 &&& 51) + (y &&& 51)
def f3 (y : Nat) : Nat := y / 16 + y % 16
def cnt8 (y : Nat) : Nat := (List.range 8).countP y.testBit
theorem f1_lt : ∀ y, y < 256 → f1 y < 256 := by decide +kernel
theorem f2_lt : ∀ y, y < 256 → f2 (f1 y) / 16 ≤ 4 ∧ f2 (f1 y) % 16 ≤ 4 := by decide +kernel
theorem f_cnt : ∀ y, y < 256 → f3 (f2 (f1 y)) = cnt8 y := by decide +kernel
theorem cnt8_le (y : Nat) : cnt8 y ≤ 8 := by unfold cnt8; have := List.countP_le_length (p := y.testBit) (l := List.range 8); simpa using this

theorem by8_add (y z : Nat → Nat) : by8 y + by8 z = by8 (fun j => y j + z j) := by unfold by8; dsimp only; omega
theorem step1 (x : Nat) (h : x < 18446744073709551616) : (x / 2 &&& 6148914691236517205) + (x &&& 6148914691236517205) = by8 (fun j => f1 (byteAt x j)) := by
  have hb : ∀ j, j < 8 → byteAt x j < 256 := fun j _ => byteAt_lt x j
  have e := of_bytes x h
  have e1 : x / 2 &&& 6148914691236517205 = by8 (fun j => byteAt x j / 2 &&& 85) := by
    conv => lhs; rw [e]
    rw [sh1 _ hb, mask _ 85 _ (shB_lt 1 (.inl rfl) _ hb) (by decide) (by decide)]
    exact by8_congr fun j hj => sh1_and _ hb j hj
  have e2 : x &&& 6148914691236517205 = by8 (fun j => byteAt x j &&& 85) := by
    conv => lhs; rw [e]
    exact mask _ 85 _ hb (by decide) (by decide)
  rw [e1, e2, by8_add]; rfl
theorem step2 (y : Nat → Nat) (hb : ∀ j, j < 8 → y j < 256) : (by8 y / 4 &&& 3689348814741910323) + (by8 y &&& 3689348814741910323) = by8 (fun j => f2 (y j)) := by
  have e1 : by8 y / 4 &&& 3689348814741910323 = by8 (fun j => y j / 4 &&& 51) := by
    rw [sh2 _ hb, mask _ 51 _ (shB_lt 2 (.inr rfl) _ hb) (by decide) (by decide)]
    exact by8_congr fun j hj => sh2_and _ hb j hj
  have e2 : by8 y &&& 3689348814741910323 = by8 (fun j => y j &&& 51) := mask _ 51 _ hb (by decide) (by decide)
  rw [e1, e2, by8_add]; rfl
def g3 (y : Nat → Nat) (j : Nat) : Nat := y j / 16 + y j + (if j = 7 then 0 else (y (j + 1) % 16) * 16)
theorem step3 (y : Nat → Nat) (hb : ∀ j, j < 8 → y j / 16 ≤ 4 ∧ y j % 16 ≤ 4) : (by8 y / 16 + by8 y) &&& 1085102592571150095 = by8 (fun j => f3 (y j)) := by
  have h0 := hb 0 (by decide); have h1 := hb 1 (by decide); have h2 := hb 2 (by decide); have h3 := hb 3 (by decide)
  have h4 := hb 4 (by decide); have h5 := hb 5 (by decide); have h6 := hb 6 (by decide); have h7 := hb 7 (by decide)
  have e : by8 y / 16 + by8 y = by8 (g3 y) := by
    unfold by8 g3
    simp
    omega
  have hg : ∀ j, j < 8 → g3 y j < 256 ∧ g3 y j % 16 = f3 (y j) := fun j hj => by
    have a := hb j hj
    unfold g3 f3
    by_cases h : j = 7
    · rw [if_pos h]; omega
    · have b := hb (j + 1) (by omega)
      rw [if_neg h]; omega
  rw [e, mask _ 15 _ (fun j hj => (hg j hj).1) (by decide) (by decide)]
  refine by8_congr fun j hj => ?_
  rw [← (hg j hj).2]
  exact Nat.and_two_pow_sub_one_eq_mod _ 4
theorem steps (c : Nat → Nat) (hc : ∀ j, j < 8 → c j ≤ 8) (x4 x5 x6 : Nat) (e4 : x4 = by8 c + by8 c / 256) (e5 : x5 = x4 + x4 / 65536) (e6 : x6 = x5 + x5 / 4294967296) :
    x4 < 18446744073709551616 ∧ x5 < 18446744073709551616 ∧ x6 < 9223372036854775808 ∧ x6 % 128 = c 0 + c 1 + c 2 + c 3 + c 4 + c 5 + c 6 + c 7 := by
  have h0 := hc 0 (by decide); have h1 := hc 1 (by decide); have h2 := hc 2 (by decide); have h3 := hc 3 (by decide)
  have h4 := hc 4 (by decide); have h5 := hc 5 (by decide); have h6 := hc 6 (by decide); have h7 := hc 7 (by decide)
  unfold by8 at e4
  generalize c 0 = c0 at *; generalize c 1 = c1 at *; generalize c 2 = c2 at *; generalize c 3 = c3 at *
  generalize c 4 = c4 at *; generalize c 5 = c5 at *; generalize c 6 = c6 at *; generalize c 7 = c7 at *
  have a4 : x4 = (c0 + c1) + 256 * ((c1 + c2) + 256 * ((c2 + c3) + 256 * ((c3 + c4) + 256 * ((c4 + c5) + 256 * ((c5 + c6) + 256 * ((c6 + c7) + 256 * c7)))))) := by omega
  clear e4
  have a5 : x5 = (c0 + c1 + c2 + c3) + 256 * ((c1 + c2 + c3 + c4) + 256 * ((c2 + c3 + c4 + c5) + 256 * ((c3 + c4 + c5 + c6) + 256 * ((c4 + c5 + c6 + c7) + 256 * ((c5 + c6 + c7) + 256 * ((c6 + c7) + 256 * c7)))))) := by omega
  have b4 : x4 < 18446744073709551616 := by omega
  clear e5 a4
  have b5 : x5 < 18446744073709551616 := by omega
  have q5 : x5 / 4294967296 = (c4 + c5 + c6 + c7) + 256 * ((c5 + c6 + c7) + 256 * ((c6 + c7) + 256 * c7)) := by omega
  have r5 : x5 % 128 = (c0 + c1 + c2 + c3) % 128 := by omega
  have z5 : x5 < 4611686018427387904 := by omega
  clear a5
  refine ⟨b4, b5, by omega, by omega⟩

theorem slots_count (x : Nat) (h : x < 18446744073709551616) : (slots x).length = cnt8 (byteAt x 0) + cnt8 (byteAt x 1) + cnt8 (byteAt x 2) + cnt8 (byteAt x 3) + cnt8 (byteAt x 4) + cnt8 (byteAt x 5) + cnt8 (byteAt x 6) + cnt8 (byteAt x 7) := by
  have hb : ∀ j i, i < 8 → (byteAt x j).testBit i = x.testBit (8 * j + i) := fun j i hi => by
    unfold byteAt
    rw [show (256 : Nat) ^ j = 2 ^ (8 * j) by rw [Nat.pow_mul], show (256 : Nat) = 2 ^ 8 from rfl, Nat.testBit_mod_two_pow, Nat.testBit_div_two_pow]
    simp [hi, Nat.add_comm]
  have hc : ∀ j, cnt8 (byteAt x j) = (List.range 8).countP (fun i => x.testBit (8 * j + i)) := fun j => by
    unfold cnt8
    apply List.countP_congr
    intro i hi
    rw [List.mem_range] at hi
    rw [hb j i hi]
  simp only [hc]
  unfold slots
  rw [← List.countP_eq_length_filter]
  have e : List.range 64 = (List.range 8).map (8 * 0 + ·) ++ (List.range 8).map (8 * 1 + ·) ++ (List.range 8).map (8 * 2 + ·) ++ (List.range 8).map (8 * 3 + ·) ++ (List.range 8).map (8 * 4 + ·) ++ (List.range 8).map (8 * 5 + ·) ++ (List.range 8).map (8 * 6 + ·) ++ (List.range 8).map (8 * 7 + ·) := by decide
  rw [e]
  simp only [List.countP_append, List.countP_map]
  rfl

/-- all of it -/
theorem ones (x x1 x2 x3 x4 x5 x6 : Nat) (h : x < 18446744073709551616)
    (e1 : x1 = (x / 2 &&& 6148914691236517205) + (x &&& 6148914691236517205)) (e2 : x2 = (x1 / 4 &&& 3689348814741910323) + (x1 &&& 3689348814741910323))
    (e3 : x3 = (x2 / 16 + x2) &&& 1085102592571150095) (e4 : x4 = x3 + x3 / 256) (e5 : x5 = x4 + x4 / 65536) (e6 : x6 = x5 + x5 / 4294967296) :
    x1 < 18446744073709551616 ∧ x2 < 18446744073709551616 ∧ x2 / 16 + x2 < 18446744073709551616 ∧ x3 < 18446744073709551616 ∧ x4 < 18446744073709551616 ∧ x5 < 18446744073709551616 ∧ x6 < 9223372036854775808 ∧ x6 % 128 = (slots x).length := by
  have hb : ∀ j, j < 8 → byteAt x j < 256 := fun j _ => byteAt_lt x j
  rw [step1 x h] at e1
  have b1 : ∀ j, j < 8 → f1 (byteAt x j) < 256 := fun j hj => f1_lt _ (hb j hj)
  rw [e1, step2 _ b1] at e2
  have b2 : ∀ j, j < 8 → f2 (f1 (byteAt x j)) / 16 ≤ 4 ∧ f2 (f1 (byteAt x j)) % 16 ≤ 4 := fun j hj => f2_lt _ (hb j hj)
  rw [e2, step3 _ b2] at e3
  have e3' : x3 = by8 (fun j => cnt8 (byteAt x j)) := e3.trans (by8_congr fun j hj => f_cnt _ (hb j hj))
  rw [e3'] at e4
  obtain ⟨q4, q5, q6, q7⟩ := steps _ (fun j _ => cnt8_le (byteAt x j)) x4 x5 x6 e4 e5 e6
  rw [slots_count x h]
  have lt : ∀ y : Nat → Nat, (∀ j, j < 8 → y j < 256) → by8 y < 18446744073709551616 := fun y hy => by
    have h0 := hy 0 (by decide); have h1 := hy 1 (by decide); have h2 := hy 2 (by decide); have h3 := hy 3 (by decide)
    have h4 := hy 4 (by decide); have h5 := hy 5 (by decide); have h6 := hy 6 (by decide); have h7 := hy 7 (by decide)
    unfold by8; omega
  have l2 : by8 (fun j => f2 (f1 (byteAt x j))) < 5000000000000000000 := by
    have h0 := b2 0 (by decide); have h1 := b2 1 (by decide); have h2 := b2 2 (by decide); have h3 := b2 3 (by decide)
    have h4 := b2 4 (by decide); have h5 := b2 5 (by decide); have h6 := b2 6 (by decide); have h7 := b2 7 (by decide)
    unfold by8; dsimp only; omega
  refine ⟨by rw [e1]; exact lt _ b1, by rw [e2]; omega, by rw [e2]; omega, by rw [e3']; exact lt _ fun j _ => by have := cnt8_le (byteAt x j); omega, q4, q5, q6, q7⟩
end Verge
