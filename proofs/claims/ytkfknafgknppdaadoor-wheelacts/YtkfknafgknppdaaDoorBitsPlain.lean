/-
  Plain facts of maps of 64 slots, without Go: the slots of a number, the least one, one more or less, how many.
-/
import Derived.ProofKit
import Derived.Laws.Bits64b
import Derived.Lib.TrailingZeros
namespace Verge
open Go
set_option linter.unusedVariables false

/-- the slots whose bits are set, rising -/
def slots (m : Nat) : List Nat := (List.range 64).filter m.testBit
/-- a slot's bit; of no slot 0 -/
def bitN (s : Int) : Nat := if 0 ≤ s ∧ s < 64 then 2 ^ s.toNat else 0
/-- is the bit set? -/
def hasN (m : Nat) (s : Int) : Bool := decide (0 ≤ s ∧ s < 64) && m.testBit s.toNat
def withN (m : Nat) (s : Int) : Nat := m ||| bitN s
def woN (m : Nat) (s : Int) : Nat := m &&& (18446744073709551615 - bitN s)
/-- the least slot from one on, or -1 -/
def fromN (m : Nat) (s : Int) : Int := match (slots m).find? (fun x : Nat => decide (s ≤ (x : Int))) with
  | some x => (x : Int)
  | none => -1
def roundN (m : Nat) (s : Int) : Int := if fromN m s = -1 then fromN m 0 else fromN m s

theorem bitN_at (k : Nat) (h : k < 64) : bitN (k : Int) = 2 ^ k := by unfold bitN; rw [if_pos ⟨by omega, by omega⟩, Int.toNat_natCast]
theorem bitN_no (s : Int) (h : ¬ (0 ≤ s ∧ s < 64)) : bitN s = 0 := if_neg h
theorem pow_lt64 (k : Nat) (h : k < 64) : 2 ^ k < 18446744073709551616 := Nat.lt_of_lt_of_le (Nat.pow_lt_pow_right (by decide) h) (by decide)
theorem bitN_lt (s : Int) : bitN s < 18446744073709551616 := by
  unfold bitN
  split
  · exact pow_lt64 _ (by omega)
  · decide
theorem withN_lt (m : Nat) (s : Int) (h : m < 18446744073709551616) : withN m s < 18446744073709551616 := Nat.or_lt_two_pow (n := 64) h (bitN_lt s)
theorem woN_le (m : Nat) (s : Int) : woN m s ≤ m := Nat.and_le_left
theorem woN_lt (m : Nat) (s : Int) (h : m < 18446744073709551616) : woN m s < 18446744073709551616 := Nat.lt_of_le_of_lt (woN_le m s) h

theorem bitN_test (s : Int) (i : Nat) : (bitN s).testBit i = (decide (0 ≤ s ∧ s < 64) && decide (s.toNat = i)) := by
  unfold bitN
  by_cases h : 0 ≤ s ∧ s < 64
  · rw [if_pos h, Nat.testBit_two_pow]; simp [h]
  · rw [if_neg h]; simp [h]
theorem withN_test (m : Nat) (s : Int) (i : Nat) : (withN m s).testBit i = (m.testBit i || (decide (0 ≤ s ∧ s < 64) && decide (s.toNat = i))) := by
  unfold withN; rw [Nat.testBit_or, bitN_test]
theorem woN_test (m : Nat) (s : Int) (i : Nat) (hi : i < 64) : (woN m s).testBit i = (m.testBit i && !(decide (0 ≤ s ∧ s < 64) && decide (s.toNat = i))) := by
  unfold woN
  have e : 18446744073709551615 - bitN s = 2 ^ 64 - (bitN s + 1) := by have := bitN_lt s; omega
  rw [Nat.testBit_and, e, Nat.testBit_two_pow_sub_succ (bitN_lt s), bitN_test]
  simp [hi]
theorem test_ge (m i : Nat) (h : m < 18446744073709551616) (hi : 64 ≤ i) : m.testBit i = false :=
  Nat.testBit_lt_two_pow (Nat.lt_of_lt_of_le h (Nat.pow_le_pow_right (n := 2) (by decide) hi))
/-- two numbers are alike just if they have the same slots -/
theorem eq_of_test (a b : Nat) (ha : a < 18446744073709551616) (hb : b < 18446744073709551616) (h : ∀ i, i < 64 → a.testBit i = b.testBit i) : a = b := by
  apply Nat.eq_of_testBit_eq
  intro i
  by_cases hi : i < 64
  · exact h i hi
  · rw [test_ge a i ha (by omega), test_ge b i hb (by omega)]

theorem mem_slots (m k : Nat) : k ∈ slots m ↔ k < 64 ∧ m.testBit k = true := by unfold slots; simp
theorem slots_le (m : Nat) : (slots m).length ≤ 64 := by
  unfold slots; have := List.length_filter_le m.testBit (List.range 64); simpa using this
theorem slots_sorted (m : Nat) : (slots m).Pairwise (· < ·) := List.Pairwise.filter _ List.pairwise_lt_range
theorem slots_nil (m : Nat) (h : m < 18446744073709551616) (e : slots m = []) : m = 0 := by
  apply eq_of_test m 0 h (by decide)
  intro i hi
  cases ht : m.testBit i
  · simp
  · have := (mem_slots m i).2 ⟨hi, ht⟩
    rw [e] at this; cases this
theorem slots_zero : slots 0 = [] := by unfold slots; simp

/-- the lowest bit -/
theorem ctz_spec (m : Nat) (h : m < 18446744073709551616) (h0 : m ≠ 0) : Lib.ctz 64 m < 64 ∧ m.testBit (Lib.ctz 64 m) = true ∧ ∀ i, i < Lib.ctz 64 m → m.testBit i = false := by
  obtain ⟨k, hk, hc⟩ := Lib.ctzFrom_spec 64 m (by omega) h
  have e : Lib.ctz 64 m = Lib.ctzFrom 64 m := by simp [Lib.ctz, h0]
  rw [e]
  generalize Lib.ctzFrom 64 m = c at *
  refine ⟨hc, ?_, fun i hi => ?_⟩
  · rw [hk, Nat.testBit_two_pow_mul]; simp [Nat.testBit_zero]
  · rw [hk, Nat.testBit_two_pow_mul]; simp; omega

theorem slots_cons (m : Nat) (h : m < 18446744073709551616) (h0 : m ≠ 0) : slots m = Lib.ctz 64 m :: slots (woN m (Lib.ctz 64 m : Nat)) := by
  obtain ⟨hc, ht, hz⟩ := ctz_spec m h h0
  generalize Lib.ctz 64 m = c at *
  have er : List.range 64 = List.range c ++ c :: (List.range (64 - c - 1)).map (c + 1 + ·) := by
    have := List.range_add (n := c) (m := 64 - c)
    rw [show c + (64 - c) = 64 by omega] at this
    rw [this]
    congr 1
    have := List.range_add (n := 1) (m := 64 - c - 1)
    rw [show 1 + (64 - c - 1) = 64 - c by omega] at this
    rw [this]
    simp [Nat.add_assoc]
  have hw : ∀ i, i < 64 → (woN m (c : Nat)).testBit i = (m.testBit i && !decide (c = i)) := fun i hi => by
    rw [woN_test m _ i hi]
    have : (0 : Int) ≤ (c : Int) ∧ (c : Int) < 64 := ⟨by omega, by omega⟩
    simp [this]
  unfold slots
  rw [er, List.filter_append, List.filter_append, List.filter_cons, List.filter_cons, if_pos ht, hw c hc]
  have e1 : (List.range c).filter m.testBit = [] := by
    rw [List.filter_eq_nil_iff]
    intro i hi
    rw [List.mem_range] at hi
    rw [hz i hi]; simp
  have e2 : (List.range c).filter (woN m (c : Nat)).testBit = [] := by
    rw [List.filter_eq_nil_iff]
    intro i hi
    rw [List.mem_range] at hi
    rw [hw i (by omega), hz i hi]; simp
  rw [e1, e2]
  simp only [List.nil_append]
  have e3 : ((List.range (64 - c - 1)).map (c + 1 + ·)).filter m.testBit = ((List.range (64 - c - 1)).map (c + 1 + ·)).filter (woN m (c : Nat)).testBit := by
    apply List.filter_congr
    intro i hi
    rw [List.mem_map] at hi
    obtain ⟨j, hj, rfl⟩ := hi
    rw [List.mem_range] at hj
    rw [hw _ (by omega)]
    have : ¬ c = c + 1 + j := by omega
    simp [this]
  rw [e3]
  simp

/-- the slot that stands at place k -/
def slotAt (m k : Nat) : Nat := (slots m).getD k 0
theorem slotAt_get (m k : Nat) (h : k < (slots m).length) : (slots m)[k]? = some (slotAt m k) := by
  unfold slotAt; rw [List.getD_eq_getElem?_getD, List.getElem?_eq_getElem h]; rfl
theorem slotAt_mem (m k : Nat) (h : k < (slots m).length) : slotAt m k ∈ slots m := List.mem_of_getElem? (slotAt_get m k h)
theorem slotAt_lt (m k : Nat) (h : k < (slots m).length) : slotAt m k < 64 := ((mem_slots m _).1 (slotAt_mem m k h)).1
theorem fromN_cases (m : Nat) (s : Int) : fromN m s = -1 ∨ (∃ k : Nat, fromN m s = k ∧ k ∈ slots m ∧ s ≤ k) := by
  unfold fromN
  cases h : (slots m).find? (fun x : Nat => decide (s ≤ (x : Int))) with
  | none => exact .inl rfl
  | some x => exact .inr ⟨x, rfl, List.mem_of_find?_eq_some h, by have := List.find?_some h; simpa using this⟩

theorem bits_andNot_u64_nat (a b : Nat) (ha : a < 18446744073709551616) (hb : b < 18446744073709551616) : bits .andNot .u64 (a : Int) (b : Int) = ((a &&& (18446744073709551615 - b) : Nat) : Int) := by
  have h1 : (BitVec.ofInt 64 (a : Int)).toNat = a := by
    rw [BitVec.ofInt_natCast, BitVec.toNat_ofNat]; exact Nat.mod_eq_of_lt (by omega)
  have h2 : (BitVec.ofInt 64 (b : Int)).toNat = b := by
    rw [BitVec.ofInt_natCast, BitVec.toNat_ofNat]; exact Nat.mod_eq_of_lt (by omega)
  have hx : a &&& (18446744073709551615 - b) ≤ a := Nat.and_le_left
  show IntKind.u64.wrap ((BitVec.ofInt 64 (a : Int) &&& ~~~ BitVec.ofInt 64 (b : Int)).toNat : Int) = _
  rw [BitVec.toNat_and, BitVec.toNat_not, h1, h2, IntKind.wrap_u64]
  have e : 2 ^ 64 - 1 - b = 18446744073709551615 - b := by omega
  rw [e]
  omega
theorem has_and (m : Nat) (s : Int) : (m &&& bitN s = 0) ↔ hasN m s = false := by
  unfold hasN
  by_cases h : 0 ≤ s ∧ s < 64
  · rw [bitN, if_pos h]
    simp only [h, and_self, decide_true, Bool.true_and]
    constructor
    · intro e
      have := congrArg (·.testBit s.toNat) e
      simpa [Nat.testBit_and, Nat.testBit_two_pow] using this
    · intro e
      apply Nat.eq_of_testBit_eq
      intro i
      rw [Nat.testBit_and, Nat.testBit_two_pow]
      by_cases hi : s.toNat = i
      · subst hi; simp [e]
      · simp [hi]
  · rw [bitN_no s h]; simp [h]
end Verge
