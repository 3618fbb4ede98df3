/-
  Plain facts: the map of a row of lists, a bit for each that is not empty; how many they hold together.
-/
import Derived.Test.YtkfknafgknppdaaDoorBitsPlain
import Derived.Test.YtkfknafgknppdaaDoorRingPlain
namespace Verge
set_option linter.unusedVariables false

/-- a bit for each of the first n lists that is not empty -/
def mapUpto (X : Nat → List Nat) : Nat → Nat
  | 0 => 0
  | n + 1 => if X n = [] then mapUpto X n else withN (mapUpto X n) n
abbrev mapX (X : Nat → List Nat) : Nat := mapUpto X 64
/-- how many the first n lists hold -/
def totUpto (X : Nat → List Nat) : Nat → Nat
  | 0 => 0
  | n + 1 => totUpto X n + (X n).length
abbrev totX (X : Nat → List Nat) : Nat := totUpto X 64
section
variable {X Y : Nat → List Nat}
theorem mapUpto_lt : ∀ n, n ≤ 64 → mapUpto X n < 2 ^ n
  | 0, _ => by simp [mapUpto]
  | n + 1, h => by
    have ih := mapUpto_lt n (by omega)
    have h2 : 2 ^ n < 2 ^ (n + 1) := Nat.pow_lt_pow_right (by decide) (by omega)
    unfold mapUpto
    split
    · omega
    · unfold withN
      refine Nat.or_lt_two_pow (by omega) ?_
      rw [bitN_at n (by omega)]
      exact h2
theorem mapX_lt : mapX X < 18446744073709551616 := mapUpto_lt 64 (Nat.le_refl _)
theorem mapUpto_test : ∀ n, n ≤ 64 → ∀ i, i < 64 → (mapUpto X n).testBit i = (decide (i < n) && decide (X i ≠ []))
  | 0, _, i, hi => by simp [mapUpto]
  | n + 1, h, i, hi => by
    have ih := mapUpto_test n (by omega) i hi
    unfold mapUpto
    split
    · rename_i hx
      rw [ih]
      by_cases e : i = n
      · subst e; simp [hx]
      · by_cases hl : i < n
        · simp [hl, show i < n + 1 by omega]
        · simp [hl, show ¬ i < n + 1 by omega]
    · rename_i hx
      rw [withN_test, ih]
      have h64 : (0 : Int) ≤ (n : Int) ∧ (n : Int) < 64 := ⟨by omega, by omega⟩
      by_cases e : i = n
      · subst e; simp [hx, h64]
      · by_cases hl : i < n
        · simp [hl, show i < n + 1 by omega, show ¬ n = i by omega]
        · simp [hl, show ¬ i < n + 1 by omega, show ¬ n = i by omega]
theorem mapX_test {i : Nat} (hi : i < 64) : (mapX X).testBit i = decide (X i ≠ []) := by
  rw [mapUpto_test 64 (Nat.le_refl _) i hi]; simp [hi]
theorem mapX_has {s : Nat} (hs : s < 64) : hasN (mapX X) s = decide (X s ≠ []) := by
  unfold hasN
  have h64 : (0 : Int) ≤ (s : Int) ∧ (s : Int) < 64 := ⟨by omega, by omega⟩
  simp only [h64, and_self, decide_true, Bool.true_and, Int.toNat_natCast]
  exact mapX_test hs
/-- the map set right at one slot -/
def markN (X : Nat → List Nat) (m s : Nat) : Nat := if X s = [] then woN m s else withN m s
theorem markN_mapX {s : Nat} (hs : s < 64) (h : ∀ i, i < 64 → i ≠ s → X i = Y i) : markN Y (mapX X) s = mapX Y := by
  have h64 : (0 : Int) ≤ (s : Int) ∧ (s : Int) < 64 := ⟨by omega, by omega⟩
  unfold markN
  split
  · rename_i hy
    refine eq_of_test _ _ (woN_lt _ _ mapX_lt) mapX_lt fun i hi => ?_
    rw [woN_test _ _ i hi, mapX_test hi, mapX_test hi]
    by_cases e : s = i
    · subst e; simp [h64, hy]
    · simp [e, h i hi (fun e' => e e'.symm)]
  · rename_i hy
    refine eq_of_test _ _ (withN_lt _ _ mapX_lt) mapX_lt fun i hi => ?_
    rw [withN_test, mapX_test hi, mapX_test hi]
    by_cases e : s = i
    · subst e; simp [h64, hy]
    · simp [e, h i hi (fun e' => e e'.symm)]
theorem markN_lt {m s : Nat} (hm : m < 18446744073709551616) : markN X m s < 18446744073709551616 := by
  unfold markN; split
  · exact woN_lt _ _ hm
  · exact withN_lt _ _ hm
theorem mapX_empty (h : ∀ i, i < 64 → X i = []) : mapX X = 0 := by
  refine eq_of_test _ _ mapX_lt (by decide) fun i hi => ?_
  rw [mapX_test hi]; simp [h i hi]
theorem mapUpto_congr : ∀ n, (∀ i, i < n → (X i = [] ↔ Y i = [])) → mapUpto X n = mapUpto Y n
  | 0, _ => rfl
  | n + 1, h => by
    unfold mapUpto
    have ih := mapUpto_congr n (fun i hi => h i (by omega))
    have hn := h n (by omega)
    rw [ih]
    by_cases hx : X n = []
    · rw [if_pos hx, if_pos (hn.1 hx)]
    · rw [if_neg hx, if_neg (fun e => hx (hn.2 e))]
theorem totUpto_congr : ∀ n, (∀ i, i < n → (X i).length = (Y i).length) → totUpto X n = totUpto Y n
  | 0, _ => rfl
  | n + 1, h => by unfold totUpto; rw [totUpto_congr n (fun i hi => h i (by omega)), h n (by omega)]
theorem totX_empty (h : ∀ i, i < 64 → X i = []) : totX X = 0 := by
  exact (totUpto_congr (Y := fun _ => []) 64 (fun i hi => by rw [h i hi])).trans (by decide)
theorem totUpto_le {b : Nat} : ∀ n, (∀ i, i < n → (X i).length ≤ b) → totUpto X n ≤ n * b
  | 0, _ => by simp [totUpto]
  | n + 1, h => by
    have := totUpto_le n (fun i hi => h i (by omega))
    have := h n (by omega)
    unfold totUpto
    rw [Nat.add_mul]; omega

/-- the sum over the slots of the map is the sum over all -/
theorem filter_sum (f : Nat → Nat) (p : Nat → Bool) (xs : List Nat) (h : ∀ x, x ∈ xs → p x = false → f x = 0) : ((xs.filter p).map f).sum = (xs.map f).sum := by
  induction xs with
  | nil => rfl
  | cons x t ih =>
    have iht := ih (fun y hy => h y (List.mem_cons_of_mem _ hy))
    rw [List.filter_cons]
    cases hp : p x
    · simp [iht, h x (List.mem_cons_self ..) hp]
    · simp [iht]
theorem tot_range : ∀ n, ((List.range n).map fun i => (X i).length).sum = totUpto X n
  | 0 => rfl
  | n + 1 => by rw [List.range_succ, List.map_append, List.sum_append, tot_range n]; simp [totUpto]
theorem slots_sum : ((slots (mapX X)).map fun i => (X i).length).sum = totX X := by
  unfold slots
  rw [filter_sum, tot_range]
  intro x hx hp
  rw [mapX_test (List.mem_range.1 hx)] at hp
  simpa using hp
/-- the sum over the first k slots of the map -/
def partX (X : Nat → List Nat) (k : Nat) : Nat := (((slots (mapX X)).take k).map fun i => (X i).length).sum
theorem partX_zero : partX X 0 = 0 := by simp [partX]
theorem partX_succ {k : Nat} (h : k < (slots (mapX X)).length) : partX X (k + 1) = partX X k + (X (slotAt (mapX X) k)).length := by
  unfold partX
  rw [List.take_add_one, slotAt_get _ _ h]
  simp
theorem partX_all : partX X (slots (mapX X)).length = totX X := by
  unfold partX; rw [List.take_length, slots_sum]
theorem sum_le {b : Nat} : ∀ (l : List Nat), (∀ x, x ∈ l → x ≤ b) → l.sum ≤ l.length * b
  | [], _ => by simp
  | x :: t, h => by
    have h1 := h x (List.mem_cons_self ..)
    have h2 := sum_le t (fun y hy => h y (List.mem_cons_of_mem _ hy))
    simp [Nat.add_mul]; omega
theorem partX_le {b k : Nat} (h : ∀ i, i < 64 → (X i).length ≤ b) : partX X k ≤ 64 * b := by
  unfold partX
  refine Nat.le_trans (sum_le (b := b) _ ?_) ?_
  · intro x hx
    obtain ⟨i, hi, rfl⟩ := List.mem_map.1 hx
    exact h i ((mem_slots _ _).1 (List.mem_of_mem_take hi)).1
  · refine Nat.mul_le_mul_right b ?_
    rw [List.length_map, List.length_take]
    exact Nat.le_trans (Nat.min_le_right ..) (slots_le _)
end
end Verge
