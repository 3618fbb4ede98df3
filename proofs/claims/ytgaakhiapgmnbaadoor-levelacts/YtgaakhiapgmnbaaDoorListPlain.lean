/-
  Which of the first n are still there, in order; and which are gone.
-/
import Derived.Test.YtgaakhiapgmnbaaDoorRingPlain
namespace Verge
set_option linter.unusedVariables false

def there (F : Nat → Bool) (n : Nat) : List Nat := (List.range n).filter fun i => !F i
def gone (F : Nat → Bool) (n : Nat) : List Nat := (List.range n).filter fun i => F i
section
variable {F G : Nat → Bool} {n k : Nat}
theorem there_succ : there F (n + 1) = there F n ++ (if F n then [] else [n]) := by
  unfold there; rw [List.range_succ, List.filter_append]; cases h : F n <;> simp [h]
theorem gone_succ : gone F (n + 1) = gone F n ++ (if F n then [n] else []) := by
  unfold gone; rw [List.range_succ, List.filter_append]; cases h : F n <;> simp [h]
theorem there_congr (h : ∀ i, i < n → F i = G i) : there F n = there G n := by
  unfold there
  exact List.filter_congr fun i hi => by rw [h i (List.mem_range.1 hi)]
theorem mem_there {i : Nat} : i ∈ there F n ↔ i < n ∧ F i = false := by simp [there]
theorem mem_gone {i : Nat} : i ∈ gone F n ↔ i < n ∧ F i = true := by simp [gone]
theorem there_len : (there F n).length ≤ n := by unfold there; exact Nat.le_trans (List.length_filter_le _ _) (by simp)
theorem gone_len : (gone F n).length ≤ n := by unfold gone; exact Nat.le_trans (List.length_filter_le _ _) (by simp)
theorem there_all (h : ∀ i, i < n → F i = false) : there F n = List.range n := by
  unfold there; exact List.filter_eq_self.2 fun i hi => by rw [h i (List.mem_range.1 hi)]; rfl
/-- one of them goes -/
theorem there_out : ∀ {n : Nat}, k < n → F k = false → ∃ i, (there F n)[i]? = some k ∧ (there F n).eraseIdx i = there (upd F k true) n
  | 0, h, _ => by omega
  | n + 1, h, hk => by
    by_cases e : k = n
    · subst e
      refine ⟨(there F k).length, ?_, ?_⟩
      · rw [there_succ, hk]; simp
      · rw [there_succ, there_succ, hk, upd_same, there_congr (F := upd F k true) (G := F) (fun i hi => upd_other _ _ _ _ (by omega))]
        simp [List.eraseIdx_append_of_length_le]
    · obtain ⟨i, h1, h2⟩ := there_out (n := n) (by omega) hk
      have hi := (List.getElem?_eq_some_iff.1 h1).1
      refine ⟨i, ?_, ?_⟩
      · rw [there_succ, List.getElem?_append_left hi]; exact h1
      · rw [there_succ, there_succ, List.eraseIdx_append_of_lt_length hi, h2, upd_other _ _ _ _ (fun e' => e e'.symm)]
theorem eraseIdx_map (f : Nat → Nat) : ∀ (xs : List Nat) (i : Nat), (xs.map f).eraseIdx i = (xs.eraseIdx i).map f
  | [], _ => rfl
  | _ :: _, 0 => rfl
  | x :: xs, i + 1 => by simp [eraseIdx_map f xs i]
/-- a value of the row so far -/
theorem getD_snoc (xs : List Nat) (b d : Nat) {j : Nat} (h : j < xs.length) : (xs ++ [b]).getD j d = xs.getD j d := by
  simp [List.getD_eq_getElem?_getD, List.getElem?_append_left h]
theorem getD_last (xs : List Nat) (b d : Nat) : (xs ++ [b]).getD xs.length d = b := by simp
end
end Verge
