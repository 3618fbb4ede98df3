/-
  The first k of a row of nodes; a byte's slot.
-/
import Derived.Test.YtgaakhiapgmnbaaDoorLevelMem
namespace Go.Proofs.YtgaakhiapgmnbaaDoor
open Go.RowKit Verge LI
set_option linter.unusedVariables false
/-- the first k nodes -/
def firsts (nb : Nat → Nat) (k : Nat) : List Nat := (List.range k).map nb
theorem firsts_succ (nb : Nat → Nat) (k b : Nat) : firsts nb k ++ [b] = firsts (upd nb k b) (k + 1) := by
  unfold firsts
  rw [List.range_succ, List.map_append, List.map_congr_left (g := upd nb k b) (fun i hi => (upd_other _ _ _ _ (by have := List.mem_range.1 hi; omega)).symm)]
  simp [upd_same]
theorem firsts_len (nb : Nat → Nat) (k : Nat) : (firsts nb k).length = k := by simp [firsts]
theorem firsts_get (nb : Nat → Nat) {k i : Nat} (h : i < k) : (firsts nb k)[i]? = some (nb i) := by simp [firsts, h]
theorem firsts_mem {nb : Nat → Nat} {k j : Nat} : j ∈ firsts nb k ↔ ∃ i, i < k ∧ nb i = j := by simp [firsts]
theorem firsts_getD (nb : Nat → Nat) {k i : Nat} (h : i < k) : (firsts nb k).getD i 0 = nb i := by rw [List.getD_eq_getElem?_getD, firsts_get nb h]; rfl
theorem mod64 {t : Int} (h0 : 0 ≤ t) : ∃ k : Nat, t % 64 = k ∧ k < 64 := by
  obtain ⟨m, rfl⟩ := Int.eq_ofNat_of_zero_le h0
  exact ⟨m % 64, by omega, Nat.mod_lt _ (by decide)⟩
end Go.Proofs.YtgaakhiapgmnbaaDoor
