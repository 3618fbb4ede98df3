/-
  What a ring's steps come to where positions are published in order.
-/
import Derived.Test.YtklgmecmgbfhgaaRingPlain
namespace Verge
/-- all positions below nx are published -/
def pubTo (nx : Nat) : Nat → Bool := fun p => decide (p < nx)
theorem pubTo_fill (nx : Nat) : upd (pubTo nx) nx true = pubTo (nx + 1) := by
  funext p
  unfold upd pubTo
  by_cases h : p = nx
  · simp [h]
  · simp [h]; omega
theorem pubTo_yes {p nx : Nat} (h : p < nx) : pubTo nx p = true := by simp [pubTo, h]
theorem pubTo_no {p nx : Nat} (h : nx ≤ p) : pubTo nx p = false := by simp [pubTo]; omega
theorem pubTo_zero : pubTo 0 = fun _ => false := by funext p; simp [pubTo]
theorem tick_choose (n nx fi : Nat) (P : Nat → Bool) (p : Nat) : tickStep n nx fi P ⟨0, 0, p, false⟩ = (nx, ⟨1, 0, nx, false⟩) := by simp [tickStep]
theorem tick_full (n nx fi : Nat) (P : Nat → Bool) (h : fi + n ≤ nx) : tickStep n nx fi P ⟨1, 0, nx, false⟩ = (nx, ⟨1, 1, nx, false⟩) := by simp [tickStep, h]
theorem tick_go (n nx fi : Nat) (P : Nat → Bool) (h1 : ¬ fi + n ≤ nx) (h2 : ¬ nx < fi) (h3 : P nx = false) : tickStep n nx fi P ⟨1, 0, nx, false⟩ = (nx, ⟨2, 0, nx, false⟩) := by simp [tickStep, h1, h2, h3]
theorem tick_take (n nx fi : Nat) (P : Nat → Bool) : tickStep n nx fi P ⟨2, 0, nx, false⟩ = (nx + 1, ⟨2, 2, nx, false⟩) := by simp [tickStep]
theorem tick_held (n nx fi : Nat) (P : Nat → Bool) (st : Int) (p : Nat) (fl : Bool) : tickStep n nx fi P ⟨st, 2, p, fl⟩ = (nx, ⟨st, 2, p, fl⟩) := by simp [tickStep]
theorem tick_still (n nx fi : Nat) (P : Nat → Bool) (st : Int) (p : Nat) (fl : Bool) : tickStep n nx fi P ⟨st, 1, p, fl⟩ = (nx, ⟨st, 1, p, fl⟩) := by simp [tickStep]
end Verge
