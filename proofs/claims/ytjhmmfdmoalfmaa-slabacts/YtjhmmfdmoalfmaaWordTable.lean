/-
  Plain facts of the document's table of what may happen with a word, without Go.
-/
import Derived.Test.YtjhmmfdmoalfmaaWordPlain
namespace Verge

/-- event, from, again, to, more, last -/
abbrev Rw := Nat × Nat × Bool × Nat × Nat × Nat
def tab : List Rw := [
  (1, 0, false, 1, 1, 2), (2, 1, false, 2, 0, 0), (3, 2, false, 3, 0, 0), (4, 3, false, 4, 0, 0), (5, 4, true, 3, 1, 0),
  (6, 2, false, 5, 0, 0), (6, 3, false, 5, 0, 0), (6, 4, true, 5, 1, 0), (7, 2, true, 2, 0, 1), (7, 3, true, 3, 0, 1), (7, 4, true, 4, 0, 1),
  (8, 2, false, 2, 1, 0), (8, 3, false, 2, 1, 0), (8, 4, true, 2, 1, 0), (9, 1, false, 0, 0, 0), (9, 4, false, 6, 0, 0), (10, 5, false, 0, 0, 2), (10, 6, false, 0, 0, 2)]
def trow (k : Nat) : Rw := tab.getD k (0, 0, false, 0, 0, 0)
def hit (ev s : Nat) (per l : Bool) (r : Rw) : Bool := r.1 == ev && r.2.1 == s && !(r.2.2.1 && (!per || l))

theorem row_may : ∀ k, k < 18 → ∀ per l : Bool, ((trow k).2.2.1 && (!per || l)) = false →
    mayF (trow k).1 (trow k).2.1 (per && !l) = true ∧ behF (trow k).1 (trow k).2.1 = (trow k).2.2.2.1 ∧
    (if growsF (trow k).1 (trow k).2.1 = true then 1 else 0) = (trow k).2.2.2.2.1 ∧
    lastF (trow k).1 l = ((trow k).2.2.2.2.2 == 1 || ((trow k).2.2.2.2.2 == 0 && l)) := by decide
theorem may_row : ∀ ev, ev < 11 → ∀ s, s < 7 → ∀ per l : Bool, mayF ev s (per && !l) = true → ∃ k, k < 18 ∧ hit ev s per l (trow k) = true := by
  have h : ∀ ev, ev < 11 → ∀ s, s < 7 → ∀ per l : Bool, mayF ev s (per && !l) = true → ((List.range 18).any fun k => hit ev s per l (trow k)) = true :=
    of_decide_eq_true (by kernel_rfl)
  intro ev hev s hs per l hm
  obtain ⟨k, hk, hh⟩ := List.any_eq_true.1 (h ev hev s hs per l hm)
  exact ⟨k, List.mem_range.1 hk, hh⟩
theorem row_small : ∀ k, k < 18 → (trow k).1 ≤ 10 ∧ (trow k).2.1 ≤ 6 ∧ (trow k).2.2.2.1 ≤ 6 ∧ (trow k).2.2.2.2.1 ≤ 1 ∧ (trow k).2.2.2.2.2 ≤ 2 := by decide
end Verge
