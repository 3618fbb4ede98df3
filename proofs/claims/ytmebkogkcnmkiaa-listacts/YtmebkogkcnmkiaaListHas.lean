/-
  Has, answered; a row of one number, written out.
-/
import Derived.Test.YtmebkogkcnmkiaaListDrain
import Derived.Test.YtmebkogkcnmkiaaListInts
namespace Go.Proofs.Ytmebkogkcnmkiaa
open Go.RowKit Verge LI
set_option linter.unusedVariables false
theorem has_no (lb b : Nat) (lp : Option Nat) (w : World) (hc : w.cell? ⟨b, 1, none⟩ = some (pt lp)) (hk : Blk w lb) (hl : ∀ x, lp = some x → Blk w x) (hne : lp ≠ some lb) :
    Calls Try.prog 23 #[.pointer (some ⟨lb, 0, none⟩), .pointer (some ⟨b, 0, none⟩)] w fun e w' => e = .returned (.bool false) ∧ w = w' := by
  have h := LI.has_of lb b lp w hc hk hl
  rwa [decide_eq_false hne] at h
theorem has_yes (lb b : Nat) (w : World) (hc : w.cell? ⟨b, 1, none⟩ = some (pt (some lb))) (hk : Blk w lb) :
    Calls Try.prog 23 #[.pointer (some ⟨lb, 0, none⟩), .pointer (some ⟨b, 0, none⟩)] w fun e w' => e = .returned (.bool true) ∧ w = w' := by
  have h := LI.has_of lb b (some lb) w hc hk (fun x e => by cases e; exact hk)
  rwa [decide_eq_true rfl] at h
theorem RowI.lit (w : World) (v : Int) : RowI (w.alloc (.cells #[.int .i64 v] 3)) (some ⟨w.heap.size, 0, none⟩) 1 1 (fun _ => v) :=
  ⟨rfl, .inr ⟨_, _, _, rfl, Nat.zero_le _, World.alloc_heap_new w _, Nat.le_refl _, by simp [maxLen], rfl, rfl⟩⟩
/-- a list's values are a row of numbers -/
theorem RowE.ints {w : World} {a : Option Addr} {n cap : Nat} {xs : List Nat} {V : Nat → Int} (h : LI.RowE w a n cap (LI.valAt xs V)) : RowI w a n cap (fun i => V (xs.getD i 0)) := h
end Go.Proofs.Ytmebkogkcnmkiaa
