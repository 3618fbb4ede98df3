/-
  Plain facts of maps: going from slot to slot.
-/
import Derived.Test.YtcmpidlmfbelpaaDoorBitsWalks3
namespace Go.Proofs.YtcmpidlmfbelpaaDoor
open Verge
set_option linter.unusedVariables false

/-- the slot at place k, or -1 -/
def atV (m k : Nat) : Int := if k < (slots m).length then (slotAt m k : Nat) else -1
theorem atV_yes (m k : Nat) (h : k < (slots m).length) : atV m k = (slotAt m k : Nat) := if_pos h
theorem atV_no (m : Nat) : atV m (slots m).length = -1 := if_neg (by omega)
theorem slot_lt (m j k : Nat) (hj : j < k) (hk : k < (slots m).length) : slotAt m j < slotAt m k := by
  have h := List.pairwise_iff_getElem.1 (slots_sorted m) j k (by omega) hk hj
  have e1 := slotAt_get m j (by omega)
  have e2 := slotAt_get m k hk
  rw [List.getElem?_eq_getElem (by omega)] at e1 e2
  simp only [Option.some.injEq] at e1 e2
  omega
/-- the least slot from s on, where all ahead of place k lie below s and none from it on does -/
theorem from_at (m k : Nat) (s : Int) (hk : k ≤ (slots m).length) (h1 : ∀ j, j < k → (slotAt m j : Int) < s) (h2 : k < (slots m).length → s ≤ (slotAt m k : Nat)) : fromN m s = atV m k := by
  have hn : ∀ (j x : Nat), j < k → (slots m)[j]? = some x → (x : Int) < s := fun j x hj hx => by
    rw [slotAt_get m j (by omega)] at hx
    cases hx
    exact h1 j hj
  unfold fromN
  by_cases hlt : k < (slots m).length
  · rw [find_at _ _ k hlt hn (h2 hlt), atV_yes m k hlt]; rfl
  · obtain rfl : k = (slots m).length := by omega
    rw [find_none _ _ hn, atV_no]
theorem from_zero (m : Nat) : fromN m 0 = atV m 0 := from_at m 0 0 (by omega) (fun j hj => by omega) (fun _ => by omega)
theorem from_same (m k : Nat) (h : k < (slots m).length) : fromN m (slotAt m k : Nat) = (slotAt m k : Nat) := by
  rw [from_at m k _ (by omega) (fun j hj => by have := slot_lt m j k hj h; omega) (fun _ => by omega), atV_yes m k h]
theorem from_next (m k : Nat) (h : k < (slots m).length) : fromN m ((slotAt m k : Nat) + 1) = atV m (k + 1) :=
  from_at m (k + 1) _ (by omega) (fun j hj => by
    by_cases e : j = k
    · subst e; omega
    · have := slot_lt m j k (by omega) h; omega) (fun h2 => by have := slot_lt m k (k + 1) (by omega) h2; omega)
theorem round_same (m k : Nat) (h : k < (slots m).length) : roundN m (slotAt m k : Nat) = (slotAt m k : Nat) := by
  unfold roundN; rw [from_same m k h, if_neg (by omega)]
theorem round_last (m k : Nat) (h : k + 1 = (slots m).length) : roundN m ((slotAt m k : Nat) + 1) = (slotAt m 0 : Nat) := by
  unfold roundN; rw [from_next m k (by omega), h, atV_no, if_pos rfl, from_zero, atV_yes m 0 (by omega)]
theorem has_slot (m k : Nat) (h : k < (slots m).length) : hasN m (slotAt m k : Nat) = true := by
  obtain ⟨h1, h2⟩ := (mem_slots m _).1 (slotAt_mem m k h)
  unfold hasN; rw [Int.toNat_natCast, h2]; simp; omega
end Go.Proofs.YtcmpidlmfbelpaaDoor
