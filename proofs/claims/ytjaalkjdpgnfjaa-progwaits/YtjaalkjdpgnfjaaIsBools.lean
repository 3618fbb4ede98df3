/-
  What a walk is told of a slice of bools that came in.
-/
import Derived.Test.YtjaalkjdpgnfjaaRows
import Derived.WalkKit
import Derived.OpenShut
import Derived.Deep.Slices
namespace Go.Proofs.Ytjaalkjdpgnfjaa
open Go.ChangeShapes Go.WideShapes Go.Deep
set_option linter.unusedVariables false

/-- it is nil; or it leads to a row of bools -/
def IsBools (w : World) (a : Option Addr) (len cap : Nat) (B : Nat → Bool) : Prop :=
  (a = none ∧ len = 0 ∧ cap = 0) ∨ ∃ x, a = some x ∧ len ≤ cap ∧ cap ≤ maxLen ∧ ∀ i, i < len → w.cell? (x.add i) = some (.bool (B i))
theorem IsBools.small {w : World} {a : Option Addr} {len cap : Nat} {B : Nat → Bool} (h : IsBools w a len cap B) : len ≤ maxLen := by
  rcases h with ⟨-, rfl, -⟩ | ⟨x, ha, h1, h2, -⟩
  · exact Nat.zero_le _
  · omega
theorem IsBools.item {w : World} {a : Option Addr} {len cap : Nat} {B : Nat → Bool} (h : IsBools w a len cap B) {i : Nat} (hi : i < len) :
    ∃ x, a = some x ∧ len ≤ cap ∧ cap ≤ maxLen ∧ w.cell? (x.add i) = some (.bool (B i)) := by
  rcases h with ⟨-, rfl, -⟩ | ⟨x, ha, h1, h2, h3⟩
  · omega
  · exact ⟨x, ha, h1, h2, h3 i hi⟩
section
variable {H : Type} {enc : TypeId × Value → H} {P : Program} {w : World} {base : Nat} {spare : Nat → Bool} {held : Bool}
theorem open_bools11 {t e : TypeId} {fuel : Nat} {a : Option Addr} {len cap : Nat} {x : DataW H × List MemPlace} (ht : P.underlying t = some (.slice e)) (he : P.underlying e = some .bool) (hc : P.cellsOf e = 1)
    (h : DataW.trod enc P w base spare held fuel t [.slice a len cap] = some x) : ∃ B, IsBools w a len cap B := by
  rcases open_slice1 ht hc h with ⟨h0, -⟩ | ⟨y, len', cap', m, n, V, D, Pl, hcs, hb, hl, hm, hmm, hx, hi⟩
  · simp at h0
    exact ⟨fun _ => false, .inl h0⟩
  · simp at hcs
    obtain ⟨rfl, rfl, rfl⟩ := hcs
    refine ⟨fun i => match V i with | .bool b => b | _ => false, .inr ⟨y, rfl, hl, hm, fun i hil => ?_⟩⟩
    obtain ⟨h1, h2⟩ := hi i (by subst hmm; split <;> omega)
    obtain ⟨b, h3, -⟩ := DataW.trod_bool he h2
    simp at h3
    rw [h1]
    simp [h3]
end
end Go.Proofs.Ytjaalkjdpgnfjaa
