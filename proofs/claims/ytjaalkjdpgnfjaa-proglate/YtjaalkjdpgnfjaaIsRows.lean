/-
  What a walk is told of a slice of slices of integers that came in.
-/
import Derived.Test.YtjaalkjdpgnfjaaIsRow
import Derived.Deep.Slices
namespace Go.Proofs.Ytjaalkjdpgnfjaa
open Go.ChangeShapes Go.WideShapes Go.Deep
set_option linter.unusedVariables false
/-- it is nil; or it leads to a row of slices of integers -/
def IsRows (k : IntKind) (w : World) (a : Option Addr) (len cap : Nat) : Prop :=
  (a = none ∧ len = 0 ∧ cap = 0) ∨
  ∃ x, a = some x ∧ len ≤ cap ∧ cap ≤ maxLen ∧ ∀ i, i < len → ∃ ai li ci zi, w.cell? (x.add i) = some (.slice ai li ci) ∧ IsRow k w ai li ci zi
theorem IsRows.item {k : IntKind} {w : World} {a : Option Addr} {len cap : Nat} (h : IsRows k w a len cap) {i : Nat} (hi : i < len) : ∃ x ai li ci zi, a = some x ∧ w.cell? (x.add i) = some (.slice ai li ci) ∧ IsRow k w ai li ci zi := by
  rcases h with ⟨-, rfl, -⟩ | ⟨x, ha, h1, -, h3⟩
  · omega
  · obtain ⟨ai, li, ci, zi, h4, h5⟩ := h3 i hi
    exact ⟨x, ai, li, ci, zi, ha, h4, h5⟩
theorem IsRows.small {k : IntKind} {w : World} {a : Option Addr} {len cap : Nat} (h : IsRows k w a len cap) : len ≤ maxLen := by
  rcases h with ⟨-, rfl, -⟩ | ⟨x, ha, h1, h2, -⟩
  · exact Nat.zero_le _
  · omega
section
variable {H : Type} {enc : TypeId × Value → H} {P : Program} {w : World} {held : Bool}
theorem open_rows {t e q : TypeId} {k : IntKind} {fuel : Nat} {a : Option Addr} {len cap : Nat} {x : DataW H × List MemPlace} (ht : P.underlying t = some (.slice e)) (he : P.underlying e = some (.slice q)) (hq : P.underlying q = some (.int k))
    (ce : P.cellsOf e = 1) (cq : P.cellsOf q = 1) (h : DataW.trod enc P w 0 (fun _ => true) held fuel t [.slice a len cap] = some x) : IsRows k w a len cap := by
  rcases open_slice1 ht ce h with ⟨h0, -⟩ | ⟨y, len', cap', m, n, V, D, Pl, hcs, hb, hl, hm, hmm, hx, hi⟩
  · simp at h0; exact .inl h0
  · simp at hcs
    obtain ⟨rfl, rfl, rfl⟩ := hcs
    refine .inr ⟨y, rfl, hl, hm, fun i hil => ?_⟩
    simp only [if_true] at hmm
    obtain ⟨h1, h2⟩ := hi i (by omega)
    rcases open_ints he hq cq h2 with ⟨h3, -⟩ | ⟨z, l, c, zs, h3, -, hl2, hm2, hz, -, hcell, hwz⟩
    · simp at h3
      rw [h3] at h1
      exact ⟨none, 0, 0, [], h1, .inl ⟨rfl, rfl, rfl, rfl⟩⟩
    · simp at h3
      rw [h3] at h1
      simp only [if_true] at hz
      exact ⟨some z, l, c, zs, h1, .inr ⟨z, rfl, hl2, hm2, hz, hcell, hwz⟩⟩
end
end Go.Proofs.Ytjaalkjdpgnfjaa
