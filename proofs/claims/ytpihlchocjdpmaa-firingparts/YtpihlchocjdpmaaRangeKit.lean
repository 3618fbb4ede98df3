/-
  Small laws for ranges over functions: what stands though a block without cells turns.
-/
import Derived.Test.YtpihlchocjdpmaaOwnRow
import Derived.Test.YtpihlchocjdpmaaListMem
namespace Go.Proofs.Ytpihlchocjdpmaa
open Go.RowKit
set_option linter.unusedVariables false
section
variable {S : Nat → Prop} {w w' W : World}
theorem NoCells.blk {r k : Nat} (h : NoCells W r) (hb : Blk W k) : k ≠ r := by obtain ⟨cs, t, hb⟩ := hb; exact h.row hb
theorem Row.blk {e : TypeId} {size : Nat} {a : Option Addr} {n cap : Nat} {f : Nat → Value} (h : Row w e size a n cap f) {g : Nat} (hg : OwnS a g) : ∃ cs t z, w.heap[g]? = some (.cells cs t z) := by
  rcases h.2 with ⟨hv, -⟩ | ⟨g', cap', cur, hv, hb, hgg, -⟩
  · simp only [Value.slice.injEq] at hv; rw [OwnS, hv.1] at hg; cases hg
  · simp only [Value.slice.injEq] at hv
    rw [OwnS, hv.1] at hg
    cases hg
    exact ⟨_, _, _, hgg⟩
theorem Row.steady {e : TypeId} {size : Nat} {a : Option Addr} {n cap : Nat} {f : Nat → Value} (h : Row w e size a n cap f) {r : Nat} (c : Ch (One r) w w') (hr : NoCells w r) : Row w' e size a n cap f :=
  h.kept c fun k hk => by obtain ⟨cs, t, z, hb⟩ := Row.blk h hk; exact hr.row hb
theorem Keeps.of_ch' {B : Nat} (c : Ch S w w') (hS : ∀ k, S k → k < B ∨ ∃ cs t z, w.heap[k]? = some (.cells cs t z)) : KeepsFrom B w w' :=
  ⟨c.size, fun k o hB hk ho => (c.block k (Array.getElem?_eq_some_iff.1 hk).1 fun hs => by
    rcases hS k hs with h | ⟨cs, t, z, h⟩
    · omega
    · rw [h] at hk; cases hk; cases ho).trans hk⟩
theorem Ch.later {r : Nat} {a : World} (h : Ch S a w) (c : Ch (One r) w w') (hr : a.heap.size ≤ r) : Ch S a w' :=
  h.then c fun i hi e => by subst e; omega
theorem Ch.up {a b c : World} (h : Ch Nil a b) (k : Ch S b c) (hs : ∀ i, S i → a.heap.size ≤ i) : Ch Nil a c :=
  h.then k fun i hi e => by have := hs i e; omega
end
end Go.Proofs.Ytpihlchocjdpmaa
