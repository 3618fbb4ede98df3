/-
  Contracts of package bits' From and Round: the least slot from one on, at every argument.
-/
import Derived.Test.YtgaakhiapgmnbaaDoorBitsWalks2
import Derived.Test.YtgaakhiapgmnbaaDoorListMem
namespace Go.Proofs.YtgaakhiapgmnbaaDoor
open Go.RowKit Go.Shelf Verge
attribute [local go_sem] Oper.semAt_some
set_option linter.unusedVariables false
set_option linter.unusedSimpArgs false

theorem Ch.later {S : Nat → Prop} {r : Nat} {a w w' : World} (h : Ch S a w) (c : Ch (One r) w w') (hr : a.heap.size ≤ r) : Ch S a w' :=
  h.then c fun i hi e => by subst e; omega
theorem Keeps.of_chl {S : Nat → Prop} {w w' : World} {B : Nat} (c : Ch S w w') (hS : ∀ k, S k → k < B) : KeepsFrom B w w' :=
  ⟨c.size, fun k o hB hk ho => (c.block k (Array.getElem?_eq_some_iff.1 hk).1 fun hs => by have := hS k hs; omega).trans hk⟩

/-- between two rounds of From: none so far -/
structure FrIn (w : World) (m : Nat) (s : Int) (k : Nat) (W : World) : Prop where
  t : Tab W
  sc : W.cell? ⟨w.heap.size, 0, none⟩ = some (.int .i64 s)
  r : ∃ x, W.cell? ⟨w.heap.size + 1, 0, none⟩ = some (.int .i64 x)
  f : W.frozen? ⟨w.heap.size + 1, 0, none⟩ = false
  c : Ch Nil w W
  no : ∀ j x, j < k → (slots m)[j]? = some x → (x : Int) < s
/-- From has found it in round k -/
structure FrOut (w : World) (m : Nat) (s : Int) (k : Nat) (W : World) : Prop where
  x : W.cell? ⟨w.heap.size + 1, 0, none⟩ = some (.int .i64 (slotAt m k : Nat))
  c : Ch Nil w W
  no : ∀ j x, j < k → (slots m)[j]? = some x → (x : Int) < s
  yes : s ≤ (slotAt m k : Nat)
theorem FrIn.steady {w : World} {m : Nat} {s : Int} {B : Nat} (hB : w.heap.size + 2 ≤ B) : Steady B (FrIn w m s) := fun k W W' r h c hr nc => by
  obtain ⟨x, hx⟩ := h.r
  exact ⟨h.t.keeps c (fun e => by have := h.t.lt; have := nc.cell (h.t 0 (by omega)); exact this e), c.keeps h.sc (fun e => nc.cell h.sc e), ⟨x, c.keeps hx (fun e => nc.cell hx e)⟩,
    (c.frozen (p := ⟨w.heap.size + 1, 0, none⟩) (lt_of_cell hx) (fun e => nc.cell hx e)).trans h.f, h.c.later c (by omega), h.no⟩
theorem FrOut.steady {w : World} {m : Nat} {s : Int} {B : Nat} (hB : w.heap.size + 2 ≤ B) : Steady B (FrOut w m s) := fun k W W' r h c hr nc =>
  ⟨c.keeps h.x (fun e => nc.cell h.x e), h.c.later c (by omega), h.no, h.yes⟩

theorem find_none (l : List Nat) (s : Int) (h : ∀ (j x : Nat), j < l.length → l[j]? = some x → (x : Int) < s) : l.find? (fun x : Nat => decide (s ≤ (x : Int))) = none := by
  rw [List.find?_eq_none]
  intro x hx
  obtain ⟨j, hj, rfl⟩ := List.getElem_of_mem hx
  have := h j _ hj (List.getElem?_eq_getElem hj)
  simp; omega
theorem find_at (l : List Nat) (s : Int) (k : Nat) (hk : k < l.length) (h : ∀ (j x : Nat), j < k → l[j]? = some x → (x : Int) < s) (hy : s ≤ (l.getD k 0 : Nat)) : l.find? (fun x : Nat => decide (s ≤ (x : Int))) = some (l.getD k 0) := by
  have e : l.getD k 0 = l[k] := by rw [List.getD_eq_getElem?_getD, List.getElem?_eq_getElem hk]; rfl
  rw [e] at hy ⊢
  rw [List.find?_eq_some_iff_getElem]
  refine ⟨by simpa using hy, k, hk, rfl, fun j hj => ?_⟩
  have := h j _ hj (List.getElem?_eq_getElem (by omega))
  simp; omega
theorem FrIn.none {w : World} {m : Nat} {s : Int} {W : World} (h : FrIn w m s (slots m).length W) : fromN m s = -1 := by
  unfold fromN; rw [find_none _ _ h.no]
theorem FrOut.some {w : World} {m : Nat} {s : Int} {k : Nat} {W : World} (h : FrOut w m s k W) (hk : k < (slots m).length) : fromN m s = (slotAt m k : Nat) := by
  unfold fromN; rw [find_at _ _ k hk h.no h.yes]; rfl

end Go.Proofs.YtgaakhiapgmnbaaDoor
