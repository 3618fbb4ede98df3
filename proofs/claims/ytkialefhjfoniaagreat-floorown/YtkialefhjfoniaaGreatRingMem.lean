/-
  What a ring's cells are in memory: what turned within one block, and what stands beside it.
-/
import Derived.Test.YtkialefhjfoniaaGreatCellMem
import Derived.IntWalk
namespace Go.Proofs.YtkialefhjfoniaaGreat
open Go.RowKit
set_option linter.unusedVariables false

/-- in block b no more than k cells from o on have turned; no other old block has -/
structure Tch (b o k : Nat) (w w' : World) : Prop where
  ch : Ch (One b) w w'
  cell : ∀ i, (i < o ∨ o + k ≤ i) → w'.cell? ⟨b, i, none⟩ = w.cell? ⟨b, i, none⟩
  fz : ∀ i, w'.frozen? ⟨b, i, none⟩ = w.frozen? ⟨b, i, none⟩
theorem Tch.refl (b o k : Nat) (w : World) : Tch b o k w w := ⟨Ch.refl _ _, fun _ _ => rfl, fun _ => rfl⟩
theorem Tch.trans {b o k : Nat} {w1 w2 w3 : World} (h : Tch b o k w1 w2) (g : Tch b o k w2 w3) : Tch b o k w1 w3 :=
  ⟨h.ch.trans g.ch, fun i hi => (g.cell i hi).trans (h.cell i hi), fun i => (g.fz i).trans (h.fz i)⟩
theorem Tch.wide {b o k o' k' : Nat} {w1 w2 : World} (h : Tch b o k w1 w2) (ho : o' ≤ o) (hk : o + k ≤ o' + k') : Tch b o' k' w1 w2 :=
  ⟨h.ch, fun i hi => h.cell i (by omega), h.fz⟩
theorem Tch.set {b o k : Nat} {w w' : World} (h : Tch b o k w w') (i : Nat) (hi : o ≤ i ∧ i < o + k) (v : Value) : Tch b o k w (w'.setCell ⟨b, i, none⟩ v) :=
  ⟨h.ch.setB i v, fun j hj => (cell_ne (by omega) v).trans (h.cell j hj), fun j => (World.frozen?_setCell _ _ _ _).trans (h.fz j)⟩
theorem Tch.of_nil {b o k : Nat} {w w' : World} (h : Ch Nil w w') (hb : b < w.heap.size) : Tch b o k w w' :=
  ⟨h.mono (fun _ _ e => e.elim), fun i _ => h.cell (p := ⟨b, i, none⟩) hb (fun e => e), fun i => h.frozen (p := ⟨b, i, none⟩) hb (fun e => e)⟩
theorem Tch.alloc {b o k : Nat} {w w' : World} (h : Tch b o k w w') (hb : b < w.heap.size) (x : Obj) : Tch b o k w (w'.alloc x) :=
  h.trans (Tch.of_nil ((Ch.refl _ _).alloc x) (by have := h.ch.size; omega))
theorem Tch.drewN {b o k : Nat} {w w' : World} (h : Tch b o k w w') (n : Nat) : Tch b o k w (w'.drewN n) := ⟨h.ch.drewN n, h.cell, h.fz⟩
theorem Tch.drew {b o k : Nat} {w w' : World} (h : Tch b o k w w') : Tch b o k w w'.drew := ⟨h.ch.drew, h.cell, h.fz⟩

/-- a cell of an unsigned number -/
def IsU (w : World) (b o : Nat) (v : Int) : Prop := ∃ l t u, IsC w b o (.int .u64 v) l t u
theorem IsU.lt {w : World} {b o : Nat} {v : Int} (h : IsU w b o v) : b < w.heap.size := by obtain ⟨l, t, u, h⟩ := h; exact h.lt
theorem IsU.kept {S : Nat → Prop} {w w' : World} {b o : Nat} {v : Int} (h : IsU w b o v) (c : Ch S w w') (hn : ¬ S b) : IsU w' b o v := by
  obtain ⟨l, t, u, h⟩ := h; exact ⟨l, t, u, h.keeps c hn⟩
theorem IsU.far {w w' : World} {b o o' k : Nat} {v : Int} (h : IsU w b o v) (c : Tch b o' k w w') (hn : o + 4 ≤ o' ∨ o' + k ≤ o) : IsU w' b o v := by
  obtain ⟨l, t, u, h⟩ := h
  exact ⟨l, t, u, (c.cell _ (by omega)).trans h.v, (c.cell _ (by omega)).trans h.l, (c.cell _ (by omega)).trans h.t, (c.cell _ (by omega)).trans h.u,
    (c.fz _).trans h.fv, (c.fz _).trans h.fl, (c.fz _).trans h.ft, (c.fz _).trans h.fu⟩

/-- a cell of a mark -/
structure IsM0 (w : World) (b o : Nat) (p : Int) (q : Bool) (l t u : Int) : Prop where
  p : w.cell? ⟨b, o, none⟩ = some (.int .u64 p)
  q : w.cell? ⟨b, o + 1, none⟩ = some (.bool q)
  l : w.cell? ⟨b, o + 2, none⟩ = some (.int .i64 l)
  t : w.cell? ⟨b, o + 3, none⟩ = some (.int .i64 t)
  u : w.cell? ⟨b, o + 4, none⟩ = some (.int .i64 u)
  fp : w.frozen? ⟨b, o, none⟩ = false
  fq : w.frozen? ⟨b, o + 1, none⟩ = false
  fl : w.frozen? ⟨b, o + 2, none⟩ = false
theorem IsM0.lt {w : World} {b o : Nat} {p : Int} {q : Bool} {l t u : Int} (h : IsM0 w b o p q l t u) : b < w.heap.size := lt_of_cell h.p
theorem IsM0.kept {S : Nat → Prop} {w w' : World} {b o : Nat} {p : Int} {q : Bool} {l t u : Int} (h : IsM0 w b o p q l t u) (c : Ch S w w') (hn : ¬ S b) : IsM0 w' b o p q l t u := by
  have hl := h.lt
  exact ⟨c.keeps h.p hn, c.keeps h.q hn, c.keeps h.l hn, c.keeps h.t hn, c.keeps h.u hn, (c.frozen (p := ⟨b, _, none⟩) hl hn).trans h.fp, (c.frozen (p := ⟨b, _, none⟩) hl hn).trans h.fq, (c.frozen (p := ⟨b, _, none⟩) hl hn).trans h.fl⟩
theorem IsM0.far {w w' : World} {b o o' k : Nat} {p : Int} {q : Bool} {l t u : Int} (h : IsM0 w b o p q l t u) (c : Tch b o' k w w') (hn : o + 5 ≤ o' ∨ o' + k ≤ o) : IsM0 w' b o p q l t u :=
  ⟨(c.cell _ (by omega)).trans h.p, (c.cell _ (by omega)).trans h.q, (c.cell _ (by omega)).trans h.l, (c.cell _ (by omega)).trans h.t, (c.cell _ (by omega)).trans h.u, (c.fz _).trans h.fp, (c.fz _).trans h.fq, (c.fz _).trans h.fl⟩
theorem IsM0.setP {w : World} {b o : Nat} {p : Int} {q : Bool} {l t u : Int} (h : IsM0 w b o p q l t u) (x : Int) : IsM0 (w.setCell ⟨b, o, none⟩ (.int .u64 x)) b o x q l t u :=
  ⟨World.cell?_setCell_same _ _ _ h.p, (cell_ne (by omega) _).trans h.q, (cell_ne (by omega) _).trans h.l, (cell_ne (by omega) _).trans h.t, (cell_ne (by omega) _).trans h.u, (World.frozen?_setCell _ _ _ _).trans h.fp, (World.frozen?_setCell _ _ _ _).trans h.fq, (World.frozen?_setCell _ _ _ _).trans h.fl⟩
theorem IsM0.setQ {w : World} {b o : Nat} {p : Int} {q : Bool} {l t u : Int} (h : IsM0 w b o p q l t u) (x : Bool) : IsM0 (w.setCell ⟨b, o + 1, none⟩ (.bool x)) b o p x l t u :=
  ⟨(cell_ne (by omega) _).trans h.p, World.cell?_setCell_same _ _ _ h.q, (cell_ne (by omega) _).trans h.l, (cell_ne (by omega) _).trans h.t, (cell_ne (by omega) _).trans h.u, (World.frozen?_setCell _ _ _ _).trans h.fp, (World.frozen?_setCell _ _ _ _).trans h.fq, (World.frozen?_setCell _ _ _ _).trans h.fl⟩
theorem IsM0.setL {w : World} {b o : Nat} {p : Int} {q : Bool} {l t u : Int} (h : IsM0 w b o p q l t u) (x : Int) : IsM0 (w.setCell ⟨b, o + 2, none⟩ (.int .i64 x)) b o p q x t u :=
  ⟨(cell_ne (by omega) _).trans h.p, (cell_ne (by omega) _).trans h.q, World.cell?_setCell_same _ _ _ h.l, (cell_ne (by omega) _).trans h.t, (cell_ne (by omega) _).trans h.u, (World.frozen?_setCell _ _ _ _).trans h.fp, (World.frozen?_setCell _ _ _ _).trans h.fq, (World.frozen?_setCell _ _ _ _).trans h.fl⟩
theorem IsM0.alloc {w : World} {b o : Nat} {p : Int} {q : Bool} {l t u : Int} (h : IsM0 w b o p q l t u) (x : Obj) : IsM0 (w.alloc x) b o p q l t u := h.kept (S := Nil) ((Ch.refl _ _).alloc _) (fun e => e)
def IsM (w : World) (b o : Nat) (p : Int) (q : Bool) : Prop := ∃ l t u, IsM0 w b o p q l t u
theorem IsM.lt {w : World} {b o : Nat} {p : Int} {q : Bool} (h : IsM w b o p q) : b < w.heap.size := by obtain ⟨l, t, u, h⟩ := h; exact h.lt
theorem IsM.kept {S : Nat → Prop} {w w' : World} {b o : Nat} {p : Int} {q : Bool} (h : IsM w b o p q) (c : Ch S w w') (hn : ¬ S b) : IsM w' b o p q := by
  obtain ⟨l, t, u, h⟩ := h; exact ⟨l, t, u, h.kept c hn⟩
theorem IsM.far {w w' : World} {b o o' k : Nat} {p : Int} {q : Bool} (h : IsM w b o p q) (c : Tch b o' k w w') (hn : o + 5 ≤ o' ∨ o' + k ≤ o) : IsM w' b o p q := by
  obtain ⟨l, t, u, h⟩ := h; exact ⟨l, t, u, h.far c hn⟩
abbrev mk (p : Int) (q : Bool) : Value := .agg #[.int .u64 p, .bool q]

/-- two positions of one window lie in two seats -/
theorem mod_apart {n f p q : Nat} (hp : f ≤ p ∧ p < f + n) (hq : f ≤ q ∧ q < f + n) (hne : p ≠ q) : p % n ≠ q % n := by
  intro h
  have h0 : 0 < n := by omega
  rcases Nat.lt_or_gt_of_ne hne with hlt | hlt
  · have : (q - p) % n = 0 := Nat.sub_mod_eq_zero_of_mod_eq h.symm
    rw [Nat.mod_eq_of_lt (by omega)] at this; omega
  · have : (p - q) % n = 0 := Nat.sub_mod_eq_zero_of_mod_eq h
    rw [Nat.mod_eq_of_lt (by omega)] at this; omega
/-- whose seat it is: the window's one position that lies there -/
theorem mod_window (n f p : Nat) (h0 : 0 < n) : ∃ q, f ≤ q ∧ q < f + n ∧ q % n = p % n := by
  by_cases h : f % n ≤ p % n
  · refine ⟨f / n * n + p % n, ?_, ?_, ?_⟩
    · have := Nat.div_add_mod f n; rw [Nat.mul_comm] at this; omega
    · have := Nat.div_add_mod f n; rw [Nat.mul_comm] at this; have := Nat.mod_lt p h0; omega
    · rw [Nat.mul_comm, Nat.mul_add_mod, Nat.mod_mod]
  · refine ⟨(f / n + 1) * n + p % n, ?_, ?_, ?_⟩
    · have := Nat.div_add_mod f n; rw [Nat.mul_comm] at this; have := Nat.mod_lt f h0; rw [Nat.add_mul]; omega
    · have := Nat.div_add_mod f n; rw [Nat.mul_comm] at this; rw [Nat.add_mul]; omega
    · rw [Nat.mul_comm, Nat.mul_add_mod, Nat.mod_mod]
end Go.Proofs.YtkialefhjfoniaaGreat
