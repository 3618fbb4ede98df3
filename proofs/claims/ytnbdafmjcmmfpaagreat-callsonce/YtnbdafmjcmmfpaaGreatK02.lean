import Derived.Test.YtnbdafmjcmmfpaaGreatRows
import Derived.WalkKit
import Derived.Below
import Derived.Deep.Draws
import Derived.Lib.Hide
import Derived.IntWalk
import Derived.Laws.OwnMore
import Derived.Deep.AppendLies
import Derived.RangeFuncNested
import Derived.RangeFuncBound
import Derived.RangeFuncCalls
import Derived.RangeFuncLeaves
import Derived.LaidEql
import Derived.Laws.AppendOwnNone
import Derived.Laws.StructEq
import Derived.Test.YtnbdafmjcmmfpaaGreatK01
/-
  What turns in memory, block by block: a relation of our own, and its laws; and what a cell in memory is.
-/
namespace Go.Proofs.YtnbdafmjcmmfpaaGreat
open Go.RowKit
set_option linter.unusedVariables false

/-- of the blocks that were there none has turned but those in S -/
structure Ch (S : Nat → Prop) (w w' : World) : Prop where
  os : w'.os = w.os
  tape : w'.tape = w.tape
  output : w'.output = w.output
  size : w.heap.size ≤ w'.heap.size
  block : ∀ k, k < w.heap.size → ¬ S k → w'.heap[k]? = w.heap[k]?

theorem Ch.refl (S : Nat → Prop) (w : World) : Ch S w w := ⟨rfl, rfl, rfl, Nat.le_refl _, fun _ _ _ => rfl⟩
theorem Ch.then {S S' : Nat → Prop} {a b c : World} (h : Ch S a b) (k : Ch S' b c) (hs : ∀ i, i < a.heap.size → S' i → S i) : Ch S a c :=
  ⟨k.os.trans h.os, k.tape.trans h.tape, k.output.trans h.output, Nat.le_trans h.size k.size,
   fun i hi hn => (k.block i (Nat.lt_of_lt_of_le hi h.size) (fun x => hn (hs i hi x))).trans (h.block i hi hn)⟩
theorem Ch.trans {S : Nat → Prop} {a b c : World} (h : Ch S a b) (k : Ch S b c) : Ch S a c := h.then k fun _ _ x => x
theorem Ch.mono {S S' : Nat → Prop} {a b : World} (h : Ch S a b) (hs : ∀ i, i < a.heap.size → S i → S' i) : Ch S' a b :=
  ⟨h.os, h.tape, h.output, h.size, fun i hi hn => h.block i hi fun x => hn (hs i hi x)⟩
theorem Ch.drewN {S : Nat → Prop} {a b : World} (h : Ch S a b) (n : Nat) : Ch S a (b.drewN n) := ⟨h.os, h.tape, h.output, h.size, h.block⟩
theorem Ch.drew {S : Nat → Prop} {a b : World} (h : Ch S a b) : Ch S a b.drew := ⟨h.os, h.tape, h.output, h.size, h.block⟩
theorem Ch.alloc {S : Nat → Prop} {a b : World} (h : Ch S a b) (o : Obj) : Ch S a (b.alloc o) :=
  h.trans ⟨rfl, rfl, rfl, by simp, fun k hk _ => Below.heap_alloc _ _ _ hk⟩
theorem Ch.set {S : Nat → Prop} {a b : World} (h : Ch S a b) {p : Addr} (hp : p.block < a.heap.size → S p.block) (v : Value) : Ch S a (b.setCell p v) :=
  h.then (S' := fun k => k = p.block) ⟨rfl, rfl, rfl, by simp [World.setCell], fun k _ hk => Below.heap_setCell _ _ _ _ hk⟩ (fun i hi e => by subst e; exact hp hi)
theorem Ch.below {S : Nat → Prop} {a b : World} {B : Nat} (h : Ch S a b) (hB : B ≤ a.heap.size) (hs : ∀ i, i < a.heap.size → S i → B ≤ i) : Below B a b :=
  ⟨h.os, h.tape, h.output, h.size, fun k hk => h.block k (by omega) fun x => by have := hs k (by omega) x; omega⟩
theorem Ch.of_below {S : Nat → Prop} {a b : World} (h : Below a.heap.size a b) : Ch S a b := ⟨h.os, h.tape, h.output, h.size, fun k hk _ => h.block k hk⟩
theorem Ch.cell {S : Nat → Prop} {a b : World} (h : Ch S a b) {p : Addr} (hp : p.block < a.heap.size) (hn : ¬ S p.block) : b.cell? p = a.cell? p := World.cell?_of_block (w := a) (h.block _ hp hn)
theorem Ch.frozen {S : Nat → Prop} {a b : World} (h : Ch S a b) {p : Addr} (hp : p.block < a.heap.size) (hn : ¬ S p.block) : b.frozen? p = a.frozen? p := World.frozen?_of_block (w := a) (h.block _ hp hn)
theorem lt_of_cell {w : World} {p : Addr} {v : Value} (h : w.cell? p = some v) : p.block < w.heap.size := World.block_lt_of_cell? w p h
theorem Ch.keeps {S : Nat → Prop} {a b : World} (h : Ch S a b) {p : Addr} {v : Value} (hc : a.cell? p = some v) (hn : ¬ S p.block) : b.cell? p = some v := (h.cell (lt_of_cell hc) hn).trans hc

/-- block b alone -/
abbrev One (b : Nat) : Nat → Prop := fun k => k = b
/-- no block -/
abbrev Nil : Nat → Prop := fun _ => False

/-- a cell that lies in block b from place o on: what it holds, how often it was loaded, tried, turned -/
structure IsC (w : World) (b o : Nat) (v : Value) (l t u : Int) : Prop where
  v : w.cell? ⟨b, o, none⟩ = some v
  l : w.cell? ⟨b, o + 1, none⟩ = some (.int .i64 l)
  t : w.cell? ⟨b, o + 2, none⟩ = some (.int .i64 t)
  u : w.cell? ⟨b, o + 3, none⟩ = some (.int .i64 u)
  fv : w.frozen? ⟨b, o, none⟩ = false
  fl : w.frozen? ⟨b, o + 1, none⟩ = false
  ft : w.frozen? ⟨b, o + 2, none⟩ = false
  fu : w.frozen? ⟨b, o + 3, none⟩ = false

theorem IsC.lt {w : World} {b o : Nat} {v : Value} {l t u : Int} (h : IsC w b o v l t u) : b < w.heap.size := lt_of_cell h.v
theorem IsC.keeps {S : Nat → Prop} {w w' : World} {b o : Nat} {v : Value} {l t u : Int} (h : IsC w b o v l t u) (c : Ch S w w') (hn : ¬ S b) : IsC w' b o v l t u := by
  have hl := h.lt
  exact ⟨c.keeps h.v hn, c.keeps h.l hn, c.keeps h.t hn, c.keeps h.u hn, (c.frozen (p := ⟨b, _, none⟩) hl hn).trans h.fv, (c.frozen (p := ⟨b, _, none⟩) hl hn).trans h.fl, (c.frozen (p := ⟨b, _, none⟩) hl hn).trans h.ft, (c.frozen (p := ⟨b, _, none⟩) hl hn).trans h.fu⟩
theorem IsC.drewN {w : World} {b o : Nat} {v : Value} {l t u : Int} (h : IsC w b o v l t u) (n : Nat) : IsC (w.drewN n) b o v l t u := ⟨h.v, h.l, h.t, h.u, h.fv, h.fl, h.ft, h.fu⟩

theorem IsC.drew {w : World} {b o : Nat} {v : Value} {l t u : Int} (h : IsC w b o v l t u) : IsC w.drew b o v l t u := ⟨h.v, h.l, h.t, h.u, h.fv, h.fl, h.ft, h.fu⟩
theorem IsC.alloc {w : World} {b o : Nat} {v : Value} {l t u : Int} (h : IsC w b o v l t u) (x : Obj) : IsC (w.alloc x) b o v l t u := h.keeps (S := Nil) ((Ch.refl _ _).alloc _) (fun e => e)
theorem Ch.setB {a w : World} {b : Nat} (h : Ch (One b) a w) (i : Nat) (v : Value) : Ch (One b) a (w.setCell ⟨b, i, none⟩ v) := h.set (p := ⟨b, i, none⟩) (fun _ => rfl) v
theorem cell_ne {w : World} {b i j : Nat} (h : i ≠ j) (x : Value) : (w.setCell ⟨b, i, none⟩ x).cell? ⟨b, j, none⟩ = w.cell? ⟨b, j, none⟩ :=
  World.cell?_setCell_other _ _ _ _ (fun e => by cases e; exact h rfl)
theorem IsC.setV {w : World} {b o : Nat} {v : Value} {l t u : Int} (h : IsC w b o v l t u) (x : Value) : IsC (w.setCell ⟨b, o, none⟩ (x)) b o x l t u :=
  ⟨World.cell?_setCell_same _ _ _ h.v, (cell_ne (by omega) _).trans h.l, (cell_ne (by omega) _).trans h.t, (cell_ne (by omega) _).trans h.u, (World.frozen?_setCell _ _ _ _).trans h.fv, (World.frozen?_setCell _ _ _ _).trans h.fl, (World.frozen?_setCell _ _ _ _).trans h.ft, (World.frozen?_setCell _ _ _ _).trans h.fu⟩
theorem IsC.setL {w : World} {b o : Nat} {v : Value} {l t u : Int} (h : IsC w b o v l t u) (x : Int) : IsC (w.setCell ⟨b, o + 1, none⟩ (.int .i64 x)) b o v x t u :=
  ⟨(cell_ne (by omega) _).trans h.v, World.cell?_setCell_same _ _ _ h.l, (cell_ne (by omega) _).trans h.t, (cell_ne (by omega) _).trans h.u, (World.frozen?_setCell _ _ _ _).trans h.fv, (World.frozen?_setCell _ _ _ _).trans h.fl, (World.frozen?_setCell _ _ _ _).trans h.ft, (World.frozen?_setCell _ _ _ _).trans h.fu⟩
theorem IsC.setT {w : World} {b o : Nat} {v : Value} {l t u : Int} (h : IsC w b o v l t u) (x : Int) : IsC (w.setCell ⟨b, o + 2, none⟩ (.int .i64 x)) b o v l x u :=
  ⟨(cell_ne (by omega) _).trans h.v, (cell_ne (by omega) _).trans h.l, World.cell?_setCell_same _ _ _ h.t, (cell_ne (by omega) _).trans h.u, (World.frozen?_setCell _ _ _ _).trans h.fv, (World.frozen?_setCell _ _ _ _).trans h.fl, (World.frozen?_setCell _ _ _ _).trans h.ft, (World.frozen?_setCell _ _ _ _).trans h.fu⟩
theorem IsC.setU {w : World} {b o : Nat} {v : Value} {l t u : Int} (h : IsC w b o v l t u) (x : Int) : IsC (w.setCell ⟨b, o + 3, none⟩ (.int .i64 x)) b o v l t x :=
  ⟨(cell_ne (by omega) _).trans h.v, (cell_ne (by omega) _).trans h.l, (cell_ne (by omega) _).trans h.t, World.cell?_setCell_same _ _ _ h.u, (World.frozen?_setCell _ _ _ _).trans h.fv, (World.frozen?_setCell _ _ _ _).trans h.fl, (World.frozen?_setCell _ _ _ _).trans h.ft, (World.frozen?_setCell _ _ _ _).trans h.fu⟩

/-- a function that is held against nil: it isn't nil -/
theorem run_equalIn_fn (P : Program) (w : World) (d : Nat) (t : TypeId) (f : Fn) (a c : Array Value) (τ : _) (h : P.underlying t = some τ) (hf : τ matches .func ..) : (Op.equalIn (d + 1) t (.func f a c) .nilFunc).run P w = .ok false w := by
  cases τ <;> simp at hf
  simp [Op.equalIn, run_underlying h]
theorem run_eql_fn (P : Program) (w : World) (t : TypeId) (f : Fn) (a c : Array Value) (τ : _) (h : P.underlying t = some τ) (hf : τ matches .func ..) : (binOp .eql t (.func f a c) .nilFunc).run P w = .ok (.bool false) w := by
  simp only [binOp]
  simp [show Op.equal t (.func f a c) .nilFunc = Op.equalIn (9999 + 1) t (.func f a c) .nilFunc from rfl, run_equalIn_fn P w 9999 t f a c τ h hf]
end Go.Proofs.YtnbdafmjcmmfpaaGreat

/-
  What a ring's cells are in memory: what turned within one block, and what stands beside it.
-/
namespace Go.Proofs.YtnbdafmjcmmfpaaGreat
open Go.RowKit
set_option linter.unusedVariables false

/-- in block b no more than k cells from o on have turned; no other old block has -/
structure Tch (b o k : Nat) (w w' : World) : Prop where
  ch : Ch (One b) w w'
  cell : ∀ i, (i < o ∨ o + k ≤ i) → w'.cell? ⟨b, i, none⟩ = w.cell? ⟨b, i, none⟩
  fz : ∀ i, w'.frozen? ⟨b, i, none⟩ = w.frozen? ⟨b, i, none⟩
theorem Tch.refl (b o k : Nat) (w : World) : Tch b o k w w := ⟨Ch.refl _ _, fun _ _ => rfl, fun _ => rfl⟩
theorem Tch.trans {b o k : Nat} {w1 w2 w3 : World} (h : Tch b o k w1 w2) (g : Tch b o k w2 w3) : Tch b o k w1 w3 :=
  ⟨h.ch.trans g.ch, fun i hi => (g.cell i hi).trans (h.cell i hi), fun i => (g.fz i).trans (h.fz i)⟩
theorem Tch.wide {b o k o' k' : Nat} {w1 w2 : World} (h : Tch b o k w1 w2) (ho : o' ≤ o) (hk : o + k ≤ o' + k') : Tch b o' k' w1 w2 :=
  ⟨h.ch, fun i hi => h.cell i (by omega), h.fz⟩
theorem Tch.set {b o k : Nat} {w w' : World} (h : Tch b o k w w') (i : Nat) (hi : o ≤ i ∧ i < o + k) (v : Value) : Tch b o k w (w'.setCell ⟨b, i, none⟩ v) :=
  ⟨h.ch.setB i v, fun j hj => (cell_ne (by omega) v).trans (h.cell j hj), fun j => (World.frozen?_setCell _ _ _ _).trans (h.fz j)⟩
theorem Tch.of_nil {b o k : Nat} {w w' : World} (h : Ch Nil w w') (hb : b < w.heap.size) : Tch b o k w w' :=
  ⟨h.mono (fun _ _ e => e.elim), fun i _ => h.cell (p := ⟨b, i, none⟩) hb (fun e => e), fun i => h.frozen (p := ⟨b, i, none⟩) hb (fun e => e)⟩
theorem Tch.alloc {b o k : Nat} {w w' : World} (h : Tch b o k w w') (hb : b < w.heap.size) (x : Obj) : Tch b o k w (w'.alloc x) :=
  h.trans (Tch.of_nil ((Ch.refl _ _).alloc x) (by have := h.ch.size; omega))
theorem Tch.drewN {b o k : Nat} {w w' : World} (h : Tch b o k w w') (n : Nat) : Tch b o k w (w'.drewN n) := ⟨h.ch.drewN n, h.cell, h.fz⟩
theorem Tch.drew {b o k : Nat} {w w' : World} (h : Tch b o k w w') : Tch b o k w w'.drew := ⟨h.ch.drew, h.cell, h.fz⟩

/-- a cell of an unsigned number -/
def IsU (w : World) (b o : Nat) (v : Int) : Prop := ∃ l t u, IsC w b o (.int .u64 v) l t u
theorem IsU.lt {w : World} {b o : Nat} {v : Int} (h : IsU w b o v) : b < w.heap.size := by obtain ⟨l, t, u, h⟩ := h; exact h.lt
theorem IsU.kept {S : Nat → Prop} {w w' : World} {b o : Nat} {v : Int} (h : IsU w b o v) (c : Ch S w w') (hn : ¬ S b) : IsU w' b o v := by
  obtain ⟨l, t, u, h⟩ := h; exact ⟨l, t, u, h.keeps c hn⟩
theorem IsU.far {w w' : World} {b o o' k : Nat} {v : Int} (h : IsU w b o v) (c : Tch b o' k w w') (hn : o + 4 ≤ o' ∨ o' + k ≤ o) : IsU w' b o v := by
  obtain ⟨l, t, u, h⟩ := h
  exact ⟨l, t, u, (c.cell _ (by omega)).trans h.v, (c.cell _ (by omega)).trans h.l, (c.cell _ (by omega)).trans h.t, (c.cell _ (by omega)).trans h.u,
    (c.fz _).trans h.fv, (c.fz _).trans h.fl, (c.fz _).trans h.ft, (c.fz _).trans h.fu⟩

/-- a cell of a mark -/
structure IsM0 (w : World) (b o : Nat) (p : Int) (q : Bool) (l t u : Int) : Prop where
  p : w.cell? ⟨b, o, none⟩ = some (.int .u64 p)
  q : w.cell? ⟨b, o + 1, none⟩ = some (.bool q)
  l : w.cell? ⟨b, o + 2, none⟩ = some (.int .i64 l)
  t : w.cell? ⟨b, o + 3, none⟩ = some (.int .i64 t)
  u : w.cell? ⟨b, o + 4, none⟩ = some (.int .i64 u)
  fp : w.frozen? ⟨b, o, none⟩ = false
  fq : w.frozen? ⟨b, o + 1, none⟩ = false
  fl : w.frozen? ⟨b, o + 2, none⟩ = false
theorem IsM0.lt {w : World} {b o : Nat} {p : Int} {q : Bool} {l t u : Int} (h : IsM0 w b o p q l t u) : b < w.heap.size := lt_of_cell h.p
theorem IsM0.kept {S : Nat → Prop} {w w' : World} {b o : Nat} {p : Int} {q : Bool} {l t u : Int} (h : IsM0 w b o p q l t u) (c : Ch S w w') (hn : ¬ S b) : IsM0 w' b o p q l t u := by
  have hl := h.lt
  exact ⟨c.keeps h.p hn, c.keeps h.q hn, c.keeps h.l hn, c.keeps h.t hn, c.keeps h.u hn, (c.frozen (p := ⟨b, _, none⟩) hl hn).trans h.fp, (c.frozen (p := ⟨b, _, none⟩) hl hn).trans h.fq, (c.frozen (p := ⟨b, _, none⟩) hl hn).trans h.fl⟩
theorem IsM0.far {w w' : World} {b o o' k : Nat} {p : Int} {q : Bool} {l t u : Int} (h : IsM0 w b o p q l t u) (c : Tch b o' k w w') (hn : o + 5 ≤ o' ∨ o' + k ≤ o) : IsM0 w' b o p q l t u :=
  ⟨(c.cell _ (by omega)).trans h.p, (c.cell _ (by omega)).trans h.q, (c.cell _ (by omega)).trans h.l, (c.cell _ (by omega)).trans h.t, (c.cell _ (by omega)).trans h.u, (c.fz _).trans h.fp, (c.fz _).trans h.fq, (c.fz _).trans h.fl⟩
theorem IsM0.setP {w : World} {b o : Nat} {p : Int} {q : Bool} {l t u : Int} (h : IsM0 w b o p q l t u) (x : Int) : IsM0 (w.setCell ⟨b, o, none⟩ (.int .u64 x)) b o x q l t u :=
  ⟨World.cell?_setCell_same _ _ _ h.p, (cell_ne (by omega) _).trans h.q, (cell_ne (by omega) _).trans h.l, (cell_ne (by omega) _).trans h.t, (cell_ne (by omega) _).trans h.u, (World.frozen?_setCell _ _ _ _).trans h.fp, (World.frozen?_setCell _ _ _ _).trans h.fq, (World.frozen?_setCell _ _ _ _).trans h.fl⟩
theorem IsM0.setQ {w : World} {b o : Nat} {p : Int} {q : Bool} {l t u : Int} (h : IsM0 w b o p q l t u) (x : Bool) : IsM0 (w.setCell ⟨b, o + 1, none⟩ (.bool x)) b o p x l t u :=
  ⟨(cell_ne (by omega) _).trans h.p, World.cell?_setCell_same _ _ _ h.q, (cell_ne (by omega) _).trans h.l, (cell_ne (by omega) _).trans h.t, (cell_ne (by omega) _).trans h.u, (World.frozen?_setCell _ _ _ _).trans h.fp, (World.frozen?_setCell _ _ _ _).trans h.fq, (World.frozen?_setCell _ _ _ _).trans h.fl⟩
theorem IsM0.setL {w : World} {b o : Nat} {p : Int} {q : Bool} {l t u : Int} (h : IsM0 w b o p q l t u) (x : Int) : IsM0 (w.setCell ⟨b, o + 2, none⟩ (.int .i64 x)) b o p q x t u :=
  ⟨(cell_ne (by omega) _).trans h.p, (cell_ne (by omega) _).trans h.q, World.cell?_setCell_same _ _ _ h.l, (cell_ne (by omega) _).trans h.t, (cell_ne (by omega) _).trans h.u, (World.frozen?_setCell _ _ _ _).trans h.fp, (World.frozen?_setCell _ _ _ _).trans h.fq, (World.frozen?_setCell _ _ _ _).trans h.fl⟩
theorem IsM0.alloc {w : World} {b o : Nat} {p : Int} {q : Bool} {l t u : Int} (h : IsM0 w b o p q l t u) (x : Obj) : IsM0 (w.alloc x) b o p q l t u := h.kept (S := Nil) ((Ch.refl _ _).alloc _) (fun e => e)
def IsM (w : World) (b o : Nat) (p : Int) (q : Bool) : Prop := ∃ l t u, IsM0 w b o p q l t u
theorem IsM.lt {w : World} {b o : Nat} {p : Int} {q : Bool} (h : IsM w b o p q) : b < w.heap.size := by obtain ⟨l, t, u, h⟩ := h; exact h.lt
theorem IsM.kept {S : Nat → Prop} {w w' : World} {b o : Nat} {p : Int} {q : Bool} (h : IsM w b o p q) (c : Ch S w w') (hn : ¬ S b) : IsM w' b o p q := by
  obtain ⟨l, t, u, h⟩ := h; exact ⟨l, t, u, h.kept c hn⟩
theorem IsM.far {w w' : World} {b o o' k : Nat} {p : Int} {q : Bool} (h : IsM w b o p q) (c : Tch b o' k w w') (hn : o + 5 ≤ o' ∨ o' + k ≤ o) : IsM w' b o p q := by
  obtain ⟨l, t, u, h⟩ := h; exact ⟨l, t, u, h.far c hn⟩
abbrev mk (p : Int) (q : Bool) : Value := .agg #[.int .u64 p, .bool q]

/-- two positions of one window lie in two seats -/
theorem mod_apart {n f p q : Nat} (hp : f ≤ p ∧ p < f + n) (hq : f ≤ q ∧ q < f + n) (hne : p ≠ q) : p % n ≠ q % n := by
  intro h
  have h0 : 0 < n := by omega
  rcases Nat.lt_or_gt_of_ne hne with hlt | hlt
  · have : (q - p) % n = 0 := Nat.sub_mod_eq_zero_of_mod_eq h.symm
    rw [Nat.mod_eq_of_lt (by omega)] at this; omega
  · have : (p - q) % n = 0 := Nat.sub_mod_eq_zero_of_mod_eq h
    rw [Nat.mod_eq_of_lt (by omega)] at this; omega
/-- whose seat it is: the window's one position that lies there -/
theorem mod_window (n f p : Nat) (h0 : 0 < n) : ∃ q, f ≤ q ∧ q < f + n ∧ q % n = p % n := by
  by_cases h : f % n ≤ p % n
  · refine ⟨f / n * n + p % n, ?_, ?_, ?_⟩
    · have := Nat.div_add_mod f n; rw [Nat.mul_comm] at this; omega
    · have := Nat.div_add_mod f n; rw [Nat.mul_comm] at this; have := Nat.mod_lt p h0; omega
    · rw [Nat.mul_comm, Nat.mul_add_mod, Nat.mod_mod]
  · refine ⟨(f / n + 1) * n + p % n, ?_, ?_, ?_⟩
    · have := Nat.div_add_mod f n; rw [Nat.mul_comm] at this; have := Nat.mod_lt f h0; rw [Nat.add_mul]; omega
    · have := Nat.div_add_mod f n; rw [Nat.mul_comm] at this; rw [Nat.add_mul]; omega
    · rw [Nat.mul_comm, Nat.mul_add_mod, Nat.mod_mod]
end Go.Proofs.YtnbdafmjcmmfpaaGreat

/-
  A slice that the call owns, as its cells: kept, read, written, appended to.
-/
namespace Go.Proofs.YtnbdafmjcmmfpaaGreat
open Go.RowKit
set_option linter.unusedVariables false

/-- the block of a slice's row, if it has one -/
def OwnS (a : Option Addr) : Nat → Prop := fun k => a.map (·.block) = some k
/-- a slice of n elements of 'size' cells, the i-th cell f i -/
def Row (w : World) (e : TypeId) (size : Nat) (a : Option Addr) (n cap : Nat) (f : Nat → Value) : Prop :=
  w.ownsRow 0 e size (.slice a n cap) n ((List.range (n * size)).map f)
section
variable {w w' : World} {e : TypeId} {size : Nat} {a : Option Addr} {n cap : Nat} {f : Nat → Value} {S : Nat → Prop}
theorem Row.nil (w : World) (e : TypeId) (size : Nat) (f : Nat → Value) : Row w e size none 0 0 f := by
  unfold Row; simpa using World.ownsRow_nil w 0 e size
theorem Row.congr (h : Row w e size a n cap f) (g : Nat → Value) (hg : ∀ i, i < n * size → g i = f i) : Row w e size a n cap g := by
  unfold Row
  rw [List.map_congr_left (g := f) (fun i hi => hg i (List.mem_range.1 hi))]
  exact h
theorem Row.lt (h : Row w e size a n cap f) : ∀ k, OwnS a k → k < w.heap.size := by
  intro k hk
  refine (World.ownsRow.lt (v := .slice a n cap) h k ?_).2
  cases a with
  | none => simp [OwnS] at hk
  | some x => simpa [Value.ownBlock, OwnS] using hk
theorem Row.kept (h : Row w e size a n cap f) (c : Ch S w w') (hn : ∀ k, OwnS a k → ¬ S k) : Row w' e size a n cap f := by
  refine ⟨h.1, ?_⟩
  rcases h.2 with hn' | ⟨g, cap', cur, hv, hb, hgg, rest⟩
  · exact .inl hn'
  · refine .inr ⟨g, cap', cur, hv, hb, ?_, rest⟩
    simp only [Value.slice.injEq] at hv
    rw [c.block g (Array.getElem?_eq_some_iff.1 hgg).1 (hn g (by rw [OwnS, hv.1]; rfl))]
    exact hgg
theorem Row.form (h : Row w e size a n cap f) (hn : 0 < n) : ∃ g, a = some ⟨g, 0, none⟩ ∧ g < w.heap.size := by
  obtain ⟨g, cap', hv, -, hlt⟩ := World.ownsRow.form h hn
  simp only [Value.slice.injEq] at hv
  exact ⟨g, hv.1, hlt⟩
theorem Row.len_cap (h : Row w e size a n cap f) : n ≤ cap ∧ cap ≤ maxLen := by
  rcases h.2 with ⟨hv, h0⟩ | ⟨g, cap', cur, hv, hb, hgg, h1, h2, -⟩
  · simp only [Value.slice.injEq] at hv
    obtain ⟨-, rfl, rfl⟩ := hv
    exact ⟨Nat.le_refl _, Nat.zero_le _⟩
  · simp only [Value.slice.injEq] at hv
    obtain ⟨-, -, rfl⟩ := hv
    exact ⟨h1, h2⟩
theorem Row.cell {g : Nat} (h : Row w e size (some ⟨g, 0, none⟩) n cap f) (i : Nat) (hi : i < n * size) : w.cell? ⟨g, i, none⟩ = some (f i) := by
  have := World.ownsRow.cells h (g := g) rfl i (f i) (by simp [hi])
  have hadd : (⟨g, 0, none⟩ : Addr).add i = ⟨g, i, none⟩ := by unfold Addr.add; split <;> simp_all
  rwa [hadd] at this
theorem Row.frozen {g : Nat} (h : Row w e size (some ⟨g, 0, none⟩) n cap f) (i : Nat) : w.frozen? ⟨g, i, none⟩ = false := by
  rcases h.2 with ⟨hv, -⟩ | ⟨g', cap', cur, hv, hb, hgg, -⟩
  · simp at hv
  · simp only [Value.slice.injEq, Option.some.injEq, Addr.mk.injEq, and_true, true_and] at hv
    obtain ⟨rfl, -⟩ := hv
    unfold World.frozen?
    simp [hgg]
theorem Row.set {g : Nat} (h : Row w e size (some ⟨g, 0, none⟩) n cap f) (i : Nat) (hi : i < n * size) (u : Value) (f' : Nat → Value) (h1 : f' i = u) (h2 : ∀ j, j ≠ i → f' j = f j) :
    Row (w.setCell ⟨g, i, none⟩ u) e size (some ⟨g, 0, none⟩) n cap f' := by
  have := (World.ownsRow.stored h i u).1
  unfold Row
  rw [show (List.range (n * size)).map f' = ((List.range (n * size)).map f).set i u from ?_]
  · exact this
  · apply List.ext_getElem
    · simp
    · intro j hj1 hj2
      simp only [List.getElem_map, List.getElem_range, List.getElem_set]
      split
      · rename_i e; subst e; exact h1
      · rename_i e; exact h2 j (fun x => e x.symm)
theorem Ch.of_grown {row : Option Nat} (h : w.grownBy w' row) : Ch (fun k => row = some k) w w' :=
  ⟨h.os, h.tape, h.output, h.size, fun k hk hn => h.block k hk (fun e => hn e.symm)⟩
end

/-- append of one element, for the walk -/
theorem append_row {P : Program} (w : World) {ops : Array Oper} {rest : List Oper} {o : Oper} {act : Act} {Q : Exit → Act → World → Prop} (hgd : o.guard = none) (s x : Operand) (t : TypeId)
    (ho : o.op = .call { callee := .builtin .append, args := #[s, x], argTypes := #[t, t] })
    (e : TypeId) (z : Value) (size bytes : Nat) (ht : P.underlying t = some (.slice e)) (hi : (P.info? e).map (fun i => (i.zero, i.size, i.bytes)) = some (some z, size, bytes))
    (hzs : z.cells.size = size) (hsz : 0 < size) (hby : bytes ≤ 1000)
    {a : Option Addr} {n cap : Nat} {f : Nat → Value} (hs : act.eval s = .slice a n cap) (hrow : Row w e size a n cap f) (hn : n ≤ 1000000)
    (B c : Nat) (news : List Value) (T : TypeId) (hx : act.eval x = .slice (some ⟨B, 0, none⟩) 1 c) (hl : news.length = size) (hb : w.heap[B]? = some (.cells news.toArray T (0, 0))) (h1 : ∀ u ∈ news, u.oneCell' = true)
    (f' : Nat → Value) (hf : ∀ i, i < n * size → f' i = f i) (hf2 : ∀ j u, news[j]? = some u → f' (n * size + j) = u) (H : Nat) (hH : w.heap.size = H)
    (h : ∀ g cap' w', Row w' e size (some ⟨g, 0, none⟩) (n + 1) cap' f' → Ch (OwnS a) w w' → (OwnS a g ∨ g = H) → g < w'.heap.size → wpList P ops Q rest (act.put o.dst (.slice (some ⟨g, 0, none⟩) (n + 1) cap')) w') : wpList P ops Q (o :: rest) act w := by
  obtain ⟨i, hi', he⟩ := Option.map_eq_some_iff.1 hi
  simp only [Prod.mk.injEq] at he
  obtain ⟨hz, hsize, hbytes⟩ := he
  have hlist : (List.range ((n + 1) * size)).map f' = (List.range (n * size)).map f ++ news := by
    apply List.ext_getElem
    · simp [hl, Nat.add_mul]
    · intro j hj1 hj2
      rw [List.getElem_map, List.getElem_range]
      by_cases hj : j < n * size
      · rw [List.getElem_append_left (by simpa using hj)]
        simp only [List.getElem_map, List.getElem_range]
        exact hf j hj
      · rw [List.getElem_append_right (by simpa using hj)]
        have hj3 : j - n * size < news.length := by
          simp [Nat.add_mul] at hj1; omega
        have := hf2 (j - n * size) _ (List.getElem?_eq_getElem hj3)
        rw [show n * size + (j - n * size) = j by omega] at this
        rw [this]
        congr 1
        simp
  have hob : (Value.slice a n cap).ownBlock = a.map (·.block) := by cases a <;> rfl
  refine wpList_append_lies w hgd s x t ho 0 e i z size bytes ht hi' hz hsize hbytes hzs hsz _ n _ hs hrow ⟨B, 0, none⟩ 1 c news hx (by omega) ?_ h1 (by omega) ?_ ?_ (Nat.zero_le _) H hH ?_
  · have := World.news_of_block hb
    simpa using this
  · simp only [maxLen]; omega
  · have : (n + 1) * bytes ≤ 1000001 * 1000 := Nat.mul_le_mul (by omega) hby
    omega
  · intro g cap' w1 hown hgrow hat hlt
    rw [hob] at hgrow hat
    refine h g cap' w1 ?_ (Ch.of_grown hgrow) hat hlt
    unfold Row
    rw [hlist]
    exact hown
end Go.Proofs.YtnbdafmjcmmfpaaGreat

/-
  'for x := range f': a law of our own for a loop that runs out, whose rounds are told by their number: what holds between two rounds may be all that the iterator reads.
-/
namespace Go.Proofs.YtnbdafmjcmmfpaaGreat
open Go.RowKit
set_option linter.unusedVariables false

/-- no cells lie in block r -/
def NoCells (W : World) (r : Nat) : Prop := ∀ o, W.heap[r]? = some o → o.isCells = false
/-- what stands though a block behind B that holds no cells turns -/
def Steady (B : Nat) (I : Nat → World → Prop) : Prop := ∀ k W W' r, I k W → Ch (One r) W W' → B ≤ r → NoCells W r → I k W'
theorem NoCells.of_loop {W : World} {r : Nat} {o : Obj} (h : W.heap[r]? = some o) (ho : o.isCells = false) : NoCells W r := fun o' h' => by rw [h] at h'; cases h'; exact ho
theorem NoCells.new (W : World) : NoCells W W.heap.size := fun o h => by simp at h
theorem NoCells.cell {W : World} {r : Nat} (h : NoCells W r) {p : Addr} {v : Value} (hc : W.cell? p = some v) : p.block ≠ r := by
  intro e
  unfold World.cell? at hc
  rw [e] at hc
  cases ho : W.heap[r]? with
  | none => simp [ho] at hc
  | some o =>
    have := h o ho
    cases o <;> simp_all [Obj.isCells]
theorem NoCells.row {W : World} {r g : Nat} (h : NoCells W r) {cs : Array Value} {t : TypeId} {z : Nat × Nat} (hg : W.heap[g]? = some (.cells cs t z)) : g ≠ r := by
  rintro rfl
  have := h _ hg
  simp [Obj.isCells] at this
theorem Ch.put {W : World} (r : Nat) (o : Obj) : Ch (One r) W (W.putObj r o) := ⟨rfl, rfl, rfl, by simp, fun k _ hk => World.putObj_heap_other hk⟩
theorem Steady.put {B : Nat} {I : Nat → World → Prop} (h : Steady B I) {k : Nat} {W : World} {r : Nat} {o : Obj} (o' : Obj) (hi : I k W) (hB : B ≤ r) (ho : W.heap[r]? = some o) (hc : o.isCells = false) : I k (W.putObj r o') :=
  h k W _ r hi (Ch.put r o') hB (.of_loop ho hc)
theorem Steady.new {B : Nat} {I : Nat → World → Prop} (h : Steady B I) {k : Nat} {W : World} (o : Obj) (hi : I k W) (hB : B ≤ W.heap.size) : I k (W.alloc o) :=
  h k W _ W.heap.size hi ((Ch.refl _ _).alloc o) hB (.new W)

/-- how a round is left: it goes on -/
def allPost (B : Nat) (I : Nat → World → Prop) (k : Nat) (W : World) : Exit → Act → World → Prop
  | .normal, _, W' => KeepsFrom B W W' ∧ I k W'
  | _, _, _ => False

/-- what is asked of the iterator: whatever the caller's word J of the rounds, as long as it tells I -/
def TellsAll (n : Nat) (P : Program) (gf : Nat) (args : Nat → Array Value) (N : Nat) (val : Nat → Value) (I : Nat → World → Prop) : Prop :=
  ∀ (l : Nat) (J : Nat → World → Prop) (W : World), (∀ k W, J k W → I k W) →
    (∀ k W1, J k W1 → k < N → YieldAt Fence.wide (n - 1) P l #[val k] W1 fun e W' => e = .returned (.bool true) ∧ J (k + 1) W') → J 0 W →
    CallsIn Fence.wide n P gf (args l) W fun e W' => (∃ v, e = .returned v) ∧ J N W'

theorem range_all {n : Nat} {P : Program} {g : Operand} {ps : Array Tmp} {assign body : Code} {Q : Exit → Act → World → Prop} {a : Act} {w : World} {gf : Nat} {ba : Array Value}
    (hg : a.eval g = .func (.func gf) ba #[]) (eg : ∀ args w, (callFunc gf args).run P w = .ok (.enter gf args) w)
    (N : Nat) (val : Nat → Value) (hps : ps.size = 1) (I : Nat → World → Prop) (hI : Steady w.heap.size I) (h0 : I 0 w)
    (hit : TellsAll (n - 1) P gf (fun l => ba ++ #[.func (.yield l) #[] #[]]) N val I) (a₁ : Nat → Act)
    (hassign : ∀ (l k : Nat) (W : World) (K : Act → World → Prop), K (a₁ k) W →
      assign.wpIn (Fence.wide.inRound l) (n - 1 - 1) P (Exit.then K (fun _ _ _ => False)) { tmps := (ps.zip #[val k]).foldl (fun t (p, v) => t.setIfInBounds p v) a.tmps, defers := [] } W)
    (hbody : ∀ (l k : Nat) (W : World), I k W → k < N → body.wpIn (Fence.wide.inRound l) (n - 1 - 1) P (allPost w.heap.size I (k + 1) W) (a₁ k) W)
    (hdone : ∀ (D : Nat) (W : World), w.heap.size ≤ D → I N W → W.heap[D]? = some (.deferred (some [])) → Q .normal { a with defers := { target := .collected D, args := #[] } :: a.defers } W) :
    (Code.rangeFunc g ps assign body).wpIn Fence.wide n P Q a w := by
  refine wpIn_rangeFunc ?_
  intro fn hfn
  -- the block for deferred calls lies at w's end, the loop's record behind it
  obtain ⟨D, hD⟩ : ∃ D, D = w.heap.size := ⟨_, rfl⟩
  obtain ⟨rec, hrec⟩ : ∃ rec : LoopState → Loop, rec = fun st => { state := st, pending := none, fn, tmps := a.tmps, params := ps, assign, body, defers := D } := ⟨_, rfl⟩
  obtain ⟨W1, hW1⟩ : ∃ W1, W1 = (w.alloc (.deferred (some []))).alloc (.loop (rec .ready)) := ⟨_, rfl⟩
  have hs1 : (w.alloc (.deferred (some []))).heap.size = D + 1 := by rw [World.size_alloc, hD]
  have hK1 : W1.heap[D]? = some (.deferred (some [])) := by
    rw [hW1, Below.heap_alloc _ _ _ (by omega), hD]; exact World.alloc_heap_new w _
  have hL1 : W1.heap[D + 1]? = some (.loop (rec .ready)) := by
    rw [hW1, ← hs1]; exact World.alloc_heap_new _ _
  have hI1 : I 0 W1 := by rw [hW1]; exact hI.new _ (hI.new _ h0 (Nat.le_refl _)) (by rw [World.size_alloc]; omega)
  -- between two rounds: I, the record ready, no deferred call
  let J : Nat → World → Prop := fun k W => I k W ∧ W.heap[D + 1]? = some (.loop (rec .ready)) ∧ W.heap[D]? = some (.deferred (some []))
  refine ⟨D + 1, [{ target := .collected D, args := #[] }], W1, { target := .fn (.func gf) #[], args := ba ++ #[.func (.yield (D + 1)) #[] #[]] }, W1, gf, ba ++ #[.func (.yield (D + 1)) #[] #[]], W1, ?_, ?_, fun _ _ => trivial, ?_, fun h => (by cases h), ?_⟩
  · rw [hW1, hrec, hD]; exact run_enterLoop_outer fn a.tmps ps assign body
  · simp only [resolve, hg]; simp [go_sem]
  · simp [invoke, go_sem, eg]
  · refine (hit (D + 1) J W1 (fun k W h => h.1) ?_ ⟨hI1, hL1, hK1⟩).mono ?_
    · rintro k W ⟨hi, hl, hk⟩ hkN
      have hlt := (Array.getElem?_eq_some_iff.1 hl).1
      have hy := run_yield (P := P) (args := #[val k]) hl (by rw [hrec]; simp [hps])
      rw [hrec] at hy
      refine ⟨fn, _, assign, body, hy, roundIn_of_wpIn hfn (hassign _ k W _ ⟨_, run_beginRound hl (by rw [hrec]), ?_⟩)⟩
      refine wpIn_mono (hbody _ k _ (hI.put _ hi (by omega) hl rfl) hkN) ?_
      rintro e a3 W3 hp
      cases e with
      | normal =>
        obtain ⟨kf, hi3⟩ := hp
        have hl3 := kf.same _ _ (by omega) (World.putObj_heap_same hlt) rfl
        have hk3 := kf.same _ _ (Nat.le_of_eq hD.symm) ((World.putObj_heap_other (by omega)).trans hk) rfl
        refine ⟨_, _, run_endRound none hl3, rfl, hI.put _ hi3 (by omega) hl3 rfl, ?_, (World.putObj_heap_other (by omega)).trans hk3⟩
        rw [World.putObj_heap_same (Array.getElem?_eq_some_iff.1 hl3).1, hrec]; rfl
      | ret => exact hp.elim
      | exit id => exact hp.elim
      | goto t => exact hp.elim
      | panic ch => exact hp.elim
      | outgrown => exact hp.elim
    · rintro e W2 ⟨⟨v, rfl⟩, hi, hl, hk⟩
      have hE := run_endLoop (P := P) hl (by rw [hrec]; simp)
      have hp : (rec .ready).pending = none := by rw [hrec]
      rw [hp] at hE
      exact ⟨none, _, hE, hdone D _ (Nat.le_of_eq hD.symm) (hI.put _ hi (by omega) hl rfl) ((World.putObj_heap_other (by omega)).trans hk)⟩
end Go.Proofs.YtnbdafmjcmmfpaaGreat

/-
  What a list and its nodes are in memory: pointers that may be nil; cells set and read.
-/
namespace Go.Proofs.YtnbdafmjcmmfpaaGreat
open Go.RowKit
set_option linter.unusedVariables false

/-- a pointer to a block, or nil -/
def pt : Option Nat → Value
  | none => .pointer none
  | some b => .pointer (some ⟨b, 0, none⟩)
@[simp] theorem pt_none : pt none = .pointer none := rfl
@[simp] theorem pt_some (b : Nat) : pt (some b) = .pointer (some ⟨b, 0, none⟩) := rfl
theorem cell_set (w : World) (b i c j : Nat) (v : Value) : (w.setCell ⟨b, i, none⟩ v).cell? ⟨c, j, none⟩ = if c = b ∧ j = i then (w.cell? ⟨c, j, none⟩).map (fun _ => v) else w.cell? ⟨c, j, none⟩ := by
  split
  · rename_i h
    obtain ⟨rfl, rfl⟩ := h
    cases hc : w.cell? ⟨c, j, none⟩ with
    | some u => exact World.cell?_setCell_same _ _ _ hc
    | none =>
      rw [Option.map_none, ← hc]
      unfold World.cell? World.setCell at *
      simp only at hc ⊢
      cases ho : w.heap[c]? with
      | none =>
        have : (w.heap.modify c fun x => match x with | .cells cs t z => .cells (cs.setIfInBounds j v) t z | o => o)[c]? = none := by
          simp at ho ⊢; exact ho
        simp_all
      | some o =>
        have hlt := (Array.getElem?_eq_some_iff.1 ho).1
        cases o <;> simp_all [Array.getElem_modify]
  · rename_i h
    exact World.cell?_setCell_other _ _ _ _ (fun e => by cases e; exact h ⟨rfl, rfl⟩)

theorem cell_fresh (w : World) (cs : Array Value) (t : TypeId) (j : Nat) : (w.alloc (.cells cs t)).cell? ⟨w.heap.size, j, none⟩ = cs[j]? := by
  have h := World.alloc_heap_new w (.cells cs t)
  unfold World.cell?
  simp only [h]
  simp
theorem frozen_fresh (w : World) (cs : Array Value) (t : TypeId) (j : Nat) : (w.alloc (.cells cs t)).frozen? ⟨w.heap.size, j, none⟩ = false := by
  have h := World.alloc_heap_new w (.cells cs t)
  unfold World.frozen?
  simp only [h]
  simp

/-- a block of cells, none of them frozen -/
def Blk (w : World) (b : Nat) : Prop := ∃ cs t, w.heap[b]? = some (.cells cs t (0, 0))
section
variable {S : Nat → Prop} {w w' : World} {b : Nat}
theorem Blk.lt (h : Blk w b) : b < w.heap.size := by obtain ⟨cs, t, h⟩ := h; exact (Array.getElem?_eq_some_iff.1 h).1
theorem Blk.fz (h : Blk w b) (j : Nat) : w.frozen? ⟨b, j, none⟩ = false := by
  obtain ⟨cs, t, h⟩ := h
  unfold World.frozen?
  simp only [h]
  simp
theorem Blk.kept (h : Blk w b) (c : Ch S w w') (hn : ¬ S b) : Blk w' b := by
  have hl := h.lt
  obtain ⟨cs, t, h⟩ := h
  exact ⟨cs, t, (c.block b hl hn).trans h⟩
theorem Blk.new (w : World) (cs : Array Value) (t : TypeId) : Blk (w.alloc (.cells cs t)) w.heap.size := ⟨cs, t, World.alloc_heap_new w _⟩
theorem Blk.set (h : Blk w b) (p : Addr) (v : Value) : Blk (w.setCell p v) b := by
  have hl := h.lt
  obtain ⟨cs, t, h⟩ := h
  by_cases e : b = p.block
  · refine ⟨if p.spot.isSome = true then cs else cs.setIfInBounds p.off v, t, ?_⟩
    obtain ⟨hl', h'⟩ := Array.getElem?_eq_some_iff.1 h
    unfold World.setCell
    simp only
    rw [← e, Array.getElem?_eq_getElem (by rw [Array.size_modify]; exact hl), Array.getElem_modify_self, h']
  · exact ⟨cs, t, (Below.heap_setCell w p v b e).trans h⟩
theorem Blk.drew (h : Blk w b) : Blk w.drew b := h
end

theorem run_equalIn_pt {P : Program} {w : World} {t e : TypeId} (d : Nat) (p q : Option Nat) (hp : ∀ b, p = some b → Blk w b) (hq : ∀ b, q = some b → Blk w b) (ht : P.underlying t = some (.pointer e)) (he : ((P.info? e).map (·.size)).any (· != 0) = true) :
    (Op.equalIn (d + 1) t (pt p) (pt q)).run P w = .ok (decide (p = q)) w := by
  obtain ⟨j, hj, hs⟩ : ∃ j, P.info? e = some j ∧ j.size ≠ 0 := by
    cases h : P.info? e with
    | none => simp [h] at he
    | some j => exact ⟨j, rfl, by simpa [h] using he⟩
  cases p with
  | none => cases q <;> simp [Op.equalIn, run_underlying ht]
  | some a =>
    cases q with
    | none => simp [Op.equalIn, run_underlying ht]
    | some b =>
      by_cases h : a = b
      · subst h
        simp [Op.equalIn, run_underlying ht, sizeOf, typeInfo, hj, run_sameAddr_same]
      · obtain ⟨ca, ta, ha⟩ := hp a rfl
        obtain ⟨cb, tb, hb⟩ := hq b rfl
        have := run_sameAddr_other (P := P) w (a := ⟨a, 0, none⟩) (b := ⟨b, 0, none⟩) (fun e => h (by cases e; rfl)) ha hb
        simp [Op.equalIn, run_underlying ht, sizeOf, typeInfo, hj, hs, this, h]
/-- two pointers held against each other -/
theorem run_eql_pt {P : Program} {w : World} {t e : TypeId} (p q : Option Nat) (hp : ∀ b, p = some b → Blk w b) (hq : ∀ b, q = some b → Blk w b) (ht : P.underlying t = some (.pointer e)) (he : ((P.info? e).map (·.size)).any (· != 0) = true) :
    (binOp .eql t (pt p) (pt q)).run P w = .ok (.bool (decide (p = q))) w := by
  have h := run_equalIn_pt (P := P) (w := w) 9999 p q hp hq ht he
  cases p <;> cases q <;> simp only [pt] at h ⊢ <;> simp only [binOp] <;> simp [Op.equal, Op.maxDepth, h]
theorem run_neq_pt {P : Program} {w : World} {t e : TypeId} (p q : Option Nat) (hp : ∀ b, p = some b → Blk w b) (hq : ∀ b, q = some b → Blk w b) (ht : P.underlying t = some (.pointer e)) (he : ((P.info? e).map (·.size)).any (· != 0) = true) :
    (binOp .neq t (pt p) (pt q)).run P w = .ok (.bool (!decide (p = q))) w := by
  have h := run_equalIn_pt (P := P) (w := w) 9999 p q hp hq ht he
  cases p <;> cases q <;> simp only [pt] at h ⊢ <;> simp only [binOp] <;> simp [Op.equal, Op.maxDepth, h]

/-- a list's head: its first node, its last, how many -/
structure IsH (w : World) (lb : Nat) (fi la : Option Nat) (n : Nat) : Prop where
  f : w.cell? ⟨lb, 0, none⟩ = some (pt fi)
  l : w.cell? ⟨lb, 1, none⟩ = some (pt la)
  n : w.cell? ⟨lb, 2, none⟩ = some (.int .i64 n)
  k : Blk w lb
section
variable {S : Nat → Prop} {w w' : World} {lb n : Nat} {fi la : Option Nat}
theorem IsH.lt (h : IsH w lb fi la n) : lb < w.heap.size := lt_of_cell h.f
theorem IsH.kept (h : IsH w lb fi la n) (c : Ch S w w') (hn : ¬ S lb) : IsH w' lb fi la n :=
  ⟨c.keeps h.f hn, c.keeps h.l hn, c.keeps h.n hn, h.k.kept c hn⟩
end
end Go.Proofs.YtnbdafmjcmmfpaaGreat

/-
  Tasks in memory: five cells by value; a row of them that the call owns; a slice that leads to a row of them; one stored.
-/
namespace Verge
/-- a task: its number, slot, generation, deadline, period -/
structure Tk where
  i : Nat
  s : Int
  g : Nat
  d : Nat
  p : Nat
  deriving DecidableEq
/-- the zero task -/
def tk0 : Tk := ⟨0, 0, 0, 0, 0⟩
end Verge
namespace Go.Proofs.YtnbdafmjcmmfpaaGreat
open Go.RowKit Verge
attribute [local go_sem] Oper.semAt_some
set_option linter.unusedVariables false
/-- a task's cells -/
def tkc (u : Tk) : Nat → Value
  | 0 => .int .u64 (u.i : Nat)
  | 1 => .int .i64 u.s
  | 2 => .int .u64 (u.g : Nat)
  | 3 => .int .u64 (u.d : Nat)
  | _ => .int .u64 (u.p : Nat)
/-- a task as a value -/
abbrev tkA (u : Tk) : Value := .agg #[.int .u64 (u.i : Nat), .int .i64 u.s, .int .u64 (u.g : Nat), .int .u64 (u.d : Nat), .int .u64 (u.p : Nat)]
def tks (u : Tk) : List Value := [.int .u64 (u.i : Nat), .int .i64 u.s, .int .u64 (u.g : Nat), .int .u64 (u.d : Nat), .int .u64 (u.p : Nat)]
theorem lt5 {j : Nat} (h : j < 5) : j = 0 ∨ j = 1 ∨ j = 2 ∨ j = 3 ∨ j = 4 := by omega
theorem tks_get {u : Tk} {j : Nat} {v : Value} (h : (tks u)[j]? = some v) : j < 5 ∧ v = tkc u j := by
  have hj : j < 5 := (List.getElem?_eq_some_iff.1 h).1
  refine ⟨hj, ?_⟩
  rcases lt5 hj with rfl | rfl | rfl | rfl | rfl <;> · simp [tks] at h; exact h.symm
/-- the cells of a row of tasks -/
def tc (L : List Tk) (k : Nat) : Value := match L[k / 5]? with | some f => tkc f (k % 5) | none => .bool false
theorem tc_at {L : List Tk} {i : Nat} {f : Tk} (h : L[i]? = some f) {j : Nat} (hj : j < 5) : tc L (i * 5 + j) = tkc f j := by
  unfold tc
  rw [show (i * 5 + j) / 5 = i by omega, show (i * 5 + j) % 5 = j by omega, h]
theorem tc_left {L : List Tk} (M : List Tk) {k : Nat} (hk : k < L.length * 5) : tc (L ++ M) k = tc L k := by
  unfold tc
  rw [List.getElem?_append_left (by omega)]
theorem tc_snoc {L : List Tk} (f : Tk) {j : Nat} (hj : j < 5) : tc (L ++ [f]) (L.length * 5 + j) = tkc f j :=
  tc_at (by simp) hj
/-- where a task's five cells lie -/
def IsTk (w : World) (b o : Nat) (u : Tk) : Prop := ∀ j, j < 5 → w.cell? ⟨b, o + j, none⟩ = some (tkc u j)
/-- a slice that leads to a row of tasks -/
def TSrc (w : World) (a : Option Addr) (L : List Tk) : Prop :=
  L = [] ∨ ∃ b o, a = some ⟨b, o, none⟩ ∧ ∀ i f, L[i]? = some f → IsTk w b (o + i * 5) f
/-- a row of tasks that the call owns -/
abbrev TRow (w : World) (a : Option Addr) (cap : Nat) (L : List Tk) : Prop := Row w 40 5 a L.length cap (tc L)
section
variable {w w' : World} {a : Option Addr} {L M : List Tk} {S : Nat → Prop} {cap b o : Nat} {u : Tk}
theorem IsTk.lt (h : IsTk w b o u) : b < w.heap.size := lt_of_cell (h 0 (by omega))
theorem IsTk.kept (h : IsTk w b o u) (c : Ch S w w') (hn : ¬ S b) : IsTk w' b o u := fun j hj => c.keeps (h j hj) hn
theorem IsTk.far {o' k : Nat} (h : IsTk w b o u) (c : Tch b o' k w w') (hn : o + 5 ≤ o' ∨ o' + k ≤ o) : IsTk w' b o u := fun j hj => (c.cell _ (by omega)).trans (h j hj)
theorem IsTk.cells (h : IsTk w b o u) : w.cell? ⟨b, o, none⟩ = some (.int .u64 (u.i : Nat)) ∧ w.cell? ⟨b, o + 1, none⟩ = some (.int .i64 u.s) ∧ w.cell? ⟨b, o + 2, none⟩ = some (.int .u64 (u.g : Nat)) ∧ w.cell? ⟨b, o + 3, none⟩ = some (.int .u64 (u.d : Nat)) ∧ w.cell? ⟨b, o + 4, none⟩ = some (.int .u64 (u.p : Nat)) :=
  ⟨h 0 (by omega), h 1 (by omega), h 2 (by omega), h 3 (by omega), h 4 (by omega)⟩
theorem IsTk.cells0 (h : IsTk w b 0 u) : w.cell? ⟨b, 0, none⟩ = some (.int .u64 (u.i : Nat)) ∧ w.cell? ⟨b, 1, none⟩ = some (.int .i64 u.s) ∧ w.cell? ⟨b, 2, none⟩ = some (.int .u64 (u.g : Nat)) ∧ w.cell? ⟨b, 3, none⟩ = some (.int .u64 (u.d : Nat)) ∧ w.cell? ⟨b, 4, none⟩ = some (.int .u64 (u.p : Nat)) := h.cells
theorem IsTk.of (h : w.cell? ⟨b, o, none⟩ = some (.int .u64 (u.i : Nat)) ∧ w.cell? ⟨b, o + 1, none⟩ = some (.int .i64 u.s) ∧ w.cell? ⟨b, o + 2, none⟩ = some (.int .u64 (u.g : Nat)) ∧ w.cell? ⟨b, o + 3, none⟩ = some (.int .u64 (u.d : Nat)) ∧ w.cell? ⟨b, o + 4, none⟩ = some (.int .u64 (u.p : Nat))) : IsTk w b o u := by
  obtain ⟨h0, h1, h2, h3, h4⟩ := h
  intro j hj
  rcases lt5 hj with rfl | rfl | rfl | rfl | rfl <;> assumption
theorem IsTk.new (w : World) (T : TypeId) (u : Tk) : IsTk (w.alloc (.cells #[.int .u64 (u.i : Nat), .int .i64 u.s, .int .u64 (u.g : Nat), .int .u64 (u.d : Nat), .int .u64 (u.p : Nat)] T)) w.heap.size 0 u := by
  refine IsTk.of ⟨?_, ?_, ?_, ?_, ?_⟩ <;> (rw [cell_fresh]; rfl)
/-- a task stored where another one lay -/
def setTk (w : World) (b o : Nat) (u : Tk) : World :=
  ((((w.setCell ⟨b, o, none⟩ (.int .u64 (u.i : Nat))).setCell ⟨b, o + 1, none⟩ (.int .i64 u.s)).setCell ⟨b, o + 2, none⟩ (.int .u64 (u.g : Nat))).setCell ⟨b, o + 3, none⟩ (.int .u64 (u.d : Nat))).setCell ⟨b, o + 4, none⟩ (.int .u64 (u.p : Nat))
theorem setTk_tch (w : World) (b o : Nat) (u : Tk) : Tch b o 5 w (setTk w b o u) :=
  (((((Tch.refl b o 5 w).set o (by omega) _).set (o + 1) (by omega) _).set (o + 2) (by omega) _).set (o + 3) (by omega) _).set (o + 4) (by omega) _
theorem setTk_is {v : Tk} (h : IsTk w b o v) : IsTk (setTk w b o u) b o u := by
  obtain ⟨h0, h1, h2, h3, h4⟩ := h.cells
  unfold setTk
  refine IsTk.of ⟨?_, ?_, ?_, ?_, ?_⟩
  · rw [cell_ne (by omega), cell_ne (by omega), cell_ne (by omega), cell_ne (by omega)]; exact World.cell?_setCell_same _ _ _ h0
  · rw [cell_ne (by omega), cell_ne (by omega), cell_ne (by omega)]; exact World.cell?_setCell_same _ _ _ ((cell_ne (by omega) _).trans h1)
  · rw [cell_ne (by omega), cell_ne (by omega)]; exact World.cell?_setCell_same _ _ _ ((cell_ne (by omega) _).trans ((cell_ne (by omega) _).trans h2))
  · rw [cell_ne (by omega)]; exact World.cell?_setCell_same _ _ _ ((cell_ne (by omega) _).trans ((cell_ne (by omega) _).trans ((cell_ne (by omega) _).trans h3)))
  · exact World.cell?_setCell_same _ _ _ ((cell_ne (by omega) _).trans ((cell_ne (by omega) _).trans ((cell_ne (by omega) _).trans ((cell_ne (by omega) _).trans h4))))
theorem TSrc.nil (w : World) (a : Option Addr) : TSrc w a [] := .inl rfl
theorem TSrc.kept (h : TSrc w a L) (c : Ch S w w') (hn : ∀ k, OwnS a k → ¬ S k) : TSrc w' a L := by
  rcases h with h | ⟨b, o, rfl, h⟩
  · exact .inl h
  · exact .inr ⟨b, o, rfl, fun i f hf => (h i f hf).kept c (hn b rfl)⟩
theorem TSrc.form (h : TSrc w a L) (hp : 0 < L.length) : ∃ b o, a = some ⟨b, o, none⟩ ∧ b < w.heap.size ∧ ∀ i f, L[i]? = some f → IsTk w b (o + i * 5) f := by
  rcases h with h | ⟨b, o, e, h⟩
  · rw [h] at hp; simp at hp
  · obtain ⟨f, hf⟩ : ∃ f, L[0]? = some f := ⟨_, List.getElem?_eq_getElem hp⟩
    exact ⟨b, o, e, (h 0 f hf).lt, h⟩
theorem TRow.src (h : TRow w a cap L) : TSrc w a L := by
  by_cases hl : L = []
  · exact .inl hl
  · obtain ⟨g, rfl, -⟩ := h.form (List.length_pos_iff.2 hl)
    refine .inr ⟨g, 0, rfl, fun i f hf j hj => ?_⟩
    have hi := (List.getElem?_eq_some_iff.1 hf).1
    have := h.cell (i * 5 + j) (by omega)
    rw [tc_at hf hj] at this
    simpa using this
end
/-- two tasks are the same -/
theorem eqT (f g : Tk) (w : World) : (Op.equalIn 10000 40 (tkA f) (tkA g)).run Tryz.prog w = .ok (decide (f = g)) w := by
  have u3 := Tryz.underlying36
  have a3 := Tryz.isAgg36
  have z3 := Tryz.sizeOf36
  have u4 := Tryz.underlying3
  have a4 := Tryz.isAgg3
  have z4 := Tryz.sizeOf3
  have hS : Tryz.prog.underlying 40 = some (.struct (Tryz.prog.fieldsOf 40)) := by kernel_rfl
  have hp : Tryz.prog.stoodInHeld 40 = false := by kernel_rfl
  rw [show (10000 : Nat) = 9999 + 1 from rfl, run_equalIn_agg w 9999 40 _ _ hS hp]
  simp only [Program.fieldsOf, Tryz.underlying40]
  go_simp
  obtain ⟨a0, a1, a2, a3, a4⟩ := f
  obtain ⟨b0, b1, b2, b3, b4⟩ := g
  simp only [Tk.mk.injEq]
  by_cases h0 : a0 = b0 <;> by_cases h1 : a1 = b1 <;> by_cases h2 : a2 = b2 <;> by_cases h3 : a3 = b3 <;> by_cases h4 : a4 = b4 <;> simp [h0, h1, h2, h3, h4] <;> omega
/-- append of one task to a row of one's own -/
theorem append_tk {P : Program} (w : World) {ops : Array Oper} {rest : List Oper} {o : Oper} {act : Act} {Q : Exit → Act → World → Prop} (hgd : o.guard = none) (s x : Operand) (t : TypeId)
    (ho : o.op = .call { callee := .builtin .append, args := #[s, x], argTypes := #[t, t] })
    (ht : P.underlying t = some (.slice 40)) (hi : (P.info? 40).map (fun i => (i.zero, i.size, i.bytes)) = some (some (tkA tk0), 5, 40))
    {a : Option Addr} {cap n : Nat} {L : List Tk} (hs : act.eval s = .slice a n cap) (hn' : n = L.length) (hrow : TRow w a cap L) (hn : L.length ≤ 1000000)
    (B c : Nat) (f : Tk) (T : TypeId) (hx : act.eval x = .slice (some ⟨B, 0, none⟩) 1 c) (hb : w.heap[B]? = some (.cells (tks f).toArray T (0, 0))) (H : Nat) (hH : w.heap.size = H)
    (h : ∀ g cap' w', TRow w' (some ⟨g, 0, none⟩) cap' (L ++ [f]) → Ch (OwnS a) w w' → (OwnS a g ∨ g = H) → g < w'.heap.size → wpList P ops Q rest (act.put o.dst (.slice (some ⟨g, 0, none⟩) (n + 1) cap')) w') : wpList P ops Q (o :: rest) act w := by
  subst hn'
  refine append_row w hgd s x t ho 40 (tkA tk0) 5 40 ht hi rfl (by omega) (by omega) hs hrow hn B c (tks f) T hx rfl hb (by simp [tks, Value.oneCell']) (tc (L ++ [f])) (fun i hi => tc_left _ hi) (fun j u hu => ?_) H hH ?_
  · obtain ⟨hj, rfl⟩ := tks_get hu
    exact tc_snoc f hj
  · intro g cap' w' h1 h2 h3 h4
    refine h g cap' w' ?_ h2 h3 h4
    show Row _ _ _ _ (L ++ [f]).length _ _
    rw [List.length_append]
    exact h1
end Go.Proofs.YtnbdafmjcmmfpaaGreat

/-
  Works, without Go: what a floor holds, what a work holds, what one step makes of both.
-/
namespace Verge
set_option linter.unusedVariables false
open Go.Proofs.YtnbdafmjcmmfpaaGreat

/-- a ring: the next position, the first one, what is published, with what -/
structure Rg where
  nx : Nat
  fi : Nat
  P : Nat → Bool
  V : Nat → Tk
/-- what a floor holds: the slab's count and records, the rings, how many are inside, whether it is closed -/
structure Wd where
  cnt : Nat
  R : Nat → Rec
  g : Nat → Rg
  i : Nat
  cl : Bool
/-- a floor's numbers: the slab's room, the rings' room, how many shards -/
structure Nm where
  n : Nat
  r : Nat
  m : Nat
def upG (g : Nat → Rg) (k : Nat) (x : Rg) : Nat → Rg := fun i => if i = k then x else g i
theorem upG_same (g : Nat → Rg) (k : Nat) (x : Rg) : upG g k x k = x := by simp [upG]
theorem upG_other (g : Nat → Rg) {k i : Nat} (x : Rg) (h : i ≠ k) : upG g k x i = g i := by simp [upG, h]
/-- which step comes next -/
inductive Sg where
  | aBegin | aCheck | aEnter | aAsk | aTake | aWait | aGive | aDrop | aSubmit | aFill (g : Nat)
  | rEnter | rBegin | rFind | rWait | rAgain | rChange (s v : Nat) | rFill (s g : Nat) | rNone
  | eBegin | eFind | eStrike (s v : Nat) | eRelease (s : Nat) | eDrop
  | leave | fin | over
  deriving DecidableEq
/-- an answer: its error, whether it is Ok, the number, the generation -/
structure An where
  e : Nat
  ok : Bool
  id : Nat
  g : Nat
  deriving DecidableEq
/-- a work: its call (kind, number, deadline, period), its stage, its answer, its request, its ticket, the record that it holds -/
structure Wk where
  kd : Nat
  id : Nat
  d : Nat
  p : Nat
  sg : Sg
  a : An
  q : Rq
  t : TSt
  aid : Nat
  asl : Nat
/-- the period of a work's timer -/
def Wk.per (k : Wk) : Nat := if k.kd = 2 then k.p else 0
/-- the event that a Cancel, or a Stop, lets happen -/
def Wk.ev (k : Wk) : Int := if k.kd = 4 then 6 else 7
/-- whose ring it is -/
def Wk.h (N : Nm) (k : Wk) : Nat := k.asl % N.m
/-- a generation -/
def gnW (v : Nat) : Nat := if okW v = true then v / 256 else 0
/-- what comes of an event that is tried of the word that a record has -/
def hapR (R : Nat → Rec) (s : Nat) (ev : Int) : Nat → Rec :=
  if (nxZ (R s).wd ev ((R s).pd != 0)).2 = 0 then upR R s ⟨(nxZ (R s).wd ev ((R s).pd != 0)).1, (R s).gv, (R s).pd⟩ else R
def hapW (R : Nat → Rec) (s : Nat) (ev : Int) : Nat := if (nxZ (R s).wd ev ((R s).pd != 0)).2 = 0 then (nxZ (R s).wd ev ((R s).pd != 0)).1 else (R s).wd
/-- was a number given? -/
def wasW (N : Nm) (R : Nat → Rec) (id : Nat) : Bool := decide (id % 64 < N.n ∧ 1 ≤ id / 64 ∧ id / 64 ≤ (R (id % 64)).gv)
/-- may it be looked on? -/
def mayW (R : Nat → Rec) (id : Nat) (ev : Int) : Bool := decide ((nxZ (R (id % 64)).wd ev ((R (id % 64)).pd != 0)).2 = 0 ∧ id / 64 = (R (id % 64)).gv)
/-- does a try of an old word succeed? -/
def tryW (R : Nat → Rec) (s v : Nat) (ev : Int) : Bool := decide ((nxZ v ev ((R s).pd != 0)).2 = 0 ∧ (R s).wd = v)
def refW (k : Wk) (e : Nat) (s : Sg) : Wk := { k with a := ⟨e, false, 0, 0⟩, sg := s }
/-- what a look leads to: refused, or on -/
def lookW (N : Nm) (σ : Wd) (k : Wk) (ev : Int) (gone : Sg) (on : Wk) : Wk :=
  if wasW N σ.R k.id = false then refW k 1 gone else if mayW σ.R k.id ev = false then refW k 0 gone else on
def t0 : TSt := ⟨0, 0, 0, false⟩
def fillW (σ : Wd) (h pos : Nat) (u : Tk) : Wd := { σ with g := upG σ.g h { σ.g h with P := upd (σ.g h).P pos true, V := upd (σ.g h).V pos u } }
def tickW (N : Nm) (σ : Wd) (h : Nat) (t : TSt) : Nat × TSt := tickStep N.r (σ.g h).nx (σ.g h).fi (σ.g h).P t
def setNx (σ : Wd) (h x : Nat) : Wd := { σ with g := upG σ.g h { σ.g h with nx := x } }
def onRet (k : Wk) (g : Nat) (s : Sg) : Wk := { k with a := ⟨0, true, k.id, g⟩, sg := s }
def filled (t : TSt) : TSt := { t with fl := true }
/-- one step -/
def stepC (N : Nm) (σ : Wd) (k : Wk) : Wd × Wk :=
  match k.sg with
  | .aBegin => (σ, { k with sg := .aEnter })
  | .aCheck => if k.per = 0 ∨ 18446744073709551615 < k.d + k.per then (σ, refW k 1 .fin) else (σ, { k with sg := .aEnter })
  | .aEnter => ({ σ with i := σ.i + 1 }, { k with sg := .aAsk })
  | .aAsk => if σ.cl = true then (σ, refW k 3 .leave) else (σ, { k with q := ⟨k.per, 0, 0, 0, 0, 0⟩, sg := .aTake })
  | .aTake =>
    let s := stepM N.n σ.cnt σ.R k.q
    ({ σ with cnt := s.1, R := s.2.1 },
      if s.2.2.ss = 1 then refW { k with q := s.2.2 } 2 .leave
      else if s.2.2.ss = 2 then { k with q := s.2.2, aid := s.2.2.id, asl := s.2.2.id % 64, t := t0, sg := .aWait }
      else { k with q := s.2.2 })
  | .aWait =>
    let s := tickW N σ (k.h N) k.t
    (setNx σ (k.h N) s.1, if s.2.su = 1 then { k with t := s.2, sg := .aGive } else if s.2.su = 2 then { k with t := s.2, sg := .aSubmit } else { k with t := s.2 })
  | .aGive => ({ σ with R := hapR σ.R k.asl 9 }, refW k 2 .aDrop)
  | .aDrop => ({ σ with cnt := σ.cnt - 1 }, { k with sg := .leave })
  | .aSubmit => ({ σ with R := hapR σ.R k.asl 2 }, { k with sg := .aFill (gnW (hapW σ.R k.asl 2)) })
  | .aFill g => (fillW σ (k.h N) k.t.pos ⟨k.aid, k.asl, g, k.d, k.per⟩, { k with t := filled k.t, a := ⟨0, true, k.aid, g⟩, sg := .leave })
  | .rEnter => ({ σ with i := σ.i + 1 }, { k with sg := .rBegin })
  | .rBegin => if σ.cl = true then (σ, refW k 3 .leave) else (σ, { k with sg := .rFind })
  | .rFind => (σ, lookW N σ k 8 .leave { k with asl := k.id % 64, t := t0, sg := .rWait })
  | .rWait =>
    let s := tickW N σ (k.h N) k.t
    (setNx σ (k.h N) s.1, if s.2.su = 1 then refW { k with t := s.2 } 2 .leave else if s.2.su = 2 then { k with t := s.2, sg := .rAgain } else { k with t := s.2 })
  | .rAgain => (σ, lookW N σ k 8 .rNone { k with sg := .rChange (k.id % 64) (σ.R (k.id % 64)).wd })
  | .rChange s v => if tryW σ.R s v 8 = true then ({ σ with R := hapR σ.R s 8 }, onRet k (gnW (hapW σ.R s 8)) (.rFill s (gnW (hapW σ.R s 8)))) else (σ, { k with sg := .rAgain })
  | .rFill s g => (fillW σ (k.h N) k.t.pos ⟨k.id, s, g, k.d, (σ.R s).pd⟩, { k with t := filled k.t, sg := .leave })
  | .rNone => (fillW σ (k.h N) k.t.pos ⟨0, -1, 0, 0, 0⟩, { k with t := filled k.t, sg := .leave })
  | .eBegin => if σ.cl = true then (σ, refW k 3 .fin) else (σ, { k with sg := .eFind })
  | .eFind => (σ, lookW N σ k k.ev .fin { k with sg := .eStrike (k.id % 64) (σ.R (k.id % 64)).wd })
  | .eStrike s v => if tryW σ.R s v k.ev = true then ({ σ with R := hapR σ.R s k.ev }, onRet k (gnW (hapW σ.R s k.ev)) (if k.kd = 4 then .eRelease s else .fin)) else (σ, { k with sg := .eFind })
  | .eRelease s => ({ σ with R := hapR σ.R s 10 }, { k with sg := .eDrop })
  | .eDrop => ({ σ with cnt := σ.cnt - 1 }, { k with sg := .fin })
  | .leave => ({ σ with i := σ.i - 1 }, { k with sg := .fin })
  | .fin => (σ, { k with sg := .over })
  | .over => (σ, k)
/-- the first stage of a kind -/
def sgOf (kd : Nat) : Sg := if kd = 1 then .aBegin else if kd = 2 then .aCheck else if kd = 3 then .rEnter else .eBegin
/-- a work that made no step -/
def newW (kd id d p : Nat) : Wk := ⟨kd, id, d, p, sgOf kd, ⟨0, false, 0, 0⟩, ⟨0, 0, 0, 0, 0, 0⟩, t0, 0, 0⟩
end Verge

/-
  Plain facts of what comes of an event (nxW): either an error and the same word, or no error and a word that may be, with its parts.
-/
namespace Verge
set_option linter.unusedVariables false

theorem nx_props (n ev : Nat) (per : Bool) (hok : okW n = true) :
    ((nxW n ev per).1 = n ∧ (nxW n ev per).2 ≠ 0) ∨
    (∃ q, (growsF ev (n % 8) = true ∧ q = 1 ∨ growsF ev (n % 8) = false ∧ q = 0) ∧ 1 ≤ ev ∧ ev ≤ 10 ∧ mayF ev (n % 8) (per && !lsW n) = true ∧ n / 256 + q ≤ 4294967295 ∧
      nxW n ev per = (mkW (behF ev (n % 8)) (n / 256 + q) (lastF ev (lsW n)), 0)) := by
  unfold nxW
  rw [if_neg (by simp [hok])]
  by_cases h1 : ev < 1 ∨ 10 < ev
  · rw [if_pos h1]; exact .inl ⟨rfl, by simp⟩
  · rw [if_neg h1]
    by_cases h2 : mayF ev (n % 8) (per && !lsW n) = false
    · rw [if_pos h2]; exact .inl ⟨rfl, by simp⟩
    · rw [if_neg h2]
      by_cases h3 : 4294967295 < n / 256 + (if growsF ev (n % 8) = true then 1 else 0)
      · rw [if_pos h3]; exact .inl ⟨rfl, by simp⟩
      · rw [if_neg h3]
        refine .inr ⟨if growsF ev (n % 8) = true then 1 else 0, ?_, by omega, by omega, by simpa using h2, by omega, rfl⟩
        cases hg : growsF ev (n % 8)
        · right; exact ⟨rfl, by simp⟩
        · left; exact ⟨rfl, by simp⟩

/-- what an event makes of a word that may be, in plain numbers -/
theorem nx_whole (n ev : Nat) (per : Bool) (hok : okW n = true) :
    ((nxW n ev per).1 = n ∧ (nxW n ev per).2 ≠ 0) ∨
    ((nxW n ev per).2 = 0 ∧ okW (nxW n ev per).1 = true ∧ 1 ≤ ev ∧ ev ≤ 10 ∧ mayF ev (n % 8) (per && !lsW n) = true ∧
      (nxW n ev per).1 % 8 = behF ev (n % 8) ∧ lsW (nxW n ev per).1 = lastF ev (lsW n) ∧
      (growsF ev (n % 8) = true ∧ (nxW n ev per).1 / 256 = n / 256 + 1 ∨ growsF ev (n % 8) = false ∧ (nxW n ev per).1 / 256 = n / 256)) := by
  have hb := behF_le ev (n % 8) (okW_true.1 hok).1
  rcases nx_props n ev per hok with h | ⟨q, hq, h1, h2, h3, h4, h5⟩
  · exact .inl h
  · rw [h5]
    refine .inr ⟨rfl, mkW_ok _ _ _ hb h4, h1, h2, h3, mkW_st _ _ _ hb, mkW_ls _ _ _ hb, ?_⟩
    show growsF ev (n % 8) = true ∧ mkW _ _ _ / 256 = _ ∨ _ ∧ mkW _ _ _ / 256 = _
    rw [mkW_gn _ _ _ hb]
    rcases hq with ⟨g, rfl⟩ | ⟨g, rfl⟩
    · exact .inl ⟨g, rfl⟩
    · exact .inr ⟨g, rfl⟩

theorem nx_okW (n ev : Nat) (per : Bool) (hok : okW n = true) : okW (nxW n ev per).1 = true := by
  rcases nx_whole n ev per hok with ⟨h, -⟩ | ⟨-, h, -⟩
  · rw [h]; exact hok
  · exact h

/-- what is cancelled or done is left by a release alone; what is free by an allocation -/
theorem gone_may {ev s : Nat} {ag : Bool} (hs : s = 5 ∨ s = 6) (h : mayF ev s ag = true) : ev = 10 := by
  unfold mayF at h
  rcases hs with rfl | rfl
  all_goals
    by_cases h10 : ev = 10
    · exact h10
    · exfalso
      revert h
      repeat' split
      all_goals simp_all
theorem free_may {ev : Nat} {ag : Bool} (h : mayF ev 0 ag = true) : ev = 1 := by
  unfold mayF at h
  by_cases h10 : ev = 1
  · exact h10
  · exfalso
    revert h
    repeat' split
    all_goals simp_all
/-- a word becomes the last by a stop alone, of a periodic one -/
theorem last_may {ev s : Nat} {ag l : Bool} (h : mayF ev s ag = true) (h0 : l = false) (h1 : lastF ev l = true) : ev = 7 ∧ ag = true := by
  unfold lastF at h1
  have e7 : ev = 7 := by
    by_cases e : ev = 7
    · exact e
    · rw [if_neg e, h0] at h1
      split at h1 <;> cases h1
  subst e7
  refine ⟨rfl, ?_⟩
  simp [mayF] at h
  exact h.1
theorem last_gone {ev : Nat} {l : Bool} (h0 : l = true) (h1 : lastF ev l = false) : ev = 1 ∨ ev = 10 := by
  unfold lastF at h1
  by_cases e : ev = 1 ∨ ev = 10
  · exact e
  · rw [if_neg e, h0] at h1
    split at h1 <;> cases h1
end Verge
