/-
  What turns in memory, block by block: a relation of our own, and its laws; and what a cell in memory is.
-/
import Derived.Test.YtjaalkjdpgnfjaaRows
import Derived.WalkKit
import Derived.Below
import Derived.Deep.Draws
import Derived.Lib.Hide
namespace Go.Proofs.Ytjaalkjdpgnfjaa
open Go.RowKit
set_option linter.unusedVariables false

/-- of the blocks that were there none has turned but those in S -/
structure Ch (S : Nat → Prop) (w w' : World) : Prop where
  os : w'.os = w.os
  tape : w'.tape = w.tape
  output : w'.output = w.output
  size : w.heap.size ≤ w'.heap.size
  block : ∀ k, k < w.heap.size → ¬ S k → w'.heap[k]? = w.heap[k]?

theorem Ch.refl (S : Nat → Prop) (w : World) : Ch S w w := ⟨rfl, rfl, rfl, Nat.le_refl _, fun _ _ _ => rfl⟩
theorem Ch.then {S S' : Nat → Prop} {a b c : World} (h : Ch S a b) (k : Ch S' b c) (hs : ∀ i, i < a.heap.size → S' i → S i) : Ch S a c :=
  ⟨k.os.trans h.os, k.tape.trans h.tape, k.output.trans h.output, Nat.le_trans h.size k.size,
   fun i hi hn => (k.block i (Nat.lt_of_lt_of_le hi h.size) (fun x => hn (hs i hi x))).trans (h.block i hi hn)⟩
theorem Ch.trans {S : Nat → Prop} {a b c : World} (h : Ch S a b) (k : Ch S b c) : Ch S a c := h.then k fun _ _ x => x
theorem Ch.mono {S S' : Nat → Prop} {a b : World} (h : Ch S a b) (hs : ∀ i, i < a.heap.size → S i → S' i) : Ch S' a b :=
  ⟨h.os, h.tape, h.output, h.size, fun i hi hn => h.block i hi fun x => hn (hs i hi x)⟩
theorem Ch.drewN {S : Nat → Prop} {a b : World} (h : Ch S a b) (n : Nat) : Ch S a (b.drewN n) := ⟨h.os, h.tape, h.output, h.size, h.block⟩
theorem Ch.drew {S : Nat → Prop} {a b : World} (h : Ch S a b) : Ch S a b.drew := ⟨h.os, h.tape, h.output, h.size, h.block⟩
theorem Ch.alloc {S : Nat → Prop} {a b : World} (h : Ch S a b) (o : Obj) : Ch S a (b.alloc o) :=
  h.trans ⟨rfl, rfl, rfl, by simp, fun k hk _ => Below.heap_alloc _ _ _ hk⟩
theorem Ch.set {S : Nat → Prop} {a b : World} (h : Ch S a b) {p : Addr} (hp : p.block < a.heap.size → S p.block) (v : Value) : Ch S a (b.setCell p v) :=
  h.then (S' := fun k => k = p.block) ⟨rfl, rfl, rfl, by simp [World.setCell], fun k _ hk => Below.heap_setCell _ _ _ _ hk⟩ (fun i hi e => by subst e; exact hp hi)
theorem Ch.below {S : Nat → Prop} {a b : World} {B : Nat} (h : Ch S a b) (hB : B ≤ a.heap.size) (hs : ∀ i, i < a.heap.size → S i → B ≤ i) : Below B a b :=
  ⟨h.os, h.tape, h.output, h.size, fun k hk => h.block k (by omega) fun x => by have := hs k (by omega) x; omega⟩
theorem Ch.of_below {S : Nat → Prop} {a b : World} (h : Below a.heap.size a b) : Ch S a b := ⟨h.os, h.tape, h.output, h.size, fun k hk _ => h.block k hk⟩
theorem Ch.cell {S : Nat → Prop} {a b : World} (h : Ch S a b) {p : Addr} (hp : p.block < a.heap.size) (hn : ¬ S p.block) : b.cell? p = a.cell? p := World.cell?_of_block (w := a) (h.block _ hp hn)
theorem Ch.frozen {S : Nat → Prop} {a b : World} (h : Ch S a b) {p : Addr} (hp : p.block < a.heap.size) (hn : ¬ S p.block) : b.frozen? p = a.frozen? p := World.frozen?_of_block (w := a) (h.block _ hp hn)
theorem lt_of_cell {w : World} {p : Addr} {v : Value} (h : w.cell? p = some v) : p.block < w.heap.size := World.block_lt_of_cell? w p h
theorem Ch.keeps {S : Nat → Prop} {a b : World} (h : Ch S a b) {p : Addr} {v : Value} (hc : a.cell? p = some v) (hn : ¬ S p.block) : b.cell? p = some v := (h.cell (lt_of_cell hc) hn).trans hc

/-- block b alone -/
abbrev One (b : Nat) : Nat → Prop := fun k => k = b
/-- no block -/
abbrev Nil : Nat → Prop := fun _ => False

/-- a cell that lies in block b from place o on: what it holds, how often it was loaded, tried, turned -/
structure IsC (w : World) (b o : Nat) (v : Value) (l t u : Int) : Prop where
  v : w.cell? ⟨b, o, none⟩ = some v
  l : w.cell? ⟨b, o + 1, none⟩ = some (.int .i64 l)
  t : w.cell? ⟨b, o + 2, none⟩ = some (.int .i64 t)
  u : w.cell? ⟨b, o + 3, none⟩ = some (.int .i64 u)
  fv : w.frozen? ⟨b, o, none⟩ = false
  fl : w.frozen? ⟨b, o + 1, none⟩ = false
  ft : w.frozen? ⟨b, o + 2, none⟩ = false
  fu : w.frozen? ⟨b, o + 3, none⟩ = false

theorem IsC.lt {w : World} {b o : Nat} {v : Value} {l t u : Int} (h : IsC w b o v l t u) : b < w.heap.size := lt_of_cell h.v
theorem IsC.keeps {S : Nat → Prop} {w w' : World} {b o : Nat} {v : Value} {l t u : Int} (h : IsC w b o v l t u) (c : Ch S w w') (hn : ¬ S b) : IsC w' b o v l t u := by
  have hl := h.lt
  exact ⟨c.keeps h.v hn, c.keeps h.l hn, c.keeps h.t hn, c.keeps h.u hn, (c.frozen (p := ⟨b, _, none⟩) hl hn).trans h.fv, (c.frozen (p := ⟨b, _, none⟩) hl hn).trans h.fl, (c.frozen (p := ⟨b, _, none⟩) hl hn).trans h.ft, (c.frozen (p := ⟨b, _, none⟩) hl hn).trans h.fu⟩
theorem IsC.drewN {w : World} {b o : Nat} {v : Value} {l t u : Int} (h : IsC w b o v l t u) (n : Nat) : IsC (w.drewN n) b o v l t u := ⟨h.v, h.l, h.t, h.u, h.fv, h.fl, h.ft, h.fu⟩

theorem IsC.drew {w : World} {b o : Nat} {v : Value} {l t u : Int} (h : IsC w b o v l t u) : IsC w.drew b o v l t u := ⟨h.v, h.l, h.t, h.u, h.fv, h.fl, h.ft, h.fu⟩
theorem IsC.alloc {w : World} {b o : Nat} {v : Value} {l t u : Int} (h : IsC w b o v l t u) (x : Obj) : IsC (w.alloc x) b o v l t u := h.keeps (S := Nil) ((Ch.refl _ _).alloc _) (fun e => e)
theorem Ch.setB {a w : World} {b : Nat} (h : Ch (One b) a w) (i : Nat) (v : Value) : Ch (One b) a (w.setCell ⟨b, i, none⟩ v) := h.set (p := ⟨b, i, none⟩) (fun _ => rfl) v
theorem cell_ne {w : World} {b i j : Nat} (h : i ≠ j) (x : Value) : (w.setCell ⟨b, i, none⟩ x).cell? ⟨b, j, none⟩ = w.cell? ⟨b, j, none⟩ :=
  World.cell?_setCell_other _ _ _ _ (fun e => by cases e; exact h rfl)
theorem IsC.setV {w : World} {b o : Nat} {v : Value} {l t u : Int} (h : IsC w b o v l t u) (x : Value) : IsC (w.setCell ⟨b, o, none⟩ (x)) b o x l t u :=
  ⟨World.cell?_setCell_same _ _ _ h.v, (cell_ne (by omega) _).trans h.l, (cell_ne (by omega) _).trans h.t, (cell_ne (by omega) _).trans h.u, (World.frozen?_setCell _ _ _ _).trans h.fv, (World.frozen?_setCell _ _ _ _).trans h.fl, (World.frozen?_setCell _ _ _ _).trans h.ft, (World.frozen?_setCell _ _ _ _).trans h.fu⟩
theorem IsC.setL {w : World} {b o : Nat} {v : Value} {l t u : Int} (h : IsC w b o v l t u) (x : Int) : IsC (w.setCell ⟨b, o + 1, none⟩ (.int .i64 x)) b o v x t u :=
  ⟨(cell_ne (by omega) _).trans h.v, World.cell?_setCell_same _ _ _ h.l, (cell_ne (by omega) _).trans h.t, (cell_ne (by omega) _).trans h.u, (World.frozen?_setCell _ _ _ _).trans h.fv, (World.frozen?_setCell _ _ _ _).trans h.fl, (World.frozen?_setCell _ _ _ _).trans h.ft, (World.frozen?_setCell _ _ _ _).trans h.fu⟩
theorem IsC.setT {w : World} {b o : Nat} {v : Value} {l t u : Int} (h : IsC w b o v l t u) (x : Int) : IsC (w.setCell ⟨b, o + 2, none⟩ (.int .i64 x)) b o v l x u :=
  ⟨(cell_ne (by omega) _).trans h.v, (cell_ne (by omega) _).trans h.l, World.cell?_setCell_same _ _ _ h.t, (cell_ne (by omega) _).trans h.u, (World.frozen?_setCell _ _ _ _).trans h.fv, (World.frozen?_setCell _ _ _ _).trans h.fl, (World.frozen?_setCell _ _ _ _).trans h.ft, (World.frozen?_setCell _ _ _ _).trans h.fu⟩
theorem IsC.setU {w : World} {b o : Nat} {v : Value} {l t u : Int} (h : IsC w b o v l t u) (x : Int) : IsC (w.setCell ⟨b, o + 3, none⟩ (.int .i64 x)) b o v l t x :=
  ⟨(cell_ne (by omega) _).trans h.v, (cell_ne (by omega) _).trans h.l, (cell_ne (by omega) _).trans h.t, World.cell?_setCell_same _ _ _ h.u, (World.frozen?_setCell _ _ _ _).trans h.fv, (World.frozen?_setCell _ _ _ _).trans h.fl, (World.frozen?_setCell _ _ _ _).trans h.ft, (World.frozen?_setCell _ _ _ _).trans h.fu⟩

/-- a function that is held against nil: it isn't nil -/
theorem run_equalIn_fn (P : Program) (w : World) (d : Nat) (t : TypeId) (f : Fn) (a c : Array Value) (τ : _) (h : P.underlying t = some τ) (hf : τ matches .func ..) : (Op.equalIn (d + 1) t (.func f a c) .nilFunc).run P w = .ok false w := by
  cases τ <;> simp at hf
  simp [Op.equalIn, run_underlying h]
theorem run_eql_fn (P : Program) (w : World) (t : TypeId) (f : Fn) (a c : Array Value) (τ : _) (h : P.underlying t = some τ) (hf : τ matches .func ..) : (binOp .eql t (.func f a c) .nilFunc).run P w = .ok (.bool false) w := by
  simp only [binOp]
  simp [show Op.equal t (.func f a c) .nilFunc = Op.equalIn (9999 + 1) t (.func f a c) .nilFunc from rfl, run_equalIn_fn P w 9999 t f a c τ h hf]
end Go.Proofs.Ytjaalkjdpgnfjaa
