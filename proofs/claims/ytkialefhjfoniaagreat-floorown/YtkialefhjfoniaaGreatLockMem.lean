/-
  What a lock is in memory: whose it is, whether it is somebody's, how often it became somebody's, in a cell of layer 3.
-/
import Derived.Test.YtkialefhjfoniaaGreatCellMem
import Derived.IntWalk
namespace Go.Proofs.YtkialefhjfoniaaGreat
open Go.RowKit
set_option linter.unusedVariables false

/-- a lock's value -/
abbrev hv (o : Int) (t : Bool) (n : Int) : Value := .agg #[.int .i64 o, .bool t, .int .i64 n]
/-- a box of such a value -/
structure IsHb (w : World) (b : Nat) (o : Int) (t : Bool) (n : Int) : Prop where
  o : w.cell? ⟨b, 0, none⟩ = some (.int .i64 o)
  t : w.cell? ⟨b, 1, none⟩ = some (.bool t)
  n : w.cell? ⟨b, 2, none⟩ = some (.int .i64 n)
  f : ∀ i, w.frozen? ⟨b, i, none⟩ = false
/-- a lock -/
structure IsK0 (w : World) (b : Nat) (o : Int) (t : Bool) (n l r u : Int) : Prop where
  o : w.cell? ⟨b, 0, none⟩ = some (.int .i64 o)
  t : w.cell? ⟨b, 1, none⟩ = some (.bool t)
  n : w.cell? ⟨b, 2, none⟩ = some (.int .i64 n)
  l : w.cell? ⟨b, 3, none⟩ = some (.int .i64 l)
  r : w.cell? ⟨b, 4, none⟩ = some (.int .i64 r)
  u : w.cell? ⟨b, 5, none⟩ = some (.int .i64 u)
  f : ∀ i, w.frozen? ⟨b, i, none⟩ = false
section
variable {S : Nat → Prop} {w w' : World} {b : Nat} {o : Int} {t : Bool} {n l r u : Int}
theorem IsHb.lt (h : IsHb w b o t n) : b < w.heap.size := lt_of_cell h.o
theorem IsHb.kept (h : IsHb w b o t n) (c : Ch S w w') (hn : ¬ S b) : IsHb w' b o t n :=
  ⟨c.keeps h.o hn, c.keeps h.t hn, c.keeps h.n hn, fun i => (c.frozen (p := ⟨b, i, none⟩) h.lt hn).trans (h.f i)⟩
theorem IsK0.lt (h : IsK0 w b o t n l r u) : b < w.heap.size := lt_of_cell h.o
theorem IsK0.kept (h : IsK0 w b o t n l r u) (c : Ch S w w') (hn : ¬ S b) : IsK0 w' b o t n l r u :=
  ⟨c.keeps h.o hn, c.keeps h.t hn, c.keeps h.n hn, c.keeps h.l hn, c.keeps h.r hn, c.keeps h.u hn, fun i => (c.frozen (p := ⟨b, i, none⟩) h.lt hn).trans (h.f i)⟩
theorem IsK0.alloc (h : IsK0 w b o t n l r u) (x : Obj) : IsK0 (w.alloc x) b o t n l r u := h.kept (S := Nil) ((Ch.refl _ _).alloc _) (fun e => e)
theorem IsK0.setO (h : IsK0 w b o t n l r u) (x : Int) : IsK0 (w.setCell ⟨b, 0, none⟩ (.int .i64 x)) b x t n l r u :=
  ⟨World.cell?_setCell_same _ _ _ h.o, (cell_ne (by omega) _).trans h.t, (cell_ne (by omega) _).trans h.n, (cell_ne (by omega) _).trans h.l, (cell_ne (by omega) _).trans h.r, (cell_ne (by omega) _).trans h.u, fun i => (World.frozen?_setCell _ _ _ _).trans (h.f i)⟩
theorem IsK0.setT (h : IsK0 w b o t n l r u) (x : Bool) : IsK0 (w.setCell ⟨b, 1, none⟩ (.bool x)) b o x n l r u :=
  ⟨(cell_ne (by omega) _).trans h.o, World.cell?_setCell_same _ _ _ h.t, (cell_ne (by omega) _).trans h.n, (cell_ne (by omega) _).trans h.l, (cell_ne (by omega) _).trans h.r, (cell_ne (by omega) _).trans h.u, fun i => (World.frozen?_setCell _ _ _ _).trans (h.f i)⟩
theorem IsK0.setN (h : IsK0 w b o t n l r u) (x : Int) : IsK0 (w.setCell ⟨b, 2, none⟩ (.int .i64 x)) b o t x l r u :=
  ⟨(cell_ne (by omega) _).trans h.o, (cell_ne (by omega) _).trans h.t, World.cell?_setCell_same _ _ _ h.n, (cell_ne (by omega) _).trans h.l, (cell_ne (by omega) _).trans h.r, (cell_ne (by omega) _).trans h.u, fun i => (World.frozen?_setCell _ _ _ _).trans (h.f i)⟩
theorem IsK0.setL (h : IsK0 w b o t n l r u) (x : Int) : IsK0 (w.setCell ⟨b, 3, none⟩ (.int .i64 x)) b o t n x r u :=
  ⟨(cell_ne (by omega) _).trans h.o, (cell_ne (by omega) _).trans h.t, (cell_ne (by omega) _).trans h.n, World.cell?_setCell_same _ _ _ h.l, (cell_ne (by omega) _).trans h.r, (cell_ne (by omega) _).trans h.u, fun i => (World.frozen?_setCell _ _ _ _).trans (h.f i)⟩
theorem IsK0.setR (h : IsK0 w b o t n l r u) (x : Int) : IsK0 (w.setCell ⟨b, 4, none⟩ (.int .i64 x)) b o t n l x u :=
  ⟨(cell_ne (by omega) _).trans h.o, (cell_ne (by omega) _).trans h.t, (cell_ne (by omega) _).trans h.n, (cell_ne (by omega) _).trans h.l, World.cell?_setCell_same _ _ _ h.r, (cell_ne (by omega) _).trans h.u, fun i => (World.frozen?_setCell _ _ _ _).trans (h.f i)⟩
theorem IsK0.setU (h : IsK0 w b o t n l r u) (x : Int) : IsK0 (w.setCell ⟨b, 5, none⟩ (.int .i64 x)) b o t n l r x :=
  ⟨(cell_ne (by omega) _).trans h.o, (cell_ne (by omega) _).trans h.t, (cell_ne (by omega) _).trans h.n, (cell_ne (by omega) _).trans h.l, (cell_ne (by omega) _).trans h.r, World.cell?_setCell_same _ _ _ h.u, fun i => (World.frozen?_setCell _ _ _ _).trans (h.f i)⟩
/-- a lock, however often its cell was loaded, tried, turned -/
def IsK (w : World) (b : Nat) (o : Int) (t : Bool) (n : Int) : Prop := ∃ l r u, IsK0 w b o t n l r u
theorem IsK.lt (h : IsK w b o t n) : b < w.heap.size := by obtain ⟨l, r, u, h⟩ := h; exact h.lt
theorem IsK.kept (h : IsK w b o t n) (c : Ch S w w') (hn : ¬ S b) : IsK w' b o t n := by obtain ⟨l, r, u, h⟩ := h; exact ⟨l, r, u, h.kept c hn⟩
end
end Go.Proofs.YtkialefhjfoniaaGreat
