/-
  A ring's ticket as a plain state, and what a step makes of it.
-/
import Derived.Test.YtkialefhjfoniaaRows
namespace Verge
/-- a ticket: its stage, its status, its position, whether it filled -/
structure TSt where
  st : Int
  su : Int
  pos : Nat
  fl : Bool
/-- a step: the next position behind it, and the ticket -/
def tickStep (n nx fi : Nat) (P : Nat → Bool) (t : TSt) : Nat × TSt :=
  if t.su ≠ 0 then (nx, t)
  else if t.st = 0 then (nx, ⟨1, 0, nx, t.fl⟩)
  else if t.st = 1 then
    if fi + n ≤ t.pos then (nx, ⟨1, 1, t.pos, t.fl⟩)
    else if t.pos < fi ∨ P t.pos = true then (nx, ⟨0, 0, t.pos, t.fl⟩)
    else (nx, ⟨2, 0, t.pos, t.fl⟩)
  else if nx = t.pos then (nx + 1, ⟨2, 2, t.pos, t.fl⟩) else (nx, ⟨0, 0, t.pos, t.fl⟩)
/-- a function that answers otherwise at one place -/
def upd {α : Type} (f : Nat → α) (i : Nat) (x : α) : Nat → α := fun j => if j = i then x else f j
theorem upd_same {α : Type} (f : Nat → α) (i : Nat) (x : α) : upd f i x i = x := by simp [upd]
theorem upd_other {α : Type} (f : Nat → α) (i : Nat) (x : α) (j : Nat) (h : j ≠ i) : upd f i x j = f j := by simp [upd, h]
end Verge
