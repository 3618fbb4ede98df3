/-
  Code taken apart: the body of a block by its number; how a piece is left.
-/
import Derived.Test.YtkialefhjfoniaaGreatRows
import Derived.WalkKit
namespace Go.Proofs.YtkialefhjfoniaaGreat
open Go.RowKit
set_option linter.unusedVariables false
/-- the body of the block of that number -/
def blockOf (n : Nat) : Code → Option Code
  | .block i c => if i = n then some c else blockOf n c
  | .seq a b => match blockOf n a with
    | some c => some c
    | none => blockOf n b
  | .cond _ a b => match blockOf n a with
    | some c => some c
    | none => blockOf n b
  | .loop c => blockOf n c
  | .scope c => blockOf n c
  | _ => none
def fstC : Code → Code
  | .seq a _ => a
  | c => c
def sndC : Code → Code
  | .seq _ b => b
  | c => c
def inL : Code → Code
  | .loop c => c
  | c => c
/-- the body of the loop in the block of that number -/
def loopIn (n : Nat) (f : Func) : Code := inL ((f.body.bind (blockOf n)).getD .skip)
/-- the code of the block of that number -/
def blkIn (n : Nat) (f : Func) : Code := (f.body.bind (blockOf n)).getD .skip
/-- the code that follows the block of that number -/
def aft (n : Nat) : Code → Option (Option Code)
  | .block i _ => if i = n then some none else none
  | .seq a b => match aft n a with
    | some none => some (some b)
    | some (some c) => some (some (.seq c b))
    | none => aft n b
  | _ => none
def aftIn (n : Nat) (f : Func) : Code := ((f.body.bind (aft n)).getD none).getD .skip
theorem cons_of {l : List Value} {n : Nat} (h : l.length = n + 1) : ∃ c l', l = c :: l' ∧ l'.length = n := by
  cases l with
  | nil => simp at h
  | cons c l' => exact ⟨c, l', rfl, by simpa using h⟩
/-- a loop is left by one exit alone -/
def Qx (id : Nat) (I : Act → World → Prop) : Exit → Act → World → Prop
  | .exit n, a, w => n = id ∧ I a w
  | _, _, _ => False
theorem Qx_inv {id : Nat} {I : Act → World → Prop} {e : Exit} {a : Act} {w : World} (h : Qx id I e a w) : e = .exit id ∧ I a w := by
  cases e with
  | exit n => obtain ⟨rfl, h⟩ := h; exact ⟨rfl, h⟩
  | _ => exact h.elim
/-- a loop is left by one exit, or by a return -/
def QxR (id : Nat) (I R : Act → World → Prop) : Exit → Act → World → Prop
  | .exit n, a, w => n = id ∧ I a w
  | .ret, a, w => R a w
  | _, _, _ => False
theorem val_eq {z z' : Int} (h : z = z') : Value.int .i64 z = .int .i64 z' := by rw [h]
end Go.Proofs.YtkialefhjfoniaaGreat
