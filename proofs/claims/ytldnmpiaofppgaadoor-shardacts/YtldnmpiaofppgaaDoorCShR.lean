import Derived.Test.YtldnmpiaofppgaaDoorK15
import Derived.Test.YtldnmpiaofppgaaDoorCIsActs
import Derived.Test.YtldnmpiaofppgaaDoorK07
import Derived.Deep.QuietTactic
import Derived.BigQuiet
import Derived.Deep.Cut
import Derived.Deep.CutRange
import Derived.Deep.CutBlock
import Derived.RegionTactic
import Derived.BigRegion
/-
  What the laws over acts share: numbers, a shard and what turned beside it.
-/
namespace Go.Proofs.YtldnmpiaofppgaaDoor
open Go.RowKit Verge Go.Proofs.YtldnmpiaofppgaaDoor.LT
set_option linter.unusedVariables false
set_option linter.unusedSimpArgs false
attribute [local go_sem] Oper.semAt_some

theorem nat_of_max (y : Int) : ∃ mm : Nat, (if 0 < y then y else 0) = (mm : Int) := ⟨(if 0 < y then y else 0).toNat, by split <;> omega⟩
theorem tmod_130 (a : Nat) : ((a : Int)).tmod 130 = ((a % 130 : Nat) : Int) := (Int.ofNat_tmod a 130).symm
theorem due_le {Q : List Ent} {t : Nat} : (dueQ Q t).length ≤ Q.length := List.length_filter_le _ _
theorem left_le {Q : List Ent} {t : Nat} : (leftQ Q t).length ≤ Q.length := List.length_filter_le _ _
/-- the blocks of a shard's wheel, and its own -/
abbrev ShS (s : Nat) (g : Wh) (P : List Ent) : Nat → Prop := fun k => WS g P k ∨ k = s
theorem ShS.more {s : Nat} {g : Wh} {P : List Ent} {x : Ent} {k : Nat} (h : ShS s g (P ++ [x]) k) : ShS s g P k ∨ k = x.e ∨ k = x.e + 1 := by
  rcases h with h | h
  · rcases WS.more h with h | h
    · exact .inl (.inl h)
    · exact .inr h
  · exact .inl (.inr h)
theorem ch_sh {s : Nat} {g : Wh} {P : List Ent} {w w' : World} (c : Ch (WS g P) w w') : Ch (ShS s g P) w w' := c.mono fun _ _ h => .inl h
end Go.Proofs.YtldnmpiaofppgaaDoor
