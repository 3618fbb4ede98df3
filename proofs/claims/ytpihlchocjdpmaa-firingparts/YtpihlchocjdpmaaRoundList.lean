/-
  A region that keeps the text's order, in a round of a range over a function: walked as anywhere.
-/
import Derived.Test.YtpihlchocjdpmaaListRound
import Derived.TacticsIn
namespace Go.Proofs.Ytpihlchocjdpmaa
open Go.RowKit
set_option linter.unusedVariables false

theorem list_round {P : Program} {ops : Array Oper} {Q : Exit → Act → World → Prop} {l n : Nat} (hL : ¬ LetsOut Q) :
    ∀ (os : List Oper), (∀ o ∈ os, ∀ c, o.op ≠ .defer c) → ∀ (a : Act) (w : World), wpList P ops Q os a w → wpListIn (Fence.wide.inRound l) n P ops Q os a w
  | [], _, _, _, h => h
  | o :: rest, hd, a, w, h => by
    have ih := list_round (P := P) (ops := ops) (n := n) (l := l) hL rest (fun x hx => hd x (List.mem_cons_of_mem _ hx))
    unfold wpList at h
    unfold wpListIn
    split at h
    · rename_i hw
      rw [if_pos hw]
      rcases h with h | ⟨-, h⟩
      · refine ⟨fun _ _ => trivial, ?_⟩
        rw [Oper.semAt_eq _ _ _ (fun c => hd o (List.mem_cons_self) c)]
        unfold Oper.wp at h
        generalize (execOp a.eval o).run P w = r at h
        cases r with
        | ok x w' =>
          cases x with
          | value v => exact ih _ _ h
          | skip => exact ih _ _ h
          | defer d => exact ih _ _ h
          | enter f args =>
            refine ⟨fun h => (by cases h), CallsIn.inRound l (callsIn_wide.2 (Calls.mono h ?_))⟩
            intro e w'' he
            cases e with
            | returned v => exact ih _ _ he
            | panicked c => exact he
            | outgrown => exact he
          | row row args =>
            refine ⟨fun h => (by cases h), fun c cs _ => ?_⟩
            obtain ⟨v, w'', hr, hs⟩ := h c cs
            exact ⟨v, w'', ih _ _ hr, stepsIn_wide.2 hs⟩
          | _ => exact h.elim
        | halt x w' => cases x <;> first | exact h | exact h.elim
      · exact absurd h hL
    · rename_i hw
      rw [if_neg hw]
      exact ⟨fun _ _ => trivial, ih _ _ h⟩
/-- no operation is a defer statement -/
theorem noDefer_list {os : List Oper} (h : noDefer os.toArray = true) (o : Oper) (ho : o ∈ os) (c : Call) : o.op ≠ .defer c := by
  obtain ⟨i, hi⟩ := List.getElem?_of_mem ho
  exact noDefer_spec h i o c (by simpa using hi)
end Go.Proofs.Ytpihlchocjdpmaa
