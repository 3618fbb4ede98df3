/-
  A region that draws its order, in a round of a range over a function: its reading head in the text's order, its tail walked as anywhere.
-/
import Derived.Test.YtjaalkjdpgnfjaaListRange
import Derived.Test.YtjaalkjdpgnfjaaOwnRow
import Derived.OrdersIn
import Derived.RegionTactic
namespace Go.Proofs.Ytjaalkjdpgnfjaa
open Go.RowKit
set_option linter.unusedVariables false

/-- a round's frame carries out what is no defer statement as every frame does -/
theorem op_round {P : Program} {ops : Array Oper} {Q : Exit → Act → World → Prop} {l n i : Nat} {K K' : Act → World → Prop} (hK : ∀ a w, K a w → K' a w) (hL : ¬ LetsOut Q)
    (hd : ∀ (i : Nat) (o : Oper) c, ops[i]? = some o → o.op ≠ .defer c) {a : Act} {w : World} (h : wpOp P ops Q i K a w) : wpOpIn (Fence.wide.inRound l) n P ops Q i K' a w := by
  unfold wpOp at h
  unfold wpOpIn
  cases ho : ops[i]? with
  | none => rw [ho] at h; exact hK _ _ h
  | some o =>
    rw [ho] at h
    simp only at h ⊢
    split at h
    · rename_i hw
      rw [if_pos hw]
      rcases h with h | ⟨-, h⟩
      · refine ⟨fun _ _ => trivial, ?_⟩
        rw [Oper.semAt_eq _ _ _ (fun c => hd i o c ho)]
        unfold Oper.wp at h
        generalize (execOp a.eval o).run P w = r at h
        cases r with
        | ok x w' =>
          cases x with
          | value v => exact hK _ _ h
          | skip => exact hK _ _ h
          | defer d => exact hK _ _ h
          | enter f args =>
            refine ⟨fun h => (by cases h), CallsIn.inRound l (callsIn_wide.2 (Calls.mono h ?_))⟩
            intro e w'' he
            cases e with
            | returned v => exact hK _ _ he
            | panicked c => exact he
            | outgrown => exact he
          | row row args =>
            refine ⟨fun h => (by cases h), fun c cs _ => ?_⟩
            obtain ⟨v, w'', hr, hs⟩ := h c cs
            exact ⟨v, w'', hK _ _ hr, stepsIn_wide.2 hs⟩
          | _ => exact h.elim
        | halt x w' => cases x <;> first | exact h | exact h.elim
      · exact absurd h hL
    · rename_i hw
      rw [if_neg hw]
      exact ⟨fun _ _ => trivial, hK _ _ h⟩

theorem any_round {P : Program} {ops : Array Oper} {md : Region.Mode} {Q : Exit → Act → World → Prop} {l n : Nat} (hL : ¬ LetsOut Q) (hd : ∀ (i : Nat) (o : Oper) c, ops[i]? = some o → o.op ≠ .defer c) :
    ∀ (g : Nat) (listed : Array Bool) (a : Act) (w : World), wpAny P md ops Q g listed a w → wpAnyIn (Fence.wide.inRound l) n P md ops Q g listed a w
  | 0, _, _, _, h => h
  | g + 1, _, _, _, h => ⟨h.1, fun i hi => op_round (fun a' w' h' => any_round hL hd g _ a' w' h') hL hd (h.2 i hi)⟩

/-- no operation is a defer statement -/
def noDefer (ops : Array Oper) : Bool := ops.all fun o => match o.op with | .defer _ => false | _ => true
theorem noDefer_spec {ops : Array Oper} (h : noDefer ops = true) (i : Nat) (o : Oper) (c : Call) (ho : ops[i]? = some o) : o.op ≠ .defer c := by
  intro e
  obtain ⟨hi, hg⟩ := Array.getElem?_eq_some_iff.1 ho
  have := Array.all_eq_true.1 h i hi
  rw [hg, e] at this
  cases this

/-- append of one element, at a step of a region that draws its order -/
theorem step_row {P : Program} {w : World} {ops : Array Oper} {o : Oper} {act : Act} {K : Act → World → Prop} {Q : Exit → Act → World → Prop} {E : Prop} (hgd : o.guard = none) (s x : Operand) (t : TypeId)
    (ho : o.op = .call { callee := .builtin .append, args := #[s, x], argTypes := #[t, t] })
    (e : TypeId) (z : Value) (size bytes : Nat) (ht : P.underlying t = some (.slice e)) (hi : (P.info? e).map (fun i => (i.zero, i.size, i.bytes)) = some (some z, size, bytes))
    (hzs : z.cells.size = size) (hsz : 0 < size) (hby : bytes ≤ 1000)
    {a : Option Addr} {n cap : Nat} {f : Nat → Value} (hs : act.eval s = .slice a n cap) (hrow : Row w e size a n cap f) (hn : n ≤ 1000000)
    (B c : Nat) (news : List Value) (T : TypeId) (hx : act.eval x = .slice (some ⟨B, 0, none⟩) 1 c) (hl : news.length = size) (hb : w.heap[B]? = some (.cells news.toArray T (0, 0))) (h1 : ∀ u ∈ news, u.oneCell' = true)
    (f' : Nat → Value) (hf : ∀ i, i < n * size → f' i = f i) (hf2 : ∀ j u, news[j]? = some u → f' (n * size + j) = u) (H : Nat) (hH : w.heap.size = H)
    (h : ∀ g cap' w', Row w' e size (some ⟨g, 0, none⟩) (n + 1) cap' f' → Ch (OwnS a) w w' → (OwnS a g ∨ g = H) → g < w'.heap.size → K (act.put o.dst (.slice (some ⟨g, 0, none⟩) (n + 1) cap')) w') :
    if Region.wanted o (yielded ops act.tmps) = true then Oper.wp P o act w K Q else E := by
  obtain ⟨i, hi', he⟩ := Option.map_eq_some_iff.1 hi
  simp only [Prod.mk.injEq] at he
  obtain ⟨hz, hsize, hbytes⟩ := he
  have hlist : (List.range ((n + 1) * size)).map f' = (List.range (n * size)).map f ++ news := by
    apply List.ext_getElem
    · simp [hl, Nat.add_mul]
    · intro j hj1 hj2
      rw [List.getElem_map, List.getElem_range]
      by_cases hj : j < n * size
      · rw [List.getElem_append_left (by simpa using hj)]
        simp only [List.getElem_map, List.getElem_range]
        exact hf j hj
      · rw [List.getElem_append_right (by simpa using hj)]
        have hj3 : j - n * size < news.length := by
          simp [Nat.add_mul] at hj1; omega
        have := hf2 (j - n * size) _ (List.getElem?_eq_getElem hj3)
        rw [show n * size + (j - n * size) = j by omega] at this
        rw [this]
        congr 1
        simp
  have hob : (Value.slice a n cap).ownBlock = a.map (·.block) := by cases a <;> rfl
  refine step_append_lies w hgd s x t ho 0 e i z size bytes ht hi' hz hsize hbytes hzs hsz _ n _ hs hrow ⟨B, 0, none⟩ 1 c news hx (by omega) ?_ h1 (by omega) ?_ ?_ (Nat.zero_le _) H hH ?_
  · have := World.news_of_block hb
    simpa using this
  · simp only [maxLen]; omega
  · have : (n + 1) * bytes ≤ 1000001 * 1000 := Nat.mul_le_mul (by omega) hby
    omega
  · intro g cap' w1 hown hgrow hat hlt
    rw [hob] at hgrow hat
    refine h g cap' w1 ?_ (Ch.of_grown hgrow) hat hlt
    unfold Row
    rw [hlist]
    exact hown
end Go.Proofs.Ytjaalkjdpgnfjaa
