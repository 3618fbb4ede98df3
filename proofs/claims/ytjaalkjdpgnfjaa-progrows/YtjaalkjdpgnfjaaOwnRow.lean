/-
  A slice that the call owns, as its cells: kept, read, written, appended to.
-/
import Derived.Test.YtjaalkjdpgnfjaaCellMem
import Derived.Laws.OwnMore
import Derived.Deep.AppendLies
namespace Go.Proofs.Ytjaalkjdpgnfjaa
open Go.RowKit
set_option linter.unusedVariables false

/-- the block of a slice's row, if it has one -/
def OwnS (a : Option Addr) : Nat → Prop := fun k => a.map (·.block) = some k
/-- a slice of n elements of 'size' cells, the i-th cell f i -/
def Row (w : World) (e : TypeId) (size : Nat) (a : Option Addr) (n cap : Nat) (f : Nat → Value) : Prop :=
  w.ownsRow 0 e size (.slice a n cap) n ((List.range (n * size)).map f)
section
variable {w w' : World} {e : TypeId} {size : Nat} {a : Option Addr} {n cap : Nat} {f : Nat → Value} {S : Nat → Prop}
theorem Row.nil (w : World) (e : TypeId) (size : Nat) (f : Nat → Value) : Row w e size none 0 0 f := by
  unfold Row; simpa using World.ownsRow_nil w 0 e size
theorem Row.congr (h : Row w e size a n cap f) (g : Nat → Value) (hg : ∀ i, i < n * size → g i = f i) : Row w e size a n cap g := by
  unfold Row
  rw [List.map_congr_left (g := f) (fun i hi => hg i (List.mem_range.1 hi))]
  exact h
theorem Row.lt (h : Row w e size a n cap f) : ∀ k, OwnS a k → k < w.heap.size := by
  intro k hk
  refine (World.ownsRow.lt (v := .slice a n cap) h k ?_).2
  cases a with
  | none => simp [OwnS] at hk
  | some x => simpa [Value.ownBlock, OwnS] using hk
theorem Row.kept (h : Row w e size a n cap f) (c : Ch S w w') (hn : ∀ k, OwnS a k → ¬ S k) : Row w' e size a n cap f := by
  refine ⟨h.1, ?_⟩
  rcases h.2 with hn' | ⟨g, cap', cur, hv, hb, hgg, rest⟩
  · exact .inl hn'
  · refine .inr ⟨g, cap', cur, hv, hb, ?_, rest⟩
    simp only [Value.slice.injEq] at hv
    rw [c.block g (Array.getElem?_eq_some_iff.1 hgg).1 (hn g (by rw [OwnS, hv.1]; rfl))]
    exact hgg
theorem Row.form (h : Row w e size a n cap f) (hn : 0 < n) : ∃ g, a = some ⟨g, 0, none⟩ ∧ g < w.heap.size := by
  obtain ⟨g, cap', hv, -, hlt⟩ := World.ownsRow.form h hn
  simp only [Value.slice.injEq] at hv
  exact ⟨g, hv.1, hlt⟩
theorem Row.len_cap (h : Row w e size a n cap f) : n ≤ cap ∧ cap ≤ maxLen := by
  rcases h.2 with ⟨hv, h0⟩ | ⟨g, cap', cur, hv, hb, hgg, h1, h2, -⟩
  · simp only [Value.slice.injEq] at hv
    obtain ⟨-, rfl, rfl⟩ := hv
    exact ⟨Nat.le_refl _, Nat.zero_le _⟩
  · simp only [Value.slice.injEq] at hv
    obtain ⟨-, -, rfl⟩ := hv
    exact ⟨h1, h2⟩
theorem Row.cell {g : Nat} (h : Row w e size (some ⟨g, 0, none⟩) n cap f) (i : Nat) (hi : i < n * size) : w.cell? ⟨g, i, none⟩ = some (f i) := by
  have := World.ownsRow.cells h (g := g) rfl i (f i) (by simp [hi])
  have hadd : (⟨g, 0, none⟩ : Addr).add i = ⟨g, i, none⟩ := by unfold Addr.add; split <;> simp_all
  rwa [hadd] at this
theorem Row.frozen {g : Nat} (h : Row w e size (some ⟨g, 0, none⟩) n cap f) (i : Nat) : w.frozen? ⟨g, i, none⟩ = false := by
  rcases h.2 with ⟨hv, -⟩ | ⟨g', cap', cur, hv, hb, hgg, -⟩
  · simp at hv
  · simp only [Value.slice.injEq, Option.some.injEq, Addr.mk.injEq, and_true, true_and] at hv
    obtain ⟨rfl, -⟩ := hv
    unfold World.frozen?
    simp [hgg]
theorem Row.set {g : Nat} (h : Row w e size (some ⟨g, 0, none⟩) n cap f) (i : Nat) (hi : i < n * size) (u : Value) (f' : Nat → Value) (h1 : f' i = u) (h2 : ∀ j, j ≠ i → f' j = f j) :
    Row (w.setCell ⟨g, i, none⟩ u) e size (some ⟨g, 0, none⟩) n cap f' := by
  have := (World.ownsRow.stored h i u).1
  unfold Row
  rw [show (List.range (n * size)).map f' = ((List.range (n * size)).map f).set i u from ?_]
  · exact this
  · apply List.ext_getElem
    · simp
    · intro j hj1 hj2
      simp only [List.getElem_map, List.getElem_range, List.getElem_set]
      split
      · rename_i e; subst e; exact h1
      · rename_i e; exact h2 j (fun x => e x.symm)
theorem Ch.of_grown {row : Option Nat} (h : w.grownBy w' row) : Ch (fun k => row = some k) w w' :=
  ⟨h.os, h.tape, h.output, h.size, fun k hk hn => h.block k hk (fun e => hn e.symm)⟩
end

/-- append of one element, for the walk -/
theorem append_row {P : Program} (w : World) {ops : Array Oper} {rest : List Oper} {o : Oper} {act : Act} {Q : Exit → Act → World → Prop} (hgd : o.guard = none) (s x : Operand) (t : TypeId)
    (ho : o.op = .call { callee := .builtin .append, args := #[s, x], argTypes := #[t, t] })
    (e : TypeId) (z : Value) (size bytes : Nat) (ht : P.underlying t = some (.slice e)) (hi : (P.info? e).map (fun i => (i.zero, i.size, i.bytes)) = some (some z, size, bytes))
    (hzs : z.cells.size = size) (hsz : 0 < size) (hby : bytes ≤ 1000)
    {a : Option Addr} {n cap : Nat} {f : Nat → Value} (hs : act.eval s = .slice a n cap) (hrow : Row w e size a n cap f) (hn : n ≤ 1000000)
    (B c : Nat) (news : List Value) (T : TypeId) (hx : act.eval x = .slice (some ⟨B, 0, none⟩) 1 c) (hl : news.length = size) (hb : w.heap[B]? = some (.cells news.toArray T (0, 0))) (h1 : ∀ u ∈ news, u.oneCell' = true)
    (f' : Nat → Value) (hf : ∀ i, i < n * size → f' i = f i) (hf2 : ∀ j u, news[j]? = some u → f' (n * size + j) = u) (H : Nat) (hH : w.heap.size = H)
    (h : ∀ g cap' w', Row w' e size (some ⟨g, 0, none⟩) (n + 1) cap' f' → Ch (OwnS a) w w' → (OwnS a g ∨ g = H) → g < w'.heap.size → wpList P ops Q rest (act.put o.dst (.slice (some ⟨g, 0, none⟩) (n + 1) cap')) w') : wpList P ops Q (o :: rest) act w := by
  obtain ⟨i, hi', he⟩ := Option.map_eq_some_iff.1 hi
  simp only [Prod.mk.injEq] at he
  obtain ⟨hz, hsize, hbytes⟩ := he
  have hlist : (List.range ((n + 1) * size)).map f' = (List.range (n * size)).map f ++ news := by
    apply List.ext_getElem
    · simp [hl, Nat.add_mul]
    · intro j hj1 hj2
      rw [List.getElem_map, List.getElem_range]
      by_cases hj : j < n * size
      · rw [List.getElem_append_left (by simpa using hj)]
        simp only [List.getElem_map, List.getElem_range]
        exact hf j hj
      · rw [List.getElem_append_right (by simpa using hj)]
        have hj3 : j - n * size < news.length := by
          simp [Nat.add_mul] at hj1; omega
        have := hf2 (j - n * size) _ (List.getElem?_eq_getElem hj3)
        rw [show n * size + (j - n * size) = j by omega] at this
        rw [this]
        congr 1
        simp
  have hob : (Value.slice a n cap).ownBlock = a.map (·.block) := by cases a <;> rfl
  refine wpList_append_lies w hgd s x t ho 0 e i z size bytes ht hi' hz hsize hbytes hzs hsz _ n _ hs hrow ⟨B, 0, none⟩ 1 c news hx (by omega) ?_ h1 (by omega) ?_ ?_ (Nat.zero_le _) H hH ?_
  · have := World.news_of_block hb
    simpa using this
  · simp only [maxLen]; omega
  · have : (n + 1) * bytes ≤ 1000001 * 1000 := Nat.mul_le_mul (by omega) hby
    omega
  · intro g cap' w1 hown hgrow hat hlt
    rw [hob] at hgrow hat
    refine h g cap' w1 ?_ (Ch.of_grown hgrow) hat hlt
    unfold Row
    rw [hlist]
    exact hown
end Go.Proofs.Ytjaalkjdpgnfjaa
