/-
  The document's answer, turned as the statement turns it: a number more, a list behind a list, a list emptied.
-/
import Derived.Test.YtmebkogkcnmkiaaListAct
import Derived.Test.YtmebkogkcnmkiaaListRound
namespace Go.Proofs.Ytmebkogkcnmkiaa
open Go.RowKit Verge LI
set_option linter.unusedVariables false
section
variable {S : Nat → Prop} {w w1 w' : World} {R : Nat → Prop} {wb q k o vc c' g n : Nat} {Val : Nat → Int} {L : Nat → List Nat} {ra : Nat → Option Addr} {rc : Nat → Nat} {va a : Option Addr} {xs : List Nat}
theorem own_one {g j : Nat} (h : OwnS (some ⟨g, 0, none⟩) j) : j = g := by cases h; rfl
theorem RefL.snoc (h : RefL w R wb q Val L ra rc va vc) (hk : k < 3) (hn : n < q) (c : Ch (OwnS (ra k)) w w1) (row : RowI w1 (some ⟨g, 0, none⟩) ((L k).length + 1) c' (numR (L k ++ [n]))) (ha : OwnS (ra k) g ∨ w.heap.size ≤ g) :
    ∃ R', (∀ j, R' j → R j ∨ w.heap.size ≤ j) ∧ RefL (w1.setCell ⟨wb, k, none⟩ (.slice (some ⟨g, 0, none⟩) ((L k).length + 1) c')) R' wb q Val (upd L k (L k ++ [n])) (upd ra k (some ⟨g, 0, none⟩)) (upd rc k c') va vc ∧ Ch R w (w1.setCell ⟨wb, k, none⟩ (.slice (some ⟨g, 0, none⟩) ((L k).length + 1) c')) := by
  have e : (L k ++ [n]).length = (L k).length + 1 := by simp
  have := h.setL (xs := L k ++ [n]) hk c (by rw [e]; exact row) (fun j hj => by rw [own_one hj]; exact ha) (fun e => by simp at e) (fun i hi => by
    rcases List.mem_append.1 hi with hi | hi
    · exact h.xl k hk i hi
    · simp at hi; omega)
  rw [e] at this
  refine ⟨_, fun j hj => ?_, this⟩
  rcases hj with hj | hj
  · exact .inl hj
  · rw [own_one hj]
    rcases ha with h' | h'
    · exact .inl (h.mr k hk g h')
    · exact .inr h'
theorem RefL.app (h : RefL w R wb q Val L ra rc va vc) (hk : k < 3) (ho : o < 3) (hne : L o ≠ []) (c : Ch (OwnS (ra k)) w w1) (row : RowI w1 (some ⟨g, 0, none⟩) ((L k).length + (L o).length) c' (numR (L k ++ L o))) (ha : OwnS (ra k) g ∨ w.heap.size ≤ g) :
    ∃ R', (∀ j, R' j → R j ∨ w.heap.size ≤ j) ∧ RefL (w1.setCell ⟨wb, k, none⟩ (.slice (some ⟨g, 0, none⟩) ((L k).length + (L o).length) c')) R' wb q Val (upd L k (L k ++ L o)) (upd ra k (some ⟨g, 0, none⟩)) (upd rc k c') va vc ∧ Ch R w (w1.setCell ⟨wb, k, none⟩ (.slice (some ⟨g, 0, none⟩) ((L k).length + (L o).length) c')) := by
  have e : (L k ++ L o).length = (L k).length + (L o).length := by simp
  have := h.setL (xs := L k ++ L o) hk c (by rw [e]; exact row) (fun j hj => by rw [own_one hj]; exact ha) (fun e => by simp at e; exact absurd e.2 hne) (fun i hi => by
    rcases List.mem_append.1 hi with hi | hi
    · exact h.xl k hk i hi
    · exact h.xl o ho i hi)
  rw [e] at this
  refine ⟨_, fun j hj => ?_, this⟩
  rcases hj with hj | hj
  · exact .inl hj
  · rw [own_one hj]
    rcases ha with h' | h'
    · exact .inl (h.mr k hk g h')
    · exact .inr h'
/-- what stands is stored again -/
theorem RefL.again (h : RefL w R wb q Val L ra rc va vc) (hk : k < 3) (xs : List Nat) (hx : xs = L k) :
    ∃ R', (∀ j, R' j → R j ∨ w.heap.size ≤ j) ∧ RefL (w.setCell ⟨wb, k, none⟩ (.slice (ra k) (L k).length (rc k))) R' wb q Val (upd L k xs) (upd ra k (ra k)) (upd rc k (rc k)) va vc ∧ Ch R w (w.setCell ⟨wb, k, none⟩ (.slice (ra k) (L k).length (rc k))) := by
  subst hx
  have := h.setL (xs := L k) hk (Ch.refl _ _) (h.r k hk) (fun j hj => .inl hj) (fun e => h.nil k hk e) (fun i hi => h.xl k hk i hi)
  exact ⟨_, fun j hj => .inl (hj.elim (fun h => h) (fun e => h.mr k hk j e)), this⟩
theorem RefL.clear (h : RefL w R wb q Val L ra rc va vc) (hk : k < 3) :
    ∃ R', (∀ j, R' j → R j ∨ w.heap.size ≤ j) ∧ RefL (w.setCell ⟨wb, k, none⟩ (.slice none 0 0)) R' wb q Val (upd L k []) (upd ra k none) (upd rc k 0) va vc ∧ Ch R w (w.setCell ⟨wb, k, none⟩ (.slice none 0 0)) := by
  have := h.setL (xs := []) (a := none) (c' := 0) hk (Ch.refl _ _) (Row.nil _ _ _ _) (fun j hj => by cases hj) (fun e => ⟨rfl, rfl⟩) (fun i hi => by cases hi)
  exact ⟨_, fun j hj => .inl (hj.elim (fun h => h) (fun e => by cases e)), this⟩
theorem RefL.val (h : RefL w R wb q Val L ra rc va vc) (v : Int) (c : Ch (OwnS va) w w1) (row : RowI w1 (some ⟨g, 0, none⟩) (q + 1) c' (upd Val q v)) (ha : OwnS va g ∨ w.heap.size ≤ g) :
    ∃ R', (∀ j, R' j → R j ∨ w.heap.size ≤ j) ∧ RefL (w1.setCell ⟨wb, 3, none⟩ (.slice (some ⟨g, 0, none⟩) (q + 1) c')) R' wb (q + 1) (upd Val q v) L ra rc (some ⟨g, 0, none⟩) c' ∧ Ch R w (w1.setCell ⟨wb, 3, none⟩ (.slice (some ⟨g, 0, none⟩) (q + 1) c')) := by
  have := h.setV v c row (fun j hj => by rw [own_one hj]; exact ha)
  refine ⟨_, fun j hj => ?_, this⟩
  rcases hj with hj | hj
  · exact .inl hj
  · rw [own_one hj]
    rcases ha with h' | h'
    · exact .inl (h.mv g h')
    · exact .inr h'
end

/-- append of a row of numbers to a row of numbers, at a step of a region that draws its order -/
theorem step_many {P : Program} {w : World} {ops : Array Oper} {o : Oper} {act : Act} {K : Act → World → Prop} {Q : Exit → Act → World → Prop} {E : Prop} (hgd : o.guard = none) (s x : Operand) (t : TypeId)
    (ho : o.op = .call { callee := .builtin .append, args := #[s, x], argTypes := #[t, t] })
    (e : TypeId) (ht : P.underlying t = some (.slice e)) (hi : (P.info? e).map (fun i => (i.zero, i.size, i.bytes)) = some (some (.int .i64 0), 1, 8))
    {a : Option Addr} {n cap : Nat} {f : Nat → Int} (hs : act.eval s = .slice a n cap) (hrow : Row w e 1 a n cap (fun i => .int .i64 (f i))) (hn : n ≤ 1000000)
    (ad : Addr) (m c : Nat) (F : Nat → Int) (hx : act.eval x = .slice (some ad) m c) (hm : 0 < m) (hm2 : m ≤ 1000000) (hc : ∀ j, j < m → w.cell? (ad.add j) = some (.int .i64 (F j)))
    (f' : Nat → Int) (h1 : ∀ i, i < n → f' i = f i) (h2 : ∀ j, j < m → f' (n + j) = F j) (H : Nat) (hH : w.heap.size = H)
    (h : ∀ g cap' w', Row w' e 1 (some ⟨g, 0, none⟩) (n + m) cap' (fun i => .int .i64 (f' i)) → Ch (OwnS a) w w' → (OwnS a g ∨ g = H) → g < w'.heap.size → K (act.put o.dst (.slice (some ⟨g, 0, none⟩) (n + m) cap')) w') :
    if Region.wanted o (yielded ops act.tmps) = true then Oper.wp P o act w K Q else E := by
  obtain ⟨i, hi', he⟩ := Option.map_eq_some_iff.1 hi
  simp only [Prod.mk.injEq] at he
  obtain ⟨hz, hsize, hbytes⟩ := he
  have hob : (Value.slice a n cap).ownBlock = a.map (·.block) := by cases a <;> rfl
  have hlist : (List.range ((n + m) * 1)).map (fun i => Value.int .i64 (f' i)) = (List.range (n * 1)).map (fun i => Value.int .i64 (f i)) ++ (List.range m).map fun i => Value.int .i64 (F i) := by
    rw [Nat.mul_one, Nat.mul_one, List.range_add, List.map_append, List.map_map]
    congr 1
    · exact List.map_congr_left fun i hi => by rw [h1 i (List.mem_range.1 hi)]
    · exact List.map_congr_left fun i hi => by simp only [Function.comp]; rw [h2 i (List.mem_range.1 hi)]
  refine step_append_lies w hgd s x t ho 0 e i (.int .i64 0) 1 8 ht hi' hz hsize hbytes rfl (by omega) _ n _ hs hrow ad m c ((List.range m).map fun i => .int .i64 (F i)) hx (by simp) ?_ ?_ hm ?_ ?_ (Nat.zero_le _) H hH ?_
  · intro j u hu
    rw [List.getElem?_map] at hu
    by_cases hj : j < m
    · rw [List.getElem?_range hj] at hu; simp at hu; subst hu; exact hc j hj
    · rw [List.getElem?_eq_none (by simp; omega)] at hu; simp at hu
  · intro u hu; simp at hu; obtain ⟨j, -, rfl⟩ := hu; simp [Value.oneCell']
  · simp only [maxLen]; omega
  · omega
  · intro g cap' w1 hown hgrow hat hlt
    rw [hob] at hgrow hat
    refine h g cap' w1 ?_ (Ch.of_grown hgrow) hat hlt
    unfold Row
    rw [hlist]
    exact hown
end Go.Proofs.Ytmebkogkcnmkiaa
