/-
  Of a list of things with keys: those of the first k keys; the faults of a timer's firings.
-/
import Derived.Test.YtpihlchocjdpmaaFirFaults
import Derived.Test.YtpihlchocjdpmaaFirIdsP
namespace Verge
/-- how many have one of the first k keys -/
def cntIn {α : Type} (X : List α) (key : α → Nat) (Q : List Nat) (k : Nat) : Nat := (X.filter fun a => (Q.take k).any (· == key a)).length
theorem split_len {α : Type} (L : List α) (p q : α → Bool) (h : ∀ x, p x = true → q x = true → False) : (L.filter fun x => p x || q x).length = (L.filter p).length + (L.filter q).length := by
  induction L with
  | nil => rfl
  | cons x L ih =>
    cases hp : p x <;> cases hq : q x <;> simp [hp, hq, ih]
    · omega
    · omega
    · exact (h x hp hq).elim
theorem cntIn_zero {α : Type} (X : List α) (key : α → Nat) (Q : List Nat) : cntIn X key Q 0 = 0 := List.length_eq_zero_iff.2 (List.filter_eq_nil_iff.2 (by simp))
theorem cntIn_le {α : Type} (X : List α) (key : α → Nat) (Q : List Nat) (k : Nat) : cntIn X key Q k ≤ X.length := List.length_filter_le _ _
theorem cntIn_succ {α : Type} (X : List α) (key : α → Nat) {Q : List Nat} (hQ : Q.Pairwise (· < ·)) {k x : Nat} (hx : Q[k]? = some x) : cntIn X key Q (k + 1) = cntIn X key Q k + (X.filter fun a => key a == x).length := by
  unfold cntIn
  rw [← split_len X _ _ (fun a h1 h2 => by
    simp only [List.any_eq_true, beq_iff_eq] at h1 h2
    obtain ⟨y, hy, e⟩ := h1
    have hk := (List.getElem?_eq_some_iff.1 hx)
    obtain ⟨i, hi, he⟩ := List.getElem_of_mem hy
    rw [List.length_take] at hi
    rw [List.getElem_take] at he
    have := List.pairwise_iff_getElem.1 hQ i k (by omega) hk.1 (by omega)
    rw [he, hk.2, e, h2] at this
    omega)]
  congr 1
  refine List.filter_congr fun a _ => ?_
  rw [List.take_add_one, hx, List.any_append]
  simp only [Option.toList_some, List.any_cons, List.any_nil, Bool.or_false]
  congr 1
  rw [Bool.eq_iff_iff, beq_iff_eq, beq_iff_eq]
  exact eq_comm
theorem cntIn_all {α : Type} (X : List α) (key : α → Nat) (Q : List Nat) (h : ∀ a, a ∈ X → key a ∈ Q) : cntIn X key Q Q.length = X.length := by
  unfold cntIn
  rw [List.filter_eq_self.2 fun a ha => ?_]
  rw [List.take_length, List.any_eq_true]
  exact ⟨_, h a ha, by simp⟩
/-- the timer of the firing at place j -/
def idOf (L : List Fr) (j : Nat) : Nat := match L[j]? with | some f => f.i | none => 0
theorem isBad_app (M : List Fr) (f : Fr) {j : Nat} (hj : j < M.length) : isBad (M ++ [f]) j = isBad M j := by
  unfold isBad
  rw [List.getElem?_append_left hj, List.take_append_of_le_length (by omega)]
theorem faultsTo_app (M : List Fr) (f : Fr) : faultsTo (M ++ [f]) M.length = faultsTo M M.length := by
  unfold faultsTo
  exact List.filter_congr fun j hj => isBad_app M f (List.mem_range.1 hj)
theorem faultsTo_snoc (M : List Fr) (f : Fr) : (faultsTo (M ++ [f]) (M ++ [f]).length).length = (faultsTo M M.length).length + (if (decide (f.t < f.d) || M.any fun g => g.i == f.i && g.g == f.g) = true then 1 else 0) := by
  rw [List.length_append, List.length_singleton, faultsTo_succ, faultsTo_app]
  have e : isBad (M ++ [f]) M.length = (decide (f.t < f.d) || M.any fun g => g.i == f.i && g.g == f.g) := by
    rw [isBad_at (f := f) (by simp)]
    congr 1
    rw [List.take_append_of_le_length (Nat.le_refl _), List.take_length]
  rw [e]
  split
  · simp
  · simp
/-- a timer's faults are the faults that are its -/
theorem faults_part (L : List Fr) (x : Nat) : ∀ k, k ≤ L.length → (faultsTo ((L.take k).filter fun f => f.i == x) ((L.take k).filter fun f => f.i == x).length).length = ((faultsTo L k).filter fun j => idOf L j == x).length
  | 0, _ => by simp [faultsTo]
  | k + 1, hk => by
    have ih := faults_part L x k (by omega)
    obtain ⟨f, hf⟩ : ∃ f, L[k]? = some f := ⟨_, List.getElem?_eq_getElem (by omega)⟩
    have hid : idOf L k = f.i := by unfold idOf; rw [hf]
    rw [List.take_add_one, hf, Option.toList_some, List.filter_append, faultsTo_succ]
    by_cases hx : f.i = x
    · have e1 : ([f].filter fun f => f.i == x) = [f] := by simp [hx]
      rw [e1, faultsTo_snoc, ih]
      have e2 : (((L.take k).filter fun f => f.i == x).any fun g => g.i == f.i && g.g == f.g) = ((L.take k).any fun g => g.i == f.i && g.g == f.g) := by
        rw [List.any_filter]
        congr 1
        funext g
        rw [hx]
        cases g.i == x <;> simp
      rw [e2, ← isBad_at hf]
      cases hb : isBad L k with
      | true => rw [if_pos rfl, if_pos rfl, List.filter_append]; simp [hid, hx]
      | false => simp
    · have e1 : ([f].filter fun f => f.i == x) = [] := by simp [hx]
      rw [e1, List.append_nil, ih]
      split
      · rw [List.filter_append]; simp [hid, hx]
      · rfl
theorem faults_of_timer (L : List Fr) (x : Nat) : (faultsTo (L.filter fun f => f.i == x) (L.filter fun f => f.i == x).length).length = ((faultsTo L L.length).filter fun j => idOf L j == x).length := by
  have := faults_part L x L.length (Nat.le_refl _)
  rwa [List.take_length] at this
theorem idOf_mem {L : List Fr} {Q : List Nat} (h : IsIds L Q) : ∀ j, j ∈ faultsTo L L.length → idOf L j ∈ Q := by
  intro j hj
  unfold faultsTo at hj
  obtain ⟨h1, -⟩ := List.mem_filter.1 hj
  have hl := List.mem_range.1 h1
  refine (h.2 _).2 ⟨L[j], List.getElem_mem hl, ?_⟩
  unfold idOf
  rw [List.getElem?_eq_getElem hl]
end Verge
