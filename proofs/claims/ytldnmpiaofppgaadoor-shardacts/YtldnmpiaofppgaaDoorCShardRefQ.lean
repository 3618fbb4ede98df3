import Derived.Test.YtldnmpiaofppgaaDoorCWheelTRef2
import Derived.Test.YtldnmpiaofppgaaDoorCWheelTRef4
import Derived.Test.YtldnmpiaofppgaaDoorK14
import Derived.Test.YtldnmpiaofppgaaDoorK07
import Derived.Deep.QuietTactic
import Derived.BigQuiet
import Derived.Deep.Cut
import Derived.Deep.CutRange
import Derived.Deep.CutBlock
import Derived.RegionTactic
import Derived.BigRegion
/-
  The document's wheel of numbers, of which each is the place of a task: how it stands to the entries' row.
-/
namespace Verge
open Go.Proofs.YtldnmpiaofppgaaDoor.LT
set_option linter.unusedVariables false
set_option linter.unusedSimpArgs false
section
variable {f : Int → Tk} {l : List Dn} {Q : List Ent} {s t p : Nat}
theorem len_lt_d (n : Nat) : ∀ l : List Dn, (l.filter fun x => decide (x.p < n + 1)).length = (l.filter fun x => decide (x.p < n)).length + (l.filter fun x => decide (x.p = n)).length
  | [] => rfl
  | x :: t => by
    have := len_lt_d n t
    rw [List.filter_cons, List.filter_cons, List.filter_cons]
    by_cases h1 : x.p < n
    · have h2 : x.p < n + 1 := by omega
      have h3 : x.p ≠ n := by omega
      simp [h1, h2, h3]; omega
    · by_cases h3 : x.p = n
      · have h2 : x.p < n + 1 := by omega
        simp [h1, h2, h3]; omega
      · have h2 : ¬ x.p < n + 1 := by omega
        simp [h1, h2, h3]; omega
theorem len_lt_q (s n : Nat) : ∀ l : List Ent, (l.filter fun x => decide (spotN x.d s < n + 1)).length = (l.filter fun x => decide (spotN x.d s < n)).length + (l.filter fun x => decide (spotN x.d s = n)).length
  | [] => rfl
  | x :: t => by
    have := len_lt_q s n t
    rw [List.filter_cons, List.filter_cons, List.filter_cons]
    by_cases h1 : spotN x.d s < n
    · have h2 : spotN x.d s < n + 1 := by omega
      have h3 : spotN x.d s ≠ n := by omega
      simp [h1, h2, h3]; omega
    · by_cases h3 : spotN x.d s = n
      · have h2 : spotN x.d s < n + 1 := by omega
        simp [h1, h2, h3]; omega
      · have h2 : ¬ spotN x.d s < n + 1 := by omega
        simp [h1, h2, h3]; omega
theorem RQ.rlen (h : RQ f l Q s) (q : Nat) : (l.filter fun x => decide (x.p = q)).length = (rowsOf Q s q).length := by
  have := congrArg List.length (h.r q); simpa using this
theorem RQ.len (h : RQ f l Q s) : l.length = Q.length := by
  have key : ∀ n, (l.filter fun x => decide (x.p < n)).length = (Q.filter fun x => decide (spotN x.d s < n)).length := fun n => by
    induction n with
    | zero => rw [List.filter_eq_nil_iff.2 (by simp), List.filter_eq_nil_iff.2 (by simp)]; rfl
    | succ n ih => rw [len_lt_d, len_lt_q, ih, h.rlen n]; rfl
  have h1 : (l.filter fun x => decide (x.p < 257)) = l := List.filter_eq_self.2 fun x hx => by have := h.p x hx; simp; omega
  have h2 : (Q.filter fun x => decide (spotN x.d s < 257)) = Q := List.filter_eq_self.2 fun x hx => by have := spotN_le x.d s; simp; omega
  have := key 257
  rwa [h1, h2] at this
theorem RQ.mem2 {y : Ent} (h : RQ f l Q s) (hy : y ∈ Q) : ∃ x, x ∈ l ∧ f x.u = y.u ∧ x.d = y.d := by
  have h1 : kE y ∈ (l.filter fun x => decide (x.p = spotN y.d s)).map (kD f) := by rw [h.r]; exact List.mem_map_of_mem (mem_rowsOf.2 ⟨hy, rfl⟩)
  obtain ⟨x, hx, e⟩ := List.mem_map.1 h1
  unfold kD kE at e
  simp only [Prod.mk.injEq] at e
  exact ⟨x, (List.mem_filter.1 hx).1, e.1, e.2⟩
theorem RQ.min {m m' : Nat} (h : RQ f l Q s) (h1 : IsMin Q m) (h2 : MinD l m') : m = m' := by
  obtain ⟨⟨y, hy, rfl⟩, a⟩ := h1
  obtain ⟨⟨x, hx, rfl⟩, b⟩ := h2
  obtain ⟨x', hx', -, e⟩ := h.mem2 hy
  obtain ⟨y', hy', -, e'⟩ := h.mem hx
  have := a y' hy'; have := b x' hx'; omega
theorem RQ.nil (f : Int → Tk) (s : Nat) : RQ f [] [] s := ⟨fun x hx => (by cases hx), fun q => rfl⟩
theorem RQ.more (h : RQ f l Q s) (x : Ent) (i : Int) (hi : f i = x.u) : RQ f (l ++ [⟨i, x.d, spotN x.d s⟩]) (Q ++ [x]) s := by
  refine ⟨fun y hy => ?_, fun q => ?_⟩
  · rcases List.mem_append.1 hy with hy | hy
    · exact h.p y hy
    · simp at hy; subst hy; exact spotN_le _ _
  · unfold rowsOf
    rw [List.filter_append, List.map_append, List.filter_append, List.map_append, h.r q]
    congr 1
    simp only [List.filter_cons, List.filter_nil]
    by_cases e : spotN x.d s = q
    · simp [e, kD, kE, hi]
    · simp [e]
theorem RQ.congr {f' : Int → Tk} (h : RQ f l Q s) (e : ∀ x, x ∈ l → f' x.u = f x.u) : RQ f' l Q s :=
  ⟨h.p, fun q => by rw [← h.r q]; exact List.map_congr_left fun x hx => by unfold kD; rw [e x (List.mem_filter.1 hx).1]⟩
end
/-- the task of an entry's number -/
def fL (L : List Tk) (i : Int) : Tk := if i < 0 then tk0 else L.getD i.toNat tk0
theorem fL_at {L : List Tk} {i : Int} (h : 0 < (fL L i).d) : ∃ k : Nat, i = (k : Int) ∧ k < L.length ∧ L[k]? = some (fL L i) := by
  unfold fL at *
  by_cases hi : i < 0
  · rw [if_pos hi] at h; simp [tk0] at h
  · rw [if_neg hi] at h ⊢
    obtain ⟨k, rfl⟩ : ∃ k : Nat, i = (k : Int) := ⟨i.toNat, by omega⟩
    simp only [Int.toNat_natCast] at *
    by_cases hk : k < L.length
    · exact ⟨k, rfl, hk, by rw [List.getD_eq_getElem?_getD, List.getElem?_eq_getElem hk]; rfl⟩
    · rw [List.getD_eq_getElem?_getD, List.getElem?_eq_none (by omega)] at h; simp [tk0] at h
theorem fL_more {L : List Tk} {u : Tk} {i : Int} (h : 0 < (fL L i).d) : fL (L ++ [u]) i = fL L i := by
  obtain ⟨k, rfl, hk, -⟩ := fL_at h
  unfold fL
  rw [if_neg (by omega), if_neg (by omega)]
  simp only [Int.toNat_natCast]
  rw [List.getD_eq_getElem?_getD, List.getD_eq_getElem?_getD, List.getElem?_append_left hk]
theorem fL_last (L : List Tk) (u : Tk) : fL (L ++ [u]) ((L.length : Nat) : Int) = u := by
  unfold fL
  rw [if_neg (by omega)]
  simp
/-- a task more in both -/
theorem RQ.moreL {L : List Tk} {l : List Dn} {Q : List Ent} {s : Nat} (h : RQ (fL L) l Q s) (hu : ∀ y, y ∈ Q → 0 < y.u.d) (x : Ent) : RQ (fL (L ++ [x.u])) (l ++ [⟨((L.length : Nat) : Int), x.d, spotN x.d s⟩]) (Q ++ [x]) s :=
  (h.congr (f' := fL (L ++ [x.u])) fun y hy => by
    obtain ⟨z, hz, e, -⟩ := h.mem hy
    exact fL_more (by rw [← e]; exact hu z hz)).more x _ (fL_last L x.u)
end Verge
