import Derived.Test.YtldnmpiaofppgaaDoorCShR
import Derived.Test.YtldnmpiaofppgaaDoorCMapO
import Derived.Test.YtldnmpiaofppgaaDoorK07
import Derived.Deep.QuietTactic
import Derived.BigQuiet
import Derived.Deep.Cut
import Derived.Deep.CutRange
import Derived.Deep.CutBlock
import Derived.RegionTactic
import Derived.BigRegion
/-
  ShardOrder: what holds in its loops.
-/
namespace Go.Proofs.YtldnmpiaofppgaaDoor
open Go.RowKit Verge Go.Proofs.YtldnmpiaofppgaaDoor.LT
set_option linter.unusedVariables false
set_option linter.unusedSimpArgs false
attribute [local go_sem] Oper.semAt_some

/-- a shard, and a map of the deadlines of what is there, by its numbers -/
structure OrS (w W : World) (s : Nat) (g : Wh) (mb now : Nat) (Q P : List Ent) (F : Nat → Option Nat) (mn id last : Nat) : Prop where
  h : Sh w W s g now Q P
  m : MapO W mb mn F Q.length
  f : ∀ k d, F k = some d ↔ ∃ x, x ∈ Q ∧ x.u.i = k ∧ x.d = d
  u : ∀ x, x ∈ Q → x.u.d = x.d ∧ 1 ≤ x.u.i ∧ x.u.i ≤ id
  i : ∀ x y, x ∈ Q → y ∈ Q → x.u.i = y.u.i → x = y
  mo : w.heap.size ≤ mb ∧ ¬ ShS s g P mb
  l : last ≤ now
  b : mn ≤ id ∧ Q.length ≤ id
/-- .. while what is due is taken out of the map -/
structure OrN (w W : World) (s : Nat) (g : Wh) (mb now : Nat) (ds lq P : List Ent) (F : Nat → Option Nat) (mn id last : Nat) (al : Option Addr) (cl j : Nat) : Prop where
  h : Sh w W s g now lq P
  r : TRow W al cl (ds.map (·.u))
  ro : ∀ k, OwnS al k → w.heap.size ≤ k ∧ ¬ ShS s g P k ∧ k ≠ mb
  m : MapO W mb mn F ((ds.drop j).length + lq.length)
  f : ∀ k d, F k = some d ↔ ∃ x, (x ∈ ds.drop j ∨ x ∈ lq) ∧ x.u.i = k ∧ x.d = d
  u : ∀ x, (x ∈ ds ∨ x ∈ lq) → x.u.d = x.d ∧ 1 ≤ x.u.i ∧ x.u.i ≤ id
  i : ∀ x y, (x ∈ ds ∨ x ∈ lq) → (y ∈ ds ∨ y ∈ lq) → x.u.i = y.u.i → x = y
  n : ds.Nodup
  a : ∀ x, x ∈ ds → x.d = now
  mo : w.heap.size ≤ mb ∧ ¬ ShS s g P mb
  l : last ≤ now
  b : mn ≤ id ∧ ds.length + lq.length ≤ id
section
variable {S : Nat → Prop} {w W W' W2 : World} {s mb now mn id last : Nat} {g : Wh} {Q P ds lq : List Ent} {F : Nat → Option Nat} {al : Option Addr} {cl j : Nat}
theorem OrS.quiet (h : OrS w W s g mb now Q P F mn id last) (c : Ch Nil W W') : OrS w W' s g mb now Q P F mn id last :=
  ⟨h.h.quiet c, h.m.kept c (fun e => e), h.f, h.u, h.i, h.mo, h.l, h.b⟩
theorem OrN.quiet (h : OrN w W s g mb now ds lq P F mn id last al cl j) (c : Ch Nil W W') : OrN w W' s g mb now ds lq P F mn id last al cl j :=
  ⟨h.h.quiet c, Row.kept h.r c (fun _ _ e => e), h.ro, h.m.kept c (fun e => e), h.f, h.u, h.i, h.n, h.a, h.mo, h.l, h.b⟩
theorem len_due_left (Q : List Ent) (t : Nat) : (dueQ Q t).length + (leftQ Q t).length = Q.length := by
  unfold dueQ leftQ
  induction Q with
  | nil => rfl
  | cons x t' ih =>
    simp only [List.filter_cons, List.length_cons]
    by_cases h : x.d = t
    · rw [if_pos (by simpa using h), if_neg (by simp [h]), List.length_cons]; omega
    · rw [if_neg (by simpa using h), if_pos (by simpa using h), List.length_cons]; omega
theorem mem_due_left {Q : List Ent} {t : Nat} {x : Ent} : (x ∈ dueQ Q t ∨ x ∈ leftQ Q t) ↔ x ∈ Q := by
  unfold dueQ leftQ
  simp only [List.mem_filter, decide_eq_true_eq]
  constructor
  · rintro (h | h) <;> exact h.1
  · intro h
    by_cases e : x.d = t
    · exact .inl ⟨h, e⟩
    · exact .inr ⟨h, e⟩
theorem OrS.turn (h : OrS w W s g mb now Q P F mn id last) (h' : Sh w W' s g (now + 1) (leftQ Q (now + 1)) P) (r : TRow W' al cl ((dueQ Q (now + 1)).map (·.u))) (ro : ∀ k, OwnS al k → W.heap.size ≤ k) (c : Ch (WS g P) W W') :
    OrN w W' s g mb (now + 1) (dueQ Q (now + 1)) (leftQ Q (now + 1)) P F mn id last al cl 0 := by
  refine ⟨h', r, fun k hk => ?_, ?_, fun k d => ?_, fun x hx => h.u x (mem_due_left.1 hx), fun x y hx hy => h.i x y (mem_due_left.1 hx) (mem_due_left.1 hy), h.h.d.q.n.filter _, fun x hx => by simpa using (List.mem_filter.1 hx).2, h.mo, by have := h.l; omega, by have := len_due_left Q (now + 1); have := h.b; omega⟩
  · have h1 := ro k hk
    have h2 := h.h.d.c.size
    have h3 := h.m.lt
    exact ⟨by omega, fun e => by have := h.h.lt e; omega, by omega⟩
  · rw [List.drop_zero, len_due_left]
    exact h.m.kept c (fun e => h.mo.2 (.inl e))
  · rw [h.f]
    simp only [List.drop_zero, mem_due_left]
theorem OrN.done (h : OrN w W s g mb now ds lq P F mn id last al cl ds.length) : OrS w W s g mb now lq P F mn id last := by
  have hm := h.m
  have hf := h.f
  rw [List.drop_length] at hm hf
  simp only [List.length_nil, Nat.zero_add] at hm
  exact ⟨h.h, hm, fun k d => by rw [hf]; simp, fun x hx => h.u x (.inr hx), fun x y hx hy => h.i x y (.inr hx) (.inr hy), h.mo, h.l, by have := h.b; omega⟩
/-- what the map says of one that is due -/
theorem OrN.at_ {x : Ent} (h : OrN w W s g mb now ds lq P F mn id last al cl j) (hx : ds[j]? = some x) : F x.u.i = some now := by
  rw [h.f]
  have hj := (List.getElem?_eq_some_iff.1 hx).1
  refine ⟨x, .inl ?_, rfl, h.a x (List.mem_of_getElem? hx)⟩
  rw [List.drop_eq_getElem_cons hj, ← (List.getElem?_eq_some_iff.1 hx).2]
  exact List.mem_cons_self
theorem OrN.next {x : Ent} {c' : Nat} (h : OrN w W s g mb now ds lq P F mn id last al cl j) (hx : ds[j]? = some x) (hc : (ds.drop j).length + lq.length = c' + 1) (m : MapO W' mb mn (upd F x.u.i none) c') (c : Ch (One mb) W W') :
    OrN w W' s g mb now ds lq P (upd F x.u.i none) mn id now al cl (j + 1) := by
  have hj := (List.getElem?_eq_some_iff.1 hx).1
  have hd : ds.drop j = x :: ds.drop (j + 1) := by rw [List.drop_eq_getElem_cons hj, (List.getElem?_eq_some_iff.1 hx).2]
  have hxm := List.mem_of_getElem? hx
  have hnx : x ∉ ds.drop (j + 1) := by
    have := h.n
    rw [← List.take_append_drop j ds, hd] at this
    exact (List.nodup_cons.1 (List.nodup_append.1 this).2.1).1
  have hnl : x ∉ lq := fun e => by have := h.h.d.q.a x e; have := h.a x hxm; omega
  have hc2 : (ds.drop (j + 1)).length + lq.length = c' := by rw [hd] at hc; simp only [List.length_cons] at hc; omega
  refine ⟨h.h.later c (fun k hk e => by have e' : k = mb := e; exact h.mo.2 (e' ▸ hk)) (fun k e => by have e' : k = mb := e; have := h.mo.1; omega), Row.kept h.r c (fun k hk e => (h.ro k hk).2.2 e), h.ro, by rw [hc2]; exact m, fun k d => ?_, h.u, h.i, h.n, h.a, h.mo, Nat.le_refl _, h.b⟩
  by_cases e : k = x.u.i
  · subst e
    rw [upd_same]
    constructor
    · intro e; cases e
    · rintro ⟨y, hy, hi, -⟩
      have hy' : y ∈ ds ∨ y ∈ lq := hy.imp List.mem_of_mem_drop (fun h => h)
      obtain rfl := h.i y x hy' (.inl hxm) hi
      rcases hy with hy | hy
      · exact absurd hy hnx
      · exact absurd hy hnl
  · rw [upd_other _ _ _ _ e, h.f, hd]
    constructor
    · rintro ⟨y, hy, hi, he⟩
      refine ⟨y, ?_, hi, he⟩
      rcases hy with hy | hy
      · rcases List.mem_cons.1 hy with rfl | hy
        · exact absurd hi.symm e
        · exact .inl hy
      · exact .inr hy
    · rintro ⟨y, hy, hi, he⟩
      exact ⟨y, hy.imp (List.mem_cons_of_mem _) (fun h => h), hi, he⟩
/-- a task armed, and noted -/
theorem OrS.more {b d : Nat} {u : Tk} (h : OrS w W s g mb now Q P F mn id last) (hb : W.heap.size ≤ b) (hi : u.i = id + 1) (hd : u.d = d) (h' : Sh w W' s g now (Q ++ [⟨b, d, u⟩]) (P ++ [⟨b, d, u⟩])) (c : Ch (WS g P) W W')
    (m : MapO W2 mb (mn + 1) (upd F (id + 1) (some d)) (Q.length + 1)) (c2 : Ch (One mb) W' W2) : OrS w W2 s g mb now (Q ++ [⟨b, d, u⟩]) (P ++ [⟨b, d, u⟩]) (upd F (id + 1) (some d)) (mn + 1) (id + 1) last := by
  have hmo : ¬ ShS s g (P ++ [⟨b, d, u⟩]) mb := fun e => by
    have := h.m.lt
    rcases ShS.more e with e | e
    · exact h.mo.2 e
    · simp only at e; omega
  refine ⟨h'.later c2 (fun k hk e => by have e' : k = mb := e; exact hmo (e' ▸ hk)) (fun k e => by have e' : k = mb := e; have := h.mo.1; omega), by rw [List.length_append]; exact m, fun k d' => ?_, fun x hx => ?_, fun x y hx hy e => ?_, ⟨h.mo.1, hmo⟩, h.l, by have := h.b; rw [List.length_append]; simp only [List.length_cons, List.length_nil]; omega⟩
  · by_cases e : k = id + 1
    · subst e
      rw [upd_same]
      constructor
      · intro e; cases e; exact ⟨_, List.mem_append_right _ (List.mem_singleton.2 rfl), hi, rfl⟩
      · rintro ⟨x, hx, h1, h2⟩
        rcases List.mem_append.1 hx with hx | hx
        · have := (h.u x hx).2.2; omega
        · simp at hx; subst hx; simp only at h2; rw [h2]
    · rw [upd_other _ _ _ _ e, h.f]
      constructor
      · rintro ⟨x, hx, h1, h2⟩; exact ⟨x, List.mem_append_left _ hx, h1, h2⟩
      · rintro ⟨x, hx, h1, h2⟩
        rcases List.mem_append.1 hx with hx | hx
        · exact ⟨x, hx, h1, h2⟩
        · simp at hx; subst hx; simp only at h1; omega
  · rcases List.mem_append.1 hx with hx | hx
    · have := h.u x hx; exact ⟨this.1, this.2.1, by omega⟩
    · simp at hx; subst hx; exact ⟨hd, by simp only; omega, by simp only; omega⟩
  · rcases List.mem_append.1 hx with hx | hx <;> rcases List.mem_append.1 hy with hy | hy
    · exact h.i x y hx hy e
    · simp at hy; subst hy; have := (h.u x hx).2.2; simp only at e; omega
    · simp at hx; subst hx; have := (h.u y hy).2.2; simp only at e; omega
    · simp at hx hy; rw [hx, hy]
theorem OrS.none (h : OrS w W s g mb now Q P F mn id last) : F (id + 1) = none := by
  cases e : F (id + 1) with
  | none => rfl
  | some d =>
    obtain ⟨x, hx, h1, -⟩ := (h.f _ _).1 e
    have := (h.u x hx).2.2; omega
theorem OrS.ahead {k d : Nat} (h : OrS w W s g mb now Q P F mn id last) (e : F k = some d) : now < d := by
  obtain ⟨x, hx, -, rfl⟩ := (h.f _ _).1 e
  exact h.h.d.q.a x hx
end
end Go.Proofs.YtldnmpiaofppgaaDoor
