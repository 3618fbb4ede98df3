import Derived.Test.YtldnmpiaofppgaaDoorCShR
import Derived.Test.YtldnmpiaofppgaaDoorK01
import Derived.Test.YtldnmpiaofppgaaDoorK07
import Derived.Deep.QuietTactic
import Derived.BigQuiet
import Derived.Deep.Cut
import Derived.Deep.CutRange
import Derived.Deep.CutBlock
import Derived.RegionTactic
import Derived.BigRegion
/-
  ShardNext: what holds in its loops.
-/
namespace Go.Proofs.YtldnmpiaofppgaaDoor
open Go.RowKit Verge Go.Proofs.YtldnmpiaofppgaaDoor.LT
set_option linter.unusedVariables false
set_option linter.unusedSimpArgs false
attribute [local go_sem] Oper.semAt_some

/-- the cells of a row of numbers -/
def ulc (l : List Nat) (i : Nat) : Value := .int .u64 ((l.getD i 0 : Nat) : Int)
theorem ulc_at {l : List Nat} {i d : Nat} (h : l[i]? = some d) : ulc l i = .int .u64 (d : Nat) := by unfold ulc; rw [List.getD_eq_getElem?_getD, h]; rfl
theorem ulc_left {l m : List Nat} {i : Nat} (h : i < l.length) : ulc (l ++ m) i = ulc l i := by
  unfold ulc; rw [List.getD_eq_getElem?_getD, List.getD_eq_getElem?_getD, List.getElem?_append_left h]
abbrev ULow (w : World) (a : Option Addr) (n cap : Nat) (l : List Nat) : Prop := Row w 29 1 a n cap (ulc l)
/-- a shard and what was told: of what was told and isn't due yet just those are there -/
structure NxS (w W : World) (s : Nat) (g : Wh) (now : Nat) (Q P : List Ent) (tl : List Nat) (ta : Option Addr) (tn tc : Nat) : Prop where
  h : Sh w W s g now Q P
  t : ULow W ta tn tc tl
  n : tl.length = tn
  o : ∀ k, OwnS ta k → w.heap.size ≤ k ∧ ¬ ShS s g P k
  q : ∀ d, (d ∈ tl ∧ now < d) ↔ ∃ x, x ∈ Q ∧ x.d = d
  l : Q.length ≤ tn
section
variable {S : Nat → Prop} {w W W' W2 : World} {s now tn tc : Nat} {g : Wh} {Q P : List Ent} {tl : List Nat} {ta : Option Addr}
theorem NxS.later (h : NxS w W s g now Q P tl ta tn tc) (c : Ch S W W') (hS : ∀ k, S k → W.heap.size ≤ k ∨ (w.heap.size ≤ k ∧ ¬ ShS s g P k ∧ ¬ OwnS ta k)) : NxS w W' s g now Q P tl ta tn tc :=
  ⟨h.h.later c (fun k hk e => by
      have := h.h.lt hk
      rcases hS k e with e | e
      · omega
      · exact e.2.1 hk) (fun k e => by have := h.h.d.c.size; rcases hS k e with e | e <;> omega),
   Row.kept h.t c (fun k hk e => by
      have := Row.lt h.t k hk
      rcases hS k e with e | e
      · omega
      · exact e.2.2 hk), h.n, h.o, h.q, h.l⟩
theorem NxS.quiet (h : NxS w W s g now Q P tl ta tn tc) (c : Ch Nil W W') : NxS w W' s g now Q P tl ta tn tc := h.later c (fun k e => e.elim)
theorem NxS.turn (h : NxS w W s g now Q P tl ta tn tc) (h' : Sh w W' s g (now + 1) (leftQ Q (now + 1)) P) (c : Ch (WS g P) W W') : NxS w W' s g (now + 1) (leftQ Q (now + 1)) P tl ta tn tc := by
  refine ⟨h', Row.kept h.t c (fun k hk e => (h.o k hk).2 (.inl e)), h.n, h.o, fun d => ?_, Nat.le_trans left_le h.l⟩
  constructor
  · rintro ⟨h1, h2⟩
    obtain ⟨x, hx, hd⟩ := (h.q d).1 ⟨h1, by omega⟩
    exact ⟨x, List.mem_filter.2 ⟨hx, by simp; omega⟩, hd⟩
  · rintro ⟨x, hx, hd⟩
    have ha := h'.d.q.a x hx
    have hx' := (List.mem_filter.1 hx).1
    exact ⟨((h.q d).2 ⟨x, hx', hd⟩).1, by omega⟩
/-- a task armed, and told -/
theorem NxS.more {b d gb tc' : Nat} {u : Tk} (h : NxS w W s g now Q P tl ta tn tc) (hb : W.heap.size ≤ b) (hd : now < d) (h' : Sh w W' s g now (Q ++ [⟨b, d, u⟩]) (P ++ [⟨b, d, u⟩])) (c : Ch (WS g P) W W') (c2 : Ch (OwnS ta) W' W2)
    (row : ULow W2 (some ⟨gb, 0, none⟩) (tn + 1) tc' (tl ++ [d])) (at2 : OwnS ta gb ∨ W'.heap.size ≤ gb) : NxS w W2 s g now (Q ++ [⟨b, d, u⟩]) (P ++ [⟨b, d, u⟩]) (tl ++ [d]) (some ⟨gb, 0, none⟩) (tn + 1) tc' := by
  have own : ∀ k, OwnS ta k → ¬ ShS s g (P ++ [⟨b, d, u⟩]) k := fun k hk e => by
    have := Row.lt h.t k hk
    rcases ShS.more e with e | e
    · exact (h.o k hk).2 e
    · simp only at e; omega
  refine ⟨h'.later c2 (fun k hk e => own k e hk) (fun k e => (h.o k e).1), row, by rw [List.length_append, h.n]; rfl, fun k hk => ?_, fun d' => ?_, by have := h.l; simp; omega⟩
  · cases hk
    rcases at2 with e | e
    · exact ⟨(h.o _ e).1, own _ e⟩
    · have := h'.d.c.size
      refine ⟨by simp only; omega, fun e' => by have := h'.lt e'; simp only at this; omega⟩
  · simp only [List.mem_append, List.mem_singleton]
    constructor
    · rintro ⟨h1 | h1, h2⟩
      · obtain ⟨x, hx, e⟩ := (h.q d').1 ⟨h1, h2⟩
        exact ⟨x, .inl hx, e⟩
      · exact ⟨_, .inr rfl, h1.symm⟩
    · rintro ⟨x, hx | rfl, e⟩
      · have := (h.q d').2 ⟨x, hx, e⟩
        exact ⟨.inl this.1, this.2⟩
      · exact ⟨.inr e.symm, by simp only at e; omega⟩
/-- the least of those that are told and lie ahead -/
def MinOk (now : Nat) (l : List Nat) (lo : Nat) (sm : Bool) : Prop := (sm = false ∧ ∀ d, d ∈ l → ¬ now < d) ∨ (sm = true ∧ lo ∈ l ∧ now < lo ∧ ∀ d, d ∈ l → now < d → lo ≤ d)
theorem MinOk.nil (now : Nat) : MinOk now [] 0 false := .inl ⟨rfl, fun d hd => by cases hd⟩
theorem MinOk.skip {l : List Nat} {lo d : Nat} {sm : Bool} (h : MinOk now l lo sm) (hd : now < d → sm = true ∧ lo ≤ d) : MinOk now (l ++ [d]) lo sm := by
  rcases h with ⟨rfl, h⟩ | ⟨rfl, h1, h2, h3⟩
  · refine .inl ⟨rfl, fun e he => ?_⟩
    rcases List.mem_append.1 he with he | he
    · exact h e he
    · simp at he; subst he; exact fun k => by have := (hd k).1; cases this
  · refine .inr ⟨rfl, List.mem_append_left _ h1, h2, fun e he k => ?_⟩
    rcases List.mem_append.1 he with he | he
    · exact h3 e he k
    · simp at he; subst he; exact (hd k).2
theorem MinOk.take {l : List Nat} {lo d : Nat} {sm : Bool} (h : MinOk now l lo sm) (hd : now < d) (hl : sm = true → d ≤ lo) : MinOk now (l ++ [d]) d true := by
  refine .inr ⟨rfl, by simp, hd, fun e he k => ?_⟩
  rcases List.mem_append.1 he with he | he
  · rcases h with ⟨-, h⟩ | ⟨hs, -, -, h3⟩
    · exact absurd k (h e he)
    · have := h3 e he k; have := hl hs; omega
  · simp at he; omega
theorem MinOk.all {lo : Nat} {sm : Bool} (h : NxS w W s g now Q P tl ta tn tc) (m : MinOk now tl lo sm) : (sm = false ∧ Q = []) ∨ (sm = true ∧ IsMin Q lo) := by
  rcases m with ⟨rfl, m⟩ | ⟨rfl, m1, m2, m3⟩
  · refine .inl ⟨rfl, List.eq_nil_iff_forall_not_mem.2 fun x hx => ?_⟩
    have := (h.q x.d).2 ⟨x, hx, rfl⟩
    exact m _ this.1 this.2
  · refine .inr ⟨rfl, (h.q lo).1 ⟨m1, m2⟩, fun x hx => ?_⟩
    have := (h.q x.d).2 ⟨x, hx, rfl⟩
    exact m3 _ this.1 this.2
theorem IsMin.uniq {ys : List Ent} {m m' : Nat} (h : IsMin ys m) (h' : IsMin ys m') : m = m' := by
  obtain ⟨⟨x, hx, rfl⟩, h2⟩ := h
  obtain ⟨⟨y, hy, rfl⟩, h4⟩ := h'
  have := h2 y hy; have := h4 x hx; omega
end
end Go.Proofs.YtldnmpiaofppgaaDoor
