import Derived.Test.YtnbdafmjcmmfpaaGreatCCaFx
import Derived.Test.YtnbdafmjcmmfpaaGreatCCaFamA
/-
  A floor and many works, and blocks beside them that nothing of theirs touches.
-/
namespace Go.Proofs.YtnbdafmjcmmfpaaGreat
open Go.RowKit Verge
set_option linter.unusedVariables false
set_option linter.unusedSimpArgs false
section
variable {E : Ee} {S S0 S1 Z : Nat → Prop} {w0 W W' : World} {σ σ' : Wd} {n n' : Nat} {X X' : Mx} {k k' : Wk} {ls : List (Mx × Wk)}
/-- one of the works, with the floor, as if they were alone from here on -/
theorem Bf.join (h : Bf E S1 W W σ n) (hs : ∀ j, S1 j → j < W.heap.size) (kw : Kw E W X k) (ho : ∀ j, own X j → E.hi ≤ j ∧ ¬ S1 j) : Bo E (fun j => S1 j ∨ own X j) W W σ n X k := by
  obtain ⟨L, a, tc, h1, h2, h3⟩ := h.hd
  have ow : ∀ j, OwnS a j → S1 j := fun j hj => by
    have lt := h1.f.lt (k := j) (by simp [FS, hj])
    rcases h3 j hj with e | e
    · exact e
    · omega
  exact ⟨h.ly, ⟨L, a, tc, h1, h2, fun j hj => .inl (.inl (ow j hj)), fun j hj e => (ho j hj).2 (ow j e)⟩, kw, h.bd, fun j hj => ⟨(ho j hj).1, .inl (.inr hj)⟩, fun j x y => .inl (h.z j x y), h.hw, Ch.refl _ _⟩
/-- and back -/
theorem Bo.split (h : Bo E S0 w0 W σ n X k) : ∃ S2 : Nat → Prop, Bf E S2 W W σ n ∧ (∀ j, S2 j → j < W.heap.size ∧ (S0 j ∨ w0.heap.size ≤ j)) ∧ ∀ j, own X j → ¬ S2 j := by
  obtain ⟨L, a, tc, h1, h2, h3, h4⟩ := h.hd
  refine ⟨fun j => (E.lo ≤ j ∧ j < E.hi) ∨ OwnS a j, ⟨h.ly, ⟨L, a, tc, h1, h2, fun j hj => .inl (.inr hj)⟩, h.bd, fun j x y => .inl ⟨x, y⟩, h.hw, Ch.refl _ _⟩, fun j hj => ?_, fun j hj e => ?_⟩
  · rcases hj with e | e
    · have := h.hw; exact ⟨by omega, .inl (h.z j e.1 e.2)⟩
    · exact ⟨h1.f.lt (by simp [FS, e]), h3 j e⟩
  · rcases e with e | e
    · have := (h.ow j hj).1; omega
    · exact h4 j hj e
/-- a work at rest, among others -/
structure Mv (E : Ee) (w0 W : World) (n : Nat) (p : Mx × Wk) : Prop where
  kw : Kw E W p.1 p.2
  d : DoV p.2.sg p.1 p.1.pd
  s : 0 ≤ p.1.st ∧ p.1.st ≤ n
  o : ∀ j, own p.1 j → E.hi ≤ j ∧ w0.heap.size ≤ j
structure Fm (E : Ee) (w0 W : World) (σ : Wd) (n : Nat) (ls : List (Mx × Wk)) (Z : Nat → Prop) : Prop where
  b : ∃ S1 : Nat → Prop, Bf E S1 W W σ n ∧ (∀ j, S1 j → j < W.heap.size ∧ w0.heap.size ≤ j ∧ ¬ Z j) ∧ ∀ p ∈ ls, ∀ j, own p.1 j → ¬ S1 j
  v : ∀ p ∈ ls, Mv E w0 W n p ∧ ∀ j, own p.1 j → ¬ Z j
  d : ∀ (i j : Nat) (p q : Mx × Wk), i ≠ j → ls[i]? = some p → ls[j]? = some q → ∀ b, own p.1 b → ¬ own q.1 b
  z : ∀ j, Z j → j < W.heap.size
  c : Ch Nil w0 W
theorem Mv.kept {p : Mx × Wk} (h : Mv E w0 W n p) (c : Ch S W W') (hn : ∀ j, own p.1 j → ¬ S j) (hm : n ≤ n') : Mv E w0 W' n' p :=
  ⟨h.kw.kept c hn, h.d, by have := h.s; omega, h.o⟩
/-- a call of the floor -/
theorem Fm.op {P : Ending → Prop} {F : Nat} {args : Array Value} (h : Fm E w0 W σ n ls Z) (hn : n ≤ n') (hc : ∀ S1, Bf E S1 W W σ n → Calls Tryz.prog F args W fun e W' => P e ∧ Bf E S1 W W' σ' n') :
    Calls Tryz.prog F args W fun e W' => P e ∧ Fm E w0 W' σ' n' ls Z ∧ ∃ S, Ch S W W' ∧ ∀ j, Z j → ¬ S j := by
  obtain ⟨S1, hb, hs, hx⟩ := h.b
  refine (hc S1 hb).mono ?_
  rintro e W' ⟨hp, hb'⟩
  obtain ⟨S2, t1, t2, t3⟩ := hb'.re
  have sz := hb'.c.size
  have sz0 := h.c.size
  refine ⟨hp, ⟨⟨S2, t3 W' (Ch.refl _ _), fun j e => ⟨t1 j e, (t2 j e).elim (fun q => (hs j q).2.1) (fun q => by omega), fun z => (t2 j e).elim (fun q => (hs j q).2.2 z) (fun q => by have := h.z j z; omega)⟩, fun p hp j hj e => (t2 j e).elim (hx p hp j hj) (fun q => by have := (h.v p hp).1.kw.lt hj; omega)⟩, fun p hp => ⟨(h.v p hp).1.kept hb'.c (hx p hp) hn, (h.v p hp).2⟩, h.d, fun j z => Nat.lt_of_lt_of_le (h.z j z) sz, h.c.then hb'.c (fun i hi e => by have := (hs i e).2.1; omega)⟩, S1, hb'.c, fun j z e => (hs j e).2.2 z⟩
theorem Fm.quiet (h : Fm E w0 W σ n ls Z) (c : Ch Nil W W') : Fm E w0 W' σ n ls Z := by
  obtain ⟨S1, hb, hs, hx⟩ := h.b
  exact ⟨⟨S1, hb.apart c (fun j _ e => e.elim), fun j e => ⟨Nat.lt_of_lt_of_le (hs j e).1 c.size, (hs j e).2⟩, hx⟩, fun p hp => ⟨(h.v p hp).1.kept c (fun _ _ e => e) (Nat.le_refl _), (h.v p hp).2⟩, h.d, fun j z => Nat.lt_of_lt_of_le (h.z j z) c.size, h.c.trans c⟩
/-- one of them, as if alone -/
theorem Fm.one (h : Fm E w0 W σ n ls Z) {i : Nat} {p : Mx × Wk} (hi : ls[i]? = some p) : ∃ S1 : Nat → Prop, Rt E (fun j => S1 j ∨ own p.1 j) W W σ n p.1 p.2 ∧ (∀ j, S1 j → j < W.heap.size ∧ w0.heap.size ≤ j ∧ ¬ Z j) ∧ ∀ q ∈ ls, ∀ j, own q.1 j → ¬ S1 j := by
  obtain ⟨S1, hb, hs, hx⟩ := h.b
  have hm := List.mem_of_getElem? hi
  obtain ⟨v, vz⟩ := h.v p hm
  exact ⟨S1, ⟨hb.join (fun j e => (hs j e).1) v.kw (fun j hj => ⟨(v.o j hj).1, hx p hm j hj⟩), v.d, v.s⟩, hs, hx⟩
/-- what one of them has done, among all -/
theorem Fm.back (h : Fm E w0 W σ n ls Z) {i : Nat} {p : Mx × Wk} (hi : ls[i]? = some p) (hn : n ≤ n') (hs : ∀ j, S1 j → j < W.heap.size ∧ w0.heap.size ≤ j ∧ ¬ Z j) (hx : ∀ q ∈ ls, ∀ j, own q.1 j → ¬ S1 j)
    (r : Rt E (fun j => S1 j ∨ own p.1 j) W W' σ' n' X' k') : Fm E w0 W' σ' n' (ls.set i (X', k')) Z ∧ ∃ S, Ch S W W' ∧ ∀ j, Z j → ¬ S j := by
  obtain ⟨S2, hb, t1, t2⟩ := r.b.split
  have hm := List.mem_of_getElem? hi
  have hlt : i < ls.length := (List.getElem?_eq_some_iff.1 hi).1
  obtain ⟨v, vz⟩ := h.v p hm
  have c := r.b.c
  have sz := c.size
  have sz0 := h.c.size
  have gs : (ls.set i (X', k'))[i]? = some (X', k') := List.getElem?_set_self hlt
  have go : ∀ j, j ≠ i → (ls.set i (X', k'))[j]? = ls[j]? := fun j e => List.getElem?_set_ne (fun q => e q.symm)
  have ox : ∀ j, own X' j → S1 j ∨ own p.1 j ∨ W.heap.size ≤ j := fun j hj => by
    rcases (r.b.ow j hj).2 with (e | e) | e
    · exact .inl e
    · exact .inr (.inl e)
    · exact .inr (.inr e)
  have mem : ∀ q ∈ ls.set i (X', k'), q = (X', k') ∨ ∃ j, j ≠ i ∧ ls[j]? = some q := fun q hq => by
    obtain ⟨j, hj⟩ := List.getElem?_of_mem hq
    by_cases e : j = i
    · subst e; rw [gs] at hj; exact .inl (Option.some.inj hj).symm
    · rw [go j e] at hj; exact .inr ⟨j, e, hj⟩
  have others : ∀ j q, j ≠ i → ls[j]? = some q → ∀ b, own q.1 b → ¬ (S1 b ∨ own p.1 b) ∧ b < W.heap.size := fun j q ne hj b hb => by
    have hq := List.mem_of_getElem? hj
    refine ⟨fun e => ?_, (h.v q hq).1.kw.lt hb⟩
    rcases e with e | e
    · exact hx q hq b hb e
    · exact h.d i j p q (fun z => ne z.symm) hi hj b e hb
  have zs : ∀ j, Z j → ¬ (S1 j ∨ own p.1 j) := fun j z e => e.elim (fun q => (hs j q).2.2 z) (fun q => vz j q z)
  refine ⟨⟨⟨S2, hb, fun j e => ?_, fun q hq j hj e => ?_⟩, fun q hq => ?_, fun a b q1 q2 ne e1 e2 y o1 o2 => ?_, fun j z => Nat.lt_of_lt_of_le (h.z j z) sz, h.c.then c (fun j hj e => ?_)⟩, _, c, zs⟩
  · obtain ⟨e1, e2⟩ := t1 j e
    refine ⟨e1, ?_, fun z => ?_⟩
    · rcases e2 with (e2 | e2) | e2
      · exact (hs j e2).2.1
      · exact (v.o j e2).2
      · omega
    · rcases e2 with e2 | e2
      · exact zs j z e2
      · have := h.z j z; omega
  · rcases mem q hq with rfl | ⟨y, ne, hy⟩
    · exact t2 j hj e
    · obtain ⟨o1, o2⟩ := others y q ne hy j hj
      rcases (t1 j e).2 with e2 | e2
      · exact o1 e2
      · omega
  · rcases mem q hq with rfl | ⟨y, ne, hy⟩
    · refine ⟨⟨r.b.kw, r.d, r.s, fun j hj => ⟨(r.b.ow j hj).1, ?_⟩⟩, fun j hj z => ?_⟩
      · rcases ox j hj with e | e | e
        · exact (hs j e).2.1
        · exact (v.o j e).2
        · omega
      · rcases ox j hj with e | e | e
        · exact (hs j e).2.2 z
        · exact vz j e z
        · have := h.z j z; omega
    · have hq' := List.mem_of_getElem? hy
      exact ⟨(h.v q hq').1.kept c (fun j hj => (others y q ne hy j hj).1) hn, (h.v q hq').2⟩
  · have key : ∀ j q, j ≠ i → ls[j]? = some q → own q.1 y → ¬ own X' y := fun j q ne' hj hq' hX => by
      obtain ⟨p1, p2⟩ := others j q ne' hj y hq'
      rcases ox y hX with e | e | e
      · exact p1 (.inl e)
      · exact p1 (.inr e)
      · omega
    by_cases qa : a = i
    · subst qa
      rw [gs] at e1; cases e1
      rw [go b (fun z => ne z.symm)] at e2
      exact key b q2 (fun z => ne z.symm) e2 o2 o1
    · rw [go a qa] at e1
      by_cases qb : b = i
      · subst qb
        rw [gs] at e2; cases e2
        exact key a q1 qa e1 o1 o2
      · rw [go b qb] at e2
        exact h.d a b q1 q2 ne e1 e2 y o1 o2
  · rcases e with e | e
    · have := (hs j e).2.1; omega
    · have := (v.o j e).2; omega
end
end Go.Proofs.YtnbdafmjcmmfpaaGreat
