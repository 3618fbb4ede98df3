import Derived.Test.YtnbdafmjcmmfpaaGreatCCaAll
/-
  A floor and many works: one more begins; what one answers; a task is taken; what the floor is asked.
-/
namespace Go.Proofs.YtnbdafmjcmmfpaaGreat
open Go.RowKit Verge
set_option linter.unusedVariables false
set_option linter.unusedSimpArgs false
section
variable {E : Ee} {S1 Z : Nat → Prop} {w0 W W' : World} {σ σ' : Wd} {n n' : Nat} {ls : List (Mx × Wk)} {i : Nat} {p : Mx × Wk} {X : Mx} {k : Wk}
theorem Al.answer (h : Al E w0 W σ n ls Z) (hi : ls[i]? = some p) (ho : p.2.sg = .over) :
    Calls Tryz.prog 17 #[ptr p.1.kb] W fun e W' => e = .returned (.tuple #[anV p.2.a, .int .i64 0]) ∧ Al E w0 W' σ n ls Z ∧ Ch Nil W W' := by
  obtain ⟨S1, r, hs, hx⟩ := h.m.one hi
  refine (r.answer ho).mono ?_
  rintro e W' ⟨rfl, -, c⟩
  exact ⟨rfl, h.quiet c, c⟩
theorem Al.call (h : Al E w0 W σ n ls Z) (hi : ls[i]? = some p) :
    Calls Tryz.prog 18 #[ptr p.1.kb] W fun e W' => e = .returned (clV p.2.kd p.2.id p.2.d p.2.p) ∧ Al E w0 W' σ n ls Z ∧ Ch Nil W W' := by
  obtain ⟨S1, r, hs, hx⟩ := h.m.one hi
  refine r.call.mono ?_
  rintro e W' ⟨rfl, -, c⟩
  exact ⟨rfl, h.quiet c, c⟩
/-- one more -/
theorem Fm.more (h : Fm E w0 W σ n ls Z) (hn : n ≤ n') (hs : ∀ j, S1 j → j < W.heap.size ∧ w0.heap.size ≤ j ∧ ¬ Z j) (hx : ∀ q ∈ ls, ∀ j, own q.1 j → ¬ S1 j)
    (r : Rt E S1 W W' σ n' X k) (ho : ∀ j, own X j → W.heap.size ≤ j) : Fm E w0 W' σ n' (ls ++ [(X, k)]) Z ∧ ∃ S, Ch S W W' ∧ ∀ j, Z j → ¬ S j := by
  obtain ⟨S2, hb, t1, t2⟩ := r.b.split
  have c := r.b.c
  have sz := c.size
  have sz0 := h.c.size
  have at_ : ∀ (j : Nat) (x : Mx × Wk), (ls ++ [(X, k)])[j]? = some x → (j < ls.length ∧ ls[j]? = some x) ∨ (j = ls.length ∧ x = (X, k)) := fun j x e => by
    by_cases q : j < ls.length
    · rw [List.getElem?_append_left q] at e; exact .inl ⟨q, e⟩
    · rw [List.getElem?_append_right (by omega)] at e
      have q2 : j - ls.length = 0 := by
        have := (List.getElem?_eq_some_iff.1 e).1
        simp at this; omega
      rw [q2] at e
      simp at e
      exact .inr ⟨by omega, e.symm⟩
  refine ⟨⟨⟨S2, hb, fun j e => ?_, fun q hq j hj e => ?_⟩, fun q hq => ?_, fun a b q1 q2 ne e1 e2 y o1 o2 => ?_, fun j z => Nat.lt_of_lt_of_le (h.z j z) sz, h.c.then c (fun j hj e => by have := (hs j e).2.1; omega)⟩, _, c, fun j z e => (hs j e).2.2 z⟩
  · obtain ⟨e1, e2⟩ := t1 j e
    refine ⟨e1, ?_, fun z => ?_⟩
    · rcases e2 with e2 | e2
      · exact (hs j e2).2.1
      · omega
    · rcases e2 with e2 | e2
      · exact (hs j e2).2.2 z
      · have := h.z j z; omega
  · rcases List.mem_append.1 hq with hq | hq
    · rcases (t1 j e).2 with e2 | e2
      · exact hx q hq j hj e2
      · have := (h.v q hq).1.kw.lt hj; omega
    · rw [List.mem_singleton] at hq; subst hq; exact t2 j hj e
  · rcases List.mem_append.1 hq with hq | hq
    · exact ⟨(h.v q hq).1.kept c (hx q hq) hn, (h.v q hq).2⟩
    · rw [List.mem_singleton] at hq; subst hq
      exact ⟨⟨r.b.kw, r.d, r.s, fun j hj => ⟨(r.b.ow j hj).1, by have := ho j hj; omega⟩⟩, fun j hj z => by have := ho j hj; have := h.z j z; omega⟩
  · have old : ∀ (q : Mx × Wk), q ∈ ls → own q.1 y → ¬ own X y := fun q hq a b => by have := (h.v q hq).1.kw.lt a; have := ho y b; omega
    rcases at_ a q1 e1 with ⟨-, e1⟩ | ⟨qa, rfl⟩
    · rcases at_ b q2 e2 with ⟨-, e2⟩ | ⟨qb, rfl⟩
      · exact h.d a b q1 q2 ne e1 e2 y o1 o2
      · exact old q1 (List.mem_of_getElem? e1) o1 o2
    · rcases at_ b q2 e2 with ⟨-, e2⟩ | ⟨qb, rfl⟩
      · exact old q2 (List.mem_of_getElem? e2) o2 o1
      · omega
variable {kd id d pd : Nat} {th no : Int}
theorem Al.begin (h : Al E w0 W σ n ls Z) (hk : 1 ≤ kd ∧ kd ≤ 5) (h0 : 0 < E.N.n) (h1 : id < 18446744073709551616) (h2 : d < 18446744073709551616) (h3 : pd < 18446744073709551616) (hn : n ≤ 70000) :
    Calls Tryz.prog 11 #[ptr E.F.f, .int .i64 th, .int .i64 no, clV kd id d pd] W fun e W' => ∃ X, e = .returned (.tuple #[ptr X.kb, .int .i64 0]) ∧ Al E w0 W' σ (n + 1) (ls ++ [(X, newW kd id d pd)]) Z ∧ ∃ S, Ch S W W' ∧ ∀ j, Z j → ¬ S j := by
  obtain ⟨S1, hb, hs, hx⟩ := h.m.b
  refine (begin_any (th := th) (no := no) (id := id) (d := d) (p := pd) hk hb (by omega)).mono ?_
  rintro e W' ⟨X, rfl, r, ho⟩
  obtain ⟨m', hz⟩ := h.m.more (by omega) hs hx r ho
  refine ⟨X, rfl, ⟨m', ?_, fun q hq => ?_, fun c => Nat.le_trans (h.x c) (by omega), h.n⟩, hz⟩
  · rw [List.map_append]
    exact fam_new h.f kd id d pd hk
  · rcases List.mem_append.1 hq with hq | hq
    · obtain ⟨a, b, c⟩ := h.p q hq
      exact ⟨a.up (by omega), b, c⟩
    · rw [List.mem_singleton] at hq; subst hq
      exact ⟨pw_new h0 hk h1 h2 h3 _, hk.1, hk.2⟩
/-- a call of the floor that turns nothing of it -/
theorem Al.op {P : Ending → Prop} {F : Nat} {args : Array Value} (h : Al E w0 W σ n ls Z) (hc : ∀ S1, Bf E S1 W W σ n → Calls Tryz.prog F args W fun e W' => P e ∧ Bf E S1 W W' σ n) :
    Calls Tryz.prog F args W fun e W' => P e ∧ Al E w0 W' σ n ls Z ∧ ∃ S, Ch S W W' ∧ ∀ j, Z j → ¬ S j := by
  refine (h.m.op (Nat.le_refl _) hc).mono ?_
  rintro e W' ⟨hp, m', hz⟩
  exact ⟨hp, ⟨m', h.f, h.p, h.x, h.n⟩, hz⟩
/-- a task is taken, if there is one -/
theorem Al.pop (h : Al E w0 W σ n ls Z) (hn : n ≤ 70000) (q : Nat) (hq : q < E.N.m) :
    Calls Tryz.prog 14 #[ptr (E.F.sh q)] W fun e W' => ∃ v, e = .returned v ∧ ∃ σ', Al E w0 W' σ' n ls Z ∧ ∃ S, Ch S W W' ∧ ∀ j, Z j → ¬ S j := by
  obtain ⟨r1, r2, r3⟩ := h.f.rg q
  by_cases hP : (σ.g q).P (σ.g q).fi = true
  · refine (h.m.op (Nat.le_refl _) (fun S1 hb => hb.popYes (by omega) q hq r1 hP (r3 _ r2) _ rfl)).mono ?_
    rintro e W' ⟨rfl, m', hz⟩
    refine ⟨_, rfl, _, ⟨m', fam_pop h.f q hP, h.p, fun c => ?_, h.n⟩, hz⟩
    show (upG σ.g q { σ.g q with fi := (σ.g q).fi + 1 } c).nx ≤ n
    by_cases e : c = q
    · subst e; rw [upG_same]; exact h.x c
    · rw [upG_other _ _ e]; exact h.x c
  · have hP' : (σ.g q).P (σ.g q).fi = false := by cases e : (σ.g q).P (σ.g q).fi <;> simp_all
    refine (h.m.op (Nat.le_refl _) (fun S1 hb => hb.popNo (by omega) q hq r1 hP')).mono ?_
    rintro e W' ⟨rfl, m', hz⟩
    exact ⟨_, rfl, σ, ⟨m', h.f, h.p, h.x, h.n⟩, hz⟩
end
end Go.Proofs.YtnbdafmjcmmfpaaGreat
