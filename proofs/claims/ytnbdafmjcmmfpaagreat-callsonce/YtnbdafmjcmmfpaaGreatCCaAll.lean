import Derived.Test.YtnbdafmjcmmfpaaGreatCCaMany
/-
  A floor and many works: the memory, and what holds of all; a step of one.
-/
namespace Verge
open Go.Proofs.YtnbdafmjcmmfpaaGreat
theorem Fam.up {N : Nm} {m m' : Nat} {σ : Wd} {ks : List Wk} (h : Fam N m σ ks) (hm : m ≤ m') : Fam N m' σ ks :=
  ⟨h.iv, h.pr, h.us, h.cn, h.i, fun s hs => ⟨(h.wd s hs).1, Nat.le_trans (h.wd s hs).2.1 hm, (h.wd s hs).2.2⟩, h.rg⟩
theorem step_kd (N : Nm) (σ : Wd) (k : Wk) : (stepC N σ k).2.kd = k.kd := by
  obtain ⟨kd, id, d, p, sg, a, q, t, aid, asl⟩ := k
  cases sg <;> (unfold stepC lookW refW onRet; dsimp only) <;> (repeat' split) <;> rfl
end Verge
namespace Go.Proofs.YtnbdafmjcmmfpaaGreat
open Go.RowKit Verge
set_option linter.unusedVariables false
set_option linter.unusedSimpArgs false
structure Al (E : Ee) (w0 W : World) (σ : Wd) (n : Nat) (ls : List (Mx × Wk)) (Z : Nat → Prop) : Prop where
  m : Fm E w0 W σ n ls Z
  f : Fam E.N n σ (ls.map Prod.snd)
  p : ∀ p ∈ ls, Pw E.N n p.2 ∧ 1 ≤ p.2.kd ∧ p.2.kd ≤ 5
  x : ∀ h, (σ.g h).nx ≤ n
  n : E.N.n ≤ 64
section
variable {E : Ee} {Z : Nat → Prop} {w0 W W' : World} {σ σ' : Wd} {n n' : Nat} {ls : List (Mx × Wk)} {i : Nat} {p : Mx × Wk}
theorem Al.snd (hi : ls[i]? = some p) : (ls.map Prod.snd)[i]? = some p.2 := by rw [List.getElem?_map, hi]; rfl
theorem Al.quiet (h : Al E w0 W σ n ls Z) (c : Ch Nil W W') : Al E w0 W' σ n ls Z := ⟨h.m.quiet c, h.f, h.p, h.x, h.n⟩
theorem Al.go (h : Al E w0 W σ n ls Z) (hi : ls[i]? = some p) : Go1 E.N n σ (ls.map Prod.snd) i p.2 :=
  ⟨h.f, Al.snd hi, (h.p p (List.mem_of_getElem? hi)).1, (h.p p (List.mem_of_getElem? hi)).2.2, h.x, h.n⟩
theorem Al.step (h : Al E w0 W σ n ls Z) (hi : ls[i]? = some p) (hn : n ≤ 70000) (hne : p.2.sg ≠ .over) :
    Calls Tryz.prog 12 #[ptr p.1.kb] W fun e W' => e = .returned (.bool true) ∧ ∃ X', X'.kb = p.1.kb ∧ Al E w0 W' (stepC E.N σ p.2).1 (n + 2) (ls.set i (X', (stepC E.N σ p.2).2)) Z ∧ ∃ S, Ch S W W' ∧ ∀ j, Z j → ¬ S j := by
  have hm := List.mem_of_getElem? hi
  obtain ⟨p1, p2, p3⟩ := h.p p hm
  have hc := h.f.cn
  have hn64 := h.n
  have g := (h.go hi).step (by omega)
  obtain ⟨S1, r, hs, hx⟩ := h.m.one hi
  refine (r.step ⟨p1, by omega, h.n, by omega, fam_win h.f (Al.snd hi)⟩ hne).mono ?_
  rintro e W' ⟨rfl, X', r', e1, -, -⟩
  obtain ⟨m', hz⟩ := h.m.back hi (by omega) hs hx r'
  refine ⟨rfl, X', e1, ⟨m', ?_, fun q hq => ?_, fun c => Nat.le_trans (g.x c) (by omega), h.n⟩, hz⟩
  · rw [List.map_set]
    exact g.f.up (by omega)
  · rcases List.mem_or_eq_of_mem_set hq with hq | rfl
    · obtain ⟨a, b, c⟩ := h.p q hq
      exact ⟨a.up (by omega), b, c⟩
    · exact ⟨g.p.up (by omega), by rw [step_kd]; exact p2, by rw [step_kd]; exact p3⟩
theorem Al.stepNo (h : Al E w0 W σ n ls Z) (hi : ls[i]? = some p) (ho : p.2.sg = .over) :
    Calls Tryz.prog 12 #[ptr p.1.kb] W fun e W' => e = .returned (.bool false) ∧ Al E w0 W' σ n ls Z ∧ ∃ S, Ch S W W' ∧ ∀ j, Z j → ¬ S j := by
  obtain ⟨S1, r, hs, hx⟩ := h.m.one hi
  refine (r.stepNo ho).mono ?_
  rintro e W' ⟨rfl, r'⟩
  obtain ⟨m', hz⟩ := h.m.back hi (Nat.le_refl _) hs hx r'
  have e : ls.set i (p.1, p.2) = ls := by
    apply List.ext_getElem?
    intro j
    by_cases q : j = i
    · subst q; rw [List.getElem?_set_self (List.getElem?_eq_some_iff.1 hi).1]; exact hi.symm
    · rw [List.getElem?_set_ne (fun z => q z.symm)]
  rw [e] at m'
  exact ⟨rfl, ⟨m', h.f, h.p, h.x, h.n⟩, hz⟩
end
end Go.Proofs.YtnbdafmjcmmfpaaGreat
