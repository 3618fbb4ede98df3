import Derived.Test.YtnbdafmjcmmfpaaGreatCCaFam
/-
  Works, without Go: a step of one of many keeps what holds of all.
-/
namespace Verge
set_option linter.unusedVariables false
set_option linter.unusedSimpArgs false
open Go.Proofs.YtnbdafmjcmmfpaaGreat
theorem hold_st {k : Wk} {s x : Nat} (e : hold k = some (s, x)) : x = 1 ∨ x = 5 := by
  unfold hold at e
  split at e <;> first | (cases e; omega) | (cases e)
/-- of a work that holds nothing and has given nothing -/
theorem Iv.light {N : Nm} {σ : Wd} {k : Wk} (h1 : hold k = none) (h2 : place N k = none) (h3 : gid k = none) (h4 : can k = none) (h5 : k.sg ≠ .aWait ∧ k.sg ≠ .rWait ∧ ∀ s v, k.sg ≠ .eStrike s v) (h6 : k.a.ok = true → k.a.e = 0 ∧ (3 ≤ k.kd → k.a.id = k.id)) (h7 : noAns k) (h8 : k.sg = .aTake → k.q.st = 1 → k.q.seen < N.n) : Iv N σ k :=
  ⟨fun s x e => (by rw [h1] at e; cases e), fun h p e => (by rw [h2] at e; cases e), fun e _ => e.elim (fun q => absurd q h5.1) (fun q => absurd q h5.2.1), fun x e => (by rw [h3] at e; cases e), fun x e => (by rw [h4] at e; cases e), fun s v _ e => absurd e (h5.2.2 s v), h6, h7, h8⟩
theorem Pr.of {N : Nm} {k k' x : Wk} (h : Pr N k x) (h1 : ∀ y, hold k' = some y → hold k = some y) (h2 : ∀ y, place N k' = some y → place N k = some y) (h3 : ∀ y, gid k' = some y → gid k = some y) (h4 : ∀ y, can k' = some y → can k = some y) : Pr N k' x :=
  ⟨fun s a b e => h.hd s a b (h1 _ e), fun p e => h.pl p (h2 _ e), fun y e => h.gd y (h3 _ e), fun y e => h.cn y (h4 _ e)⟩
theorem Rc.rfl {s : Nat} {hk : Option (Nat × Nat)} {x : Rec} : Rc s hk x x := .inl (Eq.refl _)
theorem Gc.rfl {h : Nat} {pk : Option (Nat × Nat)} {x : Rg} : Gc h pk x x := ⟨Eq.refl _, Nat.le_refl _, fun p => .inl (Eq.refl _)⟩
section
variable {N : Nm} {m : Nat} {σ : Wd} {ks : List Wk} {i : Nat} {k k' : Wk}
/-- a step that turns nothing but who is inside -/
theorem Fam.quietly (h : Fam N m σ ks) (hi : ks[i]? = some k) {i' : Nat} (ei : i' + ins k = σ.i + ins k') (hl : looks k' = looks k) (v : Iv N σ k')
    (h1 : ∀ y, hold k' = some y → hold k = some y) (h2 : ∀ y, place N k' = some y → place N k = some y) (h3 : ∀ y, gid k' = some y → gid k = some y) (h4 : ∀ y, can k' = some y → can k = some y) : Fam N (m + 1) { σ with i := i' } (ks.set i k') :=
  h.stepped hi (σ' := { σ with i := i' }) (fun s _ => Rc.rfl) (fun _ => Gc.rfl) ⟨v.hd, v.pl, v.tk, v.gd, v.cn, v.st, v.ok, v.na, v.sn⟩ (fun j x _ _ p => p.of h1 h2 h3 h4) (by dsimp only; omega) h.cn ei (fun s hs => ⟨(h.wd s hs).1, by have := (h.wd s hs).2.1; dsimp only; omega, (h.wd s hs).2.2⟩) h.rg
theorem le_sum (f : Wk → Nat) (ks : List Wk) (i : Nat) (k : Wk) (h : ks[i]? = some k) : f k ≤ (ks.map f).sum := by
  induction ks generalizing i with
  | nil => cases h
  | cons x xs ih =>
    cases i with
    | zero =>
      simp only [List.getElem?_cons_zero, Option.some.injEq] at h
      subst h
      simp only [List.map_cons, List.sum_cons]
      omega
    | succ i =>
      rw [List.getElem?_cons_succ] at h
      have := ih i h
      simp only [List.map_cons, List.sum_cons]
      omega
/-- a step that gives a count back -/
theorem Fam.dropped (h : Fam N m σ ks) (hi : ks[i]? = some k) (hl : looks k = 1) (hl' : looks k' = 0) (ei : ins k = ins k') (v : Iv N σ k')
    (h1 : ∀ y, hold k' = some y → hold k = some y) (h2 : ∀ y, place N k' = some y → place N k = some y) (h3 : ∀ y, gid k' = some y → gid k = some y) (h4 : ∀ y, can k' = some y → can k = some y) : Fam N (m + 1) { σ with cnt := σ.cnt - 1 } (ks.set i k') := by
  have h5 := le_sum looks ks i k hi
  have h6 := h.us
  have h7 := h.cn
  exact h.stepped hi (σ' := { σ with cnt := σ.cnt - 1 }) (fun s _ => Rc.rfl) (fun _ => Gc.rfl) ⟨v.hd, v.pl, v.tk, v.gd, v.cn, v.st, v.ok, v.na, v.sn⟩ (fun j x _ _ p => p.of h1 h2 h3 h4) (by dsimp only; omega) (by dsimp only; omega) (by dsimp only; omega) (fun s hs => ⟨(h.wd s hs).1, by have := (h.wd s hs).2.1; dsimp only; omega, (h.wd s hs).2.2⟩) h.rg
/-- a step that turns a ring -/
theorem Fam.ringed (h : Fam N m σ ks) (hi : ks[i]? = some k) (c : Nat) (x : Rg) (hc : Gc c (place N k) (σ.g c) x) (hx : x.fi ≤ x.nx ∧ x.nx ≤ x.fi + N.r ∧ ∀ p, x.nx ≤ p → x.P p = false) (ei : ins k = ins k') (hl : looks k' = looks k) (v : Iv N { σ with g := upG σ.g c x } k')
    (hp : ∀ j y, j ≠ i → ks[j]? = some y → Pr N k y → Pr N k' y) : Fam N (m + 1) { σ with g := upG σ.g c x } (ks.set i k') := by
  refine h.stepped hi (σ' := { σ with g := upG σ.g c x }) (fun s _ => Rc.rfl) (fun q => ?_) v hp (by dsimp only; omega) h.cn (by dsimp only; omega) (fun s hs => ⟨(h.wd s hs).1, by have := (h.wd s hs).2.1; dsimp only; omega, (h.wd s hs).2.2⟩) (fun q => ?_)
  · show Gc q (place N k) (σ.g q) (upG σ.g c x q)
    by_cases e : q = c
    · subst e; rw [upG_same]; exact hc
    · rw [upG_other _ _ e]; exact Gc.rfl
  · show (upG σ.g c x q).fi ≤ (upG σ.g c x q).nx ∧ (upG σ.g c x q).nx ≤ (upG σ.g c x q).fi + N.r ∧ ∀ p, (upG σ.g c x q).nx ≤ p → (upG σ.g c x q).P p = false
    by_cases e : q = c
    · subst e; rw [upG_same]; exact hx
    · rw [upG_other _ _ e]; exact h.rg q
/-- a step that turns a record -/
theorem Fam.worded (h : Fam N m σ ks) (hi : ks[i]? = some k) {s : Nat} (hs : s < N.n) (x : Rec) (hc : Rc s (hold k) (σ.R s) x) (hok : okW x.wd = true) (hg : x.wd / 256 ≤ m + 1) (hst : x.wd % 8 = 0 ∨ x.wd % 8 = 1 ∨ x.wd % 8 = 2 ∨ x.wd % 8 = 5)
    (ei : ins k = ins k') (hl : busy x + looks k' = busy (σ.R s) + looks k) (v : Iv N { σ with R := upR σ.R s x } k')
    (hp : ∀ j y, j ≠ i → ks[j]? = some y → Pr N k y → Pr N k' y) : Fam N (m + 1) { σ with R := upR σ.R s x } (ks.set i k') := by
  have hu := used_up σ.R s x N.n hs
  refine h.stepped hi (σ' := { σ with R := upR σ.R s x }) (fun q hq => ?_) (fun _ => Gc.rfl) v hp (by dsimp only; omega) h.cn (by dsimp only; omega) (fun q hq => ?_) h.rg
  · show Rc q (hold k) (σ.R q) (upR σ.R s x q)
    by_cases e : q = s
    · subst e; rw [upR_same]; exact hc
    · rw [upR_other _ _ e]; exact Rc.rfl
  · show okW (upR σ.R s x q).wd = true ∧ (upR σ.R s x q).wd / 256 ≤ m + 1 ∧ ((upR σ.R s x q).wd % 8 = 0 ∨ (upR σ.R s x q).wd % 8 = 1 ∨ (upR σ.R s x q).wd % 8 = 2 ∨ (upR σ.R s x q).wd % 8 = 5)
    by_cases e : q = s
    · subst e; rw [upR_same]; exact ⟨hok, hg, hst⟩
    · rw [upR_other _ _ e]
      obtain ⟨a, b, c⟩ := h.wd q hq
      exact ⟨a, by omega, c⟩
end
end Verge
