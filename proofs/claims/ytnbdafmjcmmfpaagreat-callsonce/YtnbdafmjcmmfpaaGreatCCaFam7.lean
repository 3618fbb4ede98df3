import Derived.Test.YtnbdafmjcmmfpaaGreatCCaFam6
/-
  Works, without Go: many of them: one more begins; a task is taken; a place that is to be filled lies in its window; what holds along a path.
-/
namespace Verge
set_option linter.unusedVariables false
set_option linter.unusedSimpArgs false
open Go.Proofs.YtnbdafmjcmmfpaaGreat
section
variable {N : Nm} {m : Nat} {σ : Wd} {ks : List Wk} {i : Nat} {k k' : Wk}
theorem fam_nil (N : Nm) : Fam N 0 nilW [] :=
  ⟨fun i k e => by simp at e, fun i j k k' _ e => by simp at e, by rw [show nilW.R = zeroR from rfl, used_zero]; rfl, Nat.zero_le _, rfl, fun s _ => ⟨by show okW 0 = true; decide, by show 0 / 256 ≤ 0; omega, .inl rfl⟩, fun h => ⟨Nat.le_refl _, Nat.zero_le _, fun _ _ => rfl⟩⟩
theorem fam_new (h : Fam N m σ ks) (kd id d p : Nat) (hk : 1 ≤ kd ∧ kd ≤ 5) : Fam N (m + 1) σ (ks ++ [newW kd id d p]) := by
  have c : kd = 1 ∨ kd = 2 ∨ kd = 3 ∨ kd = 4 ∨ kd = 5 := by omega
  have h1 : hold (newW kd id d p) = none := by rcases c with rfl | rfl | rfl | rfl | rfl <;> rfl
  have h2 : place N (newW kd id d p) = none := by rcases c with rfl | rfl | rfl | rfl | rfl <;> rfl
  have h3 : gid (newW kd id d p) = none := by rcases c with rfl | rfl | rfl | rfl | rfl <;> rfl
  have h4 : can (newW kd id d p) = none := can_no (.inr rfl)
  have h5 : looks (newW kd id d p) = 0 := by rcases c with rfl | rfl | rfl | rfl | rfl <;> rfl
  have h6 : ins (newW kd id d p) = 0 := by rcases c with rfl | rfl | rfl | rfl | rfl <;> rfl
  have v : Iv N σ (newW kd id d p) := Iv.light h1 h2 h3 h4 (by rcases c with rfl | rfl | rfl | rfl | rfl <;> (refine ⟨?_, ?_, fun _ _ => ?_⟩ <;> (intro e; cases e))) (fun e => by cases e) (by rcases c with rfl | rfl | rfl | rfl | rfl <;> rfl) (by rcases c with rfl | rfl | rfl | rfl | rfl <;> (intro e; cases e))
  have at_ : ∀ (j : Nat) (x : Wk), (ks ++ [newW kd id d p])[j]? = some x → (j < ks.length ∧ ks[j]? = some x) ∨ (j = ks.length ∧ x = newW kd id d p) := fun j x e => by
    by_cases q : j < ks.length
    · rw [List.getElem?_append_left q] at e; exact .inl ⟨q, e⟩
    · rw [List.getElem?_append_right (by omega)] at e
      have q2 : j - ks.length = 0 := by
        have := (List.getElem?_eq_some_iff.1 e).1
        simp at this; omega
      rw [q2] at e
      simp at e
      exact .inr ⟨by omega, e.symm⟩
  have pn : ∀ x, Pr N (newW kd id d p) x := fun x => ⟨fun s a b e => (by rw [h1] at e; cases e), fun y e => (by rw [h2] at e; cases e), fun y e => (by rw [h3] at e; cases e), fun y e => (by rw [h4] at e; cases e)⟩
  refine ⟨fun j x e => ?_, fun a b x y ne ea eb => ?_, ?_, h.cn, ?_, fun s hs => ⟨(h.wd s hs).1, by have := (h.wd s hs).2.1; omega, (h.wd s hs).2.2⟩, h.rg⟩
  · rcases at_ j x e with ⟨-, e⟩ | ⟨-, rfl⟩
    · exact h.iv j x e
    · exact v
  · rcases at_ a x ea with ⟨-, ea⟩ | ⟨qa, rfl⟩
    · rcases at_ b y eb with ⟨-, eb⟩ | ⟨qb, rfl⟩
      · exact h.pr a b x y ne ea eb
      · exact (pn x).symm
    · exact pn y
  · rw [List.map_append, List.sum_append]; simp [h5]; exact h.us
  · rw [List.map_append, List.sum_append]; simp [h6]; exact h.i
/-- a task is taken -/
theorem fam_pop (h : Fam N m σ ks) (c : Nat) (hP : (σ.g c).P (σ.g c).fi = true) : Fam N m { σ with g := upG σ.g c { σ.g c with fi := (σ.g c).fi + 1 } } ks := by
  obtain ⟨r1, r2, r3⟩ := h.rg c
  have hlt : (σ.g c).fi < (σ.g c).nx := Nat.lt_of_not_le fun e => by have := r3 _ e; rw [hP] at this; cases this
  refine ⟨fun j x e => ?_, h.pr, h.us, h.cn, h.i, h.wd, fun q => ?_⟩
  · have v := h.iv j x e
    refine ⟨v.hd, fun q y e2 => ?_, fun e1 e2 => ?_, v.gd, v.cn, v.st, v.ok, v.na, v.sn⟩
    · obtain ⟨a1, a2, a3⟩ := v.pl q y e2
      by_cases e3 : q = c
      · subst e3
        dsimp only
        rw [upG_same]
        refine ⟨?_, a2, a3⟩
        have : y ≠ (σ.g q).fi := fun e4 => by rw [e4, hP] at a3; cases a3
        dsimp only
        omega
      · dsimp only; rw [upG_other _ _ e3]; exact ⟨a1, a2, a3⟩
    · have := v.tk e1 e2
      dsimp only
      by_cases e3 : x.h N = c
      · rw [e3, upG_same]; rw [e3] at this; dsimp only; omega
      · rw [upG_other _ _ e3]; exact this
  · dsimp only
    by_cases e3 : q = c
    · subst e3; rw [upG_same]; exact ⟨by dsimp only; omega, by dsimp only; omega, r3⟩
    · rw [upG_other _ _ e3]; exact h.rg q
theorem fam_win (h : Fam N m σ ks) (hi : ks[i]? = some k) : Win N σ k := by
  have v := h.iv i k hi
  have key : ∀ c x, place N k = some (c, x) → (σ.g c).fi ≤ x ∧ x < (σ.g c).fi + N.r := fun c x e => by
    have := v.pl c x e
    have := h.rg c
    omega
  obtain ⟨kd, id, d, p, sg, a, q, t, aid, asl⟩ := k
  cases sg <;> first | exact key _ _ rfl | trivial
theorem step_nx (N : Nm) (σ : Wd) (k : Wk) (h : Nat) : ((stepC N σ k).1.g h).nx ≤ (σ.g h).nx + 1 := by
  have hset : ∀ c x, x ≤ (σ.g c).nx + 1 → ((setNx σ c x).g h).nx ≤ (σ.g h).nx + 1 := fun c x hx => by
    show (upG σ.g c { σ.g c with nx := x } h).nx ≤ _
    by_cases e : h = c
    · subst e; rw [upG_same]; exact hx
    · rw [upG_other _ _ e]; omega
  have hfill : ∀ c x u, ((fillW σ c x u).g h).nx ≤ (σ.g h).nx + 1 := fun c x u => by
    show (upG σ.g c { σ.g c with P := upd (σ.g c).P x true, V := upd (σ.g c).V x u } h).nx ≤ _
    by_cases e : h = c
    · subst e; rw [upG_same]; dsimp only; omega
    · rw [upG_other _ _ e]; omega
  obtain ⟨kd, id, d, p, sg, a, q, t, aid, asl⟩ := k
  cases sg <;> first
    | exact hset _ _ (tick_nx _ _ _ _ _)
    | exact hfill _ _ _
    | (show (σ.g h).nx ≤ _; omega)
    | (unfold stepC; dsimp only; split <;> (show (σ.g h).nx ≤ _; omega))
/-- what a path wants of where it begins; m bounds all -/
structure Go1 (N : Nm) (m : Nat) (σ : Wd) (ks : List Wk) (i : Nat) (k : Wk) : Prop where
  f : Fam N m σ ks
  i : ks[i]? = some k
  p : Pw N m k
  k : k.kd ≤ 5
  x : ∀ h, (σ.g h).nx ≤ m
  n : N.n ≤ 64
theorem Go1.step (h : Go1 N m σ ks i k) (hm : m ≤ 4000000000) : Go1 N (m + 1) (stepC N σ k).1 (ks.set i (stepC N σ k).2) i (stepC N σ k).2 := by
  have hlt : i < ks.length := (List.getElem?_eq_some_iff.1 h.i).1
  have hc := h.f.cn
  have hn := h.n
  refine ⟨fam_step h.f h.i h.p h.k h.n hm, List.getElem?_set_self hlt, (pw_step h.p h.n (by omega) (h.x _) (fun j hj => okW_lt64 (h.f.wd j hj).1)).up (by omega), ?_, fun c => Nat.le_trans (step_nx N σ k c) (by have := h.x c; omega), h.n⟩
  have e : (stepC N σ k).2.kd = k.kd := by
    obtain ⟨kd, id, d, p, sg, a, q, t, aid, asl⟩ := k
    cases sg <;> (unfold stepC lookW refW onRet; dsimp only) <;> (repeat' split) <;> rfl
  rw [e]; exact h.k
end
end Verge
