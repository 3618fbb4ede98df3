import Derived.Test.YtnbdafmjcmmfpaaGreatCCaFam3
/-
  Works, without Go: each step, stage by stage, of one of many: a place in a ring; what ends a Schedule, a Periodic.
-/
namespace Verge
set_option linter.unusedVariables false
set_option linter.unusedSimpArgs false
open Go.Proofs.YtnbdafmjcmmfpaaGreat
theorem tick_cases (n nx fi : Nat) (P : Nat → Bool) (t : TSt) (h0 : t.su = 0) (h1 : t.st = 0 ∨ t.st = 1 ∨ t.st = 2) (h2 : t.st = 2 → t.pos < fi + n) :
    (∃ t', tickStep n nx fi P t = (nx, t') ∧ t'.su = 0 ∧ (t'.st = 2 → t'.pos < fi + n)) ∨ (∃ t', tickStep n nx fi P t = (nx, t') ∧ t'.su = 1) ∨ (tickStep n nx fi P t = (nx + 1, ⟨2, 2, nx, t.fl⟩) ∧ nx < fi + n) := by
  unfold tickStep
  rw [if_neg (by omega)]
  rcases h1 with c | c | c
  · rw [if_pos c]; exact .inl ⟨_, rfl, rfl, fun e => by cases e⟩
  · rw [if_neg (by omega), if_pos c]
    by_cases e : fi + n ≤ t.pos
    · rw [if_pos e]; exact .inr (.inl ⟨_, rfl, rfl⟩)
    · rw [if_neg e]
      by_cases e2 : t.pos < fi ∨ P t.pos = true
      · rw [if_pos e2]; exact .inl ⟨_, rfl, rfl, fun e => by cases e⟩
      · rw [if_neg e2]; exact .inl ⟨_, rfl, rfl, fun _ => by show t.pos < fi + n; omega⟩
  · rw [if_neg (by omega), if_neg (by omega)]
    have := h2 c
    by_cases e : nx = t.pos
    · rw [if_pos e]; refine .inr (.inr ⟨by rw [e], by omega⟩)
    · rw [if_neg e]; exact .inl ⟨_, rfl, rfl, fun e => by cases e⟩
section
variable {N : Nm} {m : Nat} {σ : Wd} {ks : List Wk} {i : Nat} {k k' : Wk}
variable {kd id d p aid asl : Nat} {a : An} {q : Rq} {t : TSt}
theorem fam_stay (h : Fam N m σ ks) {w : Sg} (hw : w = .aWait ∨ w = .rWait) (hi : ks[i]? = some ⟨kd, id, d, p, w, a, q, t, aid, asl⟩) {t' : TSt} (ht : t'.st = 2 → t'.pos < (σ.g (asl % N.m)).fi + N.r) : Fam N (m + 1) σ (ks.set i ⟨kd, id, d, p, w, a, q, t', aid, asl⟩) := by
  have v := h.iv i _ hi
  rcases hw with rfl | rfl
  · exact h.quietly hi (i' := σ.i) rfl rfl ⟨v.hd, fun _ _ e => (by cases e), fun _ => ht, v.gd, v.cn, fun _ _ _ e => (by cases e), v.ok, v.na, fun e => (by cases e)⟩ (fun y e => e) (fun y e => e) (fun y e => e) (fun y e => e)
  · exact h.quietly hi (i' := σ.i) rfl rfl ⟨v.hd, fun _ _ e => (by cases e), fun _ => ht, v.gd, v.cn, fun _ _ _ e => (by cases e), v.ok, v.na, fun e => (by cases e)⟩ (fun y e => e) (fun y e => e) (fun y e => e) (fun y e => e)
theorem fam_hold (h : Fam N m σ ks) {w w' : Sg} (hw : (w = .aWait ∧ w' = .aSubmit) ∨ (w = .rWait ∧ w' = .rAgain)) (hi : ks[i]? = some ⟨kd, id, d, p, w, a, q, t, aid, asl⟩) {fl : Bool} (hn : (σ.g (asl % N.m)).nx < (σ.g (asl % N.m)).fi + N.r) :
    Fam N (m + 1) (setNx σ (asl % N.m) ((σ.g (asl % N.m)).nx + 1)) (ks.set i ⟨kd, id, d, p, w', a, q, ⟨2, 2, (σ.g (asl % N.m)).nx, fl⟩, aid, asl⟩) := by
  have v := h.iv i _ hi
  obtain ⟨r1, r2, r3⟩ := h.rg (asl % N.m)
  have hpl : ∀ c x, (some (asl % N.m, (σ.g (asl % N.m)).nx) : Option (Nat × Nat)) = some (c, x) → (upG σ.g (asl % N.m) { σ.g (asl % N.m) with nx := (σ.g (asl % N.m)).nx + 1 } c).fi ≤ x ∧ x < (upG σ.g (asl % N.m) { σ.g (asl % N.m) with nx := (σ.g (asl % N.m)).nx + 1 } c).nx ∧ (upG σ.g (asl % N.m) { σ.g (asl % N.m) with nx := (σ.g (asl % N.m)).nx + 1 } c).P x = false := by
    intro c x e
    simp only [Option.some.injEq, Prod.mk.injEq] at e
    obtain ⟨rfl, rfl⟩ := e
    rw [upG_same]
    exact ⟨r1, by dsimp only; omega, r3 _ (Nat.le_refl _)⟩
  have hpr : ∀ j y, j ≠ i → ks[j]? = some y → place N y ≠ some (asl % N.m, (σ.g (asl % N.m)).nx) := fun j y hj hy e => by
    have := ((h.iv j y hy).pl _ _ e).2.1
    omega
  rcases hw with ⟨rfl, rfl⟩ | ⟨rfl, rfl⟩
  · refine h.ringed hi (asl % N.m) { σ.g (asl % N.m) with nx := (σ.g (asl % N.m)).nx + 1 } ⟨rfl, by dsimp only; omega, fun _ => .inl rfl⟩ ⟨by dsimp only; omega, by dsimp only; omega, fun x hx => r3 x (by dsimp only at hx; omega)⟩ rfl rfl ⟨v.hd, hpl, fun e => (by rcases e with e | e <;> cases e), v.gd, v.cn, fun _ _ _ e => (by cases e), v.ok, v.na, fun e => (by cases e)⟩ (fun j y hj hy pr => ⟨pr.hd, fun c e => ?_, pr.gd, pr.cn⟩)
    cases e; exact hpr j y hj hy
  · refine h.ringed hi (asl % N.m) { σ.g (asl % N.m) with nx := (σ.g (asl % N.m)).nx + 1 } ⟨rfl, by dsimp only; omega, fun _ => .inl rfl⟩ ⟨by dsimp only; omega, by dsimp only; omega, fun x hx => r3 x (by dsimp only at hx; omega)⟩ rfl rfl ⟨v.hd, hpl, fun e => (by rcases e with e | e <;> cases e), v.gd, v.cn, fun _ _ _ e => (by cases e), v.ok, v.na, fun e => (by cases e)⟩ (fun j y hj hy pr => ⟨pr.hd, fun c e => ?_, pr.gd, pr.cn⟩)
    cases e; exact hpr j y hj hy
theorem fam_aWait (h : Fam N m σ ks) (hi : ks[i]? = some ⟨kd, id, d, p, .aWait, a, q, t, aid, asl⟩) (h0 : t.su = 0) (h1 : t.st = 0 ∨ t.st = 1 ∨ t.st = 2) :
    Fam N (m + 1) (stepC N σ ⟨kd, id, d, p, .aWait, a, q, t, aid, asl⟩).1 (ks.set i (stepC N σ ⟨kd, id, d, p, .aWait, a, q, t, aid, asl⟩).2) := by
  have v := h.iv i _ hi
  have htk : t.st = 2 → t.pos < (σ.g (asl % N.m)).fi + N.r := v.tk (.inl rfl)
  have e0 : (⟨kd, id, d, p, .aWait, a, q, t, aid, asl⟩ : Wk).h N = asl % N.m := rfl
  unfold stepC
  dsimp only
  rw [e0]
  unfold tickW
  rcases tick_cases N.r (σ.g (asl % N.m)).nx (σ.g (asl % N.m)).fi (σ.g (asl % N.m)).P t h0 h1 htk with ⟨t', e, s0, s2⟩ | ⟨t', e, s1⟩ | ⟨e, s2⟩
  · rw [e]; dsimp only
    rw [if_neg (by omega), if_neg (by omega), setNx_same]
    exact fam_stay h (.inl rfl) hi s2
  · rw [e]; dsimp only
    rw [if_pos s1, setNx_same]
    exact h.quietly hi (i' := σ.i) rfl rfl ⟨v.hd, fun _ _ e => (by cases e), fun e => (by rcases e with e | e <;> cases e), v.gd, v.cn, fun _ _ _ e => (by cases e), v.ok, v.na, fun e => (by cases e)⟩ (fun y e => e) (fun y e => e) (fun y e => e) (fun y e => e)
  · rw [e]; dsimp only
    rw [if_neg (by omega), if_pos rfl]
    exact fam_hold h (.inl ⟨rfl, rfl⟩) hi s2
theorem fam_rWait (h : Fam N m σ ks) (hi : ks[i]? = some ⟨kd, id, d, p, .rWait, a, q, t, aid, asl⟩) (h0 : t.su = 0) (h1 : t.st = 0 ∨ t.st = 1 ∨ t.st = 2) :
    Fam N (m + 1) (stepC N σ ⟨kd, id, d, p, .rWait, a, q, t, aid, asl⟩).1 (ks.set i (stepC N σ ⟨kd, id, d, p, .rWait, a, q, t, aid, asl⟩).2) := by
  have v := h.iv i _ hi
  have htk : t.st = 2 → t.pos < (σ.g (asl % N.m)).fi + N.r := v.tk (.inr rfl)
  have e0 : (⟨kd, id, d, p, .rWait, a, q, t, aid, asl⟩ : Wk).h N = asl % N.m := rfl
  unfold stepC
  dsimp only
  rw [e0]
  unfold tickW
  rcases tick_cases N.r (σ.g (asl % N.m)).nx (σ.g (asl % N.m)).fi (σ.g (asl % N.m)).P t h0 h1 htk with ⟨t', e, s0, s2⟩ | ⟨t', e, s1⟩ | ⟨e, s2⟩
  · rw [e]; dsimp only
    rw [if_neg (by omega), if_neg (by omega), setNx_same]
    exact fam_stay h (.inr rfl) hi s2
  · rw [e]; dsimp only
    rw [if_pos s1, setNx_same]
    exact h.ref hi (i' := σ.i) rfl rfl (.inl rfl)
  · rw [e]; dsimp only
    rw [if_neg (by omega), if_pos rfl]
    exact fam_hold h (.inr ⟨rfl, rfl⟩) hi s2
/-- filling a place: it is nobody's then -/
theorem fam_fill (h : Fam N m σ ks) (hi : ks[i]? = some k) {c x : Nat} (hp : place N k = some (c, x)) (u : Tk) (ei : ins k = ins k') (hl : looks k' = looks k) (v : Iv N (fillW σ c x u) k')
    (h1 : ∀ y, hold k' = some y → hold k = some y) (h2 : place N k' = none) (h3 : ∀ y, gid k' = some y → gid k = some y) (h4 : ∀ y, can k' = some y → can k = some y) : Fam N (m + 1) (fillW σ c x u) (ks.set i k') := by
  obtain ⟨p1, p2, p3⟩ := (h.iv i k hi).pl c x hp
  obtain ⟨r1, r2, r3⟩ := h.rg c
  refine h.ringed hi c { σ.g c with P := upd (σ.g c).P x true, V := upd (σ.g c).V x u } ⟨rfl, Nat.le_refl _, fun y => ?_⟩ ⟨r1, r2, fun y hy => ?_⟩ ei hl v (fun j y hj hy pr => pr.of h1 (no_of h2) h3 h4)
  · by_cases e : y = x
    · subst e; exact .inr hp
    · left; exact upd_other _ _ _ _ e
  · dsimp only at hy ⊢
    rw [upd_other _ _ _ _ (by omega)]
    exact r3 y hy
theorem fam_aFill (h : Fam N m σ ks) {g : Nat} (hi : ks[i]? = some ⟨kd, id, d, p, .aFill g, a, q, t, aid, asl⟩) (hk : kd ≤ 2) :
    Fam N (m + 1) (stepC N σ ⟨kd, id, d, p, .aFill g, a, q, t, aid, asl⟩).1 (ks.set i (stepC N σ ⟨kd, id, d, p, .aFill g, a, q, t, aid, asl⟩).2) := by
  have v := h.iv i _ hi
  have hg : ∀ y, (if kd ≤ 2 ∧ true = true then some aid else none) = some y → (some aid : Option Nat) = some y := fun y e => by rw [if_pos ⟨hk, rfl⟩] at e; exact e
  refine fam_fill h hi (c := asl % N.m) (x := t.pos) rfl _ rfl rfl ⟨fun _ _ e => (by cases e), fun _ _ e => (by cases e), fun e => (by rcases e with e | e <;> cases e), fun y e => v.gd y (hg y e), fun y e => (by rw [can_no (.inl (by show kd ≠ 4; omega))] at e; cases e), fun _ _ _ e => (by cases e), fun _ => ⟨rfl, fun e => (by have e' : 3 ≤ kd := e; omega)⟩, trivial, fun e => (by cases e)⟩ (fun y e => (by cases e)) rfl hg (fun y e => (by rw [can_no (.inl (by show kd ≠ 4; omega))] at e; cases e))
theorem fam_leave (h : Fam N m σ ks) (hi : ks[i]? = some ⟨kd, id, d, p, .leave, a, q, t, aid, asl⟩) : Fam N (m + 1) { σ with i := σ.i - 1 } (ks.set i ⟨kd, id, d, p, .fin, a, q, t, aid, asl⟩) := by
  have v := h.iv i _ hi
  have h5 := le_sum ins ks i _ hi
  have h6 := h.i
  have h7 : ins ⟨kd, id, d, p, .leave, a, q, t, aid, asl⟩ = 1 := rfl
  exact h.quietly hi (i' := σ.i - 1) (by rw [h7] at h5 ⊢; show σ.i - 1 + 1 = σ.i + 0; omega) rfl ⟨v.hd, fun _ _ e => (by cases e), fun e => (by rcases e with e | e <;> cases e), v.gd, v.cn, fun _ _ _ e => (by cases e), v.ok, v.na, fun e => (by cases e)⟩ (fun y e => e) (fun y e => e) (fun y e => e) (fun y e => e)
theorem fam_fin (h : Fam N m σ ks) (hi : ks[i]? = some ⟨kd, id, d, p, .fin, a, q, t, aid, asl⟩) : Fam N (m + 1) σ (ks.set i ⟨kd, id, d, p, .over, a, q, t, aid, asl⟩) := by
  have v := h.iv i _ hi
  exact h.quietly hi (i' := σ.i) rfl rfl ⟨v.hd, fun _ _ e => (by cases e), fun e => (by rcases e with e | e <;> cases e), v.gd, v.cn, fun _ _ _ e => (by cases e), v.ok, v.na, fun e => (by cases e)⟩ (fun y e => e) (fun y e => e) (fun y e => e) (fun y e => e)
end
end Verge
