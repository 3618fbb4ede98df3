import Derived.Test.YtnbdafmjcmmfpaaGreatCCaFam5
/-
  Works, without Go: any step of one of many keeps what holds of all.
-/
namespace Verge
set_option linter.unusedVariables false
set_option linter.unusedSimpArgs false
open Go.Proofs.YtnbdafmjcmmfpaaGreat
section
variable {N : Nm} {m : Nat} {σ : Wd} {ks : List Wk} {i : Nat} {k k' : Wk}
variable {kd id d p aid asl : Nat} {a : An} {q : Rq} {t : TSt}
theorem fam_eFind (h : Fam N m σ ks) (hm : m ≤ 4000000000) (hi : ks[i]? = some ⟨kd, id, d, p, .eFind, a, q, t, aid, asl⟩) (hk : kd = 4 ∨ kd = 5) :
    Fam N (m + 1) (stepC N σ ⟨kd, id, d, p, .eFind, a, q, t, aid, asl⟩).1 (ks.set i (stepC N σ ⟨kd, id, d, p, .eFind, a, q, t, aid, asl⟩).2) := by
  have v := h.iv i _ hi
  have ha : a.ok = false := v.na
  show Fam N (m + 1) σ (ks.set i (lookW N σ _ _ _ _))
  unfold lookW
  by_cases h1 : wasW N σ.R id = false
  · rw [if_pos h1]; exact h.ref hi (i' := σ.i) rfl rfl (.inr rfl)
  · rw [if_neg h1]
    by_cases h2 : mayW σ.R id (Wk.ev ⟨kd, id, d, p, .eFind, a, q, t, aid, asl⟩) = false
    · rw [if_pos h2]; exact h.ref hi (i' := σ.i) rfl rfl (.inr rfl)
    · rw [if_neg h2]
      have h1' : wasW N σ.R id = true := by simpa using h1
      have h2' : mayW σ.R id (Wk.ev ⟨kd, id, d, p, .eFind, a, q, t, aid, asl⟩) = true := by simpa using h2
      have hs := (was_lt h1').1
      obtain ⟨w1, w2, w3⟩ := h.wd _ hs
      obtain ⟨m1, m2⟩ := may_of h2'
      refine h.quietly hi (i' := σ.i) (k' := ⟨kd, id, d, p, .eStrike (id % 64) (σ.R (id % 64)).wd, a, q, t, aid, asl⟩) rfl rfl ⟨fun _ _ e => (by cases e), fun _ _ e => (by cases e), fun e => (by rcases e with e | e <;> cases e), fun x e => (by cases e), v.cn, fun s w e1 e2 => ?_, v.ok, ha, fun e => (by cases e)⟩ (no_of rfl) (no_of rfl) (no_of rfl) (fun y e => e)
      have e1' : kd = 4 := e1
      subst e1'
      cases e2
      exact ⟨rfl, hs, (may_word4 w1 w3 (ev := 6) (by omega) (by omega) m1).1, Nat.le_refl _, .inl m2⟩
theorem fam_rFind (h : Fam N m σ ks) (hi : ks[i]? = some ⟨kd, id, d, p, .rFind, a, q, t, aid, asl⟩) (hk : kd = 3) :
    Fam N (m + 1) (stepC N σ ⟨kd, id, d, p, .rFind, a, q, t, aid, asl⟩).1 (ks.set i (stepC N σ ⟨kd, id, d, p, .rFind, a, q, t, aid, asl⟩).2) := by
  have v := h.iv i _ hi
  have ha : a.ok = false := v.na
  show Fam N (m + 1) σ (ks.set i (lookW N σ _ _ _ _))
  unfold lookW
  by_cases h1 : wasW N σ.R id = false
  · rw [if_pos h1]; exact h.ref hi (i' := σ.i) rfl rfl (.inl rfl)
  · rw [if_neg h1]
    by_cases h2 : mayW σ.R id 8 = false
    · rw [if_pos h2]; exact h.ref hi (i' := σ.i) rfl rfl (.inl rfl)
    · rw [if_neg h2]
      exact h.quietly hi (i' := σ.i) (k' := ⟨kd, id, d, p, .rWait, a, q, t0, aid, id % 64⟩) rfl rfl ⟨fun _ _ e => (by cases e), fun _ _ e => (by cases e), fun _ e => (by cases e), fun x e => (by cases e), v.cn, fun _ _ _ e => (by cases e), v.ok, ha, fun e => (by cases e)⟩ (no_of rfl) (no_of rfl) (no_of rfl) (fun y e => e)
theorem fam_rAgain (h : Fam N m σ ks) (hi : ks[i]? = some ⟨kd, id, d, p, .rAgain, a, q, t, aid, asl⟩) (hk : kd = 3) :
    Fam N (m + 1) (stepC N σ ⟨kd, id, d, p, .rAgain, a, q, t, aid, asl⟩).1 (ks.set i (stepC N σ ⟨kd, id, d, p, .rAgain, a, q, t, aid, asl⟩).2) := by
  have v := h.iv i _ hi
  have ha : a.ok = false := v.na
  have hr : ∀ e, Fam N (m + 1) σ (ks.set i (refW ⟨kd, id, d, p, .rAgain, a, q, t, aid, asl⟩ e .rNone)) := fun e =>
    h.quietly hi (i' := σ.i) (k' := ⟨kd, id, d, p, .rNone, ⟨e, false, 0, 0⟩, q, t, aid, asl⟩) rfl rfl ⟨fun _ _ e => (by cases e), v.pl, fun e => (by rcases e with e | e <;> cases e), fun x e => (by cases e), fun x e => (by rw [can_no (.inr rfl)] at e; cases e), fun _ _ _ e => (by cases e), fun e => (by cases e), rfl, fun e => (by cases e)⟩ (no_of rfl) (fun y e => e) (no_of rfl) (no_of (can_no (.inr rfl)))
  show Fam N (m + 1) σ (ks.set i (lookW N σ _ _ _ _))
  unfold lookW
  by_cases h1 : wasW N σ.R id = false
  · rw [if_pos h1]; exact hr 1
  · rw [if_neg h1]
    by_cases h2 : mayW σ.R id 8 = false
    · rw [if_pos h2]; exact hr 0
    · rw [if_neg h2]
      exact h.quietly hi (i' := σ.i) (k' := ⟨kd, id, d, p, .rChange (id % 64) (σ.R (id % 64)).wd, a, q, t, aid, asl⟩) rfl rfl ⟨fun _ _ e => (by cases e), v.pl, fun e => (by rcases e with e | e <;> cases e), fun x e => (by cases e), v.cn, fun _ _ _ e => (by cases e), v.ok, ha, fun e => (by cases e)⟩ (no_of rfl) (fun y e => e) (no_of rfl) (fun y e => e)
theorem fam_rEnd (h : Fam N m σ ks) {sg : Sg} (hsg : (∃ s g, sg = .rFill s g) ∨ sg = .rNone) (hi : ks[i]? = some ⟨kd, id, d, p, sg, a, q, t, aid, asl⟩) (hk : kd = 3) :
    Fam N (m + 1) (stepC N σ ⟨kd, id, d, p, sg, a, q, t, aid, asl⟩).1 (ks.set i (stepC N σ ⟨kd, id, d, p, sg, a, q, t, aid, asl⟩).2) := by
  have v := h.iv i _ hi
  have hc : can ⟨kd, id, d, p, .leave, a, q, filled t, aid, asl⟩ = none := can_no (.inl (by show kd ≠ 4; omega))
  have hg : gid ⟨kd, id, d, p, .leave, a, q, filled t, aid, asl⟩ = none := gid_no (.inl rfl) (.inl (by show 2 < kd; omega))
  have L : ∀ τ, Iv N τ ⟨kd, id, d, p, .leave, a, q, filled t, aid, asl⟩ := fun τ => Iv.light rfl rfl hg hc ⟨by simp, by simp, by simp⟩ v.ok trivial (fun e => by cases e)
  rcases hsg with ⟨s, g, rfl⟩ | rfl
  · exact fam_fill h hi (c := asl % N.m) (x := t.pos) rfl _ rfl rfl (L _) (no_of rfl) rfl (no_of hg) (no_of hc)
  · exact fam_fill h hi (c := asl % N.m) (x := t.pos) rfl _ rfl rfl (L _) (no_of rfl) rfl (no_of hg) (no_of hc)
/-- any step -/
theorem fam_step (h : Fam N m σ ks) (hi : ks[i]? = some k) {M : Nat} (hp : Pw N M k) (h5 : k.kd ≤ 5) (hN : N.n ≤ 64) (hm : m ≤ 4000000000) : Fam N (m + 1) (stepC N σ k).1 (ks.set i (stepC N σ k).2) := by
  have v := h.iv i _ hi
  obtain ⟨kd, id, d, p, sg, a, q, t, aid, asl⟩ := k
  obtain ⟨p1, p2, p3, p4, p5, p6, p7, p8, p9, p10, p11⟩ := hp
  have h5' : kd ≤ 5 := h5
  cases sg with
  | aBegin => exact fam_aBegin h hi p10
  | aCheck =>
    unfold stepC; dsimp only
    split
    · exact h.ref hi (i' := σ.i) rfl rfl (.inr rfl)
    · exact fam_aCheck h hi p10
  | aEnter => exact fam_aEnter h hi p10
  | aAsk =>
    unfold stepC; dsimp only
    split
    · exact h.ref hi (i' := σ.i) rfl rfl (.inl rfl)
    · exact fam_take0 h hi p10 v.na rfl rfl (by simp) (fun e => by cases e)
  | aTake => exact fam_aTake h hi p10 hN hm p11 p4 p6
  | aWait => exact fam_aWait h hi p11.1 p8
  | aGive => exact fam_aGive h hm hi p10
  | aDrop =>
    have ha : a.ok = false := v.na
    have hg : gid ⟨kd, id, d, p, .leave, a, q, t, aid, asl⟩ = none := gid_no (.inl rfl) (.inr ha)
    have hc : can ⟨kd, id, d, p, .leave, a, q, t, aid, asl⟩ = none := can_no (.inr ha)
    exact h.dropped hi (k' := ⟨kd, id, d, p, .leave, a, q, t, aid, asl⟩) rfl rfl rfl (Iv.light rfl rfl hg hc ⟨by simp, by simp, by simp⟩ v.ok trivial (fun e => by cases e)) (no_of rfl) (no_of rfl) (no_of hg) (no_of hc)
  | aSubmit => exact fam_aSubmit h hm hi p10
  | aFill g => exact fam_aFill h hi p10
  | rEnter => exact h.lite hi (i' := σ.i + 1) (k' := ⟨kd, id, d, p, .rBegin, a, q, t, aid, asl⟩) rfl rfl rfl rfl rfl (can_no (.inr v.na)) ⟨by simp, by simp, by simp⟩ v.ok v.na (fun e => by cases e)
  | rBegin =>
    unfold stepC; dsimp only
    split
    · exact h.ref hi (i' := σ.i) rfl rfl (.inl rfl)
    · exact h.lite hi (i' := σ.i) rfl rfl rfl rfl rfl (can_no (.inr v.na)) ⟨by simp, by simp, by simp⟩ v.ok v.na (fun e => by cases e)
  | rFind => exact fam_rFind h hi p10
  | rWait => exact fam_rWait h hi p11.1 p8
  | rAgain => exact fam_rAgain h hi p10
  | rChange s w => exact fam_rChange h hm hi p10 p11.2.2.1
  | rFill s g => exact fam_rEnd h (.inl ⟨s, g, rfl⟩) hi p10
  | rNone => exact fam_rEnd h (.inr rfl) hi p10
  | eBegin =>
    unfold stepC; dsimp only
    split
    · exact h.ref hi (i' := σ.i) rfl rfl (.inr rfl)
    · exact h.lite hi (i' := σ.i) rfl rfl rfl rfl rfl (can_no (.inr v.na)) ⟨by simp, by simp, by simp⟩ v.ok v.na (fun e => by cases e)
  | eFind => exact fam_eFind h hm hi (by have e : 4 ≤ kd := p10; omega)
  | eStrike s w => exact fam_eStrike h hm hi (by have e : 4 ≤ kd := p10; omega) p11.1
  | eRelease s => exact fam_eRelease h hm hi p10
  | eDrop =>
    have e4 : kd = 4 := p10
    have hg : gid ⟨kd, id, d, p, .fin, a, q, t, aid, asl⟩ = none := gid_no (.inr (.inl rfl)) (.inl (by show 2 < kd; omega))
    exact h.dropped hi (k' := ⟨kd, id, d, p, .fin, a, q, t, aid, asl⟩) rfl rfl rfl ⟨fun _ _ e => (by cases e), fun _ _ e => (by cases e), fun e => (by rcases e with e | e <;> cases e), fun x e => (by rw [hg] at e; cases e), v.cn, fun _ _ _ e => (by cases e), v.ok, trivial, fun e => (by cases e)⟩ (no_of rfl) (no_of rfl) (no_of hg) (fun y e => e)
  | leave => exact fam_leave h hi
  | fin => exact fam_fin h hi
  | over =>
    exact h.quietly hi (i' := σ.i) rfl rfl v (fun y e => e) (fun y e => e) (fun y e => e) (fun y e => e)
end
end Verge
