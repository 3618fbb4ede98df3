import Derived.Test.YtnbdafmjcmmfpaaGreatCCaFam7
/-
  Works, without Go: of many, each alone comes to its end, whatever the others hold.
-/
namespace Verge
set_option linter.unusedVariables false
set_option linter.unusedSimpArgs false
open Go.Proofs.YtnbdafmjcmmfpaaGreat
/-- it ends within x steps, alone -/
def Ends1 (N : Nm) (x : Nat) (σ : Wd) (k : Wk) : Prop := ∃ y, y ≤ x ∧ ∃ σ' k', Path N y σ k σ' k'
def G1 (N : Nm) (m : Nat) (σ : Wd) (k : Wk) : Prop := ∃ ks i, Go1 N m σ ks i k
section
variable {N : Nm} {m x x' : Nat} {σ : Wd} {k k' : Wk}
theorem Ends1.up (h : Ends1 N x σ k) (hx : x ≤ x') : Ends1 N x' σ k := by
  obtain ⟨y, h1, h2⟩ := h
  exact ⟨y, by omega, h2⟩
theorem G1.next (h : G1 N m σ k) (hm : m ≤ 3000000000) : G1 N (m + 1) (stepC N σ k).1 (stepC N σ k).2 := by
  obtain ⟨ks, i, g⟩ := h
  exact ⟨_, i, g.step (by omega)⟩
theorem G1.ends (h : G1 N m σ k) (hk : k.sg ≠ .over) (e : Ends1 N x (stepC N σ k).1 (stepC N σ k).2) : Ends1 N (x + 1) σ k := by
  obtain ⟨ks, i, g⟩ := h
  obtain ⟨y, h1, σ', k', h2⟩ := e
  have := g.f.cn
  have := g.n
  exact ⟨y + 1, by omega, σ', k', hk, by omega, fam_win g.f g.i, h2⟩
variable {kd id d p aid asl : Nat} {a : An} {q : Rq} {t : TSt}
theorem en_fin (h : G1 N m σ ⟨kd, id, d, p, .fin, a, q, t, aid, asl⟩) : Ends1 N 1 σ ⟨kd, id, d, p, .fin, a, q, t, aid, asl⟩ :=
  h.ends (by simp) ⟨0, Nat.le_refl _, _, _, rfl, rfl, rfl⟩
theorem en_leave (h : G1 N m σ ⟨kd, id, d, p, .leave, a, q, t, aid, asl⟩) (hm : m ≤ 2000000000) : Ends1 N 2 σ ⟨kd, id, d, p, .leave, a, q, t, aid, asl⟩ :=
  h.ends (by simp) (en_fin (h.next (by omega)))
theorem en_eDrop (h : G1 N m σ ⟨kd, id, d, p, .eDrop, a, q, t, aid, asl⟩) (hm : m ≤ 2000000000) : Ends1 N 2 σ ⟨kd, id, d, p, .eDrop, a, q, t, aid, asl⟩ :=
  h.ends (by simp) (en_fin (h.next (by omega)))
theorem en_eRelease {s : Nat} (h : G1 N m σ ⟨kd, id, d, p, .eRelease s, a, q, t, aid, asl⟩) (hm : m ≤ 1900000000) : Ends1 N 3 σ ⟨kd, id, d, p, .eRelease s, a, q, t, aid, asl⟩ :=
  h.ends (by simp) (en_eDrop (h.next (by omega)) (by omega))
theorem en_aFill {g : Nat} (h : G1 N m σ ⟨kd, id, d, p, .aFill g, a, q, t, aid, asl⟩) (hm : m ≤ 1900000000) : Ends1 N 3 σ ⟨kd, id, d, p, .aFill g, a, q, t, aid, asl⟩ :=
  h.ends (by simp) (en_leave (h.next (by omega)) (by omega))
theorem en_rFill {s g : Nat} (h : G1 N m σ ⟨kd, id, d, p, .rFill s g, a, q, t, aid, asl⟩) (hm : m ≤ 1900000000) : Ends1 N 3 σ ⟨kd, id, d, p, .rFill s g, a, q, t, aid, asl⟩ :=
  h.ends (by simp) (en_leave (h.next (by omega)) (by omega))
theorem en_rNone (h : G1 N m σ ⟨kd, id, d, p, .rNone, a, q, t, aid, asl⟩) (hm : m ≤ 1900000000) : Ends1 N 3 σ ⟨kd, id, d, p, .rNone, a, q, t, aid, asl⟩ :=
  h.ends (by simp) (en_leave (h.next (by omega)) (by omega))
theorem en_aSubmit (h : G1 N m σ ⟨kd, id, d, p, .aSubmit, a, q, t, aid, asl⟩) (hm : m ≤ 1800000000) : Ends1 N 4 σ ⟨kd, id, d, p, .aSubmit, a, q, t, aid, asl⟩ :=
  h.ends (by simp) (en_aFill (h.next (by omega)) (by omega))
theorem en_aDrop (h : G1 N m σ ⟨kd, id, d, p, .aDrop, a, q, t, aid, asl⟩) (hm : m ≤ 1900000000) : Ends1 N 3 σ ⟨kd, id, d, p, .aDrop, a, q, t, aid, asl⟩ :=
  h.ends (by simp) (en_leave (h.next (by omega)) (by omega))
theorem en_aGive (h : G1 N m σ ⟨kd, id, d, p, .aGive, a, q, t, aid, asl⟩) (hm : m ≤ 1800000000) : Ends1 N 4 σ ⟨kd, id, d, p, .aGive, a, q, t, aid, asl⟩ :=
  h.ends (by simp) (en_aDrop (h.next (by omega)) (by omega))
/-- how far a ticket is from its end -/
def tmt (nx : Nat) (t : TSt) : Nat := if t.st = 0 then 3 else if t.st = 1 then (if t.pos = nx then 2 else 5) else (if t.pos = nx then 1 else 4)
theorem tmt_le (nx : Nat) (t : TSt) : 1 ≤ tmt nx t ∧ tmt nx t ≤ 5 := by
  unfold tmt
  split
  · omega
  · split <;> split <;> omega
theorem tick_prog (n nx fi : Nat) (P : Nat → Bool) (t : TSt) (h0 : t.su = 0) (h1 : t.st = 0 ∨ t.st = 1 ∨ t.st = 2) (hf : fi ≤ nx) (hP : P nx = false) :
    (∃ t', tickStep n nx fi P t = (nx, t') ∧ t'.su = 0 ∧ tmt nx t' < tmt nx t) ∨ (∃ t', tickStep n nx fi P t = (nx, t') ∧ t'.su = 1) ∨ (∃ t', tickStep n nx fi P t = (nx + 1, t') ∧ t'.su = 2) := by
  unfold tickStep
  rw [if_neg (by omega)]
  rcases h1 with c | c | c
  · rw [if_pos c]
    refine .inl ⟨_, rfl, rfl, ?_⟩
    have e : tmt nx t = 3 := by unfold tmt; rw [if_pos c]
    rw [e]; unfold tmt; dsimp only; rw [if_neg (by omega), if_pos rfl, if_pos rfl]; omega
  · rw [if_neg (by omega), if_pos c]
    by_cases e : fi + n ≤ t.pos
    · rw [if_pos e]; exact .inr (.inl ⟨_, rfl, rfl⟩)
    · rw [if_neg e]
      by_cases ep : t.pos = nx
      · have et : tmt nx t = 2 := by unfold tmt; rw [if_neg (by omega), if_pos c, if_pos ep]
        rw [if_neg (by rw [ep, hP]; simp; omega)]
        refine .inl ⟨_, rfl, rfl, ?_⟩
        rw [et]; unfold tmt; dsimp only; rw [if_neg (by omega), if_neg (by omega), if_pos ep]; omega
      · have et : tmt nx t = 5 := by unfold tmt; rw [if_neg (by omega), if_pos c, if_neg ep]
        by_cases e2 : t.pos < fi ∨ P t.pos = true
        · rw [if_pos e2]
          refine .inl ⟨_, rfl, rfl, ?_⟩
          rw [et]; unfold tmt; dsimp only; rw [if_pos rfl]; omega
        · rw [if_neg e2]
          refine .inl ⟨_, rfl, rfl, ?_⟩
          rw [et]; unfold tmt; dsimp only; rw [if_neg (by omega), if_neg (by omega), if_neg ep]; omega
  · rw [if_neg (by omega), if_neg (by omega)]
    by_cases e : nx = t.pos
    · rw [if_pos e]; exact .inr (.inr ⟨_, rfl, rfl⟩)
    · rw [if_neg e]
      refine .inl ⟨_, rfl, rfl, ?_⟩
      have et : tmt nx t = 4 := by unfold tmt; rw [if_neg (by omega), if_neg (by omega), if_neg (fun q => e q.symm)]
      rw [et]; unfold tmt; dsimp only; rw [if_pos rfl]; omega
theorem en_aWait (y : Nat) : ∀ (m : Nat) (t : TSt), G1 N m σ ⟨kd, id, d, p, .aWait, a, q, t, aid, asl⟩ → m + y ≤ 1700000000 → tmt (σ.g (asl % N.m)).nx t ≤ y → Ends1 N (4 + y) σ ⟨kd, id, d, p, .aWait, a, q, t, aid, asl⟩ := by
  induction y with
  | zero => intro m t _ _ h; have := (tmt_le (σ.g (asl % N.m)).nx t).1; omega
  | succ y ih =>
    intro m t h hm ht
    have hn := h.next (by omega)
    have h9 := h
    obtain ⟨ks, i, g⟩ := h9
    obtain ⟨r1, r2, r3⟩ := g.f.rg (asl % N.m)
    have hsg := g.p.sg
    refine h.ends (x := 4 + y) (by simp) ?_
    have e0 : (⟨kd, id, d, p, .aWait, a, q, t, aid, asl⟩ : Wk).h N = asl % N.m := rfl
    unfold stepC at hn ⊢
    dsimp only at hn ⊢
    rw [e0] at hn ⊢
    unfold tickW at hn ⊢
    rcases tick_prog N.r (σ.g (asl % N.m)).nx (σ.g (asl % N.m)).fi (σ.g (asl % N.m)).P t hsg.1 g.p.ts r1 (r3 _ (Nat.le_refl _)) with ⟨t', e, s0, s2⟩ | ⟨t', e, s1⟩ | ⟨t', e, s2⟩
    · rw [e] at hn ⊢
      dsimp only at hn ⊢
      rw [if_neg (by omega), if_neg (by omega), setNx_same] at hn ⊢
      exact ih (m + 1) t' hn (by omega) (by omega)
    · rw [e] at hn ⊢
      dsimp only at hn ⊢
      rw [if_pos s1, setNx_same] at hn ⊢
      exact (en_aGive hn (by omega)).up (by omega)
    · rw [e] at hn ⊢
      dsimp only at hn ⊢
      rw [if_neg (by omega), if_pos s2] at hn ⊢
      exact (en_aSubmit hn (by omega)).up (by omega)
end
end Verge
