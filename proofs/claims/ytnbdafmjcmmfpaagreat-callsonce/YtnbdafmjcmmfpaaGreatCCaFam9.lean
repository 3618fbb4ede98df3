import Derived.Test.YtnbdafmjcmmfpaaGreatCCaFam8
/-
  Works, without Go: of many, each alone comes to its end, from whatever stage, within 90 steps.
-/
namespace Verge
set_option linter.unusedVariables false
set_option linter.unusedSimpArgs false
open Go.Proofs.YtnbdafmjcmmfpaaGreat
theorem stepM_ok (n cnt : Nat) (R : Nat → Rec) (r : Rq) (h0 : r.ss = 0) (h2 : r.st = 2) (h : (nxW (R r.slot).wd 1 (r.pd != 0)).2 = 0) :
    stepM n cnt R r = (cnt, upR R r.slot ⟨(nxW (R r.slot).wd 1 (r.pd != 0)).1, (R r.slot).gv + 1, r.pd⟩, { r with id := ((R r.slot).gv + 1) * 64 + r.slot, ss := 2 }) := by
  unfold stepM; rw [if_neg (by omega), if_neg (by omega), if_neg (by omega), if_pos h]
section
variable {N : Nm} {m x x' : Nat} {σ : Wd} {k k' : Wk}
variable {kd id d p aid asl : Nat} {a : An} {q : Rq} {t : TSt}
/-- a change whose word is still the one that was seen -/
theorem en_rChangeY {s v : Nat} (h : G1 N m σ ⟨kd, id, d, p, .rChange s v, a, q, t, aid, asl⟩) (hm : m ≤ 1800000000) (ht : tryW σ.R s v 8 = true) : Ends1 N 4 σ ⟨kd, id, d, p, .rChange s v, a, q, t, aid, asl⟩ := by
  have hn := h.next (by omega)
  refine h.ends (by simp) ?_
  unfold stepC at hn ⊢
  dsimp only at hn ⊢
  rw [if_pos ht] at hn ⊢
  exact en_rFill hn (by omega)
theorem en_rAgain (h : G1 N m σ ⟨kd, id, d, p, .rAgain, a, q, t, aid, asl⟩) (hm : m ≤ 1700000000) : Ends1 N 5 σ ⟨kd, id, d, p, .rAgain, a, q, t, aid, asl⟩ := by
  have hn := h.next (by omega)
  refine h.ends (by simp) ?_
  change G1 N (m + 1) σ (lookW N σ _ _ _ _) at hn
  show Ends1 N 4 σ (lookW N σ _ _ _ _)
  unfold lookW at hn ⊢
  by_cases h1 : wasW N σ.R id = false
  · rw [if_pos h1] at hn ⊢; exact (en_rNone hn (by omega)).up (by omega)
  · rw [if_neg h1] at hn ⊢
    by_cases h2 : mayW σ.R id 8 = false
    · rw [if_pos h2] at hn ⊢; exact (en_rNone hn (by omega)).up (by omega)
    · rw [if_neg h2] at hn ⊢
      refine en_rChangeY hn (by omega) ?_
      have h3 : mayW σ.R id 8 = true := by simpa using h2
      unfold tryW
      rw [decide_eq_true_eq]
      exact ⟨(may_of h3).1, rfl⟩
theorem en_rChange {s v : Nat} (h : G1 N m σ ⟨kd, id, d, p, .rChange s v, a, q, t, aid, asl⟩) (hm : m ≤ 1600000000) : Ends1 N 6 σ ⟨kd, id, d, p, .rChange s v, a, q, t, aid, asl⟩ := by
  by_cases ht : tryW σ.R s v 8 = true
  · exact (en_rChangeY h (by omega) ht).up (by omega)
  · have hn := h.next (by omega)
    refine h.ends (by simp) ?_
    unfold stepC at hn ⊢
    dsimp only at hn ⊢
    rw [if_neg ht] at hn ⊢
    exact en_rAgain hn (by omega)
theorem en_rWait (y : Nat) : ∀ (m : Nat) (t : TSt), G1 N m σ ⟨kd, id, d, p, .rWait, a, q, t, aid, asl⟩ → m + y ≤ 1600000000 → tmt (σ.g (asl % N.m)).nx t ≤ y → Ends1 N (5 + y) σ ⟨kd, id, d, p, .rWait, a, q, t, aid, asl⟩ := by
  induction y with
  | zero => intro m t _ _ h; have := (tmt_le (σ.g (asl % N.m)).nx t).1; omega
  | succ y ih =>
    intro m t h hm ht
    have hn := h.next (by omega)
    have h9 := h
    obtain ⟨ks, i, g⟩ := h9
    obtain ⟨r1, r2, r3⟩ := g.f.rg (asl % N.m)
    have hsg := g.p.sg
    refine h.ends (x := 5 + y) (by simp) ?_
    have e0 : (⟨kd, id, d, p, .rWait, a, q, t, aid, asl⟩ : Wk).h N = asl % N.m := rfl
    unfold stepC at hn ⊢
    dsimp only at hn ⊢
    rw [e0] at hn ⊢
    unfold tickW at hn ⊢
    rcases tick_prog N.r (σ.g (asl % N.m)).nx (σ.g (asl % N.m)).fi (σ.g (asl % N.m)).P t hsg.1 g.p.ts r1 (r3 _ (Nat.le_refl _)) with ⟨t', e, s0, s2⟩ | ⟨t', e, s1⟩ | ⟨t', e, s2⟩
    · rw [e] at hn ⊢
      dsimp only at hn ⊢
      rw [if_neg (by omega), if_neg (by omega), setNx_same] at hn ⊢
      exact ih (m + 1) t' hn (by omega) (by omega)
    · rw [e] at hn ⊢
      dsimp only at hn ⊢
      rw [if_pos s1, setNx_same] at hn ⊢
      exact (en_leave hn (by omega)).up (by omega)
    · rw [e] at hn ⊢
      dsimp only at hn ⊢
      rw [if_neg (by omega), if_pos s2] at hn ⊢
      exact (en_rAgain hn (by omega)).up (by omega)
theorem en_rFind (h : G1 N m σ ⟨kd, id, d, p, .rFind, a, q, t, aid, asl⟩) (hm : m ≤ 1500000000) : Ends1 N 11 σ ⟨kd, id, d, p, .rFind, a, q, t, aid, asl⟩ := by
  have hn := h.next (by omega)
  refine h.ends (by simp) ?_
  change G1 N (m + 1) σ (lookW N σ _ _ _ _) at hn
  show Ends1 N 10 σ (lookW N σ _ _ _ _)
  unfold lookW at hn ⊢
  by_cases h1 : wasW N σ.R id = false
  · rw [if_pos h1] at hn ⊢; exact (en_leave hn (by omega)).up (by omega)
  · rw [if_neg h1] at hn ⊢
    by_cases h2 : mayW σ.R id 8 = false
    · rw [if_pos h2] at hn ⊢; exact (en_leave hn (by omega)).up (by omega)
    · rw [if_neg h2] at hn ⊢
      exact en_rWait 5 (m + 1) t0 hn (by omega) (tmt_le _ _).2
theorem en_rBegin (h : G1 N m σ ⟨kd, id, d, p, .rBegin, a, q, t, aid, asl⟩) (hm : m ≤ 1400000000) : Ends1 N 12 σ ⟨kd, id, d, p, .rBegin, a, q, t, aid, asl⟩ := by
  have hn := h.next (by omega)
  refine h.ends (by simp) ?_
  unfold stepC at hn ⊢
  dsimp only at hn ⊢
  by_cases hc : σ.cl = true
  · rw [if_pos hc] at hn ⊢; exact (en_leave hn (by omega)).up (by omega)
  · rw [if_neg hc] at hn ⊢; exact en_rFind hn (by omega)
theorem en_rEnter (h : G1 N m σ ⟨kd, id, d, p, .rEnter, a, q, t, aid, asl⟩) (hm : m ≤ 1300000000) : Ends1 N 13 σ ⟨kd, id, d, p, .rEnter, a, q, t, aid, asl⟩ :=
  h.ends (by simp) (en_rBegin (h.next (by omega)) (by omega))
theorem en_eStrikeY {s v : Nat} (h : G1 N m σ ⟨kd, id, d, p, .eStrike s v, a, q, t, aid, asl⟩) (hm : m ≤ 1800000000) (ht : tryW σ.R s v (Wk.ev ⟨kd, id, d, p, .eStrike s v, a, q, t, aid, asl⟩) = true) : Ends1 N 4 σ ⟨kd, id, d, p, .eStrike s v, a, q, t, aid, asl⟩ := by
  have hn := h.next (by omega)
  refine h.ends (by simp) ?_
  unfold stepC at hn ⊢
  dsimp only at hn ⊢
  rw [if_pos ht] at hn ⊢
  by_cases e : kd = 4
  · rw [if_pos e] at hn ⊢; exact en_eRelease hn (by omega)
  · rw [if_neg e] at hn ⊢; exact (en_fin hn).up (by omega)
theorem en_eFind (h : G1 N m σ ⟨kd, id, d, p, .eFind, a, q, t, aid, asl⟩) (hm : m ≤ 1700000000) : Ends1 N 5 σ ⟨kd, id, d, p, .eFind, a, q, t, aid, asl⟩ := by
  have hn := h.next (by omega)
  refine h.ends (by simp) ?_
  change G1 N (m + 1) σ (lookW N σ _ _ _ _) at hn
  show Ends1 N 4 σ (lookW N σ _ _ _ _)
  unfold lookW at hn ⊢
  by_cases h1 : wasW N σ.R id = false
  · rw [if_pos h1] at hn ⊢; exact (en_fin hn).up (by omega)
  · rw [if_neg h1] at hn ⊢
    by_cases h2 : mayW σ.R id (Wk.ev ⟨kd, id, d, p, .eFind, a, q, t, aid, asl⟩) = false
    · rw [if_pos h2] at hn ⊢; exact (en_fin hn).up (by omega)
    · rw [if_neg h2] at hn ⊢
      refine en_eStrikeY hn (by omega) ?_
      have h3 : mayW σ.R id (Wk.ev ⟨kd, id, d, p, .eFind, a, q, t, aid, asl⟩) = true := by simpa using h2
      unfold tryW
      rw [decide_eq_true_eq]
      exact ⟨(may_of h3).1, rfl⟩
theorem en_eStrike {s v : Nat} (h : G1 N m σ ⟨kd, id, d, p, .eStrike s v, a, q, t, aid, asl⟩) (hm : m ≤ 1600000000) : Ends1 N 6 σ ⟨kd, id, d, p, .eStrike s v, a, q, t, aid, asl⟩ := by
  by_cases ht : tryW σ.R s v (Wk.ev ⟨kd, id, d, p, .eStrike s v, a, q, t, aid, asl⟩) = true
  · exact (en_eStrikeY h (by omega) ht).up (by omega)
  · have hn := h.next (by omega)
    refine h.ends (by simp) ?_
    unfold stepC at hn ⊢
    dsimp only at hn ⊢
    rw [if_neg ht] at hn ⊢
    exact en_eFind hn (by omega)
theorem en_eBegin (h : G1 N m σ ⟨kd, id, d, p, .eBegin, a, q, t, aid, asl⟩) (hm : m ≤ 1500000000) : Ends1 N 6 σ ⟨kd, id, d, p, .eBegin, a, q, t, aid, asl⟩ := by
  have hn := h.next (by omega)
  refine h.ends (by simp) ?_
  unfold stepC at hn ⊢
  dsimp only at hn ⊢
  by_cases hc : σ.cl = true
  · rw [if_pos hc] at hn ⊢; exact (en_fin hn).up (by omega)
  · rw [if_neg hc] at hn ⊢; exact en_eFind hn (by omega)
/-- a scan: x slots on there is a free record -/
theorem en_scan (x : Nat) : ∀ (m : Nat) (q : Rq), G1 N m σ ⟨kd, id, d, p, .aTake, a, q, t, aid, asl⟩ → m + x ≤ 1500000000 → q.st = 2 → (σ.R ((q.slot + x) % N.n)).wd % 8 = 0 → Ends1 N (10 + x) σ ⟨kd, id, d, p, .aTake, a, q, t, aid, asl⟩ := by
  induction x with
  | zero =>
    intro m q h hm h2 hf
    have hn := h.next (by omega)
    have h9 := h
    obtain ⟨ks, i, g⟩ := h9
    have hss : q.ss = 0 := g.p.sg
    have hsl : q.slot < N.n := g.p.ql
    rw [Nat.add_zero, Nat.mod_eq_of_lt hsl] at hf
    obtain ⟨w1, w2, w3⟩ := g.f.wd _ hsl
    have ev := nx_alloc (w := (σ.R q.slot).wd) (q.pd != 0) w1 hf (by omega)
    have e1 : ∃ R' q', stepM N.n σ.cnt σ.R q = (σ.cnt, R', q') ∧ q'.ss = 2 := by
      exact ⟨_, _, stepM_ok N.n σ.cnt σ.R q hss h2 (by rw [ev]), rfl⟩
    obtain ⟨R', q', e1, e2⟩ := e1
    refine h.ends (x := 9) (by simp) ?_
    unfold stepC at hn ⊢
    dsimp only at hn ⊢
    rw [e1] at hn ⊢
    dsimp only at hn ⊢
    rw [if_neg (by omega), if_pos e2] at hn ⊢
    exact en_aWait 5 (m + 1) t0 hn (by omega) (tmt_le _ _).2
  | succ x ih =>
    intro m q h hm h2 hf
    have hn := h.next (by omega)
    have h9 := h
    obtain ⟨ks, i, g⟩ := h9
    have hss : q.ss = 0 := g.p.sg
    have hsl : q.slot < N.n := g.p.ql
    obtain ⟨w1, w2, w3⟩ := g.f.wd _ hsl
    refine h.ends (x := 10 + x) (by simp) ?_
    by_cases e : (σ.R q.slot).wd % 8 = 0
    · have ev := nx_alloc (w := (σ.R q.slot).wd) (q.pd != 0) w1 e (by omega)
      have e1 : ∃ R' q', stepM N.n σ.cnt σ.R q = (σ.cnt, R', q') ∧ q'.ss = 2 := by
        exact ⟨_, _, stepM_ok N.n σ.cnt σ.R q hss h2 (by rw [ev]), rfl⟩
      obtain ⟨R', q', e1, e2⟩ := e1
      unfold stepC at hn ⊢
      dsimp only at hn ⊢
      rw [e1] at hn ⊢
      dsimp only at hn ⊢
      rw [if_neg (by omega), if_pos e2] at hn ⊢
      exact (en_aWait 5 (m + 1) t0 hn (by omega) (tmt_le _ _).2).up (by omega)
    · have ev := nx_busy (w := (σ.R q.slot).wd) (q.pd != 0) w1 e
      have e1 : stepM N.n σ.cnt σ.R q = (σ.cnt, σ.R, { q with slot := (q.slot + 1) % N.n }) := by
        unfold stepM; rw [if_neg (by omega), if_neg (by omega), if_neg (by omega), if_neg (by rw [ev]; simp)]
      unfold stepC at hn ⊢
      dsimp only at hn ⊢
      rw [e1] at hn ⊢
      dsimp only at hn ⊢
      rw [if_neg (by omega), if_neg (by omega)] at hn ⊢
      refine ih (m + 1) { q with slot := (q.slot + 1) % N.n } hn (by omega) h2 ?_
      show (σ.R (((q.slot + 1) % N.n + x) % N.n)).wd % 8 = 0
      rw [Nat.mod_add_mod, show q.slot + 1 + x = q.slot + (x + 1) by omega]
      exact hf
theorem en_take2 (h : G1 N m σ ⟨kd, id, d, p, .aTake, a, q, t, aid, asl⟩) (hm : m ≤ 1400000000) (h2 : q.st = 2) : Ends1 N 74 σ ⟨kd, id, d, p, .aTake, a, q, t, aid, asl⟩ := by
  have h9 := h
  obtain ⟨ks, i, g⟩ := h9
  have hsl : q.slot < N.n := g.p.ql
  have hn := g.n
  have hl := le_sum looks ks i _ g.i
  have hl1 : looks ⟨kd, id, d, p, .aTake, a, q, t, aid, asl⟩ = 1 := by show (if q.st = 2 then 1 else 0) = 1; rw [if_pos h2]
  have hu := g.f.us
  have hc := g.f.cn
  obtain ⟨f, hf, hf0, -⟩ := first_free16 σ.R N.n (by omega)
  have hst : (σ.R f).wd % 8 = 0 := by unfold busy at hf0; split at hf0 <;> simp_all
  by_cases e : q.slot ≤ f
  · refine (en_scan (f - q.slot) m q h (by omega) h2 ?_).up (by omega)
    rw [show q.slot + (f - q.slot) = f by omega, Nat.mod_eq_of_lt hf]; exact hst
  · refine (en_scan (f + N.n - q.slot) m q h (by omega) h2 ?_).up (by omega)
    rw [show q.slot + (f + N.n - q.slot) = f + N.n by omega, Nat.add_mod_right, Nat.mod_eq_of_lt hf]; exact hst
end
end Verge
