import Derived.Test.YtnbdafmjcmmfpaaGreatCCaFam9
/-
  Works, without Go: of many, each alone comes to its end within 90 steps; what holds of all then; what was answered.
-/
namespace Verge
set_option linter.unusedVariables false
set_option linter.unusedSimpArgs false
open Go.Proofs.YtnbdafmjcmmfpaaGreat
theorem set_same (ks : List Wk) (i : Nat) (k : Wk) (h : ks[i]? = some k) : ks.set i k = ks := by
  apply List.ext_getElem?
  intro j
  by_cases e : j = i
  · subst e
    rw [List.getElem?_set_self (List.getElem?_eq_some_iff.1 h).1]; exact h.symm
  · rw [List.getElem?_set_ne (fun q => e q.symm)]
section
variable {N : Nm} {m x x' : Nat} {σ σ' : Wd} {k k' : Wk} {ks : List Wk} {i : Nat}
variable {kd id d p aid asl : Nat} {a : An} {q : Rq} {t : TSt}
theorem en_take1 (h : G1 N m σ ⟨kd, id, d, p, .aTake, a, q, t, aid, asl⟩) (hm : m ≤ 1300000000) (h1 : q.st = 1) (h2 : σ.cnt = q.seen) : Ends1 N 75 σ ⟨kd, id, d, p, .aTake, a, q, t, aid, asl⟩ := by
  have hn := h.next (by omega)
  have h9 := h
  obtain ⟨ks, i, g⟩ := h9
  have hss : q.ss = 0 := g.p.sg
  refine h.ends (x := 74) (by simp) ?_
  have e1 : stepM N.n σ.cnt σ.R q = (σ.cnt + 1, σ.R, { q with st := 2 }) := by unfold stepM; rw [if_neg (by omega), if_neg (by omega), if_pos h1, if_pos h2]
  unfold stepC at hn ⊢
  dsimp only at hn ⊢
  rw [e1] at hn ⊢
  dsimp only at hn ⊢
  rw [if_neg (by omega), if_neg (by omega)] at hn ⊢
  exact en_take2 hn (by omega) rfl
theorem en_take0 (h : G1 N m σ ⟨kd, id, d, p, .aTake, a, q, t, aid, asl⟩) (hm : m ≤ 1200000000) (h1 : q.st = 0) : Ends1 N 76 σ ⟨kd, id, d, p, .aTake, a, q, t, aid, asl⟩ := by
  have hn := h.next (by omega)
  have h9 := h
  obtain ⟨ks, i, g⟩ := h9
  have hss : q.ss = 0 := g.p.sg
  refine h.ends (x := 75) (by simp) ?_
  by_cases e : σ.cnt = N.n
  · have e1 : stepM N.n σ.cnt σ.R q = (σ.cnt, σ.R, { q with seen := σ.cnt, ss := 1 }) := by unfold stepM; rw [if_neg (by omega), if_pos h1, if_pos e]
    unfold stepC at hn ⊢
    dsimp only at hn ⊢
    rw [e1] at hn ⊢
    dsimp only at hn ⊢
    rw [if_pos rfl] at hn ⊢
    exact (en_leave hn (by omega)).up (by omega)
  · have e1 : stepM N.n σ.cnt σ.R q = (σ.cnt, σ.R, { q with seen := σ.cnt, st := 1 }) := by unfold stepM; rw [if_neg (by omega), if_pos h1, if_neg e]
    unfold stepC at hn ⊢
    dsimp only at hn ⊢
    rw [e1] at hn ⊢
    dsimp only at hn ⊢
    rw [if_neg (by omega), if_neg (by omega)] at hn ⊢
    exact en_take1 hn (by omega) rfl rfl
theorem en_take (h : G1 N m σ ⟨kd, id, d, p, .aTake, a, q, t, aid, asl⟩) (hm : m ≤ 1100000000) : Ends1 N 77 σ ⟨kd, id, d, p, .aTake, a, q, t, aid, asl⟩ := by
  have h9 := h
  obtain ⟨ks, i, g⟩ := h9
  have hss : q.ss = 0 := g.p.sg
  have hst : q.st ≤ 2 := g.p.qs
  have c : q.st = 0 ∨ q.st = 1 ∨ q.st = 2 := by omega
  rcases c with c | c | c
  · exact (en_take0 h (by omega) c).up (by omega)
  · by_cases e : σ.cnt = q.seen
    · exact (en_take1 h (by omega) c e).up (by omega)
    · have hn := h.next (by omega)
      refine h.ends (x := 76) (by simp) ?_
      have e1 : stepM N.n σ.cnt σ.R q = (σ.cnt, σ.R, { q with st := 0 }) := by unfold stepM; rw [if_neg (by omega), if_neg (by omega), if_pos c, if_neg e]
      unfold stepC at hn ⊢
      dsimp only at hn ⊢
      rw [e1] at hn ⊢
      dsimp only at hn ⊢
      rw [if_neg (by omega), if_neg (by omega)] at hn ⊢
      exact en_take0 hn (by omega) rfl
  · exact (en_take2 h (by omega) c).up (by omega)
theorem en_aAsk (h : G1 N m σ ⟨kd, id, d, p, .aAsk, a, q, t, aid, asl⟩) (hm : m ≤ 1000000000) : Ends1 N 78 σ ⟨kd, id, d, p, .aAsk, a, q, t, aid, asl⟩ := by
  have hn := h.next (by omega)
  refine h.ends (by simp) ?_
  unfold stepC at hn ⊢
  dsimp only at hn ⊢
  by_cases hc : σ.cl = true
  · rw [if_pos hc] at hn ⊢; exact (en_leave hn (by omega)).up (by omega)
  · rw [if_neg hc] at hn ⊢; exact en_take hn (by omega)
theorem en_aEnter (h : G1 N m σ ⟨kd, id, d, p, .aEnter, a, q, t, aid, asl⟩) (hm : m ≤ 900000000) : Ends1 N 79 σ ⟨kd, id, d, p, .aEnter, a, q, t, aid, asl⟩ :=
  h.ends (by simp) (en_aAsk (h.next (by omega)) (by omega))
theorem en_aBegin (h : G1 N m σ ⟨kd, id, d, p, .aBegin, a, q, t, aid, asl⟩) (hm : m ≤ 800000000) : Ends1 N 80 σ ⟨kd, id, d, p, .aBegin, a, q, t, aid, asl⟩ :=
  h.ends (by simp) (en_aEnter (h.next (by omega)) (by omega))
theorem en_aCheck (h : G1 N m σ ⟨kd, id, d, p, .aCheck, a, q, t, aid, asl⟩) (hm : m ≤ 800000000) : Ends1 N 80 σ ⟨kd, id, d, p, .aCheck, a, q, t, aid, asl⟩ := by
  have hn := h.next (by omega)
  refine h.ends (by simp) ?_
  unfold stepC at hn ⊢
  dsimp only at hn ⊢
  split at hn
  · rename_i hc
    rw [if_pos hc]; exact (en_fin hn).up (by omega)
  · rename_i hc
    rw [if_neg hc]; exact en_aEnter hn (by omega)
/-- each ends -/
theorem ends_any (h : G1 N m σ k) (hm : m ≤ 700000000) : Ends1 N 80 σ k := by
  obtain ⟨kd, id, d, p, sg, a, q, t, aid, asl⟩ := k
  cases sg with
  | aBegin => exact en_aBegin h (by omega)
  | aCheck => exact en_aCheck h (by omega)
  | aEnter => exact (en_aEnter h (by omega)).up (by omega)
  | aAsk => exact (en_aAsk h (by omega)).up (by omega)
  | aTake => exact (en_take h (by omega)).up (by omega)
  | aWait => exact (en_aWait 5 m t h (by omega) (tmt_le _ _).2).up (by omega)
  | aGive => exact (en_aGive h (by omega)).up (by omega)
  | aDrop => exact (en_aDrop h (by omega)).up (by omega)
  | aSubmit => exact (en_aSubmit h (by omega)).up (by omega)
  | aFill g => exact (en_aFill h (by omega)).up (by omega)
  | rEnter => exact (en_rEnter h (by omega)).up (by omega)
  | rBegin => exact (en_rBegin h (by omega)).up (by omega)
  | rFind => exact (en_rFind h (by omega)).up (by omega)
  | rWait => exact (en_rWait 5 m t h (by omega) (tmt_le _ _).2).up (by omega)
  | rAgain => exact (en_rAgain h (by omega)).up (by omega)
  | rChange s v => exact (en_rChange h (by omega)).up (by omega)
  | rFill s g => exact (en_rFill h (by omega)).up (by omega)
  | rNone => exact (en_rNone h (by omega)).up (by omega)
  | eBegin => exact (en_eBegin h (by omega)).up (by omega)
  | eFind => exact (en_eFind h (by omega)).up (by omega)
  | eStrike s v => exact (en_eStrike h (by omega)).up (by omega)
  | eRelease s => exact (en_eRelease h (by omega)).up (by omega)
  | eDrop => exact (en_eDrop h (by omega)).up (by omega)
  | leave => exact (en_leave h (by omega)).up (by omega)
  | fin => exact (en_fin h).up (by omega)
  | over => exact ⟨0, by omega, _, _, rfl, rfl, rfl⟩
/-- what holds of all, along a path -/
theorem Go1.path (h : Go1 N m σ ks i k) (y : Nat) (hp : Path N y σ k σ' k') (hm : m + y ≤ 3000000000) : Go1 N (m + y) σ' (ks.set i k') i k' ∧ k'.sg = .over := by
  induction y generalizing m σ ks k with
  | zero =>
    obtain ⟨rfl, rfl, e⟩ := hp
    refine ⟨?_, e⟩
    rw [show ks.set i k' = ks from set_same ks i k' h.i]
    exact h
  | succ y ih =>
    obtain ⟨-, -, -, h4⟩ := hp
    have hs := ih (h.step (by omega)) h4 (by omega)
    rw [List.set_set, show m + 1 + y = m + (y + 1) by omega] at hs
    exact hs
/-- of the numbers that were given, no two are one; of those that were cancelled neither -/
theorem Fam.given (h : Fam N m σ ks) {j : Nat} {k k' : Wk} (hi : ks[i]? = some k) (hj : ks[j]? = some k') (ne : i ≠ j) (o : k.sg = .over) (o' : k'.sg = .over) (e : k.kd ≤ 2 ∧ k.a.ok = true) (e' : k'.kd ≤ 2 ∧ k'.a.ok = true) : k.a.id ≠ k'.a.id := by
  have p := h.pr i j k k' ne hi hj
  have g1 : gid k = some k.a.id := by unfold gid; rw [o]; dsimp only; rw [if_pos e]
  have g2 : gid k' = some k'.a.id := by unfold gid; rw [o']; dsimp only; rw [if_pos e']
  intro q
  exact p.gd _ g1 (by rw [g2, q])
theorem Fam.gone (h : Fam N m σ ks) {j : Nat} {k k' : Wk} (hi : ks[i]? = some k) (hj : ks[j]? = some k') (ne : i ≠ j) (e : k.kd = 4 ∧ k.a.ok = true) (e' : k'.kd = 4 ∧ k'.a.ok = true) : k.a.id ≠ k'.a.id := by
  have p := h.pr i j k k' ne hi hj
  have g1 : can k = some k.id := by unfold can; rw [if_pos e]
  have g2 : can k' = some k'.id := by unfold can; rw [if_pos e']
  have v1 := ((h.iv i k hi).ok e.2).2 (by omega)
  have v2 := ((h.iv j k' hj).ok e'.2).2 (by omega)
  intro q
  exact p.cn _ g1 (by rw [g2, ← v1, ← v2, q])
/-- all are over: nobody is inside -/
theorem Fam.out (h : Fam N m σ ks) (ho : ∀ k ∈ ks, k.sg = .over) : σ.i = 0 := by
  rw [h.i]
  clear h
  induction ks with
  | nil => rfl
  | cons k ks ih =>
    rw [List.map_cons, List.sum_cons, ih (fun x hx => ho x (List.mem_cons_of_mem _ hx))]
    have : ins k = 0 := by unfold ins; rw [ho k List.mem_cons_self]
    omega
end
end Verge
