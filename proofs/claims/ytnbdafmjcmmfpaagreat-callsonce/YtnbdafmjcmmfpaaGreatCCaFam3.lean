import Derived.Test.YtnbdafmjcmmfpaaGreatCCaFam2
import Derived.Test.YtnbdafmjcmmfpaaGreatK03
/-
  Works, without Go: each step, stage by stage, of one of many: the stages of Schedule and Periodic.
-/
namespace Verge
set_option linter.unusedVariables false
set_option linter.unusedSimpArgs false
open Go.Proofs.YtnbdafmjcmmfpaaGreat
theorem no_of {α : Type} {o o' : Option α} (h : o = none) : ∀ y, o = some y → o' = some y := fun y e => by rw [h] at e; cases e
theorem can_no {k : Wk} (h : k.kd ≠ 4 ∨ k.a.ok = false) : can k = none := by
  unfold can
  rw [if_neg]
  rintro ⟨h1, h2⟩
  rcases h with h | h
  · exact h h1
  · rw [h] at h2; cases h2
section
variable {N : Nm} {m : Nat} {σ : Wd} {ks : List Wk} {i : Nat} {k k' : Wk}
theorem Fam.lite (h : Fam N m σ ks) (hi : ks[i]? = some k) {i' : Nat} (ei : i' + ins k = σ.i + ins k') (hl : looks k' = looks k) (h1 : hold k' = none) (h2 : place N k' = none) (h3 : gid k' = none) (h4 : can k' = none)
    (h5 : k'.sg ≠ .aWait ∧ k'.sg ≠ .rWait ∧ ∀ s v, k'.sg ≠ .eStrike s v) (h6 : k'.a.ok = true → k'.a.e = 0 ∧ (3 ≤ k'.kd → k'.a.id = k'.id)) (h7 : noAns k') (h8 : k'.sg = .aTake → k'.q.st = 1 → k'.q.seen < N.n) : Fam N (m + 1) { σ with i := i' } (ks.set i k') :=
  h.quietly hi ei hl (Iv.light h1 h2 h3 h4 h5 h6 h7 h8) (no_of h1) (no_of h2) (no_of h3) (no_of h4)
/-- refused, on to a stage that ends it -/
theorem gid_ref (k : Wk) (e : Nat) (s : Sg) (hs : s = .leave ∨ s = .fin ∨ s = .aDrop ∨ s = .rNone) : gid (refW k e s) = none := by
  rcases hs with rfl | rfl | rfl | rfl <;> (unfold gid refW; simp)
theorem Fam.ref (h : Fam N m σ ks) (hi : ks[i]? = some k) {i' : Nat} {k2 : Wk} {e : Nat} {s : Sg} (ei : i' + ins k = σ.i + ins (refW k2 e s)) (hl : looks (refW k2 e s) = looks k) (hs : s = .leave ∨ s = .fin) : Fam N (m + 1) { σ with i := i' } (ks.set i (refW k2 e s)) := by
  refine h.lite hi ei hl ?_ ?_ (gid_ref _ _ _ (by rcases hs with rfl | rfl <;> simp)) (can_no (.inr rfl)) ?_ (fun e => by cases e) ?_ ?_
  · rcases hs with rfl | rfl <;> rfl
  · rcases hs with rfl | rfl <;> rfl
  · rcases hs with rfl | rfl <;> (unfold refW; simp)
  · rcases hs with rfl | rfl <;> trivial
  · rcases hs with rfl | rfl <;> (intro e; cases e)
variable {kd id d p aid asl : Nat} {a : An} {q : Rq} {t : TSt}
theorem fam_aBegin (h : Fam N m σ ks) (hi : ks[i]? = some ⟨kd, id, d, p, .aBegin, a, q, t, aid, asl⟩) (hk : kd ≤ 2) : Fam N (m + 1) σ (ks.set i ⟨kd, id, d, p, .aEnter, a, q, t, aid, asl⟩) := by
  have v := h.iv i _ hi
  exact h.lite hi (i' := σ.i) rfl rfl rfl rfl rfl (can_no (.inl (by show kd ≠ 4; omega))) ⟨by simp, by simp, by simp⟩ v.ok v.na (fun e => by cases e)
theorem fam_aCheck (h : Fam N m σ ks) (hi : ks[i]? = some ⟨kd, id, d, p, .aCheck, a, q, t, aid, asl⟩) (hk : kd ≤ 2) : Fam N (m + 1) σ (ks.set i ⟨kd, id, d, p, .aEnter, a, q, t, aid, asl⟩) := by
  have v := h.iv i _ hi
  exact h.lite hi (i' := σ.i) rfl rfl rfl rfl rfl (can_no (.inl (by show kd ≠ 4; omega))) ⟨by simp, by simp, by simp⟩ v.ok v.na (fun e => by cases e)
theorem fam_aEnter (h : Fam N m σ ks) (hi : ks[i]? = some ⟨kd, id, d, p, .aEnter, a, q, t, aid, asl⟩) (hk : kd ≤ 2) : Fam N (m + 1) { σ with i := σ.i + 1 } (ks.set i ⟨kd, id, d, p, .aAsk, a, q, t, aid, asl⟩) := by
  have v := h.iv i _ hi
  exact h.lite hi (i' := σ.i + 1) rfl rfl rfl rfl rfl (can_no (.inl (by show kd ≠ 4; omega))) ⟨by simp, by simp, by simp⟩ v.ok v.na (fun e => by cases e)
theorem fam_take0 (h : Fam N m σ ks) {sg : Sg} (hi : ks[i]? = some ⟨kd, id, d, p, sg, a, q, t, aid, asl⟩) (hk : kd ≤ 2) (ha : a.ok = false) (hs : ins ⟨kd, id, d, p, sg, a, q, t, aid, asl⟩ = 1) (hl : looks ⟨kd, id, d, p, sg, a, q, t, aid, asl⟩ = 0) {q' : Rq} (h2 : q'.st ≠ 2) (h1 : q'.st = 1 → q'.seen < N.n) : Fam N (m + 1) σ (ks.set i ⟨kd, id, d, p, .aTake, a, q', t, aid, asl⟩) := by
  have v := h.iv i _ hi
  refine h.lite hi (i' := σ.i) (by rw [hs]; rfl) (by rw [hl]; show (if q'.st = 2 then 1 else 0) = 0; rw [if_neg h2]) rfl rfl rfl (can_no (.inl (by show kd ≠ 4; omega))) ⟨by simp, by simp, by simp⟩ v.ok ha (fun _ => h1)
theorem fam_aTake (h : Fam N m σ ks) (hi : ks[i]? = some ⟨kd, id, d, p, .aTake, a, q, t, aid, asl⟩) (hk : kd ≤ 2) (hN : N.n ≤ 64) (hm : m ≤ 4000000000) (h0 : q.ss = 0) (h2 : q.st ≤ 2) (hsl : q.slot < N.n) :
    Fam N (m + 1) (stepC N σ ⟨kd, id, d, p, .aTake, a, q, t, aid, asl⟩).1 (ks.set i (stepC N σ ⟨kd, id, d, p, .aTake, a, q, t, aid, asl⟩).2) := by
  have v := h.iv i _ hi
  have ha : a.ok = false := v.na
  have hcn := h.cn
  have c : q.st = 0 ∨ q.st = 1 ∨ q.st = 2 := by omega
  unfold stepC
  dsimp only
  rcases c with c | c | c
  · have hl : looks ⟨kd, id, d, p, .aTake, a, q, t, aid, asl⟩ = 0 := by show (if q.st = 2 then 1 else 0) = 0; rw [if_neg (by omega)]
    by_cases e : σ.cnt = N.n
    · have e1 : stepM N.n σ.cnt σ.R q = (σ.cnt, σ.R, { q with seen := σ.cnt, ss := 1 }) := by unfold stepM; rw [if_neg (by omega), if_pos c, if_pos e]
      rw [e1]
      dsimp only
      rw [if_pos rfl]
      exact h.ref hi (i' := σ.i) rfl (by rw [hl]; rfl) (.inl rfl)
    · have e1 : stepM N.n σ.cnt σ.R q = (σ.cnt, σ.R, { q with seen := σ.cnt, st := 1 }) := by unfold stepM; rw [if_neg (by omega), if_pos c, if_neg e]
      rw [e1]
      dsimp only
      rw [if_neg (by omega), if_neg (by omega)]
      exact fam_take0 h hi hk ha rfl hl (by show (1 : Nat) ≠ 2; omega) (fun _ => by show σ.cnt < N.n; omega)
  · have hl : looks ⟨kd, id, d, p, .aTake, a, q, t, aid, asl⟩ = 0 := by show (if q.st = 2 then 1 else 0) = 0; rw [if_neg (by omega)]
    have hsn := v.sn rfl c
    by_cases e : σ.cnt = q.seen
    · have e1 : stepM N.n σ.cnt σ.R q = (σ.cnt + 1, σ.R, { q with st := 2 }) := by unfold stepM; rw [if_neg (by omega), if_neg (by omega), if_pos c, if_pos e]
      rw [e1]
      dsimp only
      rw [if_neg (by omega), if_neg (by omega)]
      have hsn' : q.seen < N.n := hsn
      refine h.stepped hi (σ' := { σ with cnt := σ.cnt + 1 }) (fun s _ => Rc.rfl) (fun _ => Gc.rfl) (Iv.light rfl rfl rfl (can_no (.inl (by show kd ≠ 4; omega))) ⟨by simp, by simp, by simp⟩ v.ok ha (fun _ e => by cases e)) (fun j x _ _ p => p.of (no_of rfl) (no_of rfl) (no_of rfl) (no_of (can_no (.inl (by show kd ≠ 4; omega))))) ?_ (by dsimp only; omega) rfl (fun s hs => ⟨(h.wd s hs).1, by have := (h.wd s hs).2.1; dsimp only; omega, (h.wd s hs).2.2⟩) h.rg
      rw [hl]
      show used σ.R N.n + 1 + σ.cnt = used σ.R N.n + 0 + (σ.cnt + 1)
      omega
    · have e1 : stepM N.n σ.cnt σ.R q = (σ.cnt, σ.R, { q with st := 0 }) := by unfold stepM; rw [if_neg (by omega), if_neg (by omega), if_pos c, if_neg e]
      rw [e1]
      dsimp only
      rw [if_neg (by omega), if_neg (by omega)]
      exact fam_take0 h hi hk ha rfl hl (by show (0 : Nat) ≠ 2; omega) (fun e => by cases e)
  · have hl : looks ⟨kd, id, d, p, .aTake, a, q, t, aid, asl⟩ = 1 := by show (if q.st = 2 then 1 else 0) = 1; rw [if_pos c]
    have hwd := h.wd q.slot hsl
    by_cases e : (σ.R q.slot).wd % 8 = 0
    · have ev := nx_alloc (w := (σ.R q.slot).wd) (q.pd != 0) hwd.1 e (by omega)
      have e1 : stepM N.n σ.cnt σ.R q = (σ.cnt, upR σ.R q.slot ⟨mkW 1 ((σ.R q.slot).wd / 256 + 1) false, (σ.R q.slot).gv + 1, q.pd⟩, { q with id := ((σ.R q.slot).gv + 1) * 64 + q.slot, ss := 2 }) := by
        unfold stepM; rw [if_neg (by omega), if_neg (by omega), if_neg (by omega), if_pos (by rw [ev])]; rw [ev]
      rw [e1]
      dsimp only
      rw [if_neg (by omega), if_pos rfl]
      have hmod : (((σ.R q.slot).gv + 1) * 64 + q.slot) % 64 = q.slot := by omega
      have hdiv : (((σ.R q.slot).gv + 1) * 64 + q.slot) / 64 = (σ.R q.slot).gv + 1 := by omega
      rw [hmod]
      refine h.worded hi (k' := ⟨kd, id, d, p, .aWait, a, { q with id := ((σ.R q.slot).gv + 1) * 64 + q.slot, ss := 2 }, t0, ((σ.R q.slot).gv + 1) * 64 + q.slot, q.slot⟩) hsl ⟨mkW 1 ((σ.R q.slot).wd / 256 + 1) false, (σ.R q.slot).gv + 1, q.pd⟩ (.inr (.inl ⟨e, mkW_st _ _ _ (by omega), rfl, mkW_gn _ _ _ (by omega)⟩)) (mkW_ok _ _ _ (by omega) (by omega)) (by rw [mkW_gn _ _ _ (by omega)]; omega) (.inr (.inl (mkW_st _ _ _ (by omega)))) rfl ?_ ?_ ?_
      · rw [hl]
        show busy _ + 0 = busy (σ.R q.slot) + 1
        unfold busy
        rw [if_pos e, if_neg (by rw [mkW_st _ _ _ (by omega)]; omega)]
      · refine ⟨fun s x e2 => ?_, fun _ _ e2 => (by cases e2), fun _ e2 => (by cases e2), fun x e2 => ?_, fun x e2 => (by rw [can_no (.inl (by show kd ≠ 4; omega))] at e2; cases e2), fun _ _ _ e2 => (by cases e2), v.ok, ha, fun e2 => (by cases e2)⟩
        · cases e2
          refine ⟨hsl, ?_⟩
          show (upR σ.R q.slot _ q.slot).wd % 8 = 1
          rw [upR_same]
          exact mkW_st _ _ _ (by omega)
        · cases e2
          rw [hmod, hdiv]
          refine ⟨hsl, ?_⟩
          show (σ.R q.slot).gv + 1 ≤ (upR σ.R q.slot _ q.slot).gv
          rw [upR_same]
          exact Nat.le_refl _
      · intro j y hj hy pr
        have vy := h.iv j y hy
        refine ⟨fun s x z e2 e3 => ?_, fun _ e2 => (by cases e2), fun x e2 e3 => ?_, fun x e2 => (by rw [can_no (.inl (by show kd ≠ 4; omega))] at e2; cases e2)⟩
        · have e4 : s = q.slot := by cases e2; rfl
          rw [e4] at e3
          have h1 := (vy.hd _ _ e3).2
          have h3 := hold_st e3
          omega
        · cases e2
          have h1 := (vy.gd _ e3).2
          rw [hmod, hdiv] at h1
          omega
    · have ev := nx_busy (w := (σ.R q.slot).wd) (q.pd != 0) hwd.1 e
      have e1 : stepM N.n σ.cnt σ.R q = (σ.cnt, σ.R, { q with slot := (q.slot + 1) % N.n }) := by
        unfold stepM; rw [if_neg (by omega), if_neg (by omega), if_neg (by omega), if_neg (by rw [ev]; simp)]
      rw [e1]
      dsimp only
      rw [if_neg (by omega), if_neg (by omega)]
      refine h.lite hi (i' := σ.i) rfl (by rw [hl]; show (if q.st = 2 then 1 else 0) = 1; rw [if_pos c]) rfl rfl rfl (can_no (.inl (by show kd ≠ 4; omega))) ⟨by simp, by simp, by simp⟩ v.ok ha (fun _ e => by have e' : q.st = 1 := e; omega)
end
end Verge
