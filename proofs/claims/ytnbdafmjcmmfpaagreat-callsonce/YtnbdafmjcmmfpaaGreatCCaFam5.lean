import Derived.Test.YtnbdafmjcmmfpaaGreatCCaFam4
/-
  Works, without Go: each step, stage by stage, of one of many: words; and all stages together.
-/
namespace Verge
set_option linter.unusedVariables false
set_option linter.unusedSimpArgs false
open Go.Proofs.YtnbdafmjcmmfpaaGreat
theorem may_word4 {w ev : Nat} {per : Bool} (hok : okW w = true) (hs : w % 8 = 0 ∨ w % 8 = 1 ∨ w % 8 = 2 ∨ w % 8 = 5) (hev : ev = 6 ∨ ev = 7 ∨ ev = 8) (hg : w / 256 + 1 ≤ 4294967295) (h : (nxZ w ev per).2 = 0) :
    w % 8 = 2 ∧ nxZ w ev per = (mkW (if ev = 6 then 5 else 2) (w / 256 + (if ev = 8 then 1 else 0)) (if ev = 7 then true else lsW w), 0) := by
  by_cases c : w % 8 = 0 ∨ w % 8 = 2
  · exact may_word hok c hev hg h
  · exfalso
    have c2 : w % 8 = 1 ∨ w % 8 = 5 := by omega
    rw [nxZ_nat] at h
    rcases c2 with s | s <;> rcases hev with rfl | rfl | rfl <;> (unfold nxW at h; rw [if_neg (by rw [hok]; simp), if_neg (by omega), s] at h; simp [mayF] at h)
theorem gv_up (R : Nat → Rec) (s j : Nat) (w p : Nat) : (upR R s ⟨w, (R s).gv, p⟩ j).gv = (R j).gv := by
  by_cases e : j = s
  · subst e; rw [upR_same]
  · rw [upR_other _ _ e]
theorem gid_no {k : Wk} (h : k.sg = .leave ∨ k.sg = .fin ∨ k.sg = .over) (h2 : 2 < k.kd ∨ k.a.ok = false) : gid k = none := by
  have e : ¬ (k.kd ≤ 2 ∧ k.a.ok = true) := by
    rintro ⟨a, b⟩
    rcases h2 with q | q
    · omega
    · rw [q] at b; cases b
  unfold gid
  rcases h with h | h | h <;> (rw [h]; dsimp only; rw [if_neg e])
section
variable {N : Nm} {m : Nat} {σ : Wd} {ks : List Wk} {i : Nat} {k k' : Wk}
variable {kd id d p aid asl : Nat} {a : An} {q : Rq} {t : TSt}
theorem fam_aGive (h : Fam N m σ ks) (hm : m ≤ 4000000000) (hi : ks[i]? = some ⟨kd, id, d, p, .aGive, a, q, t, aid, asl⟩) (hk : kd ≤ 2) :
    Fam N (m + 1) (stepC N σ ⟨kd, id, d, p, .aGive, a, q, t, aid, asl⟩).1 (ks.set i (stepC N σ ⟨kd, id, d, p, .aGive, a, q, t, aid, asl⟩).2) := by
  have v := h.iv i _ hi
  obtain ⟨hs, h1⟩ := v.hd asl 1 rfl
  obtain ⟨w1, w2, w3⟩ := h.wd asl hs
  have hv : nxZ (σ.R asl).wd 9 ((σ.R asl).pd != 0) = (mkW 0 ((σ.R asl).wd / 256) (lsW (σ.R asl).wd), 0) := by
    refine (nxZ_at _ 9 _).trans ((nx_go w1 (by omega) (by rw [h1]; rfl) (by omega)).trans ?_)
    rw [h1]; rfl
  show Fam N (m + 1) { σ with R := hapR σ.R asl 9 } (ks.set i (refW ⟨kd, id, d, p, .aGive, a, q, t, aid, asl⟩ 2 .aDrop))
  rw [(hap_at hv).1]
  refine h.worded hi hs _ (.inr (.inr ⟨rfl, by rw [mkW_gn _ _ _ (by omega)]; exact Nat.le_refl _, .inl ⟨h1, rfl⟩⟩)) (mkW_ok _ _ _ (by omega) (by omega)) (by rw [mkW_gn _ _ _ (by omega)]; omega) (.inl (mkW_st _ _ _ (by omega))) rfl ?_ (Iv.light rfl rfl rfl (can_no (.inr rfl)) ⟨by simp [refW], by simp [refW], by simp [refW]⟩ (fun e => by cases e) rfl (fun e => by cases e)) (fun j y _ _ pr => pr.of (no_of rfl) (no_of rfl) (no_of rfl) (no_of (can_no (.inr rfl))))
  show busy _ + 1 = busy (σ.R asl) + 0
  unfold busy
  rw [if_pos (mkW_st _ _ _ (by omega)), if_neg (by omega)]
theorem fam_aSubmit (h : Fam N m σ ks) (hm : m ≤ 4000000000) (hi : ks[i]? = some ⟨kd, id, d, p, .aSubmit, a, q, t, aid, asl⟩) (hk : kd ≤ 2) :
    Fam N (m + 1) (stepC N σ ⟨kd, id, d, p, .aSubmit, a, q, t, aid, asl⟩).1 (ks.set i (stepC N σ ⟨kd, id, d, p, .aSubmit, a, q, t, aid, asl⟩).2) := by
  have v := h.iv i _ hi
  obtain ⟨hs, h1⟩ := v.hd asl 1 rfl
  obtain ⟨w1, w2, w3⟩ := h.wd asl hs
  have hv : nxZ (σ.R asl).wd 2 ((σ.R asl).pd != 0) = (mkW 2 ((σ.R asl).wd / 256) (lsW (σ.R asl).wd), 0) := by
    refine (nxZ_at _ 2 _).trans ((nx_go w1 (by omega) (by rw [h1]; rfl) (by omega)).trans ?_)
    rw [h1]; rfl
  show Fam N (m + 1) { σ with R := hapR σ.R asl 2 } (ks.set i ⟨kd, id, d, p, .aFill (gnW (hapW σ.R asl 2)), a, q, t, aid, asl⟩)
  rw [(hap_at hv).1]
  refine h.worded hi hs _ (.inr (.inr ⟨rfl, by rw [mkW_gn _ _ _ (by omega)]; exact Nat.le_refl _, .inl ⟨h1, rfl⟩⟩)) (mkW_ok _ _ _ (by omega) (by omega)) (by rw [mkW_gn _ _ _ (by omega)]; omega) (.inr (.inr (.inl (mkW_st _ _ _ (by omega))))) rfl ?_ ⟨fun _ _ e => (by cases e), v.pl, fun e => (by rcases e with e | e <;> cases e), fun x e => ?_, fun y e => (by rw [can_no (.inl (by show kd ≠ 4; omega))] at e; cases e), fun _ _ _ e => (by cases e), v.ok, v.na, fun e => (by cases e)⟩ (fun j y _ _ pr => pr.of (no_of rfl) (fun y e => e) (fun y e => e) (fun y e => e))
  · show busy _ + 0 = busy (σ.R asl) + 0
    unfold busy
    rw [if_neg (by rw [mkW_st _ _ _ (by omega)]; omega), if_neg (by omega)]
  · have := v.gd x e
    dsimp only
    rw [gv_up]
    exact this
theorem fam_eRelease (h : Fam N m σ ks) (hm : m ≤ 4000000000) {s : Nat} (hi : ks[i]? = some ⟨kd, id, d, p, .eRelease s, a, q, t, aid, asl⟩) (hk : kd = 4) :
    Fam N (m + 1) (stepC N σ ⟨kd, id, d, p, .eRelease s, a, q, t, aid, asl⟩).1 (ks.set i (stepC N σ ⟨kd, id, d, p, .eRelease s, a, q, t, aid, asl⟩).2) := by
  have v := h.iv i _ hi
  obtain ⟨hs, h1⟩ := v.hd s 5 rfl
  obtain ⟨w1, w2, w3⟩ := h.wd s hs
  have hv : nxZ (σ.R s).wd 10 ((σ.R s).pd != 0) = (mkW 0 ((σ.R s).wd / 256) false, 0) := by
    refine (nxZ_at _ 10 _).trans ((nx_go w1 (by omega) (by rw [h1]; rfl) (by omega)).trans ?_)
    rw [h1]; rfl
  show Fam N (m + 1) { σ with R := hapR σ.R s 10 } (ks.set i ⟨kd, id, d, p, .eDrop, a, q, t, aid, asl⟩)
  rw [(hap_at hv).1]
  refine h.worded hi hs _ (.inr (.inr ⟨rfl, by rw [mkW_gn _ _ _ (by omega)]; exact Nat.le_refl _, .inr (.inl ⟨h1, rfl, mkW_st _ _ _ (by omega)⟩)⟩)) (mkW_ok _ _ _ (by omega) (by omega)) (by rw [mkW_gn _ _ _ (by omega)]; omega) (.inl (mkW_st _ _ _ (by omega))) rfl ?_ ⟨fun _ _ e => (by cases e), fun _ _ e => (by cases e), fun e => (by rcases e with e | e <;> cases e), fun x e => (by cases e), fun x e => ?_, fun _ _ _ e => (by cases e), v.ok, trivial, fun e => (by cases e)⟩ (fun j y _ _ pr => pr.of (no_of rfl) (no_of rfl) (no_of rfl) (fun y e => e))
  · show busy _ + 1 = busy (σ.R s) + 0
    unfold busy
    rw [if_pos (mkW_st _ _ _ (by omega)), if_neg (by omega)]
  · obtain ⟨c1, c2⟩ := v.cn x e
    refine ⟨c1, ?_⟩
    dsimp only
    rw [gv_up]
    rcases c2 with c2 | ⟨c2, c3⟩
    · exact .inl c2
    · refine .inr ⟨c2, ?_⟩
      by_cases e2 : x % 64 = s
      · rw [e2, upR_same]; exact .inr (mkW_st _ _ _ (by omega))
      · rw [upR_other _ _ e2]; exact c3
/-- a try of an old word that succeeds -/
theorem try_word (h : Fam N m σ ks) (hm : m ≤ 4000000000) {s v ev : Nat} (hs : s < N.n) (hev : ev = 6 ∨ ev = 7 ∨ ev = 8) (ht : tryW σ.R s v ev = true) :
    (σ.R s).wd = v ∧ (σ.R s).wd % 8 = 2 ∧ hapR σ.R s ev = upR σ.R s ⟨mkW (if ev = 6 then 5 else 2) ((σ.R s).wd / 256 + (if ev = 8 then 1 else 0)) (if ev = 7 then true else lsW (σ.R s).wd), (σ.R s).gv, (σ.R s).pd⟩ := by
  unfold tryW at ht
  rw [decide_eq_true_eq] at ht
  obtain ⟨h1, h2⟩ := ht
  obtain ⟨w1, w2, w3⟩ := h.wd s hs
  rw [← h2] at h1
  obtain ⟨c1, c2⟩ := may_word4 w1 w3 hev (by omega) h1
  exact ⟨h2, c1, (hap_at c2).1⟩
theorem fam_rChange (h : Fam N m σ ks) (hm : m ≤ 4000000000) {s v : Nat} (hi : ks[i]? = some ⟨kd, id, d, p, .rChange s v, a, q, t, aid, asl⟩) (hk : kd = 3) (hs : s < N.n) :
    Fam N (m + 1) (stepC N σ ⟨kd, id, d, p, .rChange s v, a, q, t, aid, asl⟩).1 (ks.set i (stepC N σ ⟨kd, id, d, p, .rChange s v, a, q, t, aid, asl⟩).2) := by
  have iv := h.iv i _ hi
  have hc : ∀ a', can ⟨kd, id, d, p, .rFill s (gnW (hapW σ.R s 8)), a', q, t, aid, asl⟩ = none := fun a' => can_no (.inl (by show kd ≠ 4; omega))
  unfold stepC
  dsimp only
  by_cases e : tryW σ.R s v 8 = true
  · rw [if_pos e]
    obtain ⟨e1, e2, e3⟩ := try_word h hm hs (ev := 8) (by omega) e
    obtain ⟨w1, w2, w3⟩ := h.wd s hs
    show Fam N (m + 1) { σ with R := hapR σ.R s 8 } (ks.set i ⟨kd, id, d, p, .rFill s (gnW (hapW σ.R s 8)), ⟨0, true, id, gnW (hapW σ.R s 8)⟩, q, t, aid, asl⟩)
    rw [show hapR σ.R s 8 = _ from e3, if_neg (by omega), if_pos rfl, if_neg (by omega)]
    refine h.worded hi hs _ (.inr (.inr ⟨rfl, by rw [mkW_gn _ _ _ (by omega)]; omega, .inr (.inr e2)⟩)) (mkW_ok _ _ _ (by omega) (by omega)) (by rw [mkW_gn _ _ _ (by omega)]; omega) (.inr (.inr (.inl (mkW_st _ _ _ (by omega))))) rfl ?_ ⟨fun _ _ e => (by cases e), iv.pl, fun e => (by rcases e with e | e <;> cases e), fun x e => (by cases e), fun x e => (by rw [hc] at e; cases e), fun _ _ _ e => (by cases e), fun _ => ⟨rfl, fun _ => rfl⟩, trivial, fun e => (by cases e)⟩ (fun j y _ _ pr => pr.of (no_of rfl) (fun y e => e) (no_of rfl) (no_of (hc _)))
    show busy _ + 0 = busy (σ.R s) + 0
    unfold busy
    rw [if_neg (by rw [mkW_st _ _ _ (by omega)]; omega), if_neg (by omega)]
  · rw [if_neg e]
    exact h.quietly hi (i' := σ.i) rfl rfl ⟨fun _ _ e => (by cases e), iv.pl, fun e => (by rcases e with e | e <;> cases e), fun x e => (by cases e), iv.cn, fun _ _ _ e => (by cases e), iv.ok, iv.na, fun e => (by cases e)⟩ (fun y e => e) (fun y e => e) (fun y e => e) (fun y e => e)
theorem fam_eStrike (h : Fam N m σ ks) (hm : m ≤ 4000000000) {s v : Nat} (hi : ks[i]? = some ⟨kd, id, d, p, .eStrike s v, a, q, t, aid, asl⟩) (hk : kd = 4 ∨ kd = 5) (hs : s < N.n) :
    Fam N (m + 1) (stepC N σ ⟨kd, id, d, p, .eStrike s v, a, q, t, aid, asl⟩).1 (ks.set i (stepC N σ ⟨kd, id, d, p, .eStrike s v, a, q, t, aid, asl⟩).2) := by
  have iv := h.iv i _ hi
  have ha : a.ok = false := iv.na
  unfold stepC
  dsimp only
  by_cases e : tryW σ.R s v (Wk.ev ⟨kd, id, d, p, .eStrike s v, a, q, t, aid, asl⟩) = true
  · rw [if_pos e]
    obtain ⟨w1, w2, w3⟩ := h.wd s hs
    rcases hk with rfl | rfl
    · obtain ⟨e1, e2, e3⟩ := try_word h hm hs (ev := 6) (by omega) e
      obtain ⟨s1, -, -, -, s5⟩ := iv.st s v rfl rfl
      have s1' : s = id % 64 := s1
      have s6 : id / 64 = (σ.R s).gv := s5.elim (fun q => q) (fun q => by rw [e1] at q; omega)
      have hmk : (mkW 5 ((σ.R s).wd / 256) (lsW (σ.R s).wd)) % 8 = 5 := mkW_st _ _ _ (by omega)
      rw [if_pos rfl]
      show Fam N (m + 1) { σ with R := hapR σ.R s 6 } (ks.set i ⟨4, id, d, p, .eRelease s, ⟨0, true, id, gnW (hapW σ.R s 6)⟩, q, t, aid, asl⟩)
      rw [show hapR σ.R s 6 = _ from e3, if_pos rfl, if_neg (by omega), if_neg (by omega), Nat.add_zero]
      refine h.worded hi hs _ (.inr (.inr ⟨rfl, by rw [mkW_gn _ _ _ (by omega)]; omega, .inr (.inr e2)⟩)) (mkW_ok _ _ _ (by omega) (by omega)) (by rw [mkW_gn _ _ _ (by omega)]; omega) (.inr (.inr (.inr hmk))) rfl ?_ ⟨fun x y e => ?_, fun _ _ e => (by cases e), fun e => (by rcases e with e | e <;> cases e), fun x e => (by cases e), fun x e => ?_, fun _ _ _ e => (by cases e), fun _ => ⟨rfl, fun _ => rfl⟩, trivial, fun e => (by cases e)⟩ (fun j y hj hy pr => ⟨fun x z w e e4 => ?_, fun _ e => (by cases e), fun _ e => (by cases e), fun x e e4 => ?_⟩)
      · show busy _ + 0 = busy (σ.R s) + 0
        unfold busy
        rw [if_neg (by rw [mkW_st _ _ _ (by omega)]; omega), if_neg (by omega)]
      · have e5 : x = s ∧ y = 5 := by cases e; exact ⟨rfl, rfl⟩
        rw [e5.1, e5.2]
        refine ⟨hs, ?_⟩
        dsimp only
        rw [upR_same]
        exact hmk
      · have e5 : x = id := by cases e; rfl
        rw [e5, ← s1']
        dsimp only
        rw [upR_same]
        exact ⟨hs, .inr ⟨s6, .inl hmk⟩⟩
      · have e5 : x = s := by cases e; rfl
        rw [e5] at e4
        have h4 := ((h.iv j y hy).hd _ _ e4).2
        have h5 := hold_st e4
        omega
      · have e5 : x = id := by cases e; rfl
        rw [e5] at e4
        have h4 := ((h.iv j y hy).cn _ e4).2
        rw [← s1'] at h4
        omega
    · obtain ⟨e1, e2, e3⟩ := try_word h hm hs (ev := 7) (by omega) e
      rw [if_neg (by omega)]
      show Fam N (m + 1) { σ with R := hapR σ.R s 7 } (ks.set i ⟨5, id, d, p, .fin, ⟨0, true, id, gnW (hapW σ.R s 7)⟩, q, t, aid, asl⟩)
      rw [show hapR σ.R s 7 = _ from e3, if_neg (by omega), if_neg (by omega), if_pos rfl, Nat.add_zero]
      refine h.worded hi hs _ (.inr (.inr ⟨rfl, by rw [mkW_gn _ _ _ (by omega)]; omega, .inr (.inr e2)⟩)) (mkW_ok _ _ _ (by omega) (by omega)) (by rw [mkW_gn _ _ _ (by omega)]; omega) (.inr (.inr (.inl (mkW_st _ _ _ (by omega))))) rfl ?_ (Iv.light rfl rfl (gid_no (.inr (.inl rfl)) (.inl (by show 2 < 5; omega))) (can_no (.inl (by show (5 : Nat) ≠ 4; omega))) ⟨by simp, by simp, by simp⟩ (fun _ => ⟨rfl, fun _ => rfl⟩) trivial (fun e => by cases e)) (fun j y _ _ pr => pr.of (no_of rfl) (no_of rfl) (no_of (gid_no (.inr (.inl rfl)) (.inl (by show 2 < 5; omega)))) (no_of (can_no (.inl (by show (5 : Nat) ≠ 4; omega)))))
      show busy _ + 0 = busy (σ.R s) + 0
      unfold busy
      rw [if_neg (by rw [mkW_st _ _ _ (by omega)]; omega), if_neg (by omega)]
  · rw [if_neg e]
    exact h.lite hi (i' := σ.i) rfl rfl rfl rfl rfl (can_no (.inr ha)) ⟨by simp, by simp, by simp⟩ iv.ok ha (fun e => by cases e)
end
end Verge
