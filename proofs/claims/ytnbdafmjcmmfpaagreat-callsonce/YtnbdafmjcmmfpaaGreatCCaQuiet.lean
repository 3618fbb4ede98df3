import Derived.Test.YtnbdafmjcmmfpaaGreatK24
/-
  Works, without Go: what a call alone comes to, of any floor on which calls ran alone.
-/
namespace Verge
set_option linter.unusedVariables false
open Go.Proofs.YtnbdafmjcmmfpaaGreat
/-- a word's state, as it is told -/
def stW (w : Nat) : Nat := if okW w = true then w % 8 else 0
def wt (σ : Wd) : Nat := (σ.g 0).nx + (σ.g 1).nx
structure Outc (N : Nm) (m : Nat) (σ σ' : Wd) (kd : Nat) (a : An) : Prop where
  q : Qt N (m + 1) σ'
  i : σ'.i = σ.i
  cl : σ'.cl = σ.cl
  sh : σ.cl = true → a.ok = false ∧ (a.e = 3 ∨ a.e = 1)
  no : a.ok = false → σ'.cnt = σ.cnt ∧ wt σ' = wt σ ∧ ∀ j, j < N.n → (σ'.R j).wd = (σ.R j).wd ∨ (a.e = 2 ∧ stW (σ'.R j).wd = 0 ∧ stW (σ.R j).wd = 0)
  ys : a.ok = true → (∀ j, j < N.n → j ≠ a.id % 64 → (σ'.R j).wd = (σ.R j).wd) ∧ (kd = 4 → σ'.cnt + 1 = σ.cnt ∧ wt σ' = wt σ) ∧ (kd = 5 → σ'.cnt = σ.cnt ∧ wt σ' = wt σ) ∧ (kd = 3 → σ'.cnt = σ.cnt ∧ wt σ' = wt σ + 1) ∧ (kd ≤ 2 → σ'.cnt = σ.cnt + 1 ∧ wt σ' = wt σ + 1)
theorem may_word {w ev : Nat} {per : Bool} (hok : okW w = true) (hs : w % 8 = 0 ∨ w % 8 = 2) (hev : ev = 6 ∨ ev = 7 ∨ ev = 8) (hg : w / 256 + 1 ≤ 4294967295) (h : (nxZ w ev per).2 = 0) :
    w % 8 = 2 ∧ nxZ w ev per = (mkW (if ev = 6 then 5 else 2) (w / 256 + (if ev = 8 then 1 else 0)) (if ev = 7 then true else lsW w), 0) := by
  rw [nxZ_nat] at h ⊢
  have g1 : ¬ 4294967295 < w / 256 + 1 := by omega
  have g0 : ¬ 4294967295 < w / 256 := by omega
  rcases hs with s | s
  · exfalso
    rcases hev with rfl | rfl | rfl <;> (unfold nxW at h; rw [if_neg (by rw [hok]; simp), if_neg (by omega), s] at h; simp [mayF] at h)
  · refine ⟨s, ?_⟩
    rcases hev with rfl | rfl | rfl
    · unfold nxW; rw [if_neg (by rw [hok]; simp), if_neg (by omega), s, if_neg (by simp [mayF]), if_neg (by simp [growsF]; omega)]; simp [growsF, behF, lastF]
    · unfold nxW at h ⊢
      rw [if_neg (by rw [hok]; simp), if_neg (by omega), s] at h ⊢
      by_cases e : mayF 7 2 (per && !lsW w) = false
      · rw [if_pos e] at h; simp at h
      · rw [if_neg e, if_neg (by simp [growsF]; omega)]; simp [growsF, behF, lastF]
    · unfold nxW; rw [if_neg (by rw [hok]; simp), if_neg (by omega), s, if_neg (by simp [mayF]), if_neg (by simp [growsF]; omega)]; simp [growsF, behF, lastF]
section
variable {N : Nm} {σ : Wd} {m kd id d p : Nat}
theorem Outc.same (h : Qt N m σ) (kd e : Nat) (hs : σ.cl = true → e = 3 ∨ e = 1) : Outc N m σ σ kd (anNo e) :=
  ⟨h.up (by omega), rfl, rfl, fun c => ⟨rfl, hs c⟩, fun _ => ⟨rfl, rfl, fun j _ => .inl rfl⟩, fun e => by cases e⟩
theorem Qt.set (h : Qt N m σ) {s : Nat} (hs : s < N.n) {x : Rec} (hok : okW x.wd = true) (hg : x.wd / 256 ≤ m + 1) (hst : x.wd % 8 = 0 ∨ x.wd % 8 = 2) {g : Nat → Rg} (hr : ∀ i, (g i).fi = 0 ∧ (g i).nx ≤ N.r ∧ ∀ p, (g i).nx ≤ p → (g i).P p = false) {c : Nat} (hc : c + busy (σ.R s) = σ.cnt + busy x) :
    Qt N (m + 1) { σ with cnt := c, R := upR σ.R s x, g := g } := by
  refine ⟨?_, fun k hk => ?_, hr⟩
  · have := used_up σ.R s x N.n hs
    have := h.us
    show used (upR σ.R s x) N.n = c
    omega
  · show okW (upR σ.R s x k).wd = true ∧ (upR σ.R s x k).wd / 256 ≤ m + 1 ∧ ((upR σ.R s x k).wd % 8 = 0 ∨ (upR σ.R s x k).wd % 8 = 2)
    by_cases e : k = s
    · subst e; rw [upR_same]; exact ⟨hok, hg, hst⟩
    · rw [upR_other _ _ e]
      obtain ⟨a, b, c⟩ := h.wd k hk
      exact ⟨a, by omega, c⟩
theorem Qt.put (h : Qt N m σ) (k : Nat) (u : Tk) (hf : ¬ (σ.g k).fi + N.r ≤ (σ.g k).nx) : ∀ i, (putG σ k u i).fi = 0 ∧ (putG σ k u i).nx ≤ N.r ∧ ∀ p, (putG σ k u i).nx ≤ p → (putG σ k u i).P p = false := by
  intro i
  unfold putG
  by_cases e : i = k
  · subst e
    rw [upG_same]
    obtain ⟨a, b, c⟩ := h.rg i
    refine ⟨a, by dsimp only; omega, fun p hp => ?_⟩
    dsimp only at hp ⊢
    rw [upd_other _ _ _ _ (by omega)]
    exact c p (by omega)
  · rw [upG_other _ _ e]; exact h.rg i
theorem wt_put (σ : Wd) (k : Nat) (hk : k < 2) (u : Tk) (τ : Wd) (ht : τ.g = putG σ k u) : wt τ = wt σ + 1 := by
  unfold wt
  rw [ht]
  unfold putG
  have : k = 0 ∨ k = 1 := by omega
  rcases this with rfl | rfl
  · rw [upG_same, upG_other _ _ (by omega)]; dsimp only; omega
  · rw [upG_same, upG_other _ _ (by omega)]; dsimp only; omega
theorem outc (hN : N.n ≤ 64) (h0 : 0 < N.n) (hm2 : N.m = 2) (hm : m ≤ 4000000000) (h : Qt N m σ) (hk : 1 ≤ kd ∧ kd ≤ 5) :
    ∃ x σ' k', Path N x σ (newW kd id d p) σ' k' ∧ x ≤ 499 ∧ Outc N m σ σ' kd k'.a := by
  have hle := h.le
  have hc : σ.cnt ≤ 64 := by omega
  by_cases hlo : kd ≤ 2
  · by_cases hbad : kd = 2 ∧ (p = 0 ∨ 18446744073709551615 < d + p)
    · obtain ⟨rfl, hbad⟩ := hbad
      exact ⟨_, _, _, path_bad hc hbad, by omega, Outc.same h 2 1 (fun _ => .inr rfl)⟩
    · have hb : addOk kd d p := by
        have : kd = 1 ∨ kd = 2 := by omega
        rcases this with rfl | rfl
        · exact .inl rfl
        · exact .inr ⟨rfl, by omega, by omega⟩
      by_cases hcl : σ.cl = true
      · exact ⟨_, _, _, path_add_closed hc hb hcl, by omega, Outc.same h kd 3 (fun _ => .inl rfl)⟩
      · have hcl' : σ.cl = false := by simpa using hcl
        by_cases hfull : σ.cnt = N.n
        · exact ⟨_, _, _, path_add_full hc hb hcl' hfull, by omega, Outc.same h kd 2 (fun c => absurd c hcl)⟩
        · have hlt : σ.cnt < N.n := by omega
          obtain ⟨f, hf, hf0, hfb⟩ := first_free16 σ.R N.n (by rw [h.us]; exact hlt)
          have hw := h.wd f hf
          have hst : (σ.R f).wd % 8 = 0 := by unfold busy at hf0; split at hf0 <;> simp_all
          have hgn : gnAt σ.R f ≤ m + 1 := by unfold gnAt; omega
          have hbz : ∀ j, j < f → okW (σ.R j).wd = true ∧ (σ.R j).wd % 8 ≠ 0 := fun j hj => ⟨(h.wd j (by omega)).1, fun e => by have := hfb j hj; unfold busy at this; rw [if_pos e] at this; cases this⟩
          obtain ⟨r1, r2, r3⟩ := h.rg (f % N.m)
          by_cases hr : (σ.g (f % N.m)).fi + N.r ≤ (σ.g (f % N.m)).nx
          · obtain ⟨k', hp, ha⟩ := path_add_back (id := id) hN hb hcl' hlt hf ⟨hw.1, hst⟩ (by omega) hbz hr
            refine ⟨_, _, k', hp, by omega, ?_⟩
            rw [ha]
            refine ⟨h.set (g := σ.g) hf (mkW_ok _ _ _ (by omega) (by omega)) (by rw [mkW_gn _ _ _ (by omega)]; omega) (.inl (mkW_st _ _ _ (by omega))) h.rg (by unfold busy; rw [if_pos hst, if_pos (mkW_st _ _ _ (by omega))]), rfl, rfl, fun c => absurd c hcl, fun _ => ⟨rfl, rfl, fun j hj => ?_⟩, fun e => by cases e⟩
            show (upR σ.R f _ j).wd = _ ∨ _ ∧ stW (upR σ.R f _ j).wd = 0 ∧ _
            by_cases e : j = f
            · subst e
              right
              rw [upR_same]
              refine ⟨rfl, ?_, ?_⟩
              · unfold stW; rw [if_pos (mkW_ok _ _ _ (by omega) (by omega)), mkW_st _ _ _ (by omega)]
              · unfold stW; rw [if_pos hw.1, hst]
            · left; rw [upR_other _ _ e]
          · obtain ⟨k', hp, ha⟩ := path_add_ok (id := id) hN hb hcl' hlt hf ⟨hw.1, hst⟩ (by omega) hbz hr (by omega) (r3 _ (Nat.le_refl _))
            refine ⟨_, _, k', hp, by omega, ?_⟩
            rw [ha]
            refine ⟨h.set hf (mkW_ok _ _ _ (by omega) (by omega)) (by rw [mkW_gn _ _ _ (by omega)]; omega) (.inr (mkW_st _ _ _ (by omega))) (h.put _ _ hr) (by unfold busy; rw [if_pos hst, if_neg (by rw [mkW_st _ _ _ (by omega)]; omega)]), rfl, rfl, fun c => absurd c hcl, fun e => (by cases e), fun _ => ⟨fun j hj e => ?_, fun e => (by omega), fun e => (by omega), fun e => (by omega), fun _ => ⟨rfl, wt_put σ (f % N.m) (by rw [hm2]; omega) _ _ rfl⟩⟩⟩
            have e' : j ≠ f := by
              have : idAt σ.R f % 64 = f := by unfold idAt; omega
              intro q; apply e; show j = idAt σ.R f % 64; omega
            show (upR σ.R f _ j).wd = _
            rw [upR_other _ _ e']
  · have hcl3 : σ.cl = true ∨ σ.cl = false := by cases σ.cl <;> simp
    rcases hcl3 with hcl | hcl
    · by_cases e : kd = 3
      · subst e
        obtain ⟨k', hp, ha⟩ := path_r_closed (N := N) (id := id) (d := d) (p := p) hc hcl
        exact ⟨_, _, k', hp, by omega, by rw [ha]; exact Outc.same h 3 3 (fun _ => .inl rfl)⟩
      · obtain ⟨k', hp, ha⟩ := path_e_closed (N := N) (kd := kd) (id := id) (d := d) (p := p) hc (by omega) hcl
        exact ⟨_, _, k', hp, by omega, by rw [ha]; exact Outc.same h kd 3 (fun _ => .inl rfl)⟩
    · have hcl' : ¬ σ.cl = true := by rw [hcl]; simp
      obtain ⟨ev, hev, hnew⟩ : ∃ ev : Nat, (ev = 6 ∨ ev = 7 ∨ ev = 8) ∧ ((kd = 3 ∧ ev = 8) ∨ (kd = 4 ∧ ev = 6) ∨ (kd = 5 ∧ ev = 7)) := by
        have : kd = 3 ∨ kd = 4 ∨ kd = 5 := by omega
        rcases this with rfl | rfl | rfl
        · exact ⟨8, by omega, by omega⟩
        · exact ⟨6, by omega, by omega⟩
        · exact ⟨7, by omega, by omega⟩
      by_cases hno : wasW N σ.R id = false ∨ mayW σ.R id ev = false
      · rcases hnew with ⟨rfl, rfl⟩ | ⟨rfl, rfl⟩ | ⟨rfl, rfl⟩
        · obtain ⟨k', hp, ha⟩ := path_r_no (N := N) (σ := σ) (id := id) (d := d) (p := p) hc hcl hno
          exact ⟨_, _, k', hp, by omega, by rw [ha]; exact Outc.same h 3 _ (fun c => absurd c hcl')⟩
        · obtain ⟨k', hp, ha⟩ := path_e_no (N := N) (σ := σ) (kd := 4) (id := id) (d := d) (p := p) hc (by omega) hcl hno
          exact ⟨_, _, k', hp, by omega, by rw [ha]; exact Outc.same h 4 _ (fun c => absurd c hcl')⟩
        · obtain ⟨k', hp, ha⟩ := path_e_no (N := N) (σ := σ) (kd := 5) (id := id) (d := d) (p := p) hc (by omega) hcl hno
          exact ⟨_, _, k', hp, by omega, by rw [ha]; exact Outc.same h 5 _ (fun c => absurd c hcl')⟩
      · have hw : wasW N σ.R id = true := by cases e : wasW N σ.R id <;> simp_all
        have hy : mayW σ.R id ev = true := by cases e : mayW σ.R id ev <;> simp_all
        have hs : id % 64 < N.n := by unfold wasW at hw; rw [decide_eq_true_eq] at hw; exact hw.1
        have hwd := h.wd _ hs
        have hv := (may_of hy).1
        obtain ⟨s2, hv⟩ := may_word hwd.1 hwd.2.2 hev (by omega) hv
        have hb1 : busy (σ.R (id % 64)) = 1 := by unfold busy; rw [if_neg (by omega)]
        rcases hnew with ⟨rfl, rfl⟩ | ⟨rfl, rfl⟩ | ⟨rfl, rfl⟩
        · rw [if_neg (by omega), if_pos rfl, if_neg (by omega)] at hv
          obtain ⟨r1, r2, r3⟩ := h.rg (id % 64 % N.m)
          by_cases hr : (σ.g (id % 64 % N.m)).fi + N.r ≤ (σ.g (id % 64 % N.m)).nx
          · obtain ⟨k', hp, ha⟩ := path_r_full (N := N) (id := id) (d := d) (p := p) hc hcl hw hy hr
            exact ⟨_, _, k', hp, by omega, by rw [ha]; exact Outc.same h 3 2 (fun c => absurd c hcl')⟩
          · obtain ⟨k', hp, ha⟩ := path_r_ok (N := N) (id := id) (d := d) (p := p) hc hcl hw hy hv hr (by omega) (r3 _ (Nat.le_refl _))
            refine ⟨_, _, k', hp, by omega, ?_⟩
            rw [ha]
            refine ⟨h.set hs (mkW_ok _ _ _ (by omega) (by omega)) (by rw [mkW_gn _ _ _ (by omega)]; omega) (.inr (mkW_st _ _ _ (by omega))) (h.put _ _ hr) (by rw [hb1]; unfold busy; rw [if_neg (by rw [mkW_st _ _ _ (by omega)]; omega)]), rfl, rfl, fun c => absurd c hcl', fun e => (by cases e), fun _ => ⟨fun j hj e => ?_, fun e => (by omega), fun e => (by omega), fun _ => ⟨rfl, wt_put σ (id % 64 % N.m) (by rw [hm2]; omega) _ _ rfl⟩, fun e => (by omega)⟩⟩
            show (upR σ.R (id % 64) _ j).wd = _
            rw [upR_other _ _ e]
        · rw [if_pos rfl, if_neg (by omega), if_neg (by omega)] at hv
          have hu : nxZ (mkW 5 ((σ.R (id % 64)).wd / 256 + 0) (lsW (σ.R (id % 64)).wd)) 10 ((σ.R (id % 64)).pd != 0) = (mkW 0 ((σ.R (id % 64)).wd / 256) false, 0) := by
            refine (nxZ_at _ 10 _).trans ((nx_mk (by omega) (by omega) (by omega) ?_).trans rfl)
            simp [mayF]
          obtain ⟨k', hp, ha⟩ := path_cancel (N := N) (id := id) (d := d) (p := p) hc hcl hw hy hv hu
          refine ⟨_, _, k', hp, by omega, ?_⟩
          rw [ha]
          have hpos := used_pos σ.R N.n _ hs hb1
          have hus := h.us
          refine ⟨h.set (g := σ.g) hs (mkW_ok _ _ _ (by omega) (by omega)) (by rw [mkW_gn _ _ _ (by omega)]; omega) (.inl (mkW_st _ _ _ (by omega))) h.rg (by rw [hb1]; unfold busy; rw [if_pos (mkW_st _ _ _ (by omega))]; omega), rfl, rfl, fun c => absurd c hcl', fun e => (by cases e), fun _ => ⟨fun j hj e => ?_, fun _ => ⟨by show σ.cnt - 1 + 1 = σ.cnt; omega, rfl⟩, fun e => (by omega), fun e => (by omega), fun e => (by omega)⟩⟩
          show (upR σ.R (id % 64) _ j).wd = _
          rw [upR_other _ _ e]
        · rw [if_neg (by omega), if_neg (by omega), if_pos rfl] at hv
          obtain ⟨k', hp, ha⟩ := path_stop (N := N) (id := id) (d := d) (p := p) hc hcl hw hy hv
          refine ⟨_, _, k', hp, by omega, ?_⟩
          rw [ha]
          refine ⟨h.set (g := σ.g) hs (mkW_ok _ _ _ (by omega) (by omega)) (by rw [mkW_gn _ _ _ (by omega)]; omega) (.inr (mkW_st _ _ _ (by omega))) h.rg (by rw [hb1]; unfold busy; rw [if_neg (by rw [mkW_st _ _ _ (by omega)]; omega)]), rfl, rfl, fun c => absurd c hcl', fun e => (by cases e), fun _ => ⟨fun j hj e => ?_, fun e => (by omega), fun _ => ⟨rfl, rfl⟩, fun e => (by omega), fun e => (by omega)⟩⟩
          show (upR σ.R (id % 64) _ j).wd = _
          rw [upR_other _ _ e]
end
end Verge
