import Derived.Test.YtnbdafmjcmmfpaaGreatK24
/-
  Works, without Go: what a second call alone comes to, of a floor with no timer, or with one.
-/
namespace Verge
set_option linter.unusedVariables false
open Go.Proofs.YtnbdafmjcmmfpaaGreat
/-- what a call of a number answers, of a floor that has no timer -/
theorem out_nil {N : Nm} (kk id d : Nat) (h : 3 ≤ kk ∧ kk ≤ 5) : ∃ m σ' k', Path N m nilW (newW kk id d 0) σ' k' ∧ m ≤ 499 ∧ k'.a = anNo 1 := by
  have hw : wasW N nilW.R id = false := by
    unfold wasW; rw [decide_eq_false_iff_not]
    rintro ⟨-, h1, h2⟩
    have : (nilW.R (id % 64)).gv = 0 := rfl
    omega
  by_cases e : kk = 3
  · subst e
    obtain ⟨k', h1, h2⟩ := path_r_no (N := N) (σ := nilW) (id := id) (d := d) (p := 0) (by decide) rfl (.inl hw)
    rw [hw, if_pos rfl] at h2
    exact ⟨_, _, k', h1, by omega, h2⟩
  · obtain ⟨k', h1, h2⟩ := path_e_no (N := N) (σ := nilW) (kd := kk) (id := id) (d := d) (p := 0) (by decide) (by omega) rfl (.inl hw)
    rw [hw, if_pos rfl] at h2
    exact ⟨_, _, k', h1, by omega, h2⟩
/-- of one that has a timer in slot 0 -/
def oneW (per : Nat) (u : Tk) : Wd := { nilW with cnt := 1, R := addR nilW 0 per, g := putG nilW 0 u }
theorem oneW_0 (per : Nat) (u : Tk) : (oneW per u).R 0 = ⟨mkW 2 1 false, 1, per⟩ := by
  show upR nilW.R 0 _ 0 = _
  rw [upR_same]; rfl
theorem oneW_no (N : Nm) (per : Nat) (u : Tk) (id : Nat) (h : id ≠ 64) : wasW N (oneW per u).R id = false := by
  unfold wasW; rw [decide_eq_false_iff_not]
  rintro ⟨-, h1, h2⟩
  by_cases e : id % 64 = 0
  · rw [e, oneW_0] at h2
    have h2' : id / 64 ≤ 1 := h2
    omega
  · have : ((oneW per u).R (id % 64)).gv = 0 := by
      show (upR nilW.R 0 _ (id % 64)).gv = 0
      rw [upR_other _ _ e]; rfl
    omega
theorem out_one {N : Nm} (hN : 0 < N.n) (hr : 1 < N.r) (hm : 0 < N.m) (per : Nat) (hp : per ≠ 0) (u : Tk) (kk id d : Nat) (h : 3 ≤ kk ∧ kk ≤ 5) : ∃ m σ' k' g, Path N m (oneW per u) (newW kk id d 0) σ' k' ∧ m ≤ 499 ∧ k'.a = (if id = 64 then ⟨0, true, 64, g⟩ else anNo 1) := by
  have hc : (oneW per u).cnt ≤ 64 := by show 1 ≤ 64; omega
  by_cases e : id = 64
  · subst e
    have hw : wasW N (oneW per u).R 64 = true := by
      unfold wasW; rw [decide_eq_true_eq]
      rw [show 64 % 64 = 0 from rfl, oneW_0]
      exact ⟨hN, by omega, by show 64 / 64 ≤ 1; omega⟩
    have hb : (per != 0) = true := by rw [bne_iff_ne]; exact hp
    have h0 : ((oneW per u).R (64 % 64)) = ⟨mkW 2 1 false, 1, per⟩ := oneW_0 per u
    have c : kk = 3 ∨ kk = 4 ∨ kk = 5 := by omega
    rcases c with rfl | rfl | rfl
    · have hv : nxZ ((oneW per u).R (64 % 64)).wd 8 (((oneW per u).R (64 % 64)).pd != 0) = (mkW 2 2 false, 0) := by
        rw [h0]; dsimp only; rw [hb]
        exact (nxZ_at _ 8 _).trans (nx_mk (by omega) (by omega) (by omega) (by decide))
      have hy : mayW (oneW per u).R 64 8 = true := by unfold mayW; rw [decide_eq_true_eq, hv, h0]; exact ⟨rfl, rfl⟩
      have g0 : (oneW per u).g (64 % 64 % N.m) = ⟨1, 0, upd (fun _ => false) 0 true, upd (fun _ => tk0) 0 u⟩ := by
        show upG nilW.g 0 _ (0 % N.m) = _
        rw [Nat.zero_mod, upG_same]; rfl
      obtain ⟨k', h1, h2⟩ := path_r_ok (N := N) (σ := oneW per u) (id := 64) (d := d) (p := 0) hc rfl hw hy hv (by rw [g0]; show ¬ 0 + N.r ≤ 1; omega) (by rw [g0]; show ¬ (1 : Nat) < 0; omega) (by rw [g0]; exact upd_other (fun _ => false) 0 true 1 (by omega))
      exact ⟨_, _, k', _, h1, by omega, h2.trans (if_pos rfl).symm⟩
    · have hv : nxZ ((oneW per u).R (64 % 64)).wd 6 (((oneW per u).R (64 % 64)).pd != 0) = (mkW 5 1 false, 0) := by
        rw [h0]; dsimp only; rw [hb]
        exact (nxZ_at _ 6 _).trans (nx_mk (by omega) (by omega) (by omega) (by decide))
      have hu : nxZ (mkW 5 1 false) 10 (((oneW per u).R (64 % 64)).pd != 0) = (mkW 0 1 false, 0) := by
        rw [h0]; dsimp only; rw [hb]
        exact (nxZ_at _ 10 _).trans (nx_mk (by omega) (by omega) (by omega) (by decide))
      have hy : mayW (oneW per u).R 64 6 = true := by unfold mayW; rw [decide_eq_true_eq, hv, h0]; exact ⟨rfl, rfl⟩
      obtain ⟨k', h1, h2⟩ := path_cancel (N := N) (σ := oneW per u) (id := 64) (d := d) (p := 0) hc rfl hw hy hv hu
      exact ⟨_, _, k', _, h1, by omega, h2.trans (if_pos rfl).symm⟩
    · have hv : nxZ ((oneW per u).R (64 % 64)).wd 7 (((oneW per u).R (64 % 64)).pd != 0) = (mkW 2 1 true, 0) := by
        rw [h0]; dsimp only; rw [hb]
        exact (nxZ_at _ 7 _).trans (nx_mk (by omega) (by omega) (by omega) (by decide))
      have hy : mayW (oneW per u).R 64 7 = true := by unfold mayW; rw [decide_eq_true_eq, hv, h0]; exact ⟨rfl, rfl⟩
      obtain ⟨k', h1, h2⟩ := path_stop (N := N) (σ := oneW per u) (id := 64) (d := d) (p := 0) hc rfl hw hy hv
      exact ⟨_, _, k', _, h1, by omega, h2.trans (if_pos rfl).symm⟩
  · have hw := oneW_no N per u id e
    by_cases e3 : kk = 3
    · subst e3
      obtain ⟨k', h1, h2⟩ := path_r_no (N := N) (σ := oneW per u) (id := id) (d := d) (p := 0) hc rfl (.inl hw)
      rw [hw, if_pos rfl] at h2
      exact ⟨_, _, k', 0, h1, by omega, h2.trans (if_neg e).symm⟩
    · obtain ⟨k', h1, h2⟩ := path_e_no (N := N) (σ := oneW per u) (kd := kk) (id := id) (d := d) (p := 0) hc (by omega) rfl (.inl hw)
      rw [hw, if_pos rfl] at h2
      exact ⟨_, _, k', 0, h1, by omega, h2.trans (if_neg e).symm⟩
end Verge
