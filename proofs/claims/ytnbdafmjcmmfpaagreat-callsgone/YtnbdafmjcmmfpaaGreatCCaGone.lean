import Derived.Test.YtnbdafmjcmmfpaaGreatK25
/-
  Works, without Go: a timer that was cancelled; who asks for it then.
-/
namespace Verge
set_option linter.unusedVariables false
open Go.Proofs.YtnbdafmjcmmfpaaGreat
/-- the timer in slot 0 was cancelled -/
def backW (per : Nat) (u : Tk) : Wd := { oneW per u with cnt := 0, R := upR (oneW per u).R 0 ⟨mkW 0 1 false, 1, per⟩ }
theorem backW_0 (per : Nat) (u : Tk) : (backW per u).R 0 = ⟨mkW 0 1 false, 1, per⟩ := by
  show upR (oneW per u).R 0 ⟨mkW 0 1 false, 1, per⟩ 0 = ⟨mkW 0 1 false, 1, per⟩
  rw [upR_same]
theorem gone_cancel {N : Nm} (hN : 0 < N.n) (per : Nat) (u : Tk) : ∃ k', Path N 6 (oneW per u) (newW 4 64 0 0) (backW per u) k' ∧ k'.a = ⟨0, true, 64, 1⟩ := by
  have hw : wasW N (oneW per u).R 64 = true := by
    unfold wasW; rw [decide_eq_true_eq]
    rw [show 64 % 64 = 0 from rfl, oneW_0]
    exact ⟨hN, by omega, by show 64 / 64 ≤ 1; omega⟩
  have h0 : ((oneW per u).R (64 % 64)) = ⟨mkW 2 1 false, 1, per⟩ := oneW_0 per u
  have hv : nxZ ((oneW per u).R (64 % 64)).wd 6 (((oneW per u).R (64 % 64)).pd != 0) = (mkW 5 1 false, 0) := by
    rw [h0]; dsimp only
    cases (per != 0) <;> exact (nxZ_at _ 6 _).trans (nx_mk (by omega) (by omega) (by omega) (by decide))
  have hu : nxZ (mkW 5 1 false) 10 (((oneW per u).R (64 % 64)).pd != 0) = (mkW 0 1 false, 0) := by
    rw [h0]; dsimp only
    cases (per != 0) <;> exact (nxZ_at _ 10 _).trans (nx_mk (by omega) (by omega) (by omega) (by decide))
  have hy : mayW (oneW per u).R 64 6 = true := by unfold mayW; rw [decide_eq_true_eq, hv, h0]; exact ⟨rfl, rfl⟩
  obtain ⟨k', h1, h2⟩ := path_cancel (N := N) (σ := oneW per u) (id := 64) (d := 0) (p := 0) (by show 1 ≤ 64; omega) rfl hw hy hv hu
  refine ⟨k', ?_, h2.trans (by rw [gn_mk (by omega) (by omega)])⟩
  rw [h0, show 64 % 64 = 0 from rfl] at h1
  exact h1
theorem back_may (per : Nat) (u : Tk) (ev : Nat) (h1 : 6 ≤ ev ∧ ev ≤ 8) : mayW (backW per u).R 64 ev = false := by
  have h0 : ((backW per u).R (64 % 64)) = ⟨mkW 0 1 false, 1, per⟩ := backW_0 per u
  have hv : nxZ ((backW per u).R (64 % 64)).wd ev (((backW per u).R (64 % 64)).pd != 0) = (mkW 0 1 false, 7) := by
    rw [h0]; dsimp only
    have e : ev = 6 ∨ ev = 7 ∨ ev = 8 := by omega
    rcases e with rfl | rfl | rfl <;> cases (per != 0) <;> exact (nxZ_at _ _ _).trans (nx_no (mkW_ok 0 1 false (by omega) (by omega)) (by omega) (by decide))
  unfold mayW
  rw [decide_eq_false_iff_not, hv]
  simp
theorem gone_no {N : Nm} (hN : 0 < N.n) (per : Nat) (u : Tk) (kk d : Nat) (h : 3 ≤ kk ∧ kk ≤ 5) : ∃ m k', Path N m (backW per u) (newW kk 64 d 0) (backW per u) k' ∧ m ≤ 5 ∧ k'.a = anNo 0 := by
  have hw : wasW N (backW per u).R 64 = true := by
    unfold wasW; rw [decide_eq_true_eq]
    rw [show 64 % 64 = 0 from rfl, backW_0]
    exact ⟨hN, by omega, by show 64 / 64 ≤ 1; omega⟩
  have e : kk = 3 ∨ kk = 4 ∨ kk = 5 := by omega
  rcases e with rfl | rfl | rfl
  · obtain ⟨k', h1, h2⟩ := path_r_no (N := N) (σ := backW per u) (id := 64) (d := d) (p := 0) (by show 0 ≤ 64; omega) rfl (.inr (back_may per u 8 (by omega)))
    rw [hw, if_neg (by decide)] at h2
    exact ⟨_, k', h1, by omega, h2⟩
  · obtain ⟨k', h1, h2⟩ := path_e_no (N := N) (σ := backW per u) (kd := 4) (id := 64) (d := d) (p := 0) (by show 0 ≤ 64; omega) (by omega) rfl (.inr (back_may per u 6 (by omega)))
    rw [hw, if_neg (by decide)] at h2
    exact ⟨_, k', h1, by omega, h2⟩
  · obtain ⟨k', h1, h2⟩ := path_e_no (N := N) (σ := backW per u) (kd := 5) (id := 64) (d := d) (p := 0) (by show 0 ≤ 64; omega) (by omega) rfl (.inr (back_may per u 7 (by omega)))
    rw [hw, if_neg (by decide)] at h2
    exact ⟨_, k', h1, by omega, h2⟩
/-- its task stands in the ring yet -/
theorem backW_ring {r : Nat} (hr : 1 < r) (per : Nat) (u : Tk) : ((backW per u).g 0).fi = 0 ∧ ((backW per u).g 0).nx = 1 ∧ ((backW per u).g 0).P 0 = true ∧ ((backW per u).g 0).P r = false ∧ ((backW per u).g 0).V 0 = u := by
  have h : (backW per u).g 0 = ⟨1, 0, upd (fun _ => false) 0 true, upd (fun _ => tk0) 0 u⟩ := by
    show upG nilW.g 0 _ 0 = _
    rw [upG_same]; rfl
  rw [h]
  exact ⟨rfl, rfl, by show upd (fun _ => false) 0 true 0 = true; rw [upd_same], upd_other (fun _ => false) 0 true r (by omega), by show upd (fun _ => tk0) 0 u 0 = u; rw [upd_same]⟩
end Verge
