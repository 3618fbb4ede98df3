/-
  Plain facts of what comes of an event (nxW): either an error and the same word, or no error and a word that may be, with its parts.
-/
import Derived.Test.YtjhmmfdmoalfmaaWordPlain
namespace Verge
set_option linter.unusedVariables false

theorem nx_props (n ev : Nat) (per : Bool) (hok : okW n = true) :
    ((nxW n ev per).1 = n ∧ (nxW n ev per).2 ≠ 0) ∨
    (∃ q, (growsF ev (n % 8) = true ∧ q = 1 ∨ growsF ev (n % 8) = false ∧ q = 0) ∧ 1 ≤ ev ∧ ev ≤ 10 ∧ mayF ev (n % 8) (per && !lsW n) = true ∧ n / 256 + q ≤ 4294967295 ∧
      nxW n ev per = (mkW (behF ev (n % 8)) (n / 256 + q) (lastF ev (lsW n)), 0)) := by
  unfold nxW
  rw [if_neg (by simp [hok])]
  by_cases h1 : ev < 1 ∨ 10 < ev
  · rw [if_pos h1]; exact .inl ⟨rfl, by simp⟩
  · rw [if_neg h1]
    by_cases h2 : mayF ev (n % 8) (per && !lsW n) = false
    · rw [if_pos h2]; exact .inl ⟨rfl, by simp⟩
    · rw [if_neg h2]
      by_cases h3 : 4294967295 < n / 256 + (if growsF ev (n % 8) = true then 1 else 0)
      · rw [if_pos h3]; exact .inl ⟨rfl, by simp⟩
      · rw [if_neg h3]
        refine .inr ⟨if growsF ev (n % 8) = true then 1 else 0, ?_, by omega, by omega, by simpa using h2, by omega, rfl⟩
        cases hg : growsF ev (n % 8)
        · right; exact ⟨rfl, by simp⟩
        · left; exact ⟨rfl, by simp⟩

/-- what an event makes of a word that may be, in plain numbers -/
theorem nx_whole (n ev : Nat) (per : Bool) (hok : okW n = true) :
    ((nxW n ev per).1 = n ∧ (nxW n ev per).2 ≠ 0) ∨
    ((nxW n ev per).2 = 0 ∧ okW (nxW n ev per).1 = true ∧ 1 ≤ ev ∧ ev ≤ 10 ∧ mayF ev (n % 8) (per && !lsW n) = true ∧
      (nxW n ev per).1 % 8 = behF ev (n % 8) ∧ lsW (nxW n ev per).1 = lastF ev (lsW n) ∧
      (growsF ev (n % 8) = true ∧ (nxW n ev per).1 / 256 = n / 256 + 1 ∨ growsF ev (n % 8) = false ∧ (nxW n ev per).1 / 256 = n / 256)) := by
  have hb := behF_le ev (n % 8) (okW_true.1 hok).1
  rcases nx_props n ev per hok with h | ⟨q, hq, h1, h2, h3, h4, h5⟩
  · exact .inl h
  · rw [h5]
    refine .inr ⟨rfl, mkW_ok _ _ _ hb h4, h1, h2, h3, mkW_st _ _ _ hb, mkW_ls _ _ _ hb, ?_⟩
    show growsF ev (n % 8) = true ∧ mkW _ _ _ / 256 = _ ∨ _ ∧ mkW _ _ _ / 256 = _
    rw [mkW_gn _ _ _ hb]
    rcases hq with ⟨g, rfl⟩ | ⟨g, rfl⟩
    · exact .inl ⟨g, rfl⟩
    · exact .inr ⟨g, rfl⟩

theorem nx_okW (n ev : Nat) (per : Bool) (hok : okW n = true) : okW (nxW n ev per).1 = true := by
  rcases nx_whole n ev per hok with ⟨h, -⟩ | ⟨-, h, -⟩
  · rw [h]; exact hok
  · exact h

/-- what is cancelled or done is left by a release alone; what is free by an allocation -/
theorem gone_may {ev s : Nat} {ag : Bool} (hs : s = 5 ∨ s = 6) (h : mayF ev s ag = true) : ev = 10 := by
  unfold mayF at h
  rcases hs with rfl | rfl
  all_goals
    by_cases h10 : ev = 10
    · exact h10
    · exfalso
      revert h
      repeat' split
      all_goals simp_all
theorem free_may {ev : Nat} {ag : Bool} (h : mayF ev 0 ag = true) : ev = 1 := by
  unfold mayF at h
  by_cases h10 : ev = 1
  · exact h10
  · exfalso
    revert h
    repeat' split
    all_goals simp_all
/-- a word becomes the last by a stop alone, of a periodic one -/
theorem last_may {ev s : Nat} {ag l : Bool} (h : mayF ev s ag = true) (h0 : l = false) (h1 : lastF ev l = true) : ev = 7 ∧ ag = true := by
  unfold lastF at h1
  have e7 : ev = 7 := by
    by_cases e : ev = 7
    · exact e
    · rw [if_neg e, h0] at h1
      split at h1 <;> cases h1
  subst e7
  refine ⟨rfl, ?_⟩
  simp [mayF] at h
  exact h.1
theorem last_gone {ev : Nat} {l : Bool} (h0 : l = true) (h1 : lastF ev l = false) : ev = 1 ∨ ev = 10 := by
  unfold lastF at h1
  by_cases e : ev = 1 ∨ ev = 10
  · exact e
  · rw [if_neg e, h0] at h1
    split at h1 <;> cases h1
end Verge
