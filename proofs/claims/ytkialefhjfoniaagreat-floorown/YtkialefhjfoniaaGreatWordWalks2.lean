/-
  Contracts of package word's may, grows, stateBehind and lastBehind, at every event and state that there is.
-/
import Derived.Test.YtkialefhjfoniaaGreatWordWalks1
namespace Go.Proofs.YtkialefhjfoniaaGreat
open Go.RowKit Verge
attribute [local go_sem] Oper.semAt_some
set_option linter.unusedVariables false

theorem cases10 {ev : Nat} (h : 1 ≤ ev ∧ ev ≤ 10) : ev = 1 ∨ ev = 2 ∨ ev = 3 ∨ ev = 4 ∨ ev = 5 ∨ ev = 6 ∨ ev = 7 ∨ ev = 8 ∨ ev = 9 ∨ ev = 10 := by omega

set_option maxHeartbeats 400000 in
theorem may_1 (s : Nat) (again : Bool) (w : World) :
    Calls Tryz.prog 97 #[.int .i64 1, .int .i64 s, .bool again] w fun e w' => e = .returned (.bool (mayF 1 s again)) ∧ w = w' := by
  cases again
  all_goals
    go_enter Tryz.func97, Tryz.ntmps97
    go_wp2
    all_goals
      go_ret
      first
        | exact ⟨rfl, rfl⟩
        | (refine ⟨ret_bool ?_, rfl⟩; rw [Bool.eq_iff_iff]; simp [mayF]; done)
        | (refine ⟨ret_bool ?_, rfl⟩; rw [Bool.eq_iff_iff]; simp [mayF]; omega)

set_option maxHeartbeats 400000 in
theorem may_2 (s : Nat) (again : Bool) (w : World) :
    Calls Tryz.prog 97 #[.int .i64 2, .int .i64 s, .bool again] w fun e w' => e = .returned (.bool (mayF 2 s again)) ∧ w = w' := by
  cases again
  all_goals
    go_enter Tryz.func97, Tryz.ntmps97
    go_wp2
    all_goals
      go_ret
      first
        | exact ⟨rfl, rfl⟩
        | (refine ⟨ret_bool ?_, rfl⟩; rw [Bool.eq_iff_iff]; simp [mayF]; done)
        | (refine ⟨ret_bool ?_, rfl⟩; rw [Bool.eq_iff_iff]; simp [mayF]; omega)

set_option maxHeartbeats 400000 in
theorem may_3 (s : Nat) (again : Bool) (w : World) :
    Calls Tryz.prog 97 #[.int .i64 3, .int .i64 s, .bool again] w fun e w' => e = .returned (.bool (mayF 3 s again)) ∧ w = w' := by
  cases again
  all_goals
    go_enter Tryz.func97, Tryz.ntmps97
    go_wp2
    all_goals
      go_ret
      first
        | exact ⟨rfl, rfl⟩
        | (refine ⟨ret_bool ?_, rfl⟩; rw [Bool.eq_iff_iff]; simp [mayF]; done)
        | (refine ⟨ret_bool ?_, rfl⟩; rw [Bool.eq_iff_iff]; simp [mayF]; omega)

set_option maxHeartbeats 400000 in
theorem may_4 (s : Nat) (again : Bool) (w : World) :
    Calls Tryz.prog 97 #[.int .i64 4, .int .i64 s, .bool again] w fun e w' => e = .returned (.bool (mayF 4 s again)) ∧ w = w' := by
  cases again
  all_goals
    go_enter Tryz.func97, Tryz.ntmps97
    go_wp2
    all_goals
      go_ret
      first
        | exact ⟨rfl, rfl⟩
        | (refine ⟨ret_bool ?_, rfl⟩; rw [Bool.eq_iff_iff]; simp [mayF]; done)
        | (refine ⟨ret_bool ?_, rfl⟩; rw [Bool.eq_iff_iff]; simp [mayF]; omega)

set_option maxHeartbeats 400000 in
theorem may_5 (s : Nat) (again : Bool) (w : World) :
    Calls Tryz.prog 97 #[.int .i64 5, .int .i64 s, .bool again] w fun e w' => e = .returned (.bool (mayF 5 s again)) ∧ w = w' := by
  cases again
  all_goals
    go_enter Tryz.func97, Tryz.ntmps97
    go_wp2
    all_goals
      go_ret
      first
        | exact ⟨rfl, rfl⟩
        | (refine ⟨ret_bool ?_, rfl⟩; rw [Bool.eq_iff_iff]; simp [mayF]; done)
        | (refine ⟨ret_bool ?_, rfl⟩; rw [Bool.eq_iff_iff]; simp [mayF]; omega)

set_option maxHeartbeats 400000 in
theorem may_6 (s : Nat) (again : Bool) (w : World) :
    Calls Tryz.prog 97 #[.int .i64 6, .int .i64 s, .bool again] w fun e w' => e = .returned (.bool (mayF 6 s again)) ∧ w = w' := by
  have hc : s = 2 ∨ s = 3 ∨ s = 4 ∨ ((((s : Int)) == 2) = false ∧ (((s : Int)) == 3) = false ∧ (((s : Int)) == 4) = false ∧ (s == 2) = false ∧ (s == 3) = false ∧ (s == 4) = false) := by
    simp only [beq_eq_false_iff_ne, ne_eq]; omega
  rcases hc with rfl | rfl | rfl | ⟨g2, g3, g4, k2, k3, k4⟩ <;> cases again
  all_goals
    go_enter Tryz.func97, Tryz.ntmps97
    go_wp2
    all_goals
      go_ret
      first
        | exact ⟨rfl, rfl⟩
        | (refine ⟨ret_bool ?_, rfl⟩; simp [mayF, k2, k3, k4]; done)

set_option maxHeartbeats 400000 in
theorem may_7 (s : Nat) (again : Bool) (w : World) :
    Calls Tryz.prog 97 #[.int .i64 7, .int .i64 s, .bool again] w fun e w' => e = .returned (.bool (mayF 7 s again)) ∧ w = w' := by
  have hc : s = 2 ∨ s = 3 ∨ s = 4 ∨ ((((s : Int)) == 2) = false ∧ (((s : Int)) == 3) = false ∧ (((s : Int)) == 4) = false ∧ (s == 2) = false ∧ (s == 3) = false ∧ (s == 4) = false) := by
    simp only [beq_eq_false_iff_ne, ne_eq]; omega
  rcases hc with rfl | rfl | rfl | ⟨g2, g3, g4, k2, k3, k4⟩ <;> cases again
  all_goals
    go_enter Tryz.func97, Tryz.ntmps97
    go_wp2
    all_goals
      go_ret
      first
        | exact ⟨rfl, rfl⟩
        | (refine ⟨ret_bool ?_, rfl⟩; simp [mayF, k2, k3, k4]; done)

set_option maxHeartbeats 400000 in
theorem may_8 (s : Nat) (again : Bool) (w : World) :
    Calls Tryz.prog 97 #[.int .i64 8, .int .i64 s, .bool again] w fun e w' => e = .returned (.bool (mayF 8 s again)) ∧ w = w' := by
  have hc : s = 2 ∨ s = 3 ∨ s = 4 ∨ ((((s : Int)) == 2) = false ∧ (((s : Int)) == 3) = false ∧ (((s : Int)) == 4) = false ∧ (s == 2) = false ∧ (s == 3) = false ∧ (s == 4) = false) := by
    simp only [beq_eq_false_iff_ne, ne_eq]; omega
  rcases hc with rfl | rfl | rfl | ⟨g2, g3, g4, k2, k3, k4⟩ <;> cases again
  all_goals
    go_enter Tryz.func97, Tryz.ntmps97
    go_wp2
    all_goals
      go_ret
      first
        | exact ⟨rfl, rfl⟩
        | (refine ⟨ret_bool ?_, rfl⟩; simp [mayF, k2, k3, k4]; done)

set_option maxHeartbeats 400000 in
theorem may_9 (s : Nat) (again : Bool) (w : World) :
    Calls Tryz.prog 97 #[.int .i64 9, .int .i64 s, .bool again] w fun e w' => e = .returned (.bool (mayF 9 s again)) ∧ w = w' := by
  cases again
  all_goals
    go_enter Tryz.func97, Tryz.ntmps97
    go_wp2
    all_goals
      go_ret
      first
        | exact ⟨rfl, rfl⟩
        | (refine ⟨ret_bool ?_, rfl⟩; rw [Bool.eq_iff_iff]; simp [mayF]; done)
        | (refine ⟨ret_bool ?_, rfl⟩; rw [Bool.eq_iff_iff]; simp [mayF]; omega)

set_option maxHeartbeats 400000 in
theorem may_10 (s : Nat) (again : Bool) (w : World) :
    Calls Tryz.prog 97 #[.int .i64 10, .int .i64 s, .bool again] w fun e w' => e = .returned (.bool (mayF 10 s again)) ∧ w = w' := by
  cases again
  all_goals
    go_enter Tryz.func97, Tryz.ntmps97
    go_wp2
    all_goals
      go_ret
      first
        | exact ⟨rfl, rfl⟩
        | (refine ⟨ret_bool ?_, rfl⟩; rw [Bool.eq_iff_iff]; simp [mayF]; done)
        | (refine ⟨ret_bool ?_, rfl⟩; rw [Bool.eq_iff_iff]; simp [mayF]; omega)

theorem may_any (ev s : Nat) (again : Bool) (hev : 1 ≤ ev ∧ ev ≤ 10) (w : World) :
    Calls Tryz.prog 97 #[.int .i64 ev, .int .i64 s, .bool again] w fun e w' => e = .returned (.bool (mayF ev s again)) ∧ w = w' := by
  rcases cases10 hev with rfl | rfl | rfl | rfl | rfl | rfl | rfl | rfl | rfl | rfl
  · exact may_1 s again w
  · exact may_2 s again w
  · exact may_3 s again w
  · exact may_4 s again w
  · exact may_5 s again w
  · exact may_6 s again w
  · exact may_7 s again w
  · exact may_8 s again w
  · exact may_9 s again w
  · exact may_10 s again w

set_option maxHeartbeats 4000000 in
theorem grows_any (ev s : Nat) (hev : 1 ≤ ev ∧ ev ≤ 10) (w : World) :
    Calls Tryz.prog 98 #[.int .i64 ev, .int .i64 s] w fun e w' => e = .returned (.bool (growsF ev s)) ∧ w = w' := by
  rcases cases10 hev with rfl | rfl | rfl | rfl | rfl | rfl | rfl | rfl | rfl | rfl
  all_goals
    clear hev
    go_enter Tryz.func98, Tryz.ntmps98
    go_wp2
    all_goals
      go_ret
      first
        | exact ⟨rfl, rfl⟩
        | (refine ⟨ret_bool ?_, rfl⟩; rw [Bool.eq_iff_iff]; simp [growsF]; done)
        | (refine ⟨ret_bool ?_, rfl⟩; rw [Bool.eq_iff_iff]; simp [growsF]; omega)

set_option maxHeartbeats 4000000 in
theorem behind_any (ev s : Nat) (hev : 1 ≤ ev ∧ ev ≤ 10) (w : World) :
    Calls Tryz.prog 100 #[.int .i64 ev, .int .i64 s] w fun e w' => e = .returned (.int .i64 (behF ev s : Nat)) ∧ w = w' := by
  by_cases h1 : s = 1
  · subst h1
    rcases cases10 hev with rfl | rfl | rfl | rfl | rfl | rfl | rfl | rfl | rfl | rfl
    all_goals
      clear hev
      go_enter Tryz.func100, Tryz.ntmps100
      go_wp2
      go_ret
      exact ⟨rfl, rfl⟩
  · rcases cases10 hev with rfl | rfl | rfl | rfl | rfl | rfl | rfl | rfl | rfl | rfl
    all_goals
      clear hev
      go_enter Tryz.func100, Tryz.ntmps100
      go_wp2
      go_ret
      first
        | exact ⟨rfl, rfl⟩
        | (refine ⟨ret_int ?_, rfl⟩; simp [behF, h1]; done)

theorem lastb_any (ev : Nat) (l : Bool) (hev : 1 ≤ ev ∧ ev ≤ 10) (w : World) :
    Calls Tryz.prog 101 #[.int .i64 ev, .bool l] w fun e w' => e = .returned (.bool (lastF ev l)) ∧ w = w' := by
  rcases cases10 hev with rfl | rfl | rfl | rfl | rfl | rfl | rfl | rfl | rfl | rfl
  all_goals
    clear hev
    go_enter Tryz.func101, Tryz.ntmps101
    go_wp2
    go_ret
    exact ⟨rfl, rfl⟩
end Go.Proofs.YtkialefhjfoniaaGreat
