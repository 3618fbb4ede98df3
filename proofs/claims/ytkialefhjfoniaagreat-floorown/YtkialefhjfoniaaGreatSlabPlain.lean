/-
  Plain facts of slabs, without Go: records, requests, what a step makes of them; how many records aren't free.
-/
import Derived.Test.YtkialefhjfoniaaGreatWordPlain
namespace Verge
set_option linter.unusedVariables false

/-- a record: its word, how often it was given, its period -/
structure Rec where
  wd : Nat
  gv : Nat
  pd : Nat
/-- a request: its period, its stage, its status, the count that it saw, its slot, its number -/
structure Rq where
  pd : Nat
  st : Nat
  ss : Nat
  seen : Nat
  slot : Nat
  id : Nat
def upR (R : Nat → Rec) (k : Nat) (x : Rec) : Nat → Rec := fun i => if i = k then x else R i
theorem upR_same (R : Nat → Rec) (k : Nat) (x : Rec) : upR R k x k = x := by simp [upR]
theorem upR_other (R : Nat → Rec) {k i : Nat} (x : Rec) (h : i ≠ k) : upR R k x i = R i := by simp [upR, h]
def zeroR : Nat → Rec := fun _ => ⟨0, 0, 0⟩

/-- a request's next step -/
def stepM (n cnt : Nat) (R : Nat → Rec) (r : Rq) : Nat × (Nat → Rec) × Rq :=
  if r.ss ≠ 0 then (cnt, R, r)
  else if r.st = 0 then (if cnt = n then (cnt, R, { r with seen := cnt, ss := 1 }) else (cnt, R, { r with seen := cnt, st := 1 }))
  else if r.st = 1 then (if cnt = r.seen then (cnt + 1, R, { r with st := 2 }) else (cnt, R, { r with st := 0 }))
  else if (nxW (R r.slot).wd 1 (r.pd != 0)).2 = 0 then
    (cnt, upR R r.slot ⟨(nxW (R r.slot).wd 1 (r.pd != 0)).1, (R r.slot).gv + 1, r.pd⟩, { r with id := ((R r.slot).gv + 1) * 64 + r.slot, ss := 2 })
  else (cnt, R, { r with slot := (r.slot + 1) % n })

/-- what a word is where nothing but Alloc and Finish happens -/
def Ok1 (x : Rec) : Prop := x.wd = 256 * x.gv ∨ x.wd = 256 * x.gv + 1
/-- it isn't free -/
def busy (x : Rec) : Nat := if x.wd % 8 = 0 then 0 else 1
def used (R : Nat → Rec) : Nat → Nat
  | 0 => 0
  | n + 1 => used R n + busy (R n)
theorem used_far (R : Nat → Rec) (k : Nat) (x : Rec) (n : Nat) (h : n ≤ k) : used (upR R k x) n = used R n := by
  induction n with
  | zero => rfl
  | succ n ih => rw [used, used, ih (by omega), upR_other _ _ (by omega)]
theorem used_up (R : Nat → Rec) (k : Nat) (x : Rec) (n : Nat) (h : k < n) : used (upR R k x) n + busy (R k) = used R n + busy x := by
  induction n with
  | zero => omega
  | succ n ih =>
    rw [used, used]
    by_cases e : k = n
    · subst e; rw [used_far _ _ _ _ (Nat.le_refl _), upR_same]; omega
    · rw [upR_other _ _ (by omega)]; have := ih (by omega); omega
theorem used_le (R : Nat → Rec) (n : Nat) : used R n ≤ n := by
  induction n with
  | zero => exact Nat.le_refl _
  | succ n ih => rw [used]; unfold busy; split <;> omega
theorem used_zero (n : Nat) : used zeroR n = 0 := by
  induction n with
  | zero => rfl
  | succ n ih => rw [used, ih]; rfl
theorem used_full (R : Nat → Rec) (n : Nat) (h : ∀ k, k < n → busy (R k) = 1) : used R n = n := by
  induction n with
  | zero => rfl
  | succ n ih => rw [used, ih (fun k hk => h k (by omega)), h n (by omega)]
theorem busy_le (x : Rec) : busy x ≤ 1 := by unfold busy; split <;> omega
theorem used_pos (R : Nat → Rec) (n k : Nat) (hk : k < n) (h : busy (R k) = 1) : 1 ≤ used R n := by
  induction n with
  | zero => omega
  | succ n ih =>
    rw [used]
    by_cases e : k = n
    · subst e; omega
    · have := ih (by omega); omega
theorem Ok1.ok {x : Rec} (h : Ok1 x) (g : x.gv ≤ 4294967295) : okW x.wd = true := by
  rw [okW_true]; rcases h with h | h <;> rw [h] <;> omega
theorem Ok1.busy0 {x : Rec} (h : Ok1 x) (hb : busy x = 0) : x.wd = 256 * x.gv := by
  rcases h with h | h
  · exact h
  · exfalso; unfold busy at hb; rw [h] at hb; split at hb <;> omega
theorem Ok1.busy1 {x : Rec} (h : Ok1 x) (hb : busy x = 1) : x.wd = 256 * x.gv + 1 := by
  rcases h with h | h
  · exfalso; unfold busy at hb; rw [h] at hb; split at hb <;> omega
  · exact h
theorem busy_of0 {x : Rec} (h : x.wd = 256 * x.gv) : busy x = 0 := by unfold busy; rw [h, if_pos (by omega)]
theorem busy_of1 {x : Rec} (h : x.wd = 256 * x.gv + 1) : busy x = 1 := by unfold busy; rw [h, if_neg (by omega)]
theorem nx_alloc0 (g : Nat) (per : Bool) (hg : g + 1 ≤ 4294967295) : nxW (256 * g) 1 per = (256 * (g + 1) + 1, 0) := by
  have h1 : okW (256 * g) = true := by rw [okW_true]; omega
  have h2 : 256 * g % 8 = 0 := by omega
  have h3 : 256 * g / 256 = g := by omega
  unfold nxW
  rw [if_neg (by rw [h1]; simp), if_neg (by omega), h2, if_neg (by simp [mayF]), h3]
  have hg1 : growsF 1 0 = true := by decide
  rw [hg1, if_pos rfl, if_neg (by omega)]
  simp [mkW, behF, lastF]
theorem nx_alloc1 (g : Nat) (per : Bool) (hg : g ≤ 4294967295) : nxW (256 * g + 1) 1 per = (256 * g + 1, 7) := by
  have h1 : okW (256 * g + 1) = true := by rw [okW_true]; omega
  have h2 : (256 * g + 1) % 8 = 1 := by omega
  unfold nxW
  rw [if_neg (by rw [h1]; simp), if_neg (by omega), h2, if_pos (by simp [mayF])]
theorem nx_finish1 (g : Nat) (per : Bool) (hg : g ≤ 4294967295) : nxW (256 * g + 1) 9 per = (256 * g, 0) := by
  have h1 : okW (256 * g + 1) = true := by rw [okW_true]; omega
  have h2 : (256 * g + 1) % 8 = 1 := by omega
  have h3 : (256 * g + 1) / 256 = g := by omega
  have h4 : lsW (256 * g + 1) = false := by unfold lsW; rw [beq_eq_false_iff_ne]; omega
  unfold nxW
  rw [if_neg (by rw [h1]; simp), if_neg (by omega), h2, if_neg (by simp [mayF]), h3, h4]
  have hg1 : growsF 9 1 = false := by decide
  rw [hg1, if_neg (show ¬ (false = true) by decide), if_neg (by omega)]
  simp [mkW, behF, lastF]
end Verge
