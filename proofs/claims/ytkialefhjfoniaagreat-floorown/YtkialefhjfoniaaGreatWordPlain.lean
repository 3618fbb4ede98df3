/-
  Plain facts of words, without Go: the parts of a number, what may be, and what comes of an event.
-/
import Derived.ProofKit
namespace Verge
set_option linter.unusedVariables false

def okW (n : Nat) : Bool := decide (n % 8 ≤ 6 ∧ n / 16 % 16 = 0 ∧ n / 256 ≤ 4294967295)
def lsW (n : Nat) : Bool := n / 8 % 2 == 1
def mkW (s g : Nat) (l : Bool) : Nat := 256 * g + s + (if l = true then 8 else 0)

theorem okW_true {n : Nat} : okW n = true ↔ (n % 8 ≤ 6 ∧ n / 16 % 16 = 0 ∧ n / 256 ≤ 4294967295) := by unfold okW; simp
theorem okW_false {n : Nat} : okW n = false ↔ ¬ (n % 8 ≤ 6 ∧ n / 16 % 16 = 0 ∧ n / 256 ≤ 4294967295) := by unfold okW; simp only [decide_eq_false_iff_not]

theorem mkW_parts (n : Nat) (h : okW n = true) : mkW (n % 8) (n / 256) (lsW n) = n := by
  rw [okW_true] at h
  unfold mkW lsW
  by_cases hl : n / 8 % 2 = 1
  · rw [if_pos (by simpa using hl)]; omega
  · rw [if_neg (by simpa using hl)]; omega

theorem mkW_ok (s g : Nat) (l : Bool) (hs : s ≤ 6) (hg : g ≤ 4294967295) : okW (mkW s g l) = true := by
  rw [okW_true]; unfold mkW
  cases l <;> simp <;> omega
theorem mkW_st (s g : Nat) (l : Bool) (hs : s ≤ 6) : mkW s g l % 8 = s := by
  unfold mkW; cases l <;> simp <;> omega
theorem mkW_gn (s g : Nat) (l : Bool) (hs : s ≤ 6) : mkW s g l / 256 = g := by
  unfold mkW; cases l <;> simp <;> omega
theorem mkW_ls (s g : Nat) (l : Bool) (hs : s ≤ 6) : lsW (mkW s g l) = l := by
  unfold mkW lsW
  cases l
  · simp; omega
  · simp; omega
theorem mkW_lt (s g : Nat) (l : Bool) (hs : s ≤ 6) (hg : g ≤ 4294967295) : mkW s g l < 1099511627776 := by
  unfold mkW; cases l <;> simp <;> omega
theorem okW_lt (n : Nat) (h : okW n = true) : n < 1099511627776 := by
  rw [okW_true] at h; omega

/-- may an event happen in a state, of one that is to be armed again or not -/
def mayF (ev st : Nat) (again : Bool) : Bool :=
  if ev = 1 then st == 0 else if ev = 2 then st == 1 else if ev = 3 then st == 2 else if ev = 4 then st == 3
  else if ev = 5 then st == 4 && again
  else if ev = 6 ∨ ev = 8 then st == 2 || st == 3 || (st == 4 && again)
  else if ev = 7 then again && (st == 2 || st == 3 || st == 4)
  else if ev = 9 then st == 1 || st == 4
  else if ev = 10 then st == 5 || st == 6 else false
def growsF (ev st : Nat) : Bool := ev == 1 || ev == 5 || ev == 8 || (ev == 6 && st == 4)
def behF (ev st : Nat) : Nat :=
  if ev = 1 then 1 else if ev = 2 ∨ ev = 8 then 2 else if ev = 3 ∨ ev = 5 then 3 else if ev = 4 then 4
  else if ev = 6 then 5 else if ev = 9 then (if st = 1 then 0 else 6) else if ev = 10 then 0 else st
def lastF (ev : Nat) (l : Bool) : Bool := if ev = 1 ∨ ev = 10 then false else if ev = 7 then true else l

/-- the word and the error behind an event -/
def nxW (n ev : Nat) (per : Bool) : Nat × Nat :=
  if okW n = false then (n, 5) else if ev < 1 ∨ 10 < ev then (n, 1)
  else if mayF ev (n % 8) (per && !lsW n) = false then (n, 7)
  else if 4294967295 < n / 256 + (if growsF ev (n % 8) = true then 1 else 0) then (n, 9)
  else (mkW (behF ev (n % 8)) (n / 256 + (if growsF ev (n % 8) = true then 1 else 0)) (lastF ev (lsW n)), 0)

theorem behF_le (ev st : Nat) (h : st ≤ 6) : behF ev st ≤ 6 := by
  unfold behF
  repeat' split
  all_goals omega

/- bits -/
theorem and7 (n : Nat) : n &&& 7 = n % 8 := Nat.and_two_pow_sub_one_eq_mod n 3
theorem and8 (n : Nat) : n &&& 8 = if lsW n = true then 8 else 0 := by
  apply Nat.eq_of_testBit_eq
  intro i
  have e8 : ∀ i, (8 : Nat).testBit i = decide (i = 3) := by
    intro i
    rw [show (8 : Nat) = 2 ^ 3 from rfl, Nat.testBit_two_pow]
    by_cases h : i = 3 <;> simp [h, eq_comm]
  rw [Nat.testBit_and, e8]
  unfold lsW
  by_cases h3 : i = 3
  · subst h3
    rw [Nat.testBit_eq_decide_div_mod_eq]
    by_cases h : n / 8 % 2 = 1
    · simp [h]; decide
    · simp [h]
  · by_cases h : n / 8 % 2 = 1
    · simp [h, h3, e8]
    · simp [h, h3]
theorem or_sg (s g : Nat) (hs : s ≤ 6) : s ||| (g * 256) = 256 * g + s := by
  rw [Nat.or_comm, Nat.mul_comm g 256, show (256 : Nat) = 2 ^ 8 from rfl, ← Nat.two_pow_add_eq_or_of_lt (by omega)]
theorem or_8 (s g : Nat) (hs : s ≤ 6) : (256 * g + s) ||| 8 = 256 * g + s + 8 := by
  have e1 : 256 * g + s = 2 ^ 8 * g ||| s := (Nat.two_pow_add_eq_or_of_lt (show s < 2 ^ 8 by omega) g)
  rw [e1, Nat.or_assoc]
  have e2 : s ||| 8 = 8 + s := by
    rw [Nat.or_comm]
    exact (Nat.two_pow_add_eq_or_of_lt (i := 3) (show s < 2 ^ 3 by omega) 1).symm
  rw [e2, ← Nat.two_pow_add_eq_or_of_lt (show 8 + s < 2 ^ 8 by omega) g]
  rw [← e1]; omega
theorem andNot_used (n : Nat) (hn : n < 18446744073709551616) :
    (n &&& (18446744073709551615 - 1099511627535)) = 0 ↔ (n / 16 % 16 = 0 ∧ n / 256 ≤ 4294967295) := by
  have e : 18446744073709551615 - 1099511627535 = 2 ^ 4 * 15 ||| 2 ^ 40 * 16777215 := by decide
  have a1 : n &&& (2 ^ 4 * 15) = 16 * (n / 16 % 16) := by
    have h := Nat.shiftLeft_and_distrib (a := n / 16) (b := 15) (i := 4)
    apply Nat.eq_of_testBit_eq
    intro i
    rw [Nat.testBit_and, show (16 : Nat) * (n / 16 % 16) = 2 ^ 4 * (n / 2 ^ 4 % 2 ^ 4) from rfl, Nat.testBit_two_pow_mul, Nat.testBit_two_pow_mul, Nat.testBit_mod_two_pow, Nat.testBit_div_two_pow, show (15 : Nat) = 2 ^ 4 - 1 from rfl, Nat.testBit_two_pow_sub_one]
    by_cases hi : 4 ≤ i
    · simp only [hi, decide_true, Bool.true_and]
      rw [show i - 4 + 4 = i by omega, Bool.and_comm]
    · simp [hi]
  have a2 : n &&& (2 ^ 40 * 16777215) = 1099511627776 * (n / 1099511627776) := by
    apply Nat.eq_of_testBit_eq
    intro i
    rw [Nat.testBit_and, show (1099511627776 : Nat) * (n / 1099511627776) = 2 ^ 40 * (n / 2 ^ 40) from rfl, Nat.testBit_two_pow_mul, Nat.testBit_two_pow_mul, Nat.testBit_div_two_pow, show (16777215 : Nat) = 2 ^ 24 - 1 from rfl, Nat.testBit_two_pow_sub_one]
    by_cases hi : 40 ≤ i
    · simp only [hi, decide_true, Bool.true_and]
      rw [show i - 40 + 40 = i by omega]
      by_cases h64 : i - 40 < 24
      · simp [h64]
      · have : n.testBit i = false := Nat.testBit_lt_two_pow (Nat.lt_of_lt_of_le hn (show 2 ^ 64 ≤ 2 ^ i from Nat.pow_le_pow_right (by decide) (by omega)))
        rw [this]; simp
    · simp [hi]
  rw [e, Nat.and_or_distrib_left, Nat.or_eq_zero_iff, a1, a2]
  omega
end Verge
