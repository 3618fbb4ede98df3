import Derived.ProofKit
import Derived.Test.YtnbdafmjcmmfpaaGreatRows
import Derived.WalkKit
import Derived.Laws.BitsAllLaws
import Derived.Lib.Hide
/-
  Plain facts of words, without Go: the parts of a number, what may be, and what comes of an event.
-/
namespace Verge
set_option linter.unusedVariables false

def okW (n : Nat) : Bool := decide (n % 8 ≤ 6 ∧ n / 16 % 16 = 0 ∧ n / 256 ≤ 4294967295)
def lsW (n : Nat) : Bool := n / 8 % 2 == 1
def mkW (s g : Nat) (l : Bool) : Nat := 256 * g + s + (if l = true then 8 else 0)

theorem okW_true {n : Nat} : okW n = true ↔ (n % 8 ≤ 6 ∧ n / 16 % 16 = 0 ∧ n / 256 ≤ 4294967295) := by unfold okW; simp
theorem okW_false {n : Nat} : okW n = false ↔ ¬ (n % 8 ≤ 6 ∧ n / 16 % 16 = 0 ∧ n / 256 ≤ 4294967295) := by unfold okW; simp only [decide_eq_false_iff_not]

theorem mkW_parts (n : Nat) (h : okW n = true) : mkW (n % 8) (n / 256) (lsW n) = n := by
  rw [okW_true] at h
  unfold mkW lsW
  by_cases hl : n / 8 % 2 = 1
  · rw [if_pos (by simpa using hl)]; omega
  · rw [if_neg (by simpa using hl)]; omega

theorem mkW_ok (s g : Nat) (l : Bool) (hs : s ≤ 6) (hg : g ≤ 4294967295) : okW (mkW s g l) = true := by
  rw [okW_true]; unfold mkW
  cases l <;> simp <;> omega
theorem mkW_st (s g : Nat) (l : Bool) (hs : s ≤ 6) : mkW s g l % 8 = s := by
  unfold mkW; cases l <;> simp <;> omega
theorem mkW_gn (s g : Nat) (l : Bool) (hs : s ≤ 6) : mkW s g l / 256 = g := by
  unfold mkW; cases l <;> simp <;> omega
theorem mkW_ls (s g : Nat) (l : Bool) (hs : s ≤ 6) : lsW (mkW s g l) = l := by
  unfold mkW lsW
  cases l
  · simp; omega
  · simp; omega
theorem mkW_lt (s g : Nat) (l : Bool) (hs : s ≤ 6) (hg : g ≤ 4294967295) : mkW s g l < 1099511627776 := by
  unfold mkW; cases l <;> simp <;> omega
theorem okW_lt (n : Nat) (h : okW n = true) : n < 1099511627776 := by
  rw [okW_true] at h; omega

/-- may an event happen in a state, of one that is to be armed again or not -/
def mayF (ev st : Nat) (again : Bool) : Bool :=
  if ev = 1 then st == 0 else if ev = 2 then st == 1 else if ev = 3 then st == 2 else if ev = 4 then st == 3
  else if ev = 5 then st == 4 && again
  else if ev = 6 ∨ ev = 8 then st == 2 || st == 3 || (st == 4 && again)
  else if ev = 7 then again && (st == 2 || st == 3 || st == 4)
  else if ev = 9 then st == 1 || st == 4
  else if ev = 10 then st == 5 || st == 6 else false
def growsF (ev st : Nat) : Bool := ev == 1 || ev == 5 || ev == 8 || (ev == 6 && st == 4)
def behF (ev st : Nat) : Nat :=
  if ev = 1 then 1 else if ev = 2 ∨ ev = 8 then 2 else if ev = 3 ∨ ev = 5 then 3 else if ev = 4 then 4
  else if ev = 6 then 5 else if ev = 9 then (if st = 1 then 0 else 6) else if ev = 10 then 0 else st
def lastF (ev : Nat) (l : Bool) : Bool := if ev = 1 ∨ ev = 10 then false else if ev = 7 then true else l

/-- the word and the error behind an event -/
def nxW (n ev : Nat) (per : Bool) : Nat × Nat :=
  if okW n = false then (n, 5) else if ev < 1 ∨ 10 < ev then (n, 1)
  else if mayF ev (n % 8) (per && !lsW n) = false then (n, 7)
  else if 4294967295 < n / 256 + (if growsF ev (n % 8) = true then 1 else 0) then (n, 9)
  else (mkW (behF ev (n % 8)) (n / 256 + (if growsF ev (n % 8) = true then 1 else 0)) (lastF ev (lsW n)), 0)

theorem behF_le (ev st : Nat) (h : st ≤ 6) : behF ev st ≤ 6 := by
  unfold behF
  repeat' split
  all_goals omega

/- bits -/
theorem and7 (n : Nat) : n &&& 7 = n % 8 := Nat.and_two_pow_sub_one_eq_mod n 3
theorem and8 (n : Nat) : n &&& 8 = if lsW n = true then 8 else 0 := by
  apply Nat.eq_of_testBit_eq
  intro i
  have e8 : ∀ i, (8 : Nat).testBit i = decide (i = 3) := by
    intro i
    rw [show (8 : Nat) = 2 ^ 3 from rfl, Nat.testBit_two_pow]
    by_cases h : i = 3 <;> simp [h, eq_comm]
  rw [Nat.testBit_and, e8]
  unfold lsW
  by_cases h3 : i = 3
  · subst h3
    rw [Nat.testBit_eq_decide_div_mod_eq]
    by_cases h : n / 8 % 2 = 1
    · simp [h]; decide
    · simp [h]
  · by_cases h : n / 8 % 2 = 1
    · simp [h, h3, e8]
    · simp [h, h3]
theorem or_sg (s g : Nat) (hs : s ≤ 6) : s ||| (g * 256) = 256 * g + s := by
  rw [Nat.or_comm, Nat.mul_comm g 256, show (256 : Nat) = 2 ^ 8 from rfl, ← Nat.two_pow_add_eq_or_of_lt (by omega)]
theorem or_8 (s g : Nat) (hs : s ≤ 6) : (256 * g + s) ||| 8 = 256 * g + s + 8 := by
  have e1 : 256 * g + s = 2 ^ 8 * g ||| s := (Nat.two_pow_add_eq_or_of_lt (show s < 2 ^ 8 by omega) g)
  rw [e1, Nat.or_assoc]
  have e2 : s ||| 8 = 8 + s := by
    rw [Nat.or_comm]
    exact (Nat.two_pow_add_eq_or_of_lt (i := 3) (show s < 2 ^ 3 by omega) 1).symm
  rw [e2, ← Nat.two_pow_add_eq_or_of_lt (show 8 + s < 2 ^ 8 by omega) g]
  rw [← e1]; omega
theorem andNot_used (n : Nat) (hn : n < 18446744073709551616) :
    (n &&& (18446744073709551615 - 1099511627535)) = 0 ↔ (n / 16 % 16 = 0 ∧ n / 256 ≤ 4294967295) := by
  have e : 18446744073709551615 - 1099511627535 = 2 ^ 4 * 15 ||| 2 ^ 40 * 16777215 := by decide
  have a1 : n &&& (2 ^ 4 * 15) = 16 * (n / 16 % 16) := by
    have h := Nat.shiftLeft_and_distrib (a := n / 16) (b := 15) (i := 4)
    apply Nat.eq_of_testBit_eq
    intro i
    rw [Nat.testBit_and, show (16 : Nat) * (n / 16 % 16) = 2 ^ 4 * (n / 2 ^ 4 % 2 ^ 4) from rfl, Nat.testBit_two_pow_mul, Nat.testBit_two_pow_mul, Nat.testBit_mod_two_pow, Nat.testBit_div_two_pow, show (15 : Nat) = 2 ^ 4 - 1 from rfl, Nat.testBit_two_pow_sub_one]
    by_cases hi : 4 ≤ i
    · simp only [hi, decide_true, Bool.true_and]
      rw [show i - 4 + 4 = i by omega, Bool.and_comm]
    · simp [hi]
  have a2 : n &&& (2 ^ 40 * 16777215) = 1099511627776 * (n / 1099511627776) := by
    apply Nat.eq_of_testBit_eq
    intro i
    rw [Nat.testBit_and, show (1099511627776 : Nat) * (n / 1099511627776) = 2 ^ 40 * (n / 2 ^ 40) from rfl, Nat.testBit_two_pow_mul, Nat.testBit_two_pow_mul, Nat.testBit_div_two_pow, show (16777215 : Nat) = 2 ^ 24 - 1 from rfl, Nat.testBit_two_pow_sub_one]
    by_cases hi : 40 ≤ i
    · simp only [hi, decide_true, Bool.true_and]
      rw [show i - 40 + 40 = i by omega]
      by_cases h64 : i - 40 < 24
      · simp [h64]
      · have : n.testBit i = false := Nat.testBit_lt_two_pow (Nat.lt_of_lt_of_le hn (show 2 ^ 64 ≤ 2 ^ i from Nat.pow_le_pow_right (by decide) (by omega)))
        rw [this]; simp
    · simp [hi]
  rw [e, Nat.and_or_distrib_left, Nat.or_eq_zero_iff, a1, a2]
  omega
end Verge

/-
  Plain facts of slabs, without Go: records, requests, what a step makes of them; how many records aren't free.
-/
namespace Verge
set_option linter.unusedVariables false

/-- a record: its word, how often it was given, its period -/
structure Rec where
  wd : Nat
  gv : Nat
  pd : Nat
/-- a request: its period, its stage, its status, the count that it saw, its slot, its number -/
structure Rq where
  pd : Nat
  st : Nat
  ss : Nat
  seen : Nat
  slot : Nat
  id : Nat
def upR (R : Nat → Rec) (k : Nat) (x : Rec) : Nat → Rec := fun i => if i = k then x else R i
theorem upR_same (R : Nat → Rec) (k : Nat) (x : Rec) : upR R k x k = x := by simp [upR]
theorem upR_other (R : Nat → Rec) {k i : Nat} (x : Rec) (h : i ≠ k) : upR R k x i = R i := by simp [upR, h]
def zeroR : Nat → Rec := fun _ => ⟨0, 0, 0⟩

/-- a request's next step -/
def stepM (n cnt : Nat) (R : Nat → Rec) (r : Rq) : Nat × (Nat → Rec) × Rq :=
  if r.ss ≠ 0 then (cnt, R, r)
  else if r.st = 0 then (if cnt = n then (cnt, R, { r with seen := cnt, ss := 1 }) else (cnt, R, { r with seen := cnt, st := 1 }))
  else if r.st = 1 then (if cnt = r.seen then (cnt + 1, R, { r with st := 2 }) else (cnt, R, { r with st := 0 }))
  else if (nxW (R r.slot).wd 1 (r.pd != 0)).2 = 0 then
    (cnt, upR R r.slot ⟨(nxW (R r.slot).wd 1 (r.pd != 0)).1, (R r.slot).gv + 1, r.pd⟩, { r with id := ((R r.slot).gv + 1) * 64 + r.slot, ss := 2 })
  else (cnt, R, { r with slot := (r.slot + 1) % n })

/-- what a word is where nothing but Alloc and Finish happens -/
def Ok1 (x : Rec) : Prop := x.wd = 256 * x.gv ∨ x.wd = 256 * x.gv + 1
/-- it isn't free -/
def busy (x : Rec) : Nat := if x.wd % 8 = 0 then 0 else 1
def used (R : Nat → Rec) : Nat → Nat
  | 0 => 0
  | n + 1 => used R n + busy (R n)
theorem used_far (R : Nat → Rec) (k : Nat) (x : Rec) (n : Nat) (h : n ≤ k) : used (upR R k x) n = used R n := by
  induction n with
  | zero => rfl
  | succ n ih => rw [used, used, ih (by omega), upR_other _ _ (by omega)]
theorem used_up (R : Nat → Rec) (k : Nat) (x : Rec) (n : Nat) (h : k < n) : used (upR R k x) n + busy (R k) = used R n + busy x := by
  induction n with
  | zero => omega
  | succ n ih =>
    rw [used, used]
    by_cases e : k = n
    · subst e; rw [used_far _ _ _ _ (Nat.le_refl _), upR_same]; omega
    · rw [upR_other _ _ (by omega)]; have := ih (by omega); omega
theorem used_le (R : Nat → Rec) (n : Nat) : used R n ≤ n := by
  induction n with
  | zero => exact Nat.le_refl _
  | succ n ih => rw [used]; unfold busy; split <;> omega
theorem used_zero (n : Nat) : used zeroR n = 0 := by
  induction n with
  | zero => rfl
  | succ n ih => rw [used, ih]; rfl
theorem used_full (R : Nat → Rec) (n : Nat) (h : ∀ k, k < n → busy (R k) = 1) : used R n = n := by
  induction n with
  | zero => rfl
  | succ n ih => rw [used, ih (fun k hk => h k (by omega)), h n (by omega)]
theorem busy_le (x : Rec) : busy x ≤ 1 := by unfold busy; split <;> omega
theorem used_pos (R : Nat → Rec) (n k : Nat) (hk : k < n) (h : busy (R k) = 1) : 1 ≤ used R n := by
  induction n with
  | zero => omega
  | succ n ih =>
    rw [used]
    by_cases e : k = n
    · subst e; omega
    · have := ih (by omega); omega
theorem Ok1.ok {x : Rec} (h : Ok1 x) (g : x.gv ≤ 4294967295) : okW x.wd = true := by
  rw [okW_true]; rcases h with h | h <;> rw [h] <;> omega
theorem Ok1.busy0 {x : Rec} (h : Ok1 x) (hb : busy x = 0) : x.wd = 256 * x.gv := by
  rcases h with h | h
  · exact h
  · exfalso; unfold busy at hb; rw [h] at hb; split at hb <;> omega
theorem Ok1.busy1 {x : Rec} (h : Ok1 x) (hb : busy x = 1) : x.wd = 256 * x.gv + 1 := by
  rcases h with h | h
  · exfalso; unfold busy at hb; rw [h] at hb; split at hb <;> omega
  · exact h
theorem busy_of0 {x : Rec} (h : x.wd = 256 * x.gv) : busy x = 0 := by unfold busy; rw [h, if_pos (by omega)]
theorem busy_of1 {x : Rec} (h : x.wd = 256 * x.gv + 1) : busy x = 1 := by unfold busy; rw [h, if_neg (by omega)]
theorem nx_alloc0 (g : Nat) (per : Bool) (hg : g + 1 ≤ 4294967295) : nxW (256 * g) 1 per = (256 * (g + 1) + 1, 0) := by
  have h1 : okW (256 * g) = true := by rw [okW_true]; omega
  have h2 : 256 * g % 8 = 0 := by omega
  have h3 : 256 * g / 256 = g := by omega
  unfold nxW
  rw [if_neg (by rw [h1]; simp), if_neg (by omega), h2, if_neg (by simp [mayF]), h3]
  have hg1 : growsF 1 0 = true := by decide
  rw [hg1, if_pos rfl, if_neg (by omega)]
  simp [mkW, behF, lastF]
theorem nx_alloc1 (g : Nat) (per : Bool) (hg : g ≤ 4294967295) : nxW (256 * g + 1) 1 per = (256 * g + 1, 7) := by
  have h1 : okW (256 * g + 1) = true := by rw [okW_true]; omega
  have h2 : (256 * g + 1) % 8 = 1 := by omega
  unfold nxW
  rw [if_neg (by rw [h1]; simp), if_neg (by omega), h2, if_pos (by simp [mayF])]
theorem nx_finish1 (g : Nat) (per : Bool) (hg : g ≤ 4294967295) : nxW (256 * g + 1) 9 per = (256 * g, 0) := by
  have h1 : okW (256 * g + 1) = true := by rw [okW_true]; omega
  have h2 : (256 * g + 1) % 8 = 1 := by omega
  have h3 : (256 * g + 1) / 256 = g := by omega
  have h4 : lsW (256 * g + 1) = false := by unfold lsW; rw [beq_eq_false_iff_ne]; omega
  unfold nxW
  rw [if_neg (by rw [h1]; simp), if_neg (by omega), h2, if_neg (by simp [mayF]), h3, h4]
  have hg1 : growsF 9 1 = false := by decide
  rw [hg1, if_neg (show ¬ (false = true) by decide), if_neg (by omega)]
  simp [mkW, behF, lastF]
end Verge

/-
  Contracts of package word's small functions: Ok, State, Gen, Last, Pack, may, grows, stateBehind, lastBehind: what each returns, at every argument.
-/
namespace Go.Proofs.YtnbdafmjcmmfpaaGreat
open Go.RowKit Verge
attribute [local go_sem] Oper.semAt_some
set_option linter.unusedVariables false

theorem ret_int {k : IntKind} {a b : Int} (h : a = b) : Ending.returned (.int k a) = .returned (.int k b) := by rw [h]
theorem ret_bool {a b : Bool} (h : a = b) : Ending.returned (.bool a) = .returned (.bool b) := by rw [h]
theorem ret2 {k k' : IntKind} {a b a' b' : Int} (h : a = b) (h' : a' = b') : Ending.returned (.tuple #[.int k a, .int k' a']) = .returned (.tuple #[.int k b, .int k' b']) := by rw [h, h']

theorem bits_used (n : Nat) (hn : n < 18446744073709551616) : bits BinOp.andNot IntKind.u64 (n : Int) 1099511627535 = ((n &&& (18446744073709551615 - 1099511627535) : Nat) : Int) :=
  u64_andNot_nat n 1099511627535 hn (by decide)
theorem bits_and7 (n : Nat) (hn : n < 18446744073709551616) : bits BinOp.and IntKind.u64 (n : Int) 7 = ((n % 8 : Nat) : Int) := by
  have := u64_and_nat n 7 hn (by decide)
  rw [and7] at this; exact this
theorem bits_and8 (n : Nat) (hn : n < 18446744073709551616) : bits BinOp.and IntKind.u64 (n : Int) 8 = ((if lsW n = true then 8 else 0 : Nat) : Int) := by
  have := u64_and_nat n 8 hn (by decide)
  rw [and8] at this; exact this

theorem ok_any (n : Nat) (hn : n < 18446744073709551616) (w : World) :
    Calls Tryz.prog 53 #[.int .u64 n] w fun e w' => e = .returned (.bool (okW n)) ∧ w = w' := by
  have e1 := bits_used n hn
  have e2 := bits_and7 n hn
  have e3 := andNot_used n hn
  by_cases h : n / 16 % 16 = 0 ∧ n / 256 ≤ 4294967295
  · have e4 : bits BinOp.andNot IntKind.u64 (n : Int) 1099511627535 = 0 := by rw [e1, e3.2 h]; rfl
    have e5 : okW n = decide (n % 8 ≤ 6) := by unfold okW; simp [h]
    rw [e5]
    clear e1 e3 h e5
    have E2 := Lib.hid e2
    clear e2
    go_enter Tryz.func53, Tryz.ntmps53
    go_wp2
    go_ret
    refine ⟨ret_bool ?_, rfl⟩
    rw [E2.out]
    exact decide_eq_decide.2 (by omega)
  · have e4 : (bits BinOp.andNot IntKind.u64 (n : Int) 1099511627535 == 0) = false := by
      rw [beq_eq_false_iff_ne, e1]
      intro hc
      exact h (e3.1 (by omega))
    have e5 : okW n = false := by rw [okW_false]; omega
    rw [e5]
    clear e1 e2 e3 h e5
    go_enter Tryz.func53, Tryz.ntmps53
    go_wp2
    go_ret
    exact ⟨rfl, rfl⟩

theorem state_any (n : Nat) (hn : n < 18446744073709551616) (w : World) :
    Calls Tryz.prog 24 #[.int .u64 n] w fun e w' => e = .returned (.int .i64 ((if okW n = true then n % 8 else 0 : Nat) : Int)) ∧ w = w' := by
  have e2 := bits_and7 n hn
  have E2 := Lib.hid e2
  clear e2
  cases h : okW n
  all_goals
    have H := Lib.hid h
    clear h
    go_enter Tryz.func24, Tryz.ntmps24
    go_wp2_with fail
    refine (ok_any n hn _).mono ?_
    rintro e w1 ⟨rfl, rfl⟩
    rw [H.out]
    go_wp2
    go_ret
    refine ⟨ret_int ?_, rfl⟩
  · rfl
  · rw [E2.out]; simp [wrap64]; try omega

theorem gen_any (n : Nat) (hn : n < 18446744073709551616) (w : World) :
    Calls Tryz.prog 122 #[.int .u64 n] w fun e w' => e = .returned (.int .u64 ((if okW n = true then n / 256 else 0 : Nat) : Int)) ∧ w = w' := by
  cases h : okW n
  all_goals
    have H := Lib.hid h
    clear h
    go_enter Tryz.func122, Tryz.ntmps122
    go_wp2_with fail
    refine (ok_any n hn _).mono ?_
    rintro e w1 ⟨rfl, rfl⟩
    rw [H.out]
    go_wp2
    go_ret
    refine ⟨ret_int ?_, rfl⟩
  · rfl
  · simp

theorem last_any (n : Nat) (hn : n < 18446744073709551616) (w : World) :
    Calls Tryz.prog 123 #[.int .u64 n] w fun e w' => e = .returned (.bool (okW n && lsW n)) ∧ w = w' := by
  have e2 := bits_and8 n hn
  have E2 := Lib.hid e2
  clear e2
  cases h : okW n
  all_goals
    have H := Lib.hid h
    clear h
    go_enter Tryz.func123, Tryz.ntmps123
    go_wp2_with fail
    refine (ok_any n hn _).mono ?_
    rintro e w1 ⟨rfl, rfl⟩
    rw [H.out]
    go_wp2
    go_ret
    refine ⟨ret_bool ?_, rfl⟩
  · rfl
  · rw [E2.out]
    cases lsW n <;> rfl

theorem pack_any (s : Int) (g : Nat) (l : Bool) (hg : g < 18446744073709551616) (w : World) :
    Calls Tryz.prog 126 #[.int .i64 s, .int .u64 g, .bool l] w fun e w' =>
      e = .returned (if 0 ≤ s ∧ s ≤ 6 ∧ g ≤ 4294967295 then .tuple #[.int .u64 (mkW s.toNat g l : Nat), .int .i64 0] else .tuple #[.int .u64 0, .int .i64 4]) ∧ w = w' := by
  by_cases h : 0 ≤ s ∧ s ≤ 6 ∧ g ≤ 4294967295
  · rw [if_pos h]
    obtain ⟨h0, h6, hg2⟩ := h
    obtain ⟨k, rfl⟩ := Int.eq_ofNat_of_zero_le h0
    rw [Int.toNat_natCast]
    have hk : k ≤ 6 := by omega
    have a1 : bits BinOp.or IntKind.u64 (k : Int) ((g : Int) * 256) = ((256 * g + k : Nat) : Int) := by
      have := u64_or_nat k (g * 256) (by omega) (by omega)
      rw [or_sg k g hk] at this
      rw [← this]; simp
    have a2 : bits BinOp.or IntKind.u64 ((256 * g + k : Nat) : Int) 8 = ((256 * g + k + 8 : Nat) : Int) := by
      have := u64_or_nat (256 * g + k) 8 (by omega) (by omega)
      rw [or_8 k g hk] at this
      exact this
    have A1 := Lib.hid a1
    have A2 := Lib.hid a2
    clear a1 a2
    cases l
    all_goals
      go_enter Tryz.func126, Tryz.ntmps126
      go_wp2
      go_ret2
      refine ⟨ret2 ?_ rfl, rfl⟩
    · rw [A1.out]; rfl
    · rw [A1.out, A2.out]; rfl
  · rw [if_neg h]
    by_cases h0 : s < 0
    · clear h
      go_enter Tryz.func126, Tryz.ntmps126
      go_wp2
      go_ret2
      exact ⟨rfl, rfl⟩
    · by_cases h6 : 6 < s
      · clear h
        go_enter Tryz.func126, Tryz.ntmps126
        go_wp2
        go_ret2
        exact ⟨rfl, rfl⟩
      · have hg2 : 4294967295 < g := by omega
        clear h
        go_enter Tryz.func126, Tryz.ntmps126
        go_wp2
        go_ret2
        exact ⟨rfl, rfl⟩

end Go.Proofs.YtnbdafmjcmmfpaaGreat

/-
  Contracts of package word's may, grows, stateBehind and lastBehind, at every event and state that there is.
-/
namespace Go.Proofs.YtnbdafmjcmmfpaaGreat
open Go.RowKit Verge
attribute [local go_sem] Oper.semAt_some
set_option linter.unusedVariables false

theorem cases10 {ev : Nat} (h : 1 ≤ ev ∧ ev ≤ 10) : ev = 1 ∨ ev = 2 ∨ ev = 3 ∨ ev = 4 ∨ ev = 5 ∨ ev = 6 ∨ ev = 7 ∨ ev = 8 ∨ ev = 9 ∨ ev = 10 := by omega

set_option maxHeartbeats 400000 in
theorem may_1 (s : Nat) (again : Bool) (w : World) :
    Calls Tryz.prog 124 #[.int .i64 1, .int .i64 s, .bool again] w fun e w' => e = .returned (.bool (mayF 1 s again)) ∧ w = w' := by
  cases again
  all_goals
    go_enter Tryz.func124, Tryz.ntmps124
    go_wp2
    all_goals
      go_ret
      first
        | exact ⟨rfl, rfl⟩
        | (refine ⟨ret_bool ?_, rfl⟩; rw [Bool.eq_iff_iff]; simp [mayF]; done)
        | (refine ⟨ret_bool ?_, rfl⟩; rw [Bool.eq_iff_iff]; simp [mayF]; omega)

set_option maxHeartbeats 400000 in
theorem may_2 (s : Nat) (again : Bool) (w : World) :
    Calls Tryz.prog 124 #[.int .i64 2, .int .i64 s, .bool again] w fun e w' => e = .returned (.bool (mayF 2 s again)) ∧ w = w' := by
  cases again
  all_goals
    go_enter Tryz.func124, Tryz.ntmps124
    go_wp2
    all_goals
      go_ret
      first
        | exact ⟨rfl, rfl⟩
        | (refine ⟨ret_bool ?_, rfl⟩; rw [Bool.eq_iff_iff]; simp [mayF]; done)
        | (refine ⟨ret_bool ?_, rfl⟩; rw [Bool.eq_iff_iff]; simp [mayF]; omega)

set_option maxHeartbeats 400000 in
theorem may_3 (s : Nat) (again : Bool) (w : World) :
    Calls Tryz.prog 124 #[.int .i64 3, .int .i64 s, .bool again] w fun e w' => e = .returned (.bool (mayF 3 s again)) ∧ w = w' := by
  cases again
  all_goals
    go_enter Tryz.func124, Tryz.ntmps124
    go_wp2
    all_goals
      go_ret
      first
        | exact ⟨rfl, rfl⟩
        | (refine ⟨ret_bool ?_, rfl⟩; rw [Bool.eq_iff_iff]; simp [mayF]; done)
        | (refine ⟨ret_bool ?_, rfl⟩; rw [Bool.eq_iff_iff]; simp [mayF]; omega)

set_option maxHeartbeats 400000 in
theorem may_4 (s : Nat) (again : Bool) (w : World) :
    Calls Tryz.prog 124 #[.int .i64 4, .int .i64 s, .bool again] w fun e w' => e = .returned (.bool (mayF 4 s again)) ∧ w = w' := by
  cases again
  all_goals
    go_enter Tryz.func124, Tryz.ntmps124
    go_wp2
    all_goals
      go_ret
      first
        | exact ⟨rfl, rfl⟩
        | (refine ⟨ret_bool ?_, rfl⟩; rw [Bool.eq_iff_iff]; simp [mayF]; done)
        | (refine ⟨ret_bool ?_, rfl⟩; rw [Bool.eq_iff_iff]; simp [mayF]; omega)

set_option maxHeartbeats 400000 in
theorem may_5 (s : Nat) (again : Bool) (w : World) :
    Calls Tryz.prog 124 #[.int .i64 5, .int .i64 s, .bool again] w fun e w' => e = .returned (.bool (mayF 5 s again)) ∧ w = w' := by
  cases again
  all_goals
    go_enter Tryz.func124, Tryz.ntmps124
    go_wp2
    all_goals
      go_ret
      first
        | exact ⟨rfl, rfl⟩
        | (refine ⟨ret_bool ?_, rfl⟩; rw [Bool.eq_iff_iff]; simp [mayF]; done)
        | (refine ⟨ret_bool ?_, rfl⟩; rw [Bool.eq_iff_iff]; simp [mayF]; omega)

set_option maxHeartbeats 400000 in
theorem may_6 (s : Nat) (again : Bool) (w : World) :
    Calls Tryz.prog 124 #[.int .i64 6, .int .i64 s, .bool again] w fun e w' => e = .returned (.bool (mayF 6 s again)) ∧ w = w' := by
  have hc : s = 2 ∨ s = 3 ∨ s = 4 ∨ ((((s : Int)) == 2) = false ∧ (((s : Int)) == 3) = false ∧ (((s : Int)) == 4) = false ∧ (s == 2) = false ∧ (s == 3) = false ∧ (s == 4) = false) := by
    simp only [beq_eq_false_iff_ne, ne_eq]; omega
  rcases hc with rfl | rfl | rfl | ⟨g2, g3, g4, k2, k3, k4⟩ <;> cases again
  all_goals
    go_enter Tryz.func124, Tryz.ntmps124
    go_wp2
    all_goals
      go_ret
      first
        | exact ⟨rfl, rfl⟩
        | (refine ⟨ret_bool ?_, rfl⟩; simp [mayF, k2, k3, k4]; done)

set_option maxHeartbeats 400000 in
theorem may_7 (s : Nat) (again : Bool) (w : World) :
    Calls Tryz.prog 124 #[.int .i64 7, .int .i64 s, .bool again] w fun e w' => e = .returned (.bool (mayF 7 s again)) ∧ w = w' := by
  have hc : s = 2 ∨ s = 3 ∨ s = 4 ∨ ((((s : Int)) == 2) = false ∧ (((s : Int)) == 3) = false ∧ (((s : Int)) == 4) = false ∧ (s == 2) = false ∧ (s == 3) = false ∧ (s == 4) = false) := by
    simp only [beq_eq_false_iff_ne, ne_eq]; omega
  rcases hc with rfl | rfl | rfl | ⟨g2, g3, g4, k2, k3, k4⟩ <;> cases again
  all_goals
    go_enter Tryz.func124, Tryz.ntmps124
    go_wp2
    all_goals
      go_ret
      first
        | exact ⟨rfl, rfl⟩
        | (refine ⟨ret_bool ?_, rfl⟩; simp [mayF, k2, k3, k4]; done)

set_option maxHeartbeats 400000 in
theorem may_8 (s : Nat) (again : Bool) (w : World) :
    Calls Tryz.prog 124 #[.int .i64 8, .int .i64 s, .bool again] w fun e w' => e = .returned (.bool (mayF 8 s again)) ∧ w = w' := by
  have hc : s = 2 ∨ s = 3 ∨ s = 4 ∨ ((((s : Int)) == 2) = false ∧ (((s : Int)) == 3) = false ∧ (((s : Int)) == 4) = false ∧ (s == 2) = false ∧ (s == 3) = false ∧ (s == 4) = false) := by
    simp only [beq_eq_false_iff_ne, ne_eq]; omega
  rcases hc with rfl | rfl | rfl | ⟨g2, g3, g4, k2, k3, k4⟩ <;> cases again
  all_goals
    go_enter Tryz.func124, Tryz.ntmps124
    go_wp2
    all_goals
      go_ret
      first
        | exact ⟨rfl, rfl⟩
        | (refine ⟨ret_bool ?_, rfl⟩; simp [mayF, k2, k3, k4]; done)

set_option maxHeartbeats 400000 in
theorem may_9 (s : Nat) (again : Bool) (w : World) :
    Calls Tryz.prog 124 #[.int .i64 9, .int .i64 s, .bool again] w fun e w' => e = .returned (.bool (mayF 9 s again)) ∧ w = w' := by
  cases again
  all_goals
    go_enter Tryz.func124, Tryz.ntmps124
    go_wp2
    all_goals
      go_ret
      first
        | exact ⟨rfl, rfl⟩
        | (refine ⟨ret_bool ?_, rfl⟩; rw [Bool.eq_iff_iff]; simp [mayF]; done)
        | (refine ⟨ret_bool ?_, rfl⟩; rw [Bool.eq_iff_iff]; simp [mayF]; omega)

set_option maxHeartbeats 400000 in
theorem may_10 (s : Nat) (again : Bool) (w : World) :
    Calls Tryz.prog 124 #[.int .i64 10, .int .i64 s, .bool again] w fun e w' => e = .returned (.bool (mayF 10 s again)) ∧ w = w' := by
  cases again
  all_goals
    go_enter Tryz.func124, Tryz.ntmps124
    go_wp2
    all_goals
      go_ret
      first
        | exact ⟨rfl, rfl⟩
        | (refine ⟨ret_bool ?_, rfl⟩; rw [Bool.eq_iff_iff]; simp [mayF]; done)
        | (refine ⟨ret_bool ?_, rfl⟩; rw [Bool.eq_iff_iff]; simp [mayF]; omega)

theorem may_any (ev s : Nat) (again : Bool) (hev : 1 ≤ ev ∧ ev ≤ 10) (w : World) :
    Calls Tryz.prog 124 #[.int .i64 ev, .int .i64 s, .bool again] w fun e w' => e = .returned (.bool (mayF ev s again)) ∧ w = w' := by
  rcases cases10 hev with rfl | rfl | rfl | rfl | rfl | rfl | rfl | rfl | rfl | rfl
  · exact may_1 s again w
  · exact may_2 s again w
  · exact may_3 s again w
  · exact may_4 s again w
  · exact may_5 s again w
  · exact may_6 s again w
  · exact may_7 s again w
  · exact may_8 s again w
  · exact may_9 s again w
  · exact may_10 s again w

set_option maxHeartbeats 4000000 in
theorem grows_any (ev s : Nat) (hev : 1 ≤ ev ∧ ev ≤ 10) (w : World) :
    Calls Tryz.prog 125 #[.int .i64 ev, .int .i64 s] w fun e w' => e = .returned (.bool (growsF ev s)) ∧ w = w' := by
  rcases cases10 hev with rfl | rfl | rfl | rfl | rfl | rfl | rfl | rfl | rfl | rfl
  all_goals
    clear hev
    go_enter Tryz.func125, Tryz.ntmps125
    go_wp2
    all_goals
      go_ret
      first
        | exact ⟨rfl, rfl⟩
        | (refine ⟨ret_bool ?_, rfl⟩; rw [Bool.eq_iff_iff]; simp [growsF]; done)
        | (refine ⟨ret_bool ?_, rfl⟩; rw [Bool.eq_iff_iff]; simp [growsF]; omega)

set_option maxHeartbeats 4000000 in
theorem behind_any (ev s : Nat) (hev : 1 ≤ ev ∧ ev ≤ 10) (w : World) :
    Calls Tryz.prog 127 #[.int .i64 ev, .int .i64 s] w fun e w' => e = .returned (.int .i64 (behF ev s : Nat)) ∧ w = w' := by
  by_cases h1 : s = 1
  · subst h1
    rcases cases10 hev with rfl | rfl | rfl | rfl | rfl | rfl | rfl | rfl | rfl | rfl
    all_goals
      clear hev
      go_enter Tryz.func127, Tryz.ntmps127
      go_wp2
      go_ret
      exact ⟨rfl, rfl⟩
  · rcases cases10 hev with rfl | rfl | rfl | rfl | rfl | rfl | rfl | rfl | rfl | rfl
    all_goals
      clear hev
      go_enter Tryz.func127, Tryz.ntmps127
      go_wp2
      go_ret
      first
        | exact ⟨rfl, rfl⟩
        | (refine ⟨ret_int ?_, rfl⟩; simp [behF, h1]; done)

theorem lastb_any (ev : Nat) (l : Bool) (hev : 1 ≤ ev ∧ ev ≤ 10) (w : World) :
    Calls Tryz.prog 128 #[.int .i64 ev, .bool l] w fun e w' => e = .returned (.bool (lastF ev l)) ∧ w = w' := by
  rcases cases10 hev with rfl | rfl | rfl | rfl | rfl | rfl | rfl | rfl | rfl | rfl
  all_goals
    clear hev
    go_enter Tryz.func128, Tryz.ntmps128
    go_wp2
    go_ret
    exact ⟨rfl, rfl⟩
end Go.Proofs.YtnbdafmjcmmfpaaGreat

/-
  Contract of word.Next, at every number, event and way: it returns what nxW says; and the document's example (alive).
-/
namespace Go.Proofs.YtnbdafmjcmmfpaaGreat
open Go.RowKit Verge
attribute [local go_sem] Oper.semAt_some
set_option linter.unusedVariables false

def nxZ (n : Nat) (ev : Int) (per : Bool) : Nat × Nat := if ev < 0 then nxW n 0 per else nxW n ev.toNat per

theorem nxZ_nat (n ev : Nat) (per : Bool) : nxZ n (ev : Nat) per = nxW n ev per := by
  unfold nxZ; rw [if_neg (by omega), Int.toNat_natCast]

theorem ret_pair {k k' : IntKind} {a a' : Int} {p : Nat × Nat} (h : a = (p.1 : Nat)) (h' : a' = (p.2 : Nat)) :
    Ending.returned (.tuple #[.int k a, .int k' a']) = .returned (.tuple #[.int k (p.1 : Nat), .int k' (p.2 : Nat)]) := by rw [h, h']

theorem nx_form {n : Nat} {ev : Int} {per : Bool} (h : okW n = false) : nxZ n ev per = (n, 5) := by
  unfold nxZ nxW; simp [h]
theorem nx_inv {n : Nat} {ev : Int} {per : Bool} (h : okW n = true) (he : ev < 1 ∨ 10 < ev) : nxZ n ev per = (n, 1) := by
  unfold nxZ nxW
  by_cases h0 : ev < 0
  · rw [if_pos h0, if_neg (by simp [h]), if_pos (by omega)]
  · rw [if_neg h0, if_neg (by simp [h]), if_pos (by omega)]
theorem nx_state {n ev : Nat} {per : Bool} (h : okW n = true) (he : 1 ≤ ev ∧ ev ≤ 10) (hm : mayF ev (n % 8) (per && !lsW n) = false) : nxZ n (ev : Nat) per = (n, 7) := by
  rw [nxZ_nat]; unfold nxW
  rw [if_neg (by simp [h]), if_neg (by omega), if_pos hm]
theorem nx_over {n ev : Nat} {per : Bool} (h : okW n = true) (he : 1 ≤ ev ∧ ev ≤ 10) (hm : mayF ev (n % 8) (per && !lsW n) = true)
    (hg : 4294967295 < n / 256 + (if growsF ev (n % 8) = true then 1 else 0)) : nxZ n (ev : Nat) per = (n, 9) := by
  rw [nxZ_nat]; unfold nxW
  rw [if_neg (by simp [h]), if_neg (by omega), if_neg (by simp [hm]), if_pos hg]
theorem nx_go {n ev : Nat} {per : Bool} (h : okW n = true) (he : 1 ≤ ev ∧ ev ≤ 10) (hm : mayF ev (n % 8) (per && !lsW n) = true)
    (hg : ¬ 4294967295 < n / 256 + (if growsF ev (n % 8) = true then 1 else 0)) :
    nxZ n (ev : Nat) per = (mkW (behF ev (n % 8)) (n / 256 + (if growsF ev (n % 8) = true then 1 else 0)) (lastF ev (lsW n)), 0) := by
  rw [nxZ_nat]; unfold nxW
  rw [if_neg (by simp [h]), if_neg (by omega), if_neg (by simp [hm]), if_neg hg]

set_option maxHeartbeats 4000000 in
set_option maxRecDepth 100000 in
theorem next_ok (n ev : Nat) (per : Bool) (hn : n < 18446744073709551616) (hok : okW n = true) (he : 1 ≤ ev ∧ ev ≤ 10) (w : World) :
    Calls Tryz.prog 106 #[.int .u64 n, .int .i64 ev, .bool per] w fun e w' =>
      e = .returned (.tuple #[.int .u64 ((nxZ n ev per).1 : Nat), .int .i64 ((nxZ n ev per).2 : Nat)]) ∧ w = w' := by
  have HO := Lib.hid hok
  have hgl : n / 256 ≤ 4294967295 := (okW_true.1 hok).2.2
  have hs6 : n % 8 ≤ 6 := (okW_true.1 hok).1
  clear hok
  have HS6 := Lib.hid hs6
  clear hs6
  obtain ⟨s, hs⟩ : ∃ s, n % 8 = s := ⟨_, rfl⟩
  obtain ⟨g, hg⟩ : ∃ g, n / 256 = g := ⟨_, rfl⟩
  obtain ⟨l, hl⟩ : ∃ l, lsW n = l := ⟨_, rfl⟩
  obtain ⟨m, hm⟩ : ∃ m, mayF ev (n % 8) (per && !lsW n) = m := ⟨_, rfl⟩
  obtain ⟨q, hq⟩ : ∃ q, growsF ev (n % 8) = q := ⟨_, rfl⟩
  rw [hg] at hgl
  obtain ⟨z, hz⟩ : ∃ z : Int, (g : Int) = z := ⟨_, rfl⟩
  have hz0 : 0 ≤ z := by omega
  have hz1 : z ≤ 4294967295 := by omega
  have HZ := Lib.hid hz
  have HGL := Lib.hid hgl
  clear hz hgl
  have HS := Lib.hid hs
  have HG := Lib.hid hg
  have HL := Lib.hid hl
  have HM := Lib.hid hm
  have HQ := Lib.hid hq
  have HE := Lib.hid he
  rw [hs, hl] at hm
  rw [hs] at hq
  have hev1 : 1 ≤ ev := he.1
  have hev2 : ev ≤ 10 := he.2
  clear hs hg hl he
  have HQ2 := Lib.hid hq
  clear hq
  cases per <;> cases l
  all_goals
    simp only [Bool.not_false, Bool.not_true, Bool.and_true, Bool.and_false] at hm
    have HM2 := Lib.hid hm
    clear hm
    go_enter Tryz.func106, Tryz.ntmps106
    go_wp2_with fail
    refine (ok_any n hn _).mono ?_
    rintro e w1 ⟨rfl, rfl⟩
    rw [HO.out]
    go_wp2_with fail
    refine (state_any n hn _).mono ?_
    rintro e w1 ⟨rfl, rfl⟩
    rw [HO.out, if_pos rfl, HS.out]
    go_wp2_with fail
    refine (gen_any n hn _).mono ?_
    rintro e w1 ⟨rfl, rfl⟩
    rw [HO.out, if_pos rfl, HG.out, HZ.out]
    go_wp2_with fail
    refine (last_any n hn _).mono ?_
    rintro e w1 ⟨rfl, rfl⟩
    rw [HO.out, Bool.true_and, HL.out]
    go_wp2_with fail
    refine (may_any ev s _ HE.out _).mono ?_
    rintro e w1 ⟨rfl, rfl⟩
    cases m
    · rw [HM2.out]
      go_wp2
      go_ret2
      rw [nx_state HO.out HE.out HM.out]
      exact ⟨rfl, rfl⟩
    · rw [HM2.out]
      go_wp2_with fail
      refine (grows_any ev s HE.out _).mono ?_
      rintro e w1 ⟨rfl, rfl⟩
      rw [HQ2.out]
      cases q
      · have HN := Lib.hid (nx_go HO.out HE.out HM.out (by rw [HQ.out, HG.out]; simp; have := HGL.out; omega))
        have hb6 := Lib.hid (behF_le ev (n % 8) HS6.out)
        go_wp2_with fail
        refine (behind_any ev s HE.out _).mono ?_
        rintro e w1 ⟨rfl, rfl⟩
        go_wp2_with fail
        refine (lastb_any ev _ HE.out _).mono ?_
        rintro e w1 ⟨rfl, rfl⟩
        go_wp2_with fail
        rw [← HZ.out]
        refine (pack_any _ g _ (by have := HGL.out; omega) _).mono ?_
        rintro e w1 ⟨rfl, rfl⟩
        rw [if_pos ⟨by omega, by have := hb6.out; rw [HS.out] at this; omega, HGL.out⟩]
        go_wp2
        go_ret2
        rw [HN.out]
        refine ⟨ret2 ?_ rfl, rfl⟩
        rw [HQ.out, HG.out, HS.out, HL.out]; rfl
      · by_cases ho : (4294967295 : Int) < z + 1
        · have HN := Lib.hid (nx_over HO.out HE.out HM.out (by rw [HQ.out, HG.out, if_pos rfl]; have := HZ.out; omega))
          go_wp2
          go_ret2
          rw [HN.out]
          exact ⟨rfl, rfl⟩
        · have HN := Lib.hid (nx_go HO.out HE.out HM.out (by rw [HQ.out, HG.out, if_pos rfl]; have := HZ.out; omega))
          have hb6 := Lib.hid (behF_le ev (n % 8) HS6.out)
          have hg1 : g + 1 ≤ 4294967295 := by have := HZ.out; omega
          have HG1 := Lib.hid hg1
          clear hg1
          go_wp2_with fail
          refine (behind_any ev s HE.out _).mono ?_
          rintro e w1 ⟨rfl, rfl⟩
          go_wp2_with fail
          refine (lastb_any ev _ HE.out _).mono ?_
          rintro e w1 ⟨rfl, rfl⟩
          go_wp2_with fail
          rw [show z + 1 = ((g + 1 : Nat) : Int) by have := HZ.out; omega]
          refine (pack_any _ (g + 1) _ (by have := HG1.out; omega) _).mono ?_
          rintro e w1 ⟨rfl, rfl⟩
          rw [if_pos ⟨by omega, by have := hb6.out; rw [HS.out] at this; omega, HG1.out⟩]
          go_wp2
          go_ret2
          rw [HN.out]
          refine ⟨ret2 ?_ rfl, rfl⟩
          rw [HQ.out, HG.out, HS.out, HL.out]; rfl

theorem next_any (n : Nat) (ev : Int) (per : Bool) (hn : n < 18446744073709551616) (w : World) :
    Calls Tryz.prog 106 #[.int .u64 n, .int .i64 ev, .bool per] w fun e w' =>
      e = .returned (.tuple #[.int .u64 ((nxZ n ev per).1 : Nat), .int .i64 ((nxZ n ev per).2 : Nat)]) ∧ w = w' := by
  cases hok : okW n
  · have HO := Lib.hid hok
    rw [nx_form hok]
    clear hok
    go_enter Tryz.func106, Tryz.ntmps106
    go_wp2_with fail
    refine (ok_any n hn _).mono ?_
    rintro e w1 ⟨rfl, rfl⟩
    rw [HO.out]
    go_wp2
    go_ret2
    exact ⟨rfl, rfl⟩
  · by_cases he : ev < 1 ∨ 10 < ev
    · rw [nx_inv hok he]
      have HO := Lib.hid hok
      clear hok
      rcases he with he | he
      all_goals
        go_enter Tryz.func106, Tryz.ntmps106
        go_wp2_with fail
        refine (ok_any n hn _).mono ?_
        rintro e w1 ⟨rfl, rfl⟩
        rw [HO.out]
        go_wp2
        go_ret2
        exact ⟨rfl, rfl⟩
    · obtain ⟨k, rfl⟩ := Int.eq_ofNat_of_zero_le (show 0 ≤ ev by omega)
      exact next_ok n k per hn hok (by omega) w
end Go.Proofs.YtnbdafmjcmmfpaaGreat

/-
  A ring's ticket as a plain state, and what a step makes of it.
-/
namespace Verge
/-- a ticket: its stage, its status, its position, whether it filled -/
structure TSt where
  st : Int
  su : Int
  pos : Nat
  fl : Bool
/-- a step: the next position behind it, and the ticket -/
def tickStep (n nx fi : Nat) (P : Nat → Bool) (t : TSt) : Nat × TSt :=
  if t.su ≠ 0 then (nx, t)
  else if t.st = 0 then (nx, ⟨1, 0, nx, t.fl⟩)
  else if t.st = 1 then
    if fi + n ≤ t.pos then (nx, ⟨1, 1, t.pos, t.fl⟩)
    else if t.pos < fi ∨ P t.pos = true then (nx, ⟨0, 0, t.pos, t.fl⟩)
    else (nx, ⟨2, 0, t.pos, t.fl⟩)
  else if nx = t.pos then (nx + 1, ⟨2, 2, t.pos, t.fl⟩) else (nx, ⟨0, 0, t.pos, t.fl⟩)
/-- a function that answers otherwise at one place -/
def upd {α : Type} (f : Nat → α) (i : Nat) (x : α) : Nat → α := fun j => if j = i then x else f j
theorem upd_same {α : Type} (f : Nat → α) (i : Nat) (x : α) : upd f i x i = x := by simp [upd]
theorem upd_other {α : Type} (f : Nat → α) (i : Nat) (x : α) (j : Nat) (h : j ≠ i) : upd f i x j = f j := by simp [upd, h]
end Verge
