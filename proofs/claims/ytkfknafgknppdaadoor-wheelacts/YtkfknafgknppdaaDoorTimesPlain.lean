/-
  Plain arithmetic of times by their digits of the base 64 (no Go in sight): digits, the highest level at which two times differ, how many lowest digits are 0, a time without its lowest digits.
-/
import Derived.Laws.BitsAllLaws
namespace Verge

def dg (t l : Nat) : Nat := t / 64 ^ l % 64
theorem dg_lt (t l : Nat) : dg t l < 64 := Nat.mod_lt _ (by decide)

/-- the digits with their levels, from the level 0 on -/
def pairs (t : Nat) : List (Nat × Nat) := (List.range 11).map fun k => (k, dg t k)
theorem pairs_length (t : Nat) : (pairs t).length = 11 := by simp [pairs]
theorem pairs_take (t k : Nat) (h : k < 11) : (pairs t).take (k + 1) = (pairs t).take k ++ [(k, dg t k)] := by
  rw [List.take_succ_eq_append_getElem (by simpa [pairs] using h)]
  simp [pairs]
theorem pairs_all (t : Nat) : (pairs t).take 11 = pairs t := by
  rw [List.take_of_length_le]; simp [pairs]

/-- xor by digits -/
theorem dg_xor (a b l : Nat) : dg (a ^^^ b) l = dg a l ^^^ dg b l := by
  unfold dg
  have e : (64 : Nat) ^ l = 2 ^ (6 * l) := by rw [Nat.pow_mul]
  have e6 : (64 : Nat) = 2 ^ 6 := rfl
  rw [e]
  conv => lhs; rw [e6]
  conv => rhs; rw [e6]
  apply Nat.eq_of_testBit_eq
  intro i
  simp only [Nat.testBit_mod_two_pow, Nat.testBit_div_two_pow, Nat.testBit_xor]
  cases decide (i < 6) <;> simp
theorem xor_zero_iff (x y : Nat) : x ^^^ y = 0 ↔ x = y := by
  constructor
  · intro h
    apply Nat.eq_of_testBit_eq
    intro i
    have := congrArg (fun n => n.testBit i) h
    simp only [Nat.testBit_xor, Nat.zero_testBit] at this
    cases hx : x.testBit i <;> cases hy : y.testBit i <;> simp_all
  · rintro rfl; exact Nat.xor_self x
theorem dg_xor_zero (a b l : Nat) : dg (a ^^^ b) l = 0 ↔ dg a l = dg b l := by rw [dg_xor, xor_zero_iff]

/-- the highest of the levels below k at which two times differ; -1: none -/
def ap (a b : Nat) : Nat → Int
  | 0 => -1
  | k + 1 => if dg a k = dg b k then ap a b k else k
theorem ap_eq (a b k : Nat) (h : dg a k = dg b k) : ap a b (k + 1) = ap a b k := if_pos h
theorem ap_ne (a b k : Nat) (h : ¬ dg a k = dg b k) : ap a b (k + 1) = k := if_neg h
theorem ap_lt (a b : Nat) : ∀ k, ap a b k < k ∧ -1 ≤ ap a b k
  | 0 => by simp [ap]
  | k + 1 => by
    have := ap_lt a b k
    unfold ap; split <;> omega
theorem ap_symm (a b : Nat) : ∀ k, ap a b k = ap b a k
  | 0 => rfl
  | k + 1 => by
    unfold ap; rw [ap_symm a b k]
    by_cases h : dg a k = dg b k
    · rw [if_pos h, if_pos h.symm]
    · rw [if_neg h, if_neg (fun e => h e.symm)]
/-- what it is -/
theorem ap_spec (a b : Nat) : ∀ k, (∀ l : Nat, ap a b k < l → l < k → dg a l = dg b l) ∧ (0 ≤ ap a b k → dg a (ap a b k).toNat ≠ dg b (ap a b k).toNat)
  | 0 => ⟨fun l _ h => absurd h (by omega), fun h => absurd h (by simp [ap])⟩
  | k + 1 => by
    obtain ⟨h1, h2⟩ := ap_spec a b k
    by_cases h : dg a k = dg b k
    · have e := ap_eq a b k h
      rw [e]
      refine ⟨fun l hl hk => ?_, h2⟩
      by_cases hlk : l = k
      · rw [hlk]; exact h
      · exact h1 l hl (by omega)
    · have e := ap_ne a b k h
      rw [e]
      exact ⟨fun l hl hk => absurd hl (by omega), fun _ => by simpa using h⟩
theorem ap_skip (a b i : Nat) (h : ∀ l, i ≤ l → l < 11 → dg a l = dg b l) (hi : i ≤ 11) : ap a b 11 = ap a b i := by
  have key : ∀ d, i + d ≤ 11 → ap a b (i + d) = ap a b i := by
    intro d
    induction d with
    | zero => intro _; rfl
    | succ d ih =>
      intro hd
      have e : ap a b (i + (d + 1)) = ap a b (i + d) := by
        exact ap_eq a b (i + d) (h (i + d) (by omega) (by omega))
      rw [e, ih (by omega)]
  have := key (11 - i) (by omega)
  rwa [show i + (11 - i) = 11 by omega] at this

/-- how many of the lowest digits are 0 -/
def Zeros (t n : Nat) : Prop := n ≤ 11 ∧ (∀ i, i < n → dg t i = 0) ∧ (n = 11 ∨ dg t n ≠ 0)
theorem Zeros.unique {t n m : Nat} (h : Zeros t n) (h' : Zeros t m) : n = m := by
  obtain ⟨a, b, c⟩ := h
  obtain ⟨a', b', c'⟩ := h'
  rcases Nat.lt_trichotomy n m with hlt | rfl | hlt
  · rcases c with rfl | c
    · omega
    · exact absurd (b' n hlt) c
  · rfl
  · rcases c' with rfl | c'
    · omega
    · exact absurd (b m hlt) c'

/-- a time without its digits below a level -/
def ct (t l : Nat) : Nat := t / 64 ^ l * 64 ^ l
theorem ct_le (t l : Nat) : ct t l ≤ t := Nat.div_mul_le_self _ _
theorem ct_zero (t : Nat) : ct t 0 = t := by simp [ct]
theorem ct_big (t l : Nat) (ht : t < 18446744073709551616) (hl : 11 ≤ l) : ct t l = 0 := by
  unfold ct
  have h1 : (64 : Nat) ^ 11 ≤ 64 ^ l := Nat.pow_le_pow_right (by decide) hl
  have h2 : t < 64 ^ l := Nat.lt_of_lt_of_le (Nat.lt_trans ht (by decide)) h1
  rw [Nat.div_eq_of_lt h2, Nat.zero_mul]
/-- digits of what is cut -/
theorem dg_ct (t l j : Nat) : dg (ct t l) j = if l ≤ j then dg t j else 0 := by
  unfold dg ct
  split
  · rename_i h
    have e : (64 : Nat) ^ j = 64 ^ l * 64 ^ (j - l) := by rw [← Nat.pow_add]; congr 1; omega
    rw [e, ← Nat.div_div_eq_div_mul, ← Nat.div_div_eq_div_mul, Nat.mul_div_cancel _ (Nat.pos_of_ne_zero (by simp))]
  · rename_i h
    have e : (64 : Nat) ^ l = 64 ^ (l - j - 1) * 64 * 64 ^ j := by
      rw [← Nat.pow_succ, ← Nat.pow_add]; congr 1; omega
    rw [e, ← Nat.mul_assoc, Nat.mul_div_cancel _ (Nat.pos_of_ne_zero (by simp)), ← Nat.mul_assoc, Nat.mul_mod_left]
theorem div_step (c j : Nat) : c / 64 ^ j = c / 64 ^ (j + 1) * 64 + dg c j := by
  unfold dg
  rw [Nat.pow_succ, ← Nat.div_div_eq_div_mul]
  have := Nat.div_add_mod (c / 64 ^ j) 64
  omega
theorem div_top (c : Nat) (hc : c < 18446744073709551616) : c / 64 ^ 11 = 0 := Nat.div_eq_of_lt (Nat.lt_trans hc (by decide))

/-- alike from a level on: cut alike -/
theorem div_eq_of_digits (a b : Nat) (ha : a < 18446744073709551616) (hb : b < 18446744073709551616) (k : Nat) (h : ∀ l, k ≤ l → l < 11 → dg a l = dg b l) : a / 64 ^ k = b / 64 ^ k := by
  have key : ∀ d, d ≤ 11 → k ≤ 11 - d → a / 64 ^ (11 - d) = b / 64 ^ (11 - d) := by
    intro d
    induction d with
    | zero => intro _ _; rw [show 11 - 0 = 11 from rfl, div_top a ha, div_top b hb]
    | succ d ih =>
      intro hd hk
      have := ih (by omega) (by omega)
      rw [div_step a (11 - (d + 1)), div_step b (11 - (d + 1)), show 11 - (d + 1) + 1 = 11 - d by omega, this, h _ hk (by omega)]
  by_cases hk : k ≤ 11
  · have := key (11 - k) (by omega) (by omega)
    rwa [show 11 - (11 - k) = k by omega] at this
  · have h1 : (64 : Nat) ^ 11 ≤ 64 ^ k := Nat.pow_le_pow_right (by decide) (by omega)
    have p : (18446744073709551616 : Nat) < 64 ^ 11 := by decide
    rw [Nat.div_eq_of_lt (by omega), Nat.div_eq_of_lt (by omega)]
theorem digits_eq_of_div (a b k l : Nat) (h : a / 64 ^ k = b / 64 ^ k) (hl : k ≤ l) : dg a l = dg b l := by
  unfold dg
  have e : (64 : Nat) ^ l = 64 ^ k * 64 ^ (l - k) := by rw [← Nat.pow_add]; congr 1; omega
  rw [e, ← Nat.div_div_eq_div_mul, ← Nat.div_div_eq_div_mul, h]
theorem ct_eq_iff (a b k : Nat) : ct a k = ct b k ↔ a / 64 ^ k = b / 64 ^ k := by
  unfold ct
  constructor
  · intro h
    exact Nat.eq_of_mul_eq_mul_right (Nat.pos_of_ne_zero (by simp)) h
  · intro h; rw [h]
theorem ct_eq_ap (a b k : Nat) (ha : a < 18446744073709551616) (hb : b < 18446744073709551616) (hk : k ≤ 11) : ct a k = ct b k ↔ ap a b 11 < k := by
  rw [ct_eq_iff]
  obtain ⟨h1, h2⟩ := ap_spec a b 11
  have h3 := ap_lt a b 11
  constructor
  · intro h
    rcases Int.lt_or_le (ap a b 11) k with h4 | h4
    · exact h4
    · exact absurd (digits_eq_of_div a b k (ap a b 11).toNat h (by omega)) (h2 (by omega))
  · intro h
    exact div_eq_of_digits a b ha hb k (fun l hl hl2 => h1 l (by omega) hl2)
/-- a time is alike to itself cut by as many digits as are 0, and by no more -/
theorem ct_zeros (t n : Nat) (ht : t < 18446744073709551616) (h : Zeros t n) : ct t n = t ∧ (n = 11 ∨ ct t (n + 1) ≠ t) := by
  obtain ⟨a, b, c⟩ := h
  refine ⟨?_, ?_⟩
  · have hd : ∀ l, 0 ≤ l → l < 11 → dg (ct t n) l = dg t l := by
      intro l _ _
      rw [dg_ct]
      split
      · rfl
      · rw [b l (by omega)]
    have := div_eq_of_digits (ct t n) t (Nat.lt_of_le_of_lt (ct_le _ _) ht) ht 0 hd
    simpa using this
  · rcases c with c | c
    · exact .inl c
    · refine .inr (fun e => c ?_)
      have := dg_ct t (n + 1) n
      rw [e, if_neg (by omega)] at this
      exact this
/-- of three -/
theorem ap_third (a b c : Nat) : ap a c 11 ≤ max (ap a b 11) (ap b c 11) := by
  obtain ⟨x1, _⟩ := ap_spec a b 11
  obtain ⟨y1, _⟩ := ap_spec b c 11
  obtain ⟨_, z2⟩ := ap_spec a c 11
  have zl := ap_lt a c 11
  have xl := ap_lt a b 11
  rcases Int.lt_or_le (max (ap a b 11) (ap b c 11)) (ap a c 11) with h | h
  · have e := x1 (ap a c 11).toNat (by omega) (by omega)
    have f := y1 (ap a c 11).toNat (by omega) (by omega)
    exact absurd (e.trans f) (z2 (by omega))
  · exact h
end Verge
