/-
  Plain facts on wheels (no Go in sight): where a deadline stands, by division; rows of entries; one step of an advance.
-/
import Derived.Test.YtkfknafgknppdaaDoorTimesPlain
import Derived.Test.YtkfknafgknppdaaDoorLevelPlain
namespace Verge
set_option linter.unusedVariables false

/-- an entry: its block (its node's is the next one), its deadline, its value -/
structure Ent where
  e : Nat
  d : Nat
  u : Int
  deriving DecidableEq
/-- where a deadline stands: 64 times the level, and the slot; 256: beyond -/
def spotN (d now : Nat) : Nat :=
  if d / 64 = now / 64 then d % 64 else if d / 4096 = now / 4096 then 64 + d / 64 % 64 else if d / 262144 = now / 262144 then 128 + d / 4096 % 64 else if d / 16777216 = now / 16777216 then 192 + d / 262144 % 64 else 256
theorem spotN_le (d now : Nat) : spotN d now ≤ 256 := by unfold spotN; split <;> (try split) <;> (try split) <;> (try split) <;> omega
/-- the same by Apart -/
def hgt (d now : Nat) : Nat := (max 0 (ap d now 11)).toNat
theorem ap_div (d now k : Nat) (hd : d < 18446744073709551616) (hn : now < 18446744073709551616) (hk : k ≤ 11) : ap d now 11 < k ↔ d / 64 ^ k = now / 64 ^ k := by
  rw [← ct_eq_ap d now k hd hn hk, ct_eq_iff]
theorem spot_hgt (d now : Nat) (hd : d < 18446744073709551616) (hn : now < 18446744073709551616) : (hgt d now < 4 → spotN d now = 64 * hgt d now + dg d (hgt d now)) ∧ (4 ≤ hgt d now → spotN d now = 256) ∧ hgt d now < 11 := by
  have h1 := ap_div d now 1 hd hn (by omega)
  have h2 := ap_div d now 2 hd hn (by omega)
  have h3 := ap_div d now 3 hd hn (by omega)
  have h4 := ap_div d now 4 hd hn (by omega)
  have hl := ap_lt d now 11
  simp only [show (64 : Nat) ^ 1 = 64 from rfl, show (64 : Nat) ^ 2 = 4096 from rfl, show (64 : Nat) ^ 3 = 262144 from rfl, show (64 : Nat) ^ 4 = 16777216 from rfl] at h1 h2 h3 h4
  unfold hgt
  generalize ap d now 11 = a at *
  have hm : ((max 0 a).toNat : Int) = max 0 a := Int.toNat_of_nonneg (by omega)
  generalize hj : (max 0 a).toNat = j at *
  unfold spotN
  refine ⟨fun h => ?_, fun h => ?_, by omega⟩
  · have hj4 : j = 0 ∨ j = 1 ∨ j = 2 ∨ j = 3 := by omega
    rcases hj4 with rfl | rfl | rfl | rfl
    · rw [if_pos (h1.1 (by omega))]; simp [dg]
    · rw [if_neg (fun e => by have := h1.2 e; omega), if_pos (h2.1 (by omega))]; simp [dg]
    · rw [if_neg (fun e => by have := h1.2 e; omega), if_neg (fun e => by have := h2.2 e; omega), if_pos (h3.1 (by omega))]; simp [dg]
    · rw [if_neg (fun e => by have := h1.2 e; omega), if_neg (fun e => by have := h2.2 e; omega), if_neg (fun e => by have := h3.2 e; omega), if_pos (h4.1 (by omega))]; simp [dg]
  · rw [if_neg (fun e => by have := h1.2 e; omega), if_neg (fun e => by have := h2.2 e; omega), if_neg (fun e => by have := h3.2 e; omega), if_neg (fun e => by have := h4.2 e; omega)]

/-- the digits of the lowest four levels -/
theorem dg0 (t : Nat) : dg t 0 = t % 64 := by simp [dg]
theorem dg1 (t : Nat) : dg t 1 = t / 64 % 64 := by simp [dg]
theorem dg2 (t : Nat) : dg t 2 = t / 4096 % 64 := by simp [dg]
theorem dg3 (t : Nat) : dg t 3 = t / 262144 % 64 := by simp [dg]

/-- no digit turns but the lowest: all stand where they stood -/
theorem spot_quiet {d now : Nat} (h : now < d) (hz : (now + 1) % 64 ≠ 0) : spotN d (now + 1) = spotN d now := by
  unfold spotN
  rw [show (now + 1) / 64 = now / 64 by omega, show (now + 1) / 4096 = now / 4096 by omega, show (now + 1) / 262144 = now / 262144 by omega, show (now + 1) / 16777216 = now / 16777216 by omega]
theorem spot_low1 {d now : Nat} (h : now < d) (hz : (now + 1) % 64 = 0) : 64 ≤ spotN d now := by
  unfold spotN; split
  · omega
  · split
    · omega
    · split
      · omega
      · split <;> omega
theorem spot_low2 {d now : Nat} (h : now < d) (hz : (now + 1) % 4096 = 0) : 128 ≤ spotN d now := by
  unfold spotN; split
  · omega
  · split
    · omega
    · split
      · omega
      · split <;> omega
theorem spot_low3 {d now : Nat} (h : now < d) (hz : (now + 1) % 262144 = 0) : 192 ≤ spotN d now := by
  unfold spotN; split
  · omega
  · split
    · omega
    · split
      · omega
      · split <;> omega
theorem spot_low4 {d now : Nat} (h : now < d) (hz : (now + 1) % 16777216 = 0) : spotN d now = 256 := by
  unfold spotN; split
  · omega
  · split
    · omega
    · split
      · omega
      · split <;> omega
theorem spot_stay1 {d now : Nat} (h : now < d) (hz : (now + 1) % 64 = 0) (hz' : (now + 1) % 4096 ≠ 0) (hn : spotN d now ≠ 64 + (now + 1) / 64 % 64) : spotN d (now + 1) = spotN d now := by
  unfold spotN at hn ⊢
  rw [show (now + 1) / 4096 = now / 4096 by omega, show (now + 1) / 262144 = now / 262144 by omega, show (now + 1) / 16777216 = now / 16777216 by omega] at *
  by_cases h1 : d / 64 = now / 64
  · omega
  · rw [if_neg h1] at hn ⊢
    by_cases h2 : d / 64 = (now + 1) / 64
    · rw [if_pos (by omega)] at hn; omega
    · rw [if_neg h2]
theorem spot_stay2 {d now : Nat} (h : now < d) (hz : (now + 1) % 4096 = 0) (hz' : (now + 1) % 262144 ≠ 0) (hn : spotN d now ≠ 128 + (now + 1) / 4096 % 64) : spotN d (now + 1) = spotN d now := by
  unfold spotN at hn ⊢
  rw [show (now + 1) / 262144 = now / 262144 by omega, show (now + 1) / 16777216 = now / 16777216 by omega] at *
  by_cases h1 : d / 4096 = now / 4096
  · omega
  · rw [if_neg h1, if_neg (show ¬ d / 64 = now / 64 by omega)] at hn ⊢
    by_cases h2 : d / 4096 = (now + 1) / 4096
    · rw [if_pos (by omega)] at hn; omega
    · rw [if_neg h2, if_neg (show ¬ d / 64 = (now + 1) / 64 by omega)]
theorem spot_stay3 {d now : Nat} (h : now < d) (hz : (now + 1) % 262144 = 0) (hz' : (now + 1) % 16777216 ≠ 0) (hn : spotN d now ≠ 192 + (now + 1) / 262144 % 64) : spotN d (now + 1) = spotN d now := by
  unfold spotN at hn ⊢
  rw [show (now + 1) / 16777216 = now / 16777216 by omega] at *
  by_cases h1 : d / 262144 = now / 262144
  · omega
  · rw [if_neg h1, if_neg (show ¬ d / 64 = now / 64 by omega), if_neg (show ¬ d / 4096 = now / 4096 by omega)] at hn ⊢
    by_cases h2 : d / 262144 = (now + 1) / 262144
    · rw [if_pos (by omega)] at hn; omega
    · rw [if_neg h2, if_neg (show ¬ d / 64 = (now + 1) / 64 by omega), if_neg (show ¬ d / 4096 = (now + 1) / 4096 by omega)]
theorem spot_down1 {d now : Nat} (h : now < d) (hz : (now + 1) % 64 = 0) (hz' : (now + 1) % 4096 ≠ 0) (hn : spotN d now = 64 + (now + 1) / 64 % 64) : spotN d (now + 1) < 64 := by
  have e : d / 64 = (now + 1) / 64 := by
    unfold spotN at hn
    split at hn
    · omega
    · split at hn
      · omega
      · split at hn
        · omega
        · split at hn <;> omega
  unfold spotN; rw [if_pos e]; omega
theorem spot_down2 {d now : Nat} (h : now < d) (hz : (now + 1) % 4096 = 0) (hz' : (now + 1) % 262144 ≠ 0) (hn : spotN d now = 128 + (now + 1) / 4096 % 64) : spotN d (now + 1) < 128 := by
  have e : d / 4096 = (now + 1) / 4096 := by
    unfold spotN at hn
    split at hn
    · omega
    · split at hn
      · omega
      · split at hn
        · omega
        · split at hn <;> omega
  unfold spotN; rw [if_pos e]; split <;> omega
theorem spot_down3 {d now : Nat} (h : now < d) (hz : (now + 1) % 262144 = 0) (hz' : (now + 1) % 16777216 ≠ 0) (hn : spotN d now = 192 + (now + 1) / 262144 % 64) : spotN d (now + 1) < 192 := by
  have e : d / 262144 = (now + 1) / 262144 := by
    unfold spotN at hn
    split at hn
    · omega
    · split at hn
      · omega
      · split at hn
        · omega
        · split at hn <;> omega
  unfold spotN; rw [if_pos e]; split
  · omega
  · split <;> omega
/-- at no level but the lowest anything stands at the hand -/
theorem spot_hand1 {d t : Nat} (h : t ≤ d) : spotN d t ≠ 64 + t / 64 % 64 := by
  unfold spotN; split
  · omega
  · split
    · omega
    · split
      · omega
      · split <;> omega
theorem spot_hand2 {d t : Nat} (h : t ≤ d) : spotN d t ≠ 128 + t / 4096 % 64 := by
  unfold spotN; split
  · omega
  · split
    · omega
    · split
      · omega
      · split <;> omega
theorem spot_hand3 {d t : Nat} (h : t ≤ d) : spotN d t ≠ 192 + t / 262144 % 64 := by
  unfold spotN; split
  · omega
  · split
    · omega
    · split
      · omega
      · split <;> omega
theorem spot_due {d t : Nat} (h : t ≤ d) : spotN d t = t % 64 ↔ d = t := by
  constructor
  · intro e
    unfold spotN at e; split at e
    · omega
    · split at e
      · omega
      · split at e
        · omega
        · split at e <;> omega
  · rintro rfl; unfold spotN; rw [if_pos rfl]
/-- the hand of a level -/
def hand (t h : Nat) : Nat := 64 * h + dg t h
theorem hand_lt (t h : Nat) (hh : h < 4) : hand t h < 256 := by have := dg_lt t h; unfold hand; omega
theorem hand_div (t h : Nat) : hand t h / 64 = h := by have := dg_lt t h; unfold hand; omega
theorem hand_mod (t h : Nat) : hand t h % 64 = dg t h := by have := dg_lt t h; unfold hand; omega
theorem spot_hand {d t h : Nat} (hd : t ≤ d) (h1 : 1 ≤ h) (h2 : h ≤ 3) : spotN d t ≠ hand t h := by
  have : h = 1 ∨ h = 2 ∨ h = 3 := by omega
  unfold hand
  rcases this with rfl | rfl | rfl
  · rw [dg1]; exact spot_hand1 hd
  · rw [dg2]; exact spot_hand2 hd
  · rw [dg3]; exact spot_hand3 hd
theorem spot_hand0 {d t : Nat} (hd : t ≤ d) : spotN d t = hand t 0 ↔ d = t := by
  unfold hand; rw [dg0, Nat.mul_zero, Nat.zero_add]; exact spot_due hd

/-- the entries of a place, in order -/
def rowsOf (Q : List Ent) (now : Nat) : Nat → List Ent := fun p => Q.filter fun x => decide (spotN x.d now = p)
theorem mem_rowsOf {Q : List Ent} {now p : Nat} {x : Ent} : x ∈ rowsOf Q now p ↔ x ∈ Q ∧ spotN x.d now = p := by simp [rowsOf]
theorem rowsOf_len {Q : List Ent} {now p : Nat} : (rowsOf Q now p).length ≤ Q.length := List.length_filter_le _ _
/-- all of a place taken out, and each placed anew -/
def stepR (R : Nat → List Ent) (p now : Nat) : Nat → List Ent := fun q => (if q = p then [] else R q) ++ (R p).filter fun x => decide (spotN x.d now = q)
theorem stepR_empty {R : Nat → List Ent} {p now : Nat} (h : R p = []) : stepR R p now = R := by
  funext q; unfold stepR; rw [h]
  by_cases e : q = p
  · rw [if_pos e, e, h]; rfl
  · rw [if_neg e]; simp
/-- one step, told by what stays and what goes -/
theorem step_rows {Q : List Ent} {now t p : Nat} (stay : ∀ x, x ∈ Q → spotN x.d now ≠ p → spotN x.d t = spotN x.d now) (apart : ∀ x y, x ∈ Q → y ∈ Q → spotN x.d now = p → spotN y.d now ≠ p → spotN x.d t ≠ spotN y.d now) :
    stepR (rowsOf Q now) p t = rowsOf Q t := by
  funext q
  unfold stepR rowsOf
  rw [List.filter_filter]
  by_cases hex : ∃ y, y ∈ Q ∧ spotN y.d now = q ∧ q ≠ p
  · obtain ⟨y, hy, rfl, hne⟩ := hex
    rw [if_neg hne]
    have e1 : (Q.filter fun x => decide (spotN x.d t = spotN y.d now) && decide (spotN x.d now = p)) = [] := by
      rw [List.filter_eq_nil_iff]
      intro x hx hc
      simp only [Bool.and_eq_true, decide_eq_true_eq] at hc
      exact apart x y hx hy hc.2 hne hc.1
    rw [e1, List.append_nil]
    refine List.filter_congr fun x hx => ?_
    by_cases hp : spotN x.d now = p
    · have := apart x y hx hy hp hne
      simp only [this, decide_false]
      rw [decide_eq_false_iff_not, hp]; exact fun e => hne e.symm
    · rw [stay x hx hp]
  · have e1 : (if q = p then [] else Q.filter fun x => decide (spotN x.d now = q)) = [] := by
      split
      · rfl
      · rename_i hne
        rw [List.filter_eq_nil_iff]
        intro x hx hc
        exact hex ⟨x, hx, of_decide_eq_true hc, hne⟩
    rw [e1, List.nil_append]
    refine List.filter_congr fun x hx => ?_
    by_cases hp : spotN x.d now = p
    · simp [hp]
    · have hs := stay x hx hp
      simp only [hp, decide_false, Bool.and_false]
      symm; rw [decide_eq_false_iff_not, hs]
      intro e
      exact hex ⟨x, hx, e, fun e' => hp (e.trans e')⟩
/-- the step of the level to which the zeros lead -/
theorem step_level {Q : List Ent} {now z : Nat} (hQ : ∀ x, x ∈ Q → now < x.d) (h : Zeros (now + 1) z) (h1 : 1 ≤ z) (h3 : z ≤ 3) : stepR (rowsOf Q now) (hand (now + 1) z) (now + 1) = rowsOf Q (now + 1) := by
  obtain ⟨-, hz, hnz⟩ := h
  have hnz : dg (now + 1) z ≠ 0 := by rcases hnz with h | h; omega; exact h
  have hz0 := hz 0 (by omega)
  rw [dg0] at hz0
  have : z = 1 ∨ z = 2 ∨ z = 3 := by omega
  rcases this with rfl | rfl | rfl
  · unfold hand; rw [dg1] at *
    have z1 : (now + 1) % 4096 ≠ 0 := by omega
    exact step_rows (fun x hx hp => spot_stay1 (hQ x hx) hz0 z1 hp) (fun x y hx hy hp hq e => by have := spot_down1 (hQ x hx) hz0 z1 hp; have := spot_low1 (hQ y hy) hz0; omega)
  · have hz1 := hz 1 (by omega)
    unfold hand; rw [dg2] at *; rw [dg1] at hz1
    have z1 : (now + 1) % 4096 = 0 := by omega
    have z2 : (now + 1) % 262144 ≠ 0 := by omega
    exact step_rows (fun x hx hp => spot_stay2 (hQ x hx) z1 z2 hp) (fun x y hx hy hp hq e => by have := spot_down2 (hQ x hx) z1 z2 hp; have := spot_low2 (hQ y hy) z1; omega)
  · have hz1 := hz 1 (by omega)
    have hz2 := hz 2 (by omega)
    unfold hand; rw [dg3] at *; rw [dg1] at hz1; rw [dg2] at hz2
    have z1 : (now + 1) % 262144 = 0 := by omega
    have z2 : (now + 1) % 16777216 ≠ 0 := by omega
    exact step_rows (fun x hx hp => spot_stay3 (hQ x hx) z1 z2 hp) (fun x y hx hy hp hq e => by have := spot_down3 (hQ x hx) z1 z2 hp; have := spot_low3 (hQ y hy) z1; omega)
theorem zeros_mod4 {t z : Nat} (h : Zeros t z) (h4 : 4 ≤ z) : t % 16777216 = 0 := by
  have h0 := h.2.1 0 (by omega); have h1 := h.2.1 1 (by omega); have h2 := h.2.1 2 (by omega); have h3 := h.2.1 3 (by omega)
  rw [dg0] at h0; rw [dg1] at h1; rw [dg2] at h2; rw [dg3] at h3
  omega
theorem step_beyond {Q : List Ent} {now z : Nat} (hQ : ∀ x, x ∈ Q → now < x.d) (h : Zeros (now + 1) z) (h4 : 4 ≤ z) : stepR (rowsOf Q now) 256 (now + 1) = rowsOf Q (now + 1) :=
  step_rows (fun x hx hp => absurd (spot_low4 (hQ x hx) (zeros_mod4 h h4)) hp) (fun x y hx hy hp hq e => hq (spot_low4 (hQ y hy) (zeros_mod4 h h4)))
theorem step_none {Q : List Ent} {now : Nat} (hQ : ∀ x, x ∈ Q → now < x.d) (h : Zeros (now + 1) 0) : rowsOf Q now = rowsOf Q (now + 1) := by
  have hnz : dg (now + 1) 0 ≠ 0 := by rcases h.2.2 with h | h; omega; exact h
  rw [dg0] at hnz
  funext p
  exact List.filter_congr fun x hx => by rw [spot_quiet (hQ x hx) hnz]
theorem rows_hand {Q : List Ent} {t h : Nat} (hQ : ∀ x, x ∈ Q → t ≤ x.d) (h1 : 1 ≤ h) (h2 : h ≤ 3) : rowsOf Q t (hand t h) = [] := by
  unfold rowsOf; rw [List.filter_eq_nil_iff]
  intro x hx hc
  exact spot_hand (hQ x hx) h1 h2 (of_decide_eq_true hc)
/-- what is due, what stays -/
def dueQ (Q : List Ent) (t : Nat) : List Ent := Q.filter fun x => decide (x.d = t)
def leftQ (Q : List Ent) (t : Nat) : List Ent := Q.filter fun x => decide (x.d ≠ t)
theorem rows_due {Q : List Ent} {t : Nat} (hQ : ∀ x, x ∈ Q → t ≤ x.d) : rowsOf Q t (hand t 0) = dueQ Q t :=
  List.filter_congr fun x hx => by rw [decide_eq_decide]; exact spot_hand0 (hQ x hx)
theorem rows_left {Q : List Ent} {t : Nat} (hQ : ∀ x, x ∈ Q → t ≤ x.d) : upd (rowsOf Q t) (hand t 0) [] = rowsOf (leftQ Q t) t := by
  funext q
  unfold leftQ rowsOf
  rw [List.filter_filter]
  by_cases e : q = hand t 0
  · subst e
    rw [upd_same]; symm
    rw [List.filter_eq_nil_iff]
    intro x hx hc
    simp only [Bool.and_eq_true, decide_eq_true_eq] at hc
    exact hc.2 ((spot_hand0 (hQ x hx)).1 hc.1)
  · rw [upd_other _ _ _ _ e]
    refine List.filter_congr fun x hx => ?_
    by_cases hd : x.d = t
    · have := (spot_hand0 (hQ x hx)).2 hd
      rw [this]
      simp [hd]
      exact fun e' => e e'.symm
    · simp [hd]
theorem left_ahead {Q : List Ent} {now : Nat} (hQ : ∀ x, x ∈ Q → now < x.d) : ∀ x, x ∈ leftQ Q (now + 1) → now + 1 < x.d := by
  intro x hx
  simp only [leftQ, List.mem_filter, decide_eq_true_eq] at hx
  have := hQ x hx.1; omega
theorem rows_more {Q : List Ent} {now : Nat} (x : Ent) : upd (rowsOf Q now) (spotN x.d now) (rowsOf Q now (spotN x.d now) ++ [x]) = rowsOf (Q ++ [x]) now := by
  funext q
  unfold rowsOf
  rw [List.filter_append]
  by_cases e : q = spotN x.d now
  · subst e; rw [upd_same]; simp
  · rw [upd_other _ _ _ _ e]
    simp only [List.filter_cons, List.filter_nil]
    rw [if_neg (by simpa using fun e' => e e'.symm), List.append_nil]
/-- one taken out -/
def woQ (Q : List Ent) (x : Ent) : List Ent := Q.filter fun y => decide (y ≠ x)
theorem rows_wo {Q : List Ent} {now : Nat} (x : Ent) : upd (rowsOf Q now) (spotN x.d now) ((rowsOf Q now (spotN x.d now)).filter fun y => decide (y ≠ x)) = rowsOf (woQ Q x) now := by
  funext q
  unfold rowsOf woQ
  by_cases e : q = spotN x.d now
  · subst e; rw [upd_same, List.filter_filter, List.filter_filter]
    exact List.filter_congr fun y _ => Bool.and_comm _ _
  · rw [upd_other _ _ _ _ e, List.filter_filter]
    refine List.filter_congr fun y hy => ?_
    by_cases hq : spotN y.d now = q
    · have : y ≠ x := fun e' => e (by rw [← hq, e'])
      simp [hq, this]
    · simp [hq]
/-- how many in all -/
theorem tot_cons (Q : List Ent) (x : Ent) (now b : Nat) : ∀ n, totUpto (fun s => (rowsOf (x :: Q) now (b + s)).map (·.e)) n = totUpto (fun s => (rowsOf Q now (b + s)).map (·.e)) n + (if b ≤ spotN x.d now ∧ spotN x.d now < b + n then 1 else 0)
  | 0 => by
    simp only [totUpto, Nat.zero_add, Nat.add_zero]
    rw [if_neg (by omega)]
  | n + 1 => by
    unfold totUpto
    rw [tot_cons Q x now b n]
    simp only [List.length_map]
    have : (rowsOf (x :: Q) now (b + n)).length = (rowsOf Q now (b + n)).length + (if spotN x.d now = b + n then 1 else 0) := by
      unfold rowsOf; rw [List.filter_cons]; split <;> rename_i h <;> simp at h <;> simp [h]
    rw [this]
    split <;> split <;> split <;> omega
theorem tot_all (now : Nat) : ∀ Q : List Ent, (rowsOf Q now 256).length + totUpto (fun s => (rowsOf Q now (64 * 0 + s)).map (·.e)) 64 + totUpto (fun s => (rowsOf Q now (64 * 1 + s)).map (·.e)) 64 + totUpto (fun s => (rowsOf Q now (64 * 2 + s)).map (·.e)) 64 + totUpto (fun s => (rowsOf Q now (64 * 3 + s)).map (·.e)) 64 = Q.length
  | [] => by
    have h : ∀ b, totUpto (fun s => (rowsOf [] now (b + s)).map (·.e)) 64 = 0 := fun b => totX_empty (fun i _ => rfl)
    rw [h, h, h, h]; rfl
  | x :: Q => by
    have ih := tot_all now Q
    rw [tot_cons, tot_cons, tot_cons, tot_cons, List.length_cons]
    have h256 := spotN_le x.d now
    have : (rowsOf (x :: Q) now 256).length = (rowsOf Q now 256).length + (if spotN x.d now = 256 then 1 else 0) := by
      unfold rowsOf; rw [List.filter_cons]; split <;> rename_i h <;> simp at h <;> simp [h]
    rw [this]
    split <;> split <;> split <;> split <;> split <;> omega
end Verge
