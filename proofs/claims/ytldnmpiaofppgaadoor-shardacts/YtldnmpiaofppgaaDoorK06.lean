import Derived.Test.YtldnmpiaofppgaaDoorK05
import Derived.Test.YtldnmpiaofppgaaDoorK04
import Derived.Test.YtldnmpiaofppgaaDoorRows
import Derived.RangeFuncNested
import Derived.RangeFuncBound
import Derived.RangeFuncCalls
import Derived.RangeFuncLeaves
import Derived.Shelf.Abstract
import Derived.Shelf.RegionOpen
import Derived.WalkKit
import Derived.OwnWalkIn
import Derived.TacticsInMore
import Derived.LoopNIn
import Derived.LoopIn
import Derived.Lib.Hide
/-
  Plain facts on wheels (no Go in sight): where a deadline stands, by division; rows of entries; one step of an advance.
-/
namespace Verge
set_option linter.unusedVariables false

/-- an entry: its block (its node's is the next one), its deadline, its value -/
structure Ent where
  e : Nat
  d : Nat
  u : Tk
  deriving DecidableEq
/-- where a deadline stands: 64 times the level, and the slot; 256: beyond -/
def spotN (d now : Nat) : Nat :=
  if d / 64 = now / 64 then d % 64 else if d / 4096 = now / 4096 then 64 + d / 64 % 64 else if d / 262144 = now / 262144 then 128 + d / 4096 % 64 else if d / 16777216 = now / 16777216 then 192 + d / 262144 % 64 else 256
theorem spotN_le (d now : Nat) : spotN d now ≤ 256 := by unfold spotN; split <;> (try split) <;> (try split) <;> (try split) <;> omega
/-- the same by Apart -/
def hgt (d now : Nat) : Nat := (max 0 (ap d now 11)).toNat
theorem ap_div (d now k : Nat) (hd : d < 18446744073709551616) (hn : now < 18446744073709551616) (hk : k ≤ 11) : ap d now 11 < k ↔ d / 64 ^ k = now / 64 ^ k := by
  rw [← ct_eq_ap d now k hd hn hk, ct_eq_iff]
theorem spot_hgt (d now : Nat) (hd : d < 18446744073709551616) (hn : now < 18446744073709551616) : (hgt d now < 4 → spotN d now = 64 * hgt d now + dg d (hgt d now)) ∧ (4 ≤ hgt d now → spotN d now = 256) ∧ hgt d now < 11 := by
  have h1 := ap_div d now 1 hd hn (by omega)
  have h2 := ap_div d now 2 hd hn (by omega)
  have h3 := ap_div d now 3 hd hn (by omega)
  have h4 := ap_div d now 4 hd hn (by omega)
  have hl := ap_lt d now 11
  simp only [show (64 : Nat) ^ 1 = 64 from rfl, show (64 : Nat) ^ 2 = 4096 from rfl, show (64 : Nat) ^ 3 = 262144 from rfl, show (64 : Nat) ^ 4 = 16777216 from rfl] at h1 h2 h3 h4
  unfold hgt
  generalize ap d now 11 = a at *
  have hm : ((max 0 a).toNat : Int) = max 0 a := Int.toNat_of_nonneg (by omega)
  generalize hj : (max 0 a).toNat = j at *
  unfold spotN
  refine ⟨fun h => ?_, fun h => ?_, by omega⟩
  · have hj4 : j = 0 ∨ j = 1 ∨ j = 2 ∨ j = 3 := by omega
    rcases hj4 with rfl | rfl | rfl | rfl
    · rw [if_pos (h1.1 (by omega))]; simp [dg]
    · rw [if_neg (fun e => by have := h1.2 e; omega), if_pos (h2.1 (by omega))]; simp [dg]
    · rw [if_neg (fun e => by have := h1.2 e; omega), if_neg (fun e => by have := h2.2 e; omega), if_pos (h3.1 (by omega))]; simp [dg]
    · rw [if_neg (fun e => by have := h1.2 e; omega), if_neg (fun e => by have := h2.2 e; omega), if_neg (fun e => by have := h3.2 e; omega), if_pos (h4.1 (by omega))]; simp [dg]
  · rw [if_neg (fun e => by have := h1.2 e; omega), if_neg (fun e => by have := h2.2 e; omega), if_neg (fun e => by have := h3.2 e; omega), if_neg (fun e => by have := h4.2 e; omega)]

/-- the digits of the lowest four levels -/
theorem dg0 (t : Nat) : dg t 0 = t % 64 := by simp [dg]
theorem dg1 (t : Nat) : dg t 1 = t / 64 % 64 := by simp [dg]
theorem dg2 (t : Nat) : dg t 2 = t / 4096 % 64 := by simp [dg]
theorem dg3 (t : Nat) : dg t 3 = t / 262144 % 64 := by simp [dg]

/-- no digit turns but the lowest: all stand where they stood -/
theorem spot_quiet {d now : Nat} (h : now < d) (hz : (now + 1) % 64 ≠ 0) : spotN d (now + 1) = spotN d now := by
  unfold spotN
  rw [show (now + 1) / 64 = now / 64 by omega, show (now + 1) / 4096 = now / 4096 by omega, show (now + 1) / 262144 = now / 262144 by omega, show (now + 1) / 16777216 = now / 16777216 by omega]
theorem spot_low1 {d now : Nat} (h : now < d) (hz : (now + 1) % 64 = 0) : 64 ≤ spotN d now := by
  unfold spotN; split
  · omega
  · split
    · omega
    · split
      · omega
      · split <;> omega
theorem spot_low2 {d now : Nat} (h : now < d) (hz : (now + 1) % 4096 = 0) : 128 ≤ spotN d now := by
  unfold spotN; split
  · omega
  · split
    · omega
    · split
      · omega
      · split <;> omega
theorem spot_low3 {d now : Nat} (h : now < d) (hz : (now + 1) % 262144 = 0) : 192 ≤ spotN d now := by
  unfold spotN; split
  · omega
  · split
    · omega
    · split
      · omega
      · split <;> omega
theorem spot_low4 {d now : Nat} (h : now < d) (hz : (now + 1) % 16777216 = 0) : spotN d now = 256 := by
  unfold spotN; split
  · omega
  · split
    · omega
    · split
      · omega
      · split <;> omega
theorem spot_stay1 {d now : Nat} (h : now < d) (hz : (now + 1) % 64 = 0) (hz' : (now + 1) % 4096 ≠ 0) (hn : spotN d now ≠ 64 + (now + 1) / 64 % 64) : spotN d (now + 1) = spotN d now := by
  unfold spotN at hn ⊢
  rw [show (now + 1) / 4096 = now / 4096 by omega, show (now + 1) / 262144 = now / 262144 by omega, show (now + 1) / 16777216 = now / 16777216 by omega] at *
  by_cases h1 : d / 64 = now / 64
  · omega
  · rw [if_neg h1] at hn ⊢
    by_cases h2 : d / 64 = (now + 1) / 64
    · rw [if_pos (by omega)] at hn; omega
    · rw [if_neg h2]
theorem spot_stay2 {d now : Nat} (h : now < d) (hz : (now + 1) % 4096 = 0) (hz' : (now + 1) % 262144 ≠ 0) (hn : spotN d now ≠ 128 + (now + 1) / 4096 % 64) : spotN d (now + 1) = spotN d now := by
  unfold spotN at hn ⊢
  rw [show (now + 1) / 262144 = now / 262144 by omega, show (now + 1) / 16777216 = now / 16777216 by omega] at *
  by_cases h1 : d / 4096 = now / 4096
  · omega
  · rw [if_neg h1, if_neg (show ¬ d / 64 = now / 64 by omega)] at hn ⊢
    by_cases h2 : d / 4096 = (now + 1) / 4096
    · rw [if_pos (by omega)] at hn; omega
    · rw [if_neg h2, if_neg (show ¬ d / 64 = (now + 1) / 64 by omega)]
theorem spot_stay3 {d now : Nat} (h : now < d) (hz : (now + 1) % 262144 = 0) (hz' : (now + 1) % 16777216 ≠ 0) (hn : spotN d now ≠ 192 + (now + 1) / 262144 % 64) : spotN d (now + 1) = spotN d now := by
  unfold spotN at hn ⊢
  rw [show (now + 1) / 16777216 = now / 16777216 by omega] at *
  by_cases h1 : d / 262144 = now / 262144
  · omega
  · rw [if_neg h1, if_neg (show ¬ d / 64 = now / 64 by omega), if_neg (show ¬ d / 4096 = now / 4096 by omega)] at hn ⊢
    by_cases h2 : d / 262144 = (now + 1) / 262144
    · rw [if_pos (by omega)] at hn; omega
    · rw [if_neg h2, if_neg (show ¬ d / 64 = (now + 1) / 64 by omega), if_neg (show ¬ d / 4096 = (now + 1) / 4096 by omega)]
theorem spot_down1 {d now : Nat} (h : now < d) (hz : (now + 1) % 64 = 0) (hz' : (now + 1) % 4096 ≠ 0) (hn : spotN d now = 64 + (now + 1) / 64 % 64) : spotN d (now + 1) < 64 := by
  have e : d / 64 = (now + 1) / 64 := by
    unfold spotN at hn
    split at hn
    · omega
    · split at hn
      · omega
      · split at hn
        · omega
        · split at hn <;> omega
  unfold spotN; rw [if_pos e]; omega
theorem spot_down2 {d now : Nat} (h : now < d) (hz : (now + 1) % 4096 = 0) (hz' : (now + 1) % 262144 ≠ 0) (hn : spotN d now = 128 + (now + 1) / 4096 % 64) : spotN d (now + 1) < 128 := by
  have e : d / 4096 = (now + 1) / 4096 := by
    unfold spotN at hn
    split at hn
    · omega
    · split at hn
      · omega
      · split at hn
        · omega
        · split at hn <;> omega
  unfold spotN; rw [if_pos e]; split <;> omega
theorem spot_down3 {d now : Nat} (h : now < d) (hz : (now + 1) % 262144 = 0) (hz' : (now + 1) % 16777216 ≠ 0) (hn : spotN d now = 192 + (now + 1) / 262144 % 64) : spotN d (now + 1) < 192 := by
  have e : d / 262144 = (now + 1) / 262144 := by
    unfold spotN at hn
    split at hn
    · omega
    · split at hn
      · omega
      · split at hn
        · omega
        · split at hn <;> omega
  unfold spotN; rw [if_pos e]; split
  · omega
  · split <;> omega
/-- at no level but the lowest anything stands at the hand -/
theorem spot_hand1 {d t : Nat} (h : t ≤ d) : spotN d t ≠ 64 + t / 64 % 64 := by
  unfold spotN; split
  · omega
  · split
    · omega
    · split
      · omega
      · split <;> omega
theorem spot_hand2 {d t : Nat} (h : t ≤ d) : spotN d t ≠ 128 + t / 4096 % 64 := by
  unfold spotN; split
  · omega
  · split
    · omega
    · split
      · omega
      · split <;> omega
theorem spot_hand3 {d t : Nat} (h : t ≤ d) : spotN d t ≠ 192 + t / 262144 % 64 := by
  unfold spotN; split
  · omega
  · split
    · omega
    · split
      · omega
      · split <;> omega
theorem spot_due {d t : Nat} (h : t ≤ d) : spotN d t = t % 64 ↔ d = t := by
  constructor
  · intro e
    unfold spotN at e; split at e
    · omega
    · split at e
      · omega
      · split at e
        · omega
        · split at e <;> omega
  · rintro rfl; unfold spotN; rw [if_pos rfl]
/-- the hand of a level -/
def hand (t h : Nat) : Nat := 64 * h + dg t h
theorem hand_lt (t h : Nat) (hh : h < 4) : hand t h < 256 := by have := dg_lt t h; unfold hand; omega
theorem hand_div (t h : Nat) : hand t h / 64 = h := by have := dg_lt t h; unfold hand; omega
theorem hand_mod (t h : Nat) : hand t h % 64 = dg t h := by have := dg_lt t h; unfold hand; omega
theorem spot_hand {d t h : Nat} (hd : t ≤ d) (h1 : 1 ≤ h) (h2 : h ≤ 3) : spotN d t ≠ hand t h := by
  have : h = 1 ∨ h = 2 ∨ h = 3 := by omega
  unfold hand
  rcases this with rfl | rfl | rfl
  · rw [dg1]; exact spot_hand1 hd
  · rw [dg2]; exact spot_hand2 hd
  · rw [dg3]; exact spot_hand3 hd
theorem spot_hand0 {d t : Nat} (hd : t ≤ d) : spotN d t = hand t 0 ↔ d = t := by
  unfold hand; rw [dg0, Nat.mul_zero, Nat.zero_add]; exact spot_due hd

/-- the entries of a place, in order -/
def rowsOf (Q : List Ent) (now : Nat) : Nat → List Ent := fun p => Q.filter fun x => decide (spotN x.d now = p)
theorem mem_rowsOf {Q : List Ent} {now p : Nat} {x : Ent} : x ∈ rowsOf Q now p ↔ x ∈ Q ∧ spotN x.d now = p := by simp [rowsOf]
theorem rowsOf_len {Q : List Ent} {now p : Nat} : (rowsOf Q now p).length ≤ Q.length := List.length_filter_le _ _
/-- all of a place taken out, and each placed anew -/
def stepR (R : Nat → List Ent) (p now : Nat) : Nat → List Ent := fun q => (if q = p then [] else R q) ++ (R p).filter fun x => decide (spotN x.d now = q)
theorem stepR_empty {R : Nat → List Ent} {p now : Nat} (h : R p = []) : stepR R p now = R := by
  funext q; unfold stepR; rw [h]
  by_cases e : q = p
  · rw [if_pos e, e, h]; rfl
  · rw [if_neg e]; simp
/-- one step, told by what stays and what goes -/
theorem step_rows {Q : List Ent} {now t p : Nat} (stay : ∀ x, x ∈ Q → spotN x.d now ≠ p → spotN x.d t = spotN x.d now) (apart : ∀ x y, x ∈ Q → y ∈ Q → spotN x.d now = p → spotN y.d now ≠ p → spotN x.d t ≠ spotN y.d now) :
    stepR (rowsOf Q now) p t = rowsOf Q t := by
  funext q
  unfold stepR rowsOf
  rw [List.filter_filter]
  by_cases hex : ∃ y, y ∈ Q ∧ spotN y.d now = q ∧ q ≠ p
  · obtain ⟨y, hy, rfl, hne⟩ := hex
    rw [if_neg hne]
    have e1 : (Q.filter fun x => decide (spotN x.d t = spotN y.d now) && decide (spotN x.d now = p)) = [] := by
      rw [List.filter_eq_nil_iff]
      intro x hx hc
      simp only [Bool.and_eq_true, decide_eq_true_eq] at hc
      exact apart x y hx hy hc.2 hne hc.1
    rw [e1, List.append_nil]
    refine List.filter_congr fun x hx => ?_
    by_cases hp : spotN x.d now = p
    · have := apart x y hx hy hp hne
      simp only [this, decide_false]
      rw [decide_eq_false_iff_not, hp]; exact fun e => hne e.symm
    · rw [stay x hx hp]
  · have e1 : (if q = p then [] else Q.filter fun x => decide (spotN x.d now = q)) = [] := by
      split
      · rfl
      · rename_i hne
        rw [List.filter_eq_nil_iff]
        intro x hx hc
        exact hex ⟨x, hx, of_decide_eq_true hc, hne⟩
    rw [e1, List.nil_append]
    refine List.filter_congr fun x hx => ?_
    by_cases hp : spotN x.d now = p
    · simp [hp]
    · have hs := stay x hx hp
      simp only [hp, decide_false, Bool.and_false]
      symm; rw [decide_eq_false_iff_not, hs]
      intro e
      exact hex ⟨x, hx, e, fun e' => hp (e.trans e')⟩
/-- the step of the level to which the zeros lead -/
theorem step_level {Q : List Ent} {now z : Nat} (hQ : ∀ x, x ∈ Q → now < x.d) (h : Zeros (now + 1) z) (h1 : 1 ≤ z) (h3 : z ≤ 3) : stepR (rowsOf Q now) (hand (now + 1) z) (now + 1) = rowsOf Q (now + 1) := by
  obtain ⟨-, hz, hnz⟩ := h
  have hnz : dg (now + 1) z ≠ 0 := by rcases hnz with h | h; omega; exact h
  have hz0 := hz 0 (by omega)
  rw [dg0] at hz0
  have : z = 1 ∨ z = 2 ∨ z = 3 := by omega
  rcases this with rfl | rfl | rfl
  · unfold hand; rw [dg1] at *
    have z1 : (now + 1) % 4096 ≠ 0 := by omega
    exact step_rows (fun x hx hp => spot_stay1 (hQ x hx) hz0 z1 hp) (fun x y hx hy hp hq e => by have := spot_down1 (hQ x hx) hz0 z1 hp; have := spot_low1 (hQ y hy) hz0; omega)
  · have hz1 := hz 1 (by omega)
    unfold hand; rw [dg2] at *; rw [dg1] at hz1
    have z1 : (now + 1) % 4096 = 0 := by omega
    have z2 : (now + 1) % 262144 ≠ 0 := by omega
    exact step_rows (fun x hx hp => spot_stay2 (hQ x hx) z1 z2 hp) (fun x y hx hy hp hq e => by have := spot_down2 (hQ x hx) z1 z2 hp; have := spot_low2 (hQ y hy) z1; omega)
  · have hz1 := hz 1 (by omega)
    have hz2 := hz 2 (by omega)
    unfold hand; rw [dg3] at *; rw [dg1] at hz1; rw [dg2] at hz2
    have z1 : (now + 1) % 262144 = 0 := by omega
    have z2 : (now + 1) % 16777216 ≠ 0 := by omega
    exact step_rows (fun x hx hp => spot_stay3 (hQ x hx) z1 z2 hp) (fun x y hx hy hp hq e => by have := spot_down3 (hQ x hx) z1 z2 hp; have := spot_low3 (hQ y hy) z1; omega)
theorem zeros_mod4 {t z : Nat} (h : Zeros t z) (h4 : 4 ≤ z) : t % 16777216 = 0 := by
  have h0 := h.2.1 0 (by omega); have h1 := h.2.1 1 (by omega); have h2 := h.2.1 2 (by omega); have h3 := h.2.1 3 (by omega)
  rw [dg0] at h0; rw [dg1] at h1; rw [dg2] at h2; rw [dg3] at h3
  omega
theorem step_beyond {Q : List Ent} {now z : Nat} (hQ : ∀ x, x ∈ Q → now < x.d) (h : Zeros (now + 1) z) (h4 : 4 ≤ z) : stepR (rowsOf Q now) 256 (now + 1) = rowsOf Q (now + 1) :=
  step_rows (fun x hx hp => absurd (spot_low4 (hQ x hx) (zeros_mod4 h h4)) hp) (fun x y hx hy hp hq e => hq (spot_low4 (hQ y hy) (zeros_mod4 h h4)))
theorem step_none {Q : List Ent} {now : Nat} (hQ : ∀ x, x ∈ Q → now < x.d) (h : Zeros (now + 1) 0) : rowsOf Q now = rowsOf Q (now + 1) := by
  have hnz : dg (now + 1) 0 ≠ 0 := by rcases h.2.2 with h | h; omega; exact h
  rw [dg0] at hnz
  funext p
  exact List.filter_congr fun x hx => by rw [spot_quiet (hQ x hx) hnz]
theorem rows_hand {Q : List Ent} {t h : Nat} (hQ : ∀ x, x ∈ Q → t ≤ x.d) (h1 : 1 ≤ h) (h2 : h ≤ 3) : rowsOf Q t (hand t h) = [] := by
  unfold rowsOf; rw [List.filter_eq_nil_iff]
  intro x hx hc
  exact spot_hand (hQ x hx) h1 h2 (of_decide_eq_true hc)
/-- what is due, what stays -/
def dueQ (Q : List Ent) (t : Nat) : List Ent := Q.filter fun x => decide (x.d = t)
def leftQ (Q : List Ent) (t : Nat) : List Ent := Q.filter fun x => decide (x.d ≠ t)
theorem rows_due {Q : List Ent} {t : Nat} (hQ : ∀ x, x ∈ Q → t ≤ x.d) : rowsOf Q t (hand t 0) = dueQ Q t :=
  List.filter_congr fun x hx => by rw [decide_eq_decide]; exact spot_hand0 (hQ x hx)
theorem rows_left {Q : List Ent} {t : Nat} (hQ : ∀ x, x ∈ Q → t ≤ x.d) : upd (rowsOf Q t) (hand t 0) [] = rowsOf (leftQ Q t) t := by
  funext q
  unfold leftQ rowsOf
  rw [List.filter_filter]
  by_cases e : q = hand t 0
  · subst e
    rw [upd_same]; symm
    rw [List.filter_eq_nil_iff]
    intro x hx hc
    simp only [Bool.and_eq_true, decide_eq_true_eq] at hc
    exact hc.2 ((spot_hand0 (hQ x hx)).1 hc.1)
  · rw [upd_other _ _ _ _ e]
    refine List.filter_congr fun x hx => ?_
    by_cases hd : x.d = t
    · have := (spot_hand0 (hQ x hx)).2 hd
      rw [this]
      simp [hd]
      exact fun e' => e e'.symm
    · simp [hd]
theorem left_ahead {Q : List Ent} {now : Nat} (hQ : ∀ x, x ∈ Q → now < x.d) : ∀ x, x ∈ leftQ Q (now + 1) → now + 1 < x.d := by
  intro x hx
  simp only [leftQ, List.mem_filter, decide_eq_true_eq] at hx
  have := hQ x hx.1; omega
theorem rows_more {Q : List Ent} {now : Nat} (x : Ent) : upd (rowsOf Q now) (spotN x.d now) (rowsOf Q now (spotN x.d now) ++ [x]) = rowsOf (Q ++ [x]) now := by
  funext q
  unfold rowsOf
  rw [List.filter_append]
  by_cases e : q = spotN x.d now
  · subst e; rw [upd_same]; simp
  · rw [upd_other _ _ _ _ e]
    simp only [List.filter_cons, List.filter_nil]
    rw [if_neg (by simpa using fun e' => e e'.symm), List.append_nil]
/-- one taken out -/
def woQ (Q : List Ent) (x : Ent) : List Ent := Q.filter fun y => decide (y ≠ x)
theorem rows_wo {Q : List Ent} {now : Nat} (x : Ent) : upd (rowsOf Q now) (spotN x.d now) ((rowsOf Q now (spotN x.d now)).filter fun y => decide (y ≠ x)) = rowsOf (woQ Q x) now := by
  funext q
  unfold rowsOf woQ
  by_cases e : q = spotN x.d now
  · subst e; rw [upd_same, List.filter_filter, List.filter_filter]
    exact List.filter_congr fun y _ => Bool.and_comm _ _
  · rw [upd_other _ _ _ _ e, List.filter_filter]
    refine List.filter_congr fun y hy => ?_
    by_cases hq : spotN y.d now = q
    · have : y ≠ x := fun e' => e (by rw [← hq, e'])
      simp [hq, this]
    · simp [hq]
/-- how many in all -/
theorem tot_cons (Q : List Ent) (x : Ent) (now b : Nat) : ∀ n, totUpto (fun s => (rowsOf (x :: Q) now (b + s)).map (·.e)) n = totUpto (fun s => (rowsOf Q now (b + s)).map (·.e)) n + (if b ≤ spotN x.d now ∧ spotN x.d now < b + n then 1 else 0)
  | 0 => by
    simp only [totUpto, Nat.zero_add, Nat.add_zero]
    rw [if_neg (by omega)]
  | n + 1 => by
    unfold totUpto
    rw [tot_cons Q x now b n]
    simp only [List.length_map]
    have : (rowsOf (x :: Q) now (b + n)).length = (rowsOf Q now (b + n)).length + (if spotN x.d now = b + n then 1 else 0) := by
      unfold rowsOf; rw [List.filter_cons]; split <;> rename_i h <;> simp at h <;> simp [h]
    rw [this]
    split <;> split <;> split <;> omega
theorem tot_all (now : Nat) : ∀ Q : List Ent, (rowsOf Q now 256).length + totUpto (fun s => (rowsOf Q now (64 * 0 + s)).map (·.e)) 64 + totUpto (fun s => (rowsOf Q now (64 * 1 + s)).map (·.e)) 64 + totUpto (fun s => (rowsOf Q now (64 * 2 + s)).map (·.e)) 64 + totUpto (fun s => (rowsOf Q now (64 * 3 + s)).map (·.e)) 64 = Q.length
  | [] => by
    have h : ∀ b, totUpto (fun s => (rowsOf [] now (b + s)).map (·.e)) 64 = 0 := fun b => totX_empty (fun i _ => rfl)
    rw [h, h, h, h]; rfl
  | x :: Q => by
    have ih := tot_all now Q
    rw [tot_cons, tot_cons, tot_cons, tot_cons, List.length_cons]
    have h256 := spotN_le x.d now
    have : (rowsOf (x :: Q) now 256).length = (rowsOf Q now 256).length + (if spotN x.d now = 256 then 1 else 0) := by
      unfold rowsOf; rw [List.filter_cons]; split <;> rename_i h <;> simp at h <;> simp [h]
    rw [this]
    split <;> split <;> split <;> split <;> split <;> omega
end Verge

/-
  The blocks of a wheel, told apart (no world in sight).
-/
namespace Verge
set_option linter.unusedVariables false
/-- a wheel's own blocks: its own, its levels', their lists' heads, the head of what lies beyond -/
structure Wh where
  wb : Nat
  vb : Nat → Nat
  hd : Nat → Nat → Nat
  lb : Nat
abbrev nd (x : Ent) : Nat := x.e + 1
/-- an entry's node's entry -/
def pre (b : Nat) : Nat := b - 1
theorem pre_nd (x : Ent) : pre (x.e + 1) = x.e := rfl
/-- the nodes of a level's slots -/
def nrow (R : Nat → List Ent) (h : Nat) : Nat → List Nat := fun s => if s < 64 then (R (64 * h + s)).map nd else []
theorem nrow_at {R : Nat → List Ent} {h s : Nat} (hs : s < 64) : nrow R h s = (R (64 * h + s)).map nd := if_pos hs
theorem nrow_len {R : Nat → List Ent} {h s : Nat} (hs : s < 64) : (nrow R h s).length = (R (64 * h + s)).length := by rw [nrow_at hs, List.length_map]
/-- the lasting blocks of the levels (0 to 3) and of what lies beyond (4) -/
def SB (g : Wh) (h k : Nat) : Prop := (h < 4 ∧ (k = g.vb h ∨ ∃ s, s < 64 ∧ k = g.hd h s)) ∨ (h = 4 ∧ k = g.lb)
/-- all blocks of a level, of what lies beyond -/
def CB (g : Wh) (R : Nat → List Ent) (h k : Nat) : Prop := SB g h k ∨ ∃ p, p ≤ 256 ∧ p / 64 = h ∧ ∃ x, x ∈ R p ∧ k = x.e + 1
/-- all blocks of a wheel and of its entries -/
def WS (g : Wh) (P : List Ent) (k : Nat) : Prop := k = g.wb ∨ (∃ h, SB g h k) ∨ ∃ x, x ∈ P ∧ (k = x.e ∨ k = x.e + 1)
structure WFix (g : Wh) (P : List Ent) : Prop where
  sd : ∀ h h' k, SB g h k → SB g h' k → h = h'
  sw : ∀ h, ¬ SB g h g.wb
  oe : ∀ x, x ∈ P → x.e ≠ g.wb ∧ x.e + 1 ≠ g.wb ∧ ∀ h, ¬ SB g h x.e ∧ ¬ SB g h (x.e + 1)
  on : ∀ x y, x ∈ P → y ∈ P → x.e ≠ y.e + 1
  oi : ∀ x y, x ∈ P → y ∈ P → x.e = y.e → x = y
structure RFix (R : Nat → List Ent) (P : List Ent) : Prop where
  r : ∀ p, p ≤ 256 → ∀ x, x ∈ R p → x ∈ P
  un : ∀ p q x, p ≤ 256 → q ≤ 256 → x ∈ R p → x ∈ R q → p = q
section
variable {g : Wh} {R : Nat → List Ent} {P : List Ent} {h h' k p : Nat} {x : Ent}
theorem CB.eq (F : WFix g P) (G : RFix R P) (a : CB g R h k) (b : CB g R h' k) : h = h' := by
  rcases a with a | ⟨p, hp, rfl, x, hx, rfl⟩ <;> rcases b with b | ⟨q, hq, rfl, y, hy, e⟩
  · exact F.sd _ _ _ a b
  · subst e; exact absurd a ((F.oe y (G.r _ hq y hy)).2.2 h).2
  · exact absurd b ((F.oe x (G.r _ hp x hx)).2.2 h').2
  · obtain rfl := F.oi x y (G.r _ hp x hx) (G.r _ hq y hy) (by omega)
    rw [G.un _ _ _ hp hq hx hy]
theorem CB.wb (F : WFix g P) (G : RFix R P) : ¬ CB g R h g.wb := by
  rintro (a | ⟨p, hp, rfl, x, hx, e⟩)
  · exact F.sw _ a
  · exact (F.oe x (G.r _ hp x hx)).2.1 e.symm
theorem CB.ent (F : WFix g P) (G : RFix R P) (hx : x ∈ P) : ¬ CB g R h x.e := by
  rintro (a | ⟨p, hp, rfl, y, hy, e⟩)
  · exact ((F.oe x hx).2.2 h).1 a
  · exact F.on x y hx (G.r _ hp y hy) e
theorem CB.free (F : WFix g P) (G : RFix R P) (hx : x ∈ P) (hf : ∀ p, p ≤ 256 → x ∉ R p) : ¬ CB g R h (x.e + 1) := by
  rintro (a | ⟨p, hp, rfl, y, hy, e⟩)
  · exact ((F.oe x hx).2.2 h).2 a
  · obtain rfl := F.oi x y hx (G.r _ hp y hy) (by omega)
    exact hf p hp hy
theorem CB.ws (G : RFix R P) (a : CB g R h k) : WS g P k := by
  rcases a with a | ⟨p, hp, rfl, x, hx, rfl⟩
  · exact .inr (.inl ⟨_, a⟩)
  · exact .inr (.inr ⟨x, G.r _ hp x hx, .inr rfl⟩)
theorem RFix.upd (G : RFix R P) {ys : List Ent} {N : Ent → Prop} (hp : p ≤ 256) (hN : ∀ x, N x → x ∈ P ∧ ∀ q, q ≤ 256 → x ∉ R q) (hy : ∀ x, x ∈ ys → x ∈ R p ∨ N x) : RFix (upd R p ys) P := by
  refine ⟨fun q hq x hx => ?_, fun q q' x hq hq' hx hx' => ?_⟩
  · by_cases e : q = p
    · subst e; rw [upd_same] at hx
      rcases hy x hx with h | h
      · exact G.r _ hq x h
      · exact (hN x h).1
    · rw [upd_other _ _ _ _ e] at hx; exact G.r _ hq x hx
  · by_cases e : q = p
    · by_cases e' : q' = p
      · omega
      · subst e; rw [upd_same] at hx; rw [upd_other _ _ _ _ e'] at hx'
        rcases hy x hx with h | h
        · exact G.un _ _ _ hq hq' h hx'
        · exact absurd hx' ((hN x h).2 _ hq')
    · rw [upd_other _ _ _ _ e] at hx
      by_cases e' : q' = p
      · subst e'; rw [upd_same] at hx'
        rcases hy x hx' with h | h
        · exact G.un _ _ _ hq hq' hx h
        · exact absurd hx ((hN x h).2 _ hq)
      · rw [upd_other _ _ _ _ e'] at hx'; exact G.un _ _ _ hq hq' hx hx'
theorem nrow_upd {ys : List Ent} (hp : p < 256) : nrow (upd R p ys) (p / 64) = upd (nrow R (p / 64)) (p % 64) (ys.map nd) := by
  funext s
  unfold nrow
  by_cases hs : s < 64
  · rw [if_pos hs]
    by_cases e : s = p % 64
    · subst e; rw [upd_same, show 64 * (p / 64) + p % 64 = p by omega, upd_same]
    · rw [upd_other _ _ _ _ e, upd_other _ _ _ _ (by omega)]; simp only [if_pos hs]
  · rw [if_neg hs, upd_other _ _ _ _ (by omega)]; simp only [if_neg hs]
theorem nrow_same {ys : List Ent} (h : ¬ p / 64 = h') : nrow (upd R p ys) h' = nrow R h' := by
  funext s
  unfold nrow
  by_cases hs : s < 64
  · rw [if_pos hs, if_pos hs, upd_other _ _ _ _ (by omega)]
  · rw [if_neg hs, if_neg hs]
theorem rowsOf_fix {Q : List Ent} {now : Nat} (hQ : ∀ x, x ∈ Q → x ∈ P) : RFix (rowsOf Q now) P :=
  ⟨fun p hp x hx => hQ x (mem_rowsOf.1 hx).1, fun p q x _ _ hx hy => (mem_rowsOf.1 hx).2.symm.trans (mem_rowsOf.1 hy).2⟩
end
end Verge

/-
  A wheel in memory, of verge/api.Tasks: its time, its levels, what lies beyond, its entries; one row turned.
-/
namespace Go.Proofs.YtldnmpiaofppgaaDoor.LT
open Go.RowKit Verge
set_option linter.unusedVariables false
/-- an entry -/
structure IsE (w : World) (x : Ent) : Prop where
  d : w.cell? ⟨x.e, 0, none⟩ = some (.int .u64 (x.d : Nat))
  u : IsTk w x.e 1 x.u
  c : w.cell? ⟨x.e, 6, none⟩ = some (.int .u64 (x.d : Nat))
  n : w.cell? ⟨x.e, 7, none⟩ = some (.pointer (some ⟨x.e + 1, 0, none⟩))
  k : Blk w x.e
/-- a wheel: its time, the entries of each place in order (64 times the level, and the slot; 256: beyond), all that were made -/
structure IsW (w : World) (g : Wh) (now : Nat) (R : Nat → List Ent) (P : List Ent) : Prop where
  t : w.cell? ⟨g.wb, 0, none⟩ = some (.int .u64 (now : Nat))
  p : ∀ h, h < 4 → w.cell? ⟨g.wb, 1 + h, none⟩ = some (.pointer (some ⟨g.vb h, 0, none⟩))
  b : w.cell? ⟨g.wb, 5, none⟩ = some (.pointer (some ⟨g.lb, 0, none⟩))
  k : Blk w g.wb
  v : ∀ h, h < 4 → IsLv w (g.vb h) (g.hd h) (nrow R h) pre
  l : IsL w g.lb ((R 256).map nd) pre
  e : ∀ x, x ∈ P → IsE w x
  f : ∀ x, x ∈ P → (∀ p, p ≤ 256 → x ∉ R p) → IsN w (x.e + 1) x.e none none none
  x : WFix g P
  y : RFix R P
  nl : now < 18446744073709551616
  dl : ∀ x, x ∈ P → x.d < 18446744073709551616
section
variable {S : Nat → Prop} {w w' : World} {g : Wh} {now : Nat} {R : Nat → List Ent} {P : List Ent} {x : Ent}
theorem IsE.kept (h : IsE w x) (c : Ch S w w') (hn : ¬ S x.e) : IsE w' x := ⟨c.keeps h.d hn, h.u.kept c hn, c.keeps h.c hn, c.keeps h.n hn, h.k.kept c hn⟩
theorem lvB_cb {h k : Nat} (hh : h < 4) (hk : LvB (g.vb h) (g.hd h) (nrow R h) k) : CB g R h k := by
  rcases hk with rfl | ⟨i, hi, (rfl | hk)⟩
  · exact .inl (.inl ⟨hh, .inl rfl⟩)
  · exact .inl (.inl ⟨hh, .inr ⟨i, hi, rfl⟩⟩)
  · rw [nrow_at hi] at hk
    obtain ⟨x, hx, rfl⟩ := List.mem_map.1 hk
    exact .inr ⟨64 * h + i, by omega, by omega, x, hx, rfl⟩
theorem lB_cb {k : Nat} (hk : LB g.lb ((R 256).map nd) k) : CB g R 4 k := by
  rcases hk with rfl | hk
  · exact .inl (.inr ⟨rfl, rfl⟩)
  · obtain ⟨x, hx, rfl⟩ := List.mem_map.1 hk
    exact .inr ⟨256, by omega, by omega, x, hx, rfl⟩
theorem IsW.nd_ws (H : IsW w g now R P) (hx : x ∈ P) : WS g P (x.e + 1) := .inr (.inr ⟨x, hx, .inr rfl⟩)
theorem IsW.kept (H : IsW w g now R P) (c : Ch S w w') (hn : ∀ k, WS g P k → ¬ S k) : IsW w' g now R P := by
  have nw := hn _ (.inl rfl)
  refine ⟨c.keeps H.t nw, fun h hh => c.keeps (H.p h hh) nw, c.keeps H.b nw, H.k.kept c nw, fun h hh => (H.v h hh).kept c fun k hk => hn k (CB.ws H.y (lvB_cb hh hk)), H.l.kept c fun k hk => hn k (CB.ws H.y (lB_cb hk)), fun x hx => (H.e x hx).kept c (hn _ (.inr (.inr ⟨x, hx, .inl rfl⟩))), fun x hx hf => (H.f x hx hf).kept c (hn _ (H.nd_ws hx)), H.x, H.y, H.nl, H.dl⟩
theorem IsW.turned (H : IsW w g now R P) {p : Nat} (hp : p ≤ 256) {ys : List Ent} {N : Ent → Prop} (c : Ch (fun k => CB g R (p / 64) k ∨ ∃ x, N x ∧ k = x.e + 1) w w')
    (hN : ∀ x, N x → x ∈ P ∧ ∀ q, q ≤ 256 → x ∉ R q) (hy : ∀ x, x ∈ ys → x ∈ R p ∨ N x)
    (hv : p < 256 → IsLv w' (g.vb (p / 64)) (g.hd (p / 64)) (upd (nrow R (p / 64)) (p % 64) (ys.map nd)) pre) (hl : p = 256 → IsL w' g.lb (ys.map nd) pre)
    (hf : ∀ x, x ∈ P → x ∉ ys → x ∈ R p ∨ N x → IsN w' (x.e + 1) x.e none none none) : IsW w' g now (upd R p ys) P := by
  have F := H.x
  have G := H.y
  have nw : ¬ (CB g R (p / 64) g.wb ∨ ∃ x, N x ∧ g.wb = x.e + 1) := by
    rintro (e | ⟨x, hx, e⟩)
    · exact CB.wb F G e
    · exact (F.oe x (hN x hx).1).2.1 e.symm
  have ne : ∀ x, x ∈ P → ¬ (CB g R (p / 64) x.e ∨ ∃ y, N y ∧ x.e = y.e + 1) := by
    rintro x hx (e | ⟨y, hy, e⟩)
    · exact CB.ent F G hx e
    · exact F.on x y hx (hN y hy).1 e
  have nc : ∀ h k, h ≠ p / 64 → CB g R h k → ¬ (CB g R (p / 64) k ∨ ∃ y, N y ∧ k = y.e + 1) := by
    rintro h k hh hk (e | ⟨y, hy, rfl⟩)
    · exact hh (CB.eq F G hk e)
    · exact CB.free F G (hN y hy).1 (hN y hy).2 hk
  refine ⟨c.keeps H.t nw, fun h hh => c.keeps (H.p h hh) nw, c.keeps H.b nw, H.k.kept c nw, fun h hh => ?_, ?_, fun x hx => (H.e x hx).kept c (ne x hx), fun x hx hfree => ?_, F, G.upd hp hN hy, H.nl, H.dl⟩
  · by_cases e : p / 64 = h
    · subst e
      rw [nrow_upd (by omega)]
      exact hv (by omega)
    · rw [nrow_same e]
      exact (H.v h hh).kept c fun k hk => nc h k (fun e' => e e'.symm) (lvB_cb hh hk)
  · by_cases e : p = 256
    · subst e; rw [upd_same]; exact hl rfl
    · rw [upd_other _ _ _ _ (fun e' => e e'.symm)]
      exact H.l.kept c fun k hk => nc 4 k (by omega) (lB_cb hk)
  · have hny : x ∉ ys := by have := hfree p hp; rwa [upd_same] at this
    by_cases hc : x ∈ R p ∨ N x
    · exact hf x hx hny hc
    · have hr : ∀ q, q ≤ 256 → x ∉ R q := fun q hq => by
        by_cases e : q = p
        · subst e; exact fun e => hc (.inl e)
        · have := hfree q hq; rwa [upd_other _ _ _ _ e] at this
      refine (H.f x hx hr).kept c ?_
      rintro (e | ⟨y, hy, e⟩)
      · exact CB.free F G hx hr e
      · obtain rfl := F.oi x y hx (hN y hy).1 (by omega)
        exact hc (.inr hy)
end
end Go.Proofs.YtldnmpiaofppgaaDoor.LT

/-
  Contracts of package times' small functions: Digit, each and its closure, Cut, Add, Later: what each returns, at every argument.
-/
namespace Go.Proofs.YtldnmpiaofppgaaDoor
open Go.RowKit Go.Shelf Verge
attribute [local go_sem] Oper.semAt_some


theorem pow6 (l : Nat) : (2 : Nat) ^ (6 * l) = 64 ^ l := by rw [Nat.pow_mul]
theorem and63 (t l : Nat) (ht : t < 18446744073709551616) : wrap64 (bits BinOp.and IntKind.u64 ((t : Int) / 2 ^ (6 * (l : Int)).toNat) 63) = (dg t l : Nat) := by
  have e : (6 * (l : Int)).toNat = 6 * l := by omega
  rw [e]
  have e2 : ((t : Int) / 2 ^ (6 * l)) = ((t / 64 ^ l : Nat) : Int) := by
    rw [← pow6]; simp
  rw [e2, show (63 : Int) = ((63 : Nat) : Int) from rfl, u64_and_nat _ _ (Nat.lt_of_le_of_lt (Nat.div_le_self _ _) ht) (by decide)]
  have e3 : t / 64 ^ l &&& 63 = dg t l := by
    unfold dg
    exact Nat.and_two_pow_sub_one_eq_mod _ 6
  rw [e3]
  have := dg_lt t l
  unfold wrap64; omega

theorem digit_any (t : Nat) (l : Int) (ht : t < 18446744073709551616) (w : World) :
    Calls Tryd.prog 86 #[.int .u64 t, .int .i64 l] w fun e w' => e = .returned (.int .i64 ((if 0 ≤ l ∧ l < 11 then dg t l.toNat else 0 : Nat) : Int)) ∧ w = w' := by
  by_cases h : 0 ≤ l ∧ l < 11
  · obtain ⟨hl, hl2⟩ := h
    obtain ⟨k, rfl⟩ := Int.eq_ofNat_of_zero_le hl
    have e := and63 t k ht
    rw [if_pos ⟨hl, hl2⟩, Int.toNat_natCast]
    have E := Lib.hid e
    clear e
    go_enter Tryd.func86, Tryd.ntmps86
    go_wp2
    go_ret
    exact ⟨ret_int E.out, rfl⟩
  · rw [if_neg h]
    by_cases h0 : l < 0
    · go_enter Tryd.func86, Tryd.ntmps86
      go_wp2
      go_ret
      exact ⟨rfl, rfl⟩
    · have h11 : 11 ≤ l := by omega
      go_enter Tryd.func86, Tryd.ntmps86
      go_wp2
      go_ret
      exact ⟨rfl, rfl⟩

theorem digit_at (t k : Nat) (ht : t < 18446744073709551616) (hk : k < 11) (w : World) :
    Calls Tryd.prog 86 #[.int .u64 t, .int .i64 k] w fun e w' => e = .returned (.int .i64 (dg t k : Nat)) ∧ w = w' := by
  have h := digit_any t k ht w
  rwa [if_pos ⟨by omega, by omega⟩, Int.toNat_natCast] at h

theorem each_in (t : Int) (n : Nat) (w : World) :
    CallsIn Fence.wide n Tryd.prog 82 #[.int .u64 t] w fun e w' => e = .returned (.func (.func 98) #[] #[.pointer (some ⟨w.heap.size, 0, none⟩)]) ∧ w.alloc (.cells #[.int .u64 t] 29) = w' := by
  refine callsIn_of_wp Tryd.func82 rfl trivial ?_ rfl
  simp only [Tryd.ntmps82, List.size_toArray, List.length_cons, List.length_nil, Nat.reduceAdd, Nat.reduceSub, Array.replicate_succ, Array.replicate_zero, List.push_toArray, List.append_toArray, List.nil_append, List.cons_append]
  gi_wp2
  go_ret
  exact ⟨rfl, rfl⟩

/-- what the iterator leans on: its box holds what it held -/
def KpBox (B : Nat) (W W' : World) : Prop := ∀ v, W.cell? ⟨B, 0, none⟩ = some v → W'.cell? ⟨B, 0, none⟩ = some v
theorem kpBox_t {B : Nat} {X Y Z : World} (h : KpBox B X Y) (h' : KpBox B Y Z) : KpBox B X Z := fun v hv => h' v (h v hv)
theorem kpBox_b {B : Nat} (W : World) (l : Nat) (o o' : Obj) (h : W.heap[l]? = some o) (ho : o.isCells = false) : KpBox B W (W.putObj l o') :=
  fun _ hv => cell_kept hv (grownBy_putObj' W l o') (fun r e => by cases e; exact ⟨o, h, ho⟩)

abbrev encP (x : Nat × Nat) : Array Value := #[Value.int .i64 x.1, Value.int .i64 x.2]

set_option maxRecDepth 100000 in
set_option maxHeartbeats 1000000 in
theorem each1_in (n : Nat) (hn : 1 ≤ n) (l B t : Nat) (ht : t < 18446744073709551616) (J Jx : List (Nat × Nat) → World → Prop)
    (hY : ∀ pre x W, J pre W → pre.length < 11 → YieldAt Fence.wide (n - 1) Tryd.prog l (encP x) W fun e W' =>
      (e = .returned (.bool true) ∧ J (pre ++ [x]) W' ∧ KpBox B W W') ∨ (e = .returned (.bool false) ∧ Jx (pre ++ [x]) W'))
    (W : World) (hB : W.cell? ⟨B, 0, none⟩ = some (.int .u64 t)) (h0 : J [] W) :
    CallsIn Fence.wide n Tryd.prog 98 #[.func (.yield l) #[] #[], .pointer (some ⟨B, 0, none⟩)] W fun e W' => (∃ v, e = .returned v) ∧
      ((∃ ys, ys = pairs t ∧ J ys W') ∨ (∃ pre, pre <+: pairs t ∧ Jx pre W')) := by
  refine callsIn_of_wp Tryd.func98 rfl trivial ?_ rfl
  simp only [Tryd.ntmps98, List.size_toArray, List.length_cons, List.length_nil, Nat.reduceAdd, Nat.reduceSub, Array.replicate_succ, Array.replicate_zero, List.push_toArray, List.append_toArray, List.nil_append, List.cons_append]
  have HY := Lib.hid hY
  have H0 := Lib.hid h0
  clear hY h0
  gi_wp2
  gi_loopw [4] (fun i wr => ∃ k : Nat, k ≤ 11 ∧ i = .int .i64 k ∧ wr.cell? ⟨B, 0, none⟩ = some (.int .u64 t) ∧ J ((pairs t).take k) wr) (fun i _ => 11 - (intOf i).toNat)
  case atStart => exact ⟨0, by omega, rfl, hB, H0.out⟩
  case round =>
    obtain ⟨k, hk, rfl, hc, hJ⟩ := hrel
    clear hB
    by_cases hlt : k < 11
    · have hy1 := HY.out ((pairs t).take k) (k, dg t k) wr hJ (by rw [List.length_take, pairs_length]; omega)
      rw [← pairs_take t k hlt] at hy1
      obtain ⟨fn, tmps, assign, body, hy, hR⟩ := hy1
      dsimp only [encP] at hy
      have HR := Lib.hid hR
      have HJ := Lib.hid hJ
      clear hR hJ
      gi_wp2_with (refine ⟨trivial, ?_⟩; gi_at_call 86; refine (callsIn_wide.2 (digit_at _ _ ht hlt _)).mono ?_; rintro e w' ⟨rfl, rfl⟩)
      refine HR.out.mono ?_
      rintro e W3 (⟨rfl, hJ3, hk3⟩ | ⟨rfl, hJx3⟩)
      · have hc3 := hk3 _ hc
        have HJ3 := Lib.hid hJ3
        clear hJ3
        gi_wp2
        go_roundw
        case rel => exact ⟨k + 1, by omega, by go_num, hc3, HJ3.out⟩
        case measure => simp [intOf]; omega
      · have HJ3 := Lib.hid hJx3
        clear hJx3
        gi_wp2
        refine bodyPost_ret (results_none rfl _ _ _) rfl ?_
        exact ⟨⟨_, rfl⟩, .inr ⟨_, List.take_prefix _ _, HJ3.out⟩⟩
    · obtain rfl : k = 11 := by omega
      have HJ := Lib.hid hJ
      clear hJ
      gi_wp2
      go_end0
      exact ⟨⟨_, rfl⟩, .inl ⟨_, rfl, by have := HJ.out; rwa [pairs_all] at this⟩⟩

theorem each_stops (n : Nat) (hn : 1 ≤ n) (B t : Nat) (ht : t < 18446744073709551616) (w : World) (hBn : B < w.heap.size) (hc : w.cell? ⟨B, 0, none⟩ = some (.int .u64 t)) :
    SeqStopsK Fence.wide n Tryd.prog 98 #[.pointer (some ⟨B, 0, none⟩)] encP (KpBox B) (fun ys => ys = pairs t) (fun pre => pre <+: pairs t) 11 w := fun l J Jx W hW _ _ hY h0 =>
  each1_in n hn l B t ht J Jx hY W ((hW.cell (p := ⟨B, 0, none⟩) hBn).trans hc) h0
end Go.Proofs.YtldnmpiaofppgaaDoor

/-
  Contracts of package times' Zeros, Apart, Cut, Add, Later: what each returns, at every argument; nothing that was there is changed.
-/
namespace Go.Proofs.YtldnmpiaofppgaaDoor
open Go.RowKit Go.Shelf Verge
attribute [local go_sem] Oper.semAt_some

theorem cell_of_box {W : World} {B : Nat} {v : Value} {t : TypeId} (h : W.heap[B]? = some (.cells #[v] t (0, 0))) : W.cell? ⟨B, 0, none⟩ = some v ∧ W.frozen? ⟨B, 0, none⟩ = false := by
  constructor <;> simp [World.cell?, World.frozen?, h]
theorem cell_new (W : World) (v : Value) (t : TypeId) : (W.alloc (.cells #[v] t)).cell? ⟨W.heap.size, 0, none⟩ = some v ∧ (W.alloc (.cells #[v] t)).frozen? ⟨W.heap.size, 0, none⟩ = false :=
  cell_of_box (World.alloc_heap_new W _)
theorem cell_alloc {W : World} {a : Addr} {v : Value} (o : Obj) (h : W.cell? a = some v) : (W.alloc o).cell? a = some v := cell_kept h (World.grownBy_alloc W o none) (fun r e => by cases e)
theorem frozen_alloc {W : World} {a : Addr} {v : Value} (o : Obj) (h : W.cell? a = some v) (hf : W.frozen? a = false) : (W.alloc o).frozen? a = false := (frozen_kept h (World.grownBy_alloc W o none) (fun r e => by cases e)).trans hf
theorem kpBox_setCell {B : Nat} (W : World) (b : Nat) (v : Value) (h : b ≠ B) : KpBox B W (W.setCell ⟨b, 0, none⟩ v) := fun u hu =>
  (World.cell?_setCell_other W ⟨b, 0, none⟩ ⟨B, 0, none⟩ v (fun e => by cases e; exact h rfl)).trans hu
theorem kpBox_refl {B : Nat} (W : World) : KpBox B W W := fun _ h => h

/-- what comes of the pairs so far: all 0 -/
def Z0 (pre : List (Nat × Nat)) : Prop := ∀ p ∈ pre, p.2 = 0
theorem zeros_of_all {t : Nat} (h : Z0 (pairs t)) : Zeros t 11 :=
  ⟨Nat.le_refl _, fun i hi => h (i, dg t i) (List.mem_map.2 ⟨i, List.mem_range.2 hi, rfl⟩), .inl rfl⟩
theorem zeros_of_pre {t : Nat} {pre : List (Nat × Nat)} {x : Nat × Nat} (hp : pre ++ [x] <+: pairs t) (h : Z0 pre) (hx : x.2 ≠ 0) : Zeros t x.1 := by
  have hlen : pre.length < 11 := by have := hp.length_le; simp [pairs_length] at this; omega
  have hx1 : x = (pre.length, dg t pre.length) := by
    have e := List.IsPrefix.getElem hp (i := pre.length) (by simp)
    simp [pairs] at e
    exact e
  have hpre : ∀ i, i < pre.length → dg t i = 0 := by
    intro i hi
    have e := List.IsPrefix.getElem hp (i := i) (by simp; omega)
    rw [List.getElem_append_left hi] at e
    simp [pairs] at e
    have := h _ (List.getElem_mem hi)
    rw [e] at this
    exact this
  rw [hx1] at hx ⊢
  exact ⟨by simp; omega, hpre, .inr hx⟩

set_option maxRecDepth 100000 in
set_option maxHeartbeats 2000000 in
theorem zeros_in (t : Nat) (ht : t < 18446744073709551616) (n : Nat) (hn : 3 ≤ n) (w : World) :
    CallsIn Fence.wide n Tryd.prog 63 #[.int .u64 t] w fun e W' => ∃ z : Nat, Zeros t z ∧ e = .returned (.int .i64 z) ∧ Below w.heap.size w W' := by
  have h1 : 1 ≤ n := by omega
  refine callsIn_of_wp_marks Tryd.func63 rfl trivial ?_ rfl
  simp only [Tryd.ntmps63, List.size_toArray, List.length_cons, List.length_nil, Nat.reduceAdd, Nat.reduceSub, Array.replicate_succ, Array.replicate_zero, List.push_toArray, List.append_toArray, List.nil_append, List.cons_append]
  gi_wp2_with (refine ⟨trivial, ?_⟩; gi_at_call 82; refine (each_in _ _ _).mono ?_; rintro e w' ⟨rfl, rfl⟩)
  have c0 := cell_new w (.int .i64 0) 3
  have c1 := cell_new (w.alloc (.cells #[.int .i64 0] 3)) (.int .u64 t) 29
  rw [World.size_alloc] at c1
  have hB0 : Below w.heap.size w ((w.alloc (.cells #[.int .i64 0] 3)).alloc (.cells #[.int .u64 t] 29)) := ((Below.refl _ w).alloc (Nat.le_refl _) _).alloc (by simp) _
  refine wpIn_rangeFunc_ownF (F := Fence.wide) rfl h1 (gf := 98) (lb := #[.pointer (some ⟨w.heap.size + 1, 0, none⟩)]) rfl trivial (enters_of Tryd.func98 (by kernel_rfl) rfl)
    (each_stops (n - 1) (by omega) (w.heap.size + 1) t ht _ (by simp) c1.1) kpBox_t (fun W l o o' _ h ho _ => kpBox_b W l o o' h ho) (Below.refl _ _) (fun _ => rfl)
    (fun pre W => (Z0 pre ∧ W.cell? ⟨w.heap.size, 0, none⟩ = some (.int .i64 0) ∧ W.frozen? ⟨w.heap.size, 0, none⟩ = false) ∧ Below w.heap.size w W)
    (fun c pre W => (c = .ret ∧ ∃ (p : List (Nat × Nat)) (x : Nat × Nat), pre = p ++ [x] ∧ Z0 p ∧ x.2 ≠ 0 ∧ W.cell? ⟨w.heap.size, 0, none⟩ = some (.int .i64 x.1)) ∧ Below w.heap.size w W)
    (OwnFrom.and (Own.from (fun s X Y row hs hg hr => ⟨hs.1, cell_kept hs.2.1 hg hr, (frozen_kept hs.2.1 hg hr).trans hs.2.2⟩) _) (ownFrom_below (Nat.le_refl _) (by simp; omega)))
    (fun c => OwnFrom.and (Own.from (fun s X Y row hs hg hr => by obtain ⟨hc, p, x, e, hz, hx, hcell⟩ := hs; exact ⟨hc, p, x, e, hz, hx, cell_kept hcell hg hr⟩) _) (ownFrom_below (Nat.le_refl _) (by simp; omega)))
    ⟨⟨by intro p h; simp at h, cell_alloc _ c0.1, frozen_alloc _ c0.1 c0.2⟩, hB0⟩
    (fun x => { tmps := #[.int .u64 t, undef, .pointer (some ⟨w.heap.size, 0, none⟩), .int .i64 x.1, .int .i64 x.2, .int .u64 t, .func (.func 98) #[] #[.pointer (some ⟨w.heap.size + 1, 0, none⟩)], .int .i64 x.1, .int .i64 x.2, undef, undef, undef], defers := [] }) ?assign ?body ?done ?stop
  case assign =>
    intro l x W K hK
    gi_wp2
    exact hK
  case body =>
    rintro l pre x W ⟨⟨hz, hc, hf⟩, hB⟩ _
    have HZ := Lib.hid hz
    clear hz
    gi_wp2
    · rename_i hx
      refine ⟨KeepsOthers.setCell _ _ _, ⟨rfl, pre, x, rfl, HZ.out, ?_, World.cell?_setCell_same' _ _ _ (by rw [hc]; rfl)⟩, hB.setCell (p := ⟨w.heap.size, 0, none⟩) (by simp) _⟩
      simpa using hx
    · rename_i hx
      refine ⟨KeepsOthers.refl _, kpBox_refl _, ⟨?_, hc, hf⟩, hB⟩
      intro p hp
      rcases List.mem_append.1 hp with h | h
      · exact HZ.out p h
      · simp at h; subst h; simpa using hx
  case done =>
    rintro D ys W hD rfl ⟨⟨hz, hc, hf⟩, hB⟩ hK
    have HZ := Lib.hid hz
    clear hz
    gi_wp2
    have hK' := (KeepsOthers.setCell W ⟨w.heap.size, 0, none⟩ (.int .i64 11)).same D _ hK rfl
    refine ⟨by simp, .inl ⟨_, _, rfl, run_takeDeferred hK', ?_⟩⟩
    have hc5 := cell_kept (World.cell?_setCell_same' W ⟨w.heap.size, 0, none⟩ (.int .i64 11) (by rw [hc]; rfl)) (grownBy_putObj' _ D (.deferred none)) (fun r e => by cases e; exact ⟨_, hK', rfl⟩)
    refine ⟨.int .i64 11, ?_, 11, zeros_of_all HZ.out, rfl, (hB.setCell (p := ⟨w.heap.size, 0, none⟩) (by simp) _).trans (belowK_b (w := w) (Nat.le_refl _) _ D _ _ (by simp at hD; omega) hK' rfl rfl)⟩
    simp [results, Tryd.f63, go_sem, hc5]
  case stop =>
    rintro D c pre W hD hpre ⟨⟨rfl, p, x, rfl, hz, hx, hc⟩, hB⟩ hK
    have HP := Lib.hid (zeros_of_pre hpre hz hx)
    clear hz hx hpre
    gi_wp2
    refine ⟨by simp, .inl ⟨_, _, rfl, run_takeDeferred hK, ?_⟩⟩
    have hc5 := cell_kept hc (grownBy_putObj' _ D (.deferred none)) (fun r e => by cases e; exact ⟨_, hK, rfl⟩)
    refine ⟨.int .i64 x.1, ?_, x.1, HP.out, rfl, hB.trans (belowK_b (w := w) (Nat.le_refl _) W D _ _ (by simp at hD; omega) hK rfl rfl)⟩
    simp [results, Tryd.f63, go_sem, hc5]
end Go.Proofs.YtldnmpiaofppgaaDoor
