/-
  Plain facts of slabs, without Go: what holds where nothing but requests' steps and freeings happen; what many steps of one request make.
-/
import Derived.Test.YtkialefhjfoniaaSlabPlain
namespace Verge
set_option linter.unusedVariables false

/-- lk requests have made the count one more and hold nothing; m bounds how often a slot was given -/
structure Inv (n cnt : Nat) (R : Nat → Rec) (lk m : Nat) : Prop where
  ok : ∀ k, k < n → Ok1 (R k)
  gv : ∀ k, k < n → (R k).gv ≤ m
  us : used R n + lk = cnt
  le : cnt ≤ n
theorem Inv.zero (n : Nat) : Inv n 0 zeroR 0 0 := ⟨fun _ _ => .inl rfl, fun _ _ => Nat.le_refl _, by rw [used_zero], Nat.zero_le _⟩
theorem Inv.more {n cnt lk m m' : Nat} {R : Nat → Rec} (h : Inv n cnt R lk m) (hm : m ≤ m') : Inv n cnt R lk m' := ⟨h.ok, fun k hk => Nat.le_trans (h.gv k hk) hm, h.us, h.le⟩
theorem Ok1.lt {x : Rec} (h : Ok1 x) {m : Nat} (g : x.gv ≤ m) (hm : m ≤ 900000) : x.wd < 18446744073709551616 := by
  rcases h with h | h <;> rw [h] <;> omega
theorem busy_cases (x : Rec) : busy x = 0 ∨ busy x = 1 := by unfold busy; split <;> simp
/-- a record is made free, the count one less -/
theorem Inv.freed {n cnt lk m : Nat} {R : Nat → Rec} (h : Inv n cnt R lk m) {k : Nat} (hk : k < n) (hb : busy (R k) = 1) (p : Nat) : Inv n (cnt - 1) (upR R k ⟨256 * (R k).gv, (R k).gv, p⟩) lk m := by
  have u := used_up R k ⟨256 * (R k).gv, (R k).gv, p⟩ n hk
  have b0 : busy ⟨256 * (R k).gv, (R k).gv, p⟩ = 0 := busy_of0 rfl
  have hp := used_pos R n k hk hb
  have hu := h.us
  refine ⟨fun i hi => ?_, fun i hi => ?_, by omega, by have := h.le; omega⟩
  · by_cases e : i = k
    · subst e; rw [upR_same]; exact .inl rfl
    · rw [upR_other _ _ e]; exact h.ok i hi
  · by_cases e : i = k
    · subst e; rw [upR_same]; exact h.gv i hi
    · rw [upR_other _ _ e]; exact h.gv i hi
theorem Inv.pos {n cnt lk m : Nat} {R : Nat → Rec} (h : Inv n cnt R lk m) {k : Nat} (hk : k < n) (hb : busy (R k) = 1) : 0 < cnt := by
  have hp := used_pos R n k hk hb
  have hu := h.us
  omega
/-- a record is given -/
theorem Inv.given {n cnt lk m : Nat} {R : Nat → Rec} (h : Inv n cnt R (lk + 1) m) {k : Nat} (hk : k < n) (hb : busy (R k) = 0) (p : Nat) : Inv n cnt (upR R k ⟨256 * ((R k).gv + 1) + 1, (R k).gv + 1, p⟩) lk (m + 1) := by
  have u := used_up R k ⟨256 * ((R k).gv + 1) + 1, (R k).gv + 1, p⟩ n hk
  have b0 : busy ⟨256 * ((R k).gv + 1) + 1, (R k).gv + 1, p⟩ = 1 := busy_of1 rfl
  have hu := h.us
  refine ⟨fun i hi => ?_, fun i hi => ?_, by omega, h.le⟩
  · by_cases e : i = k
    · subst e; rw [upR_same]; exact .inr rfl
    · rw [upR_other _ _ e]; exact h.ok i hi
  · by_cases e : i = k
    · subst e; rw [upR_same]; have := h.gv i hi; show (R i).gv + 1 ≤ m + 1; omega
    · rw [upR_other _ _ e]; have := h.gv i hi; omega
/-- the first slot that is free -/
theorem first_free (R : Nat → Rec) (n : Nat) (h : used R n < n) : ∃ f, f < n ∧ busy (R f) = 0 ∧ ∀ j, j < f → busy (R j) = 1 := by
  induction n with
  | zero => omega
  | succ n ih =>
    rw [used] at h
    by_cases hu : used R n < n
    · obtain ⟨f, h1, h2, h3⟩ := ih hu
      exact ⟨f, by omega, h2, h3⟩
    · have hl := used_le R n
      refine ⟨n, by omega, by omega, fun j hj => ?_⟩
      rcases busy_cases (R j) with hb | hb
      · exfalso
        have u := used_up R j ⟨1, 0, 0⟩ n hj
        have b1 : busy ⟨1, 0, 0⟩ = 1 := busy_of1 rfl
        have := used_le (upR R j ⟨1, 0, 0⟩) n
        omega
      · exact hb
theorem alloc_free {x : Rec} (h : Ok1 x) (hb : busy x = 0) (hg : x.gv ≤ 900000) (per : Bool) : nxW x.wd 1 per = (256 * (x.gv + 1) + 1, 0) := by
  rw [h.busy0 hb]; exact nx_alloc0 _ _ (by omega)
theorem alloc_busy {x : Rec} (h : Ok1 x) (hb : busy x = 1) (hg : x.gv ≤ 900000) (per : Bool) : (nxW x.wd 1 per).2 ≠ 0 := by
  rw [h.busy1 hb, nx_alloc1 _ _ (by omega)]; simp

/-- k steps of one request -/
def itS (n cnt : Nat) (R : Nat → Rec) (r : Rq) : Nat → Nat × (Nat → Rec) × Rq
  | 0 => (cnt, R, r)
  | k + 1 => stepM n (itS n cnt R r k).1 (itS n cnt R r k).2.1 (itS n cnt R r k).2.2
/-- it is full at once -/
theorem it_full (n cnt pd : Nat) (R : Nat → Rec) (h : cnt = n) (k : Nat) : itS n cnt R ⟨pd, 0, 0, 0, 0, 0⟩ (k + 1) = (cnt, R, ⟨pd, 0, 1, cnt, 0, 0⟩) := by
  induction k with
  | zero => simp [itS, stepM, h]
  | succ k ih => rw [itS, ih]; simp [stepM]
/-- what it is behind k steps, f the first slot that is free -/
def itAt (n cnt : Nat) (R : Nat → Rec) (pd f k : Nat) : Nat × (Nat → Rec) × Rq :=
  if k = 0 then (cnt, R, ⟨pd, 0, 0, 0, 0, 0⟩) else if k = 1 then (cnt, R, ⟨pd, 1, 0, cnt, 0, 0⟩)
  else if k ≤ f + 2 then (cnt + 1, R, ⟨pd, 2, 0, cnt, k - 2, 0⟩)
  else (cnt + 1, upR R f ⟨256 * ((R f).gv + 1) + 1, (R f).gv + 1, pd⟩, ⟨pd, 2, 2, cnt, f, ((R f).gv + 1) * 64 + f⟩)
theorem it_work {n cnt m : Nat} {R : Nat → Rec} (pd : Nat) (h : Inv n cnt R 0 m) (hm : m ≤ 900000) (hc : cnt < n) {f : Nat} (hf : f < n) (f0 : busy (R f) = 0) (f1 : ∀ j, j < f → busy (R j) = 1) (k : Nat) :
    itS n cnt R ⟨pd, 0, 0, 0, 0, 0⟩ k = itAt n cnt R pd f k := by
  have hg : ∀ j, j < n → (R j).gv ≤ 900000 := fun j hj => Nat.le_trans (h.gv j hj) hm
  induction k with
  | zero => rfl
  | succ k ih =>
    rw [itS, ih]
    unfold itAt
    by_cases k0 : k = 0
    · subst k0; simp [stepM]; omega
    · by_cases k1 : k = 1
      · subst k1; simp [stepM]
      · rw [if_neg k0, if_neg k1, if_neg (show ¬ k + 1 = 0 by omega), if_neg (show ¬ k + 1 = 1 by omega)]
        by_cases k2 : k ≤ f + 2
        · rw [if_pos k2]
          by_cases k3 : k = f + 2
          · rw [if_neg (show ¬ k + 1 ≤ f + 2 by omega)]
            obtain rfl : f = k - 2 := by omega
            have := alloc_free (h.ok _ hf) f0 (hg _ hf) (pd != 0)
            simp [stepM, this]
          · rw [if_pos (show k + 1 ≤ f + 2 by omega)]
            have := alloc_busy (h.ok (k - 2) (by omega)) (f1 _ (by omega)) (hg _ (by omega)) (pd != 0)
            simp [stepM, this]
            rw [Nat.mod_eq_of_lt (by omega)]; omega
        · rw [if_neg k2, if_neg (show ¬ k + 1 ≤ f + 2 by omega)]
          simp [stepM]
/-- what is asked of a request and a slab, so that it may step -/
structure Fit (n : Nat) (s : Nat × (Nat → Rec) × Rq) : Prop where
  st : s.2.2.st ≤ 2
  seen : s.2.2.seen ≤ 64
  slot : s.2.2.slot < n
  wd : ∀ k, k < n → (s.2.1 k).wd < 18446744073709551616
  gv : ∀ k, k < n → (s.2.1 k).gv ≤ 900000
theorem Inv.fit {n cnt lk m : Nat} {R : Nat → Rec} (h : Inv n cnt R lk m) (hm : m ≤ 900000) {cnt' : Nat} {r : Rq} (h1 : r.st ≤ 2) (h2 : r.seen ≤ 64) (h3 : r.slot < n) : Fit n (cnt', R, r) :=
  ⟨h1, h2, h3, fun k hk => (h.ok k hk).lt (h.gv k hk) hm, fun k hk => Nat.le_trans (h.gv k hk) hm⟩
theorem it_fit {n cnt m : Nat} {R : Nat → Rec} (pd : Nat) (h : Inv n cnt R 0 m) (hm : m + 1 ≤ 900000) (n1 : n ≤ 64) (n0 : 0 < n) (k : Nat) : Fit n (itS n cnt R ⟨pd, 0, 0, 0, 0, 0⟩ k) := by
  by_cases hc : cnt = n
  · cases k with
    | zero => exact h.fit (by omega) (by show 0 ≤ 2; omega) (by show 0 ≤ 64; omega) n0
    | succ k => rw [it_full _ _ _ _ hc]; exact h.fit (by omega) (by show 0 ≤ 2; omega) (by show cnt ≤ 64; omega) n0
  · have hl := h.le
    obtain ⟨f, hf, f0, f1⟩ := first_free R n (by have := h.us; omega)
    rw [it_work pd h (by omega) (by omega) hf f0 f1]
    unfold itAt
    by_cases k0 : k = 0
    · rw [if_pos k0]; exact h.fit (by omega) (by show 0 ≤ 2; omega) (by show 0 ≤ 64; omega) n0
    · rw [if_neg k0]
      by_cases k1 : k = 1
      · rw [if_pos k1]; exact h.fit (by omega) (by show 1 ≤ 2; omega) (by show cnt ≤ 64; omega) n0
      · rw [if_neg k1]
        by_cases k2 : k ≤ f + 2
        · rw [if_pos k2]; exact h.fit (by omega) (by show 2 ≤ 2; omega) (by show cnt ≤ 64; omega) (by show k - 2 < n; omega)
        · rw [if_neg k2]
          have h1 : Inv n (cnt + 1) R 1 m := ⟨h.ok, h.gv, by have := h.us; omega, by omega⟩
          exact (h1.given (lk := 0) hf f0 pd).fit hm (by show 2 ≤ 2; omega) (by show cnt ≤ 64; omega) hf
/-- at the end: it is full, or holds a record -/
theorem it_end {n cnt m : Nat} {R : Nat → Rec} (pd : Nat) (h : Inv n cnt R 0 m) (hm : m + 1 ≤ 900000) (k : Nat) (hk : n + 2 ≤ k) :
    (cnt = n ∧ itS n cnt R ⟨pd, 0, 0, 0, 0, 0⟩ k = (cnt, R, ⟨pd, 0, 1, cnt, 0, 0⟩)) ∨
    (∃ f, f < n ∧ busy (R f) = 0 ∧ itS n cnt R ⟨pd, 0, 0, 0, 0, 0⟩ k = (cnt + 1, upR R f ⟨256 * ((R f).gv + 1) + 1, (R f).gv + 1, pd⟩, ⟨pd, 2, 2, cnt, f, ((R f).gv + 1) * 64 + f⟩) ∧
      Inv n (cnt + 1) (upR R f ⟨256 * ((R f).gv + 1) + 1, (R f).gv + 1, pd⟩) 0 (m + 1)) := by
  by_cases hc : cnt = n
  · left
    obtain ⟨j, rfl⟩ : ∃ j, k = j + 1 := ⟨k - 1, by omega⟩
    exact ⟨hc, it_full _ _ _ _ hc j⟩
  · right
    have hl := h.le
    obtain ⟨f, hf, f0, f1⟩ := first_free R n (by have := h.us; omega)
    refine ⟨f, hf, f0, ?_, ?_⟩
    · rw [it_work pd h (by omega) (by omega) hf f0 f1]
      unfold itAt
      rw [if_neg (by omega), if_neg (by omega), if_neg (by omega)]
    · have h1 : Inv n (cnt + 1) R 1 m := ⟨h.ok, h.gv, by have := h.us; omega, by omega⟩
      exact h1.given (lk := 0) hf f0 pd
end Verge
