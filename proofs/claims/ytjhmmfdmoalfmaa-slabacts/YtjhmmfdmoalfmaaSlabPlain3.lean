/-
  Plain facts of slabs, without Go: many requests, and what a step of one of them makes.
-/
import Derived.Test.YtjhmmfdmoalfmaaSlabPlain2
namespace Verge
set_option linter.unusedVariables false

/-- it has made the count one more, and holds nothing -/
def lk (r : Rq) : Nat := if r.ss = 0 ∧ r.st = 2 then 1 else 0
def looks (Q : Nat → Rq) : Nat → Nat
  | 0 => 0
  | n + 1 => looks Q n + lk (Q n)
def upQ (Q : Nat → Rq) (k : Nat) (x : Rq) : Nat → Rq := fun i => if i = k then x else Q i
theorem upQ_same (Q : Nat → Rq) (k : Nat) (x : Rq) : upQ Q k x k = x := by simp [upQ]
theorem upQ_other (Q : Nat → Rq) {k i : Nat} (x : Rq) (h : i ≠ k) : upQ Q k x i = Q i := by simp [upQ, h]
theorem looks_far (Q : Nat → Rq) (k : Nat) (x : Rq) (n : Nat) (h : n ≤ k) : looks (upQ Q k x) n = looks Q n := by
  induction n with
  | zero => rfl
  | succ n ih => rw [looks, looks, ih (by omega), upQ_other _ _ (by omega)]
theorem looks_up (Q : Nat → Rq) (k : Nat) (x : Rq) (n : Nat) (h : k < n) : looks (upQ Q k x) n + lk (Q k) = looks Q n + lk x := by
  induction n with
  | zero => omega
  | succ n ih =>
    rw [looks, looks]
    by_cases e : k = n
    · subst e; rw [looks_far _ _ _ _ (Nat.le_refl _), upQ_same]; omega
    · rw [upQ_other _ _ (by omega)]; have := ih (by omega); omega
theorem looks_more (Q : Nat → Rq) (n pd : Nat) : looks (upQ Q n ⟨pd, 0, 0, 0, 0, 0⟩) (n + 1) = looks Q n := by
  rw [looks, looks_far _ _ _ _ (Nat.le_refl _), upQ_same]; rfl
/-- what is known of a request -/
structure RqOk (n : Nat) (r : Rq) : Prop where
  st : r.st ≤ 2
  seen : r.seen ≤ 64
  slot : r.slot < n
  low : r.st = 1 → r.seen < n
  id : r.id ≤ 1000000
theorem RqOk.new (n pd : Nat) (n0 : 0 < n) : RqOk n ⟨pd, 0, 0, 0, 0, 0⟩ := ⟨by show 0 ≤ 2; omega, by show 0 ≤ 64; omega, n0, fun h => by have : (0 : Nat) = 1 := h; omega, by show 0 ≤ 1000000; omega⟩
/-- what a step of one request makes -/
structure Stp (n m : Nat) (R : Nat → Rec) (L : Nat) (r : Rq) (s : Nat × (Nat → Rec) × Rq) : Prop where
  inv : Inv n s.1 s.2.1 (L + lk s.2.2) (m + 1)
  ok : RqOk n s.2.2
  gv : ∀ k, (R k).gv ≤ (s.2.1 k).gv
  held : r.ss ≠ 2 → s.2.2.ss = 2 → ∃ f, f < n ∧ s.2.2.id = ((R f).gv + 1) * 64 + f ∧ (s.2.1 f).gv = (R f).gv + 1
  idle : r.ss = 2 → s.2.2 = r
theorem step_stp {n cnt m L : Nat} {R : Nat → Rec} {r : Rq} (h : Inv n cnt R (L + lk r) m) (k : RqOk n r) (hm : m + 1 ≤ 10000) (n1 : n ≤ 64) (n0 : 0 < n) : Stp n m R L r (stepM n cnt R r) := by
  have hg : ∀ j, j < n → (R j).gv ≤ 900000 := fun j hj => by have := h.gv j hj; omega
  have h1 := h.more (Nat.le_succ m)
  have hle := h.le
  unfold stepM
  by_cases a0 : r.ss ≠ 0
  · rw [if_pos a0]
    exact ⟨h1, k, fun _ => Nat.le_refl _, fun h2 h3 => absurd h3 h2, fun _ => rfl⟩
  · rw [if_neg a0]
    have a0 : r.ss = 0 := by omega
    by_cases a1 : r.st = 0
    · have l0 : lk r = 0 := by unfold lk; rw [if_neg (by omega)]
      rw [if_pos a1]
      by_cases a2 : cnt = n
      · rw [if_pos a2]
        refine ⟨?_, ⟨k.st, by show cnt ≤ 64; omega, k.slot, fun h => by have : r.st = 1 := h; omega, k.id⟩, fun _ => Nat.le_refl _, fun _ h3 => by have : (1 : Nat) = 2 := h3; omega, fun h => by omega⟩
        have l1 : lk { r with seen := cnt, ss := 1 } = 0 := by unfold lk; rw [if_neg (by simp)]
        show Inv n cnt R (L + lk { r with seen := cnt, ss := 1 }) (m + 1)
        rw [l1]; rw [l0] at h1; exact h1
      · rw [if_neg a2]
        refine ⟨?_, ⟨by show 1 ≤ 2; omega, by show cnt ≤ 64; omega, k.slot, fun _ => by show cnt < n; omega, k.id⟩, fun _ => Nat.le_refl _, fun _ h3 => by have : r.ss = 2 := h3; omega, fun h => by omega⟩
        have l1 : lk { r with seen := cnt, st := 1 } = 0 := by unfold lk; rw [if_neg (by simp)]
        show Inv n cnt R (L + lk { r with seen := cnt, st := 1 }) (m + 1)
        rw [l1]; rw [l0] at h1; exact h1
    · rw [if_neg a1]
      by_cases a2 : r.st = 1
      · have l0 : lk r = 0 := by unfold lk; rw [if_neg (by omega)]
        rw [if_pos a2]
        by_cases a3 : cnt = r.seen
        · rw [if_pos a3]
          have lw := k.low a2
          refine ⟨?_, ⟨by show 2 ≤ 2; omega, k.seen, k.slot, fun h => by have : (2 : Nat) = 1 := h; omega, k.id⟩, fun _ => Nat.le_refl _, fun _ h3 => by have : r.ss = 2 := h3; omega, fun h => by omega⟩
          have l1 : lk { r with st := 2 } = 1 := by unfold lk; rw [if_pos ⟨a0, rfl⟩]
          show Inv n (cnt + 1) R (L + lk { r with st := 2 }) (m + 1)
          rw [l1]; rw [l0] at h1
          exact ⟨h1.ok, h1.gv, by have := h1.us; omega, by omega⟩
        · rw [if_neg a3]
          refine ⟨?_, ⟨by show 0 ≤ 2; omega, k.seen, k.slot, fun h => by have : (0 : Nat) = 1 := h; omega, k.id⟩, fun _ => Nat.le_refl _, fun _ h3 => by have : r.ss = 2 := h3; omega, fun h => by omega⟩
          have l1 : lk { r with st := 0 } = 0 := by unfold lk; rw [if_neg (by simp)]
          show Inv n cnt R (L + lk { r with st := 0 }) (m + 1)
          rw [l1]; rw [l0] at h1; exact h1
      · rw [if_neg a2]
        have a3 : r.st = 2 := by have := k.st; omega
        have l0 : lk r = 1 := by unfold lk; rw [if_pos ⟨a0, a3⟩]
        have hs := k.slot
        rcases busy_cases (R r.slot) with hb | hb
        · have e := alloc_free (h.ok _ hs) hb (hg _ hs) (r.pd != 0)
          rw [e, if_pos rfl]
          rw [l0] at h
          refine ⟨?_, ⟨k.st, k.seen, k.slot, k.low, ?_⟩, fun j => ?_, fun _ _ => ⟨r.slot, hs, rfl, ?_⟩, fun h => by omega⟩
          · have l1 : lk { r with id := ((R r.slot).gv + 1) * 64 + r.slot, ss := 2 } = 0 := by unfold lk; rw [if_neg (by simp)]
            show Inv n cnt _ (L + lk { r with id := ((R r.slot).gv + 1) * 64 + r.slot, ss := 2 }) (m + 1)
            rw [l1]
            exact h.given hs hb r.pd
          · show ((R r.slot).gv + 1) * 64 + r.slot ≤ 1000000
            have := h.gv _ hs; omega
          · show (R j).gv ≤ (upR R r.slot _ j).gv
            by_cases ej : j = r.slot
            · subst ej; rw [upR_same]; show _ ≤ (R r.slot).gv + 1; omega
            · rw [upR_other _ _ ej]; exact Nat.le_refl _
          · show (upR R r.slot _ r.slot).gv = _
            rw [upR_same]
        · have e := alloc_busy (h.ok _ hs) hb (hg _ hs) (r.pd != 0)
          rw [if_neg e]
          refine ⟨?_, ⟨k.st, k.seen, Nat.mod_lt _ n0, k.low, k.id⟩, fun _ => Nat.le_refl _, fun _ h3 => by have : r.ss = 2 := h3; omega, fun h => by omega⟩
          have l1 : lk { r with slot := (r.slot + 1) % n } = 1 := by unfold lk; rw [if_pos ⟨a0, a3⟩]
          show Inv n cnt R (L + lk { r with slot := (r.slot + 1) % n }) (m + 1)
          rw [l1]; rw [l0] at h1; exact h1
theorem RqOk.fit {n cnt L m : Nat} {R : Nat → Rec} {r : Rq} (k : RqOk n r) (h : Inv n cnt R L m) (hm : m ≤ 900000) : Fit n (cnt, R, r) := h.fit hm k.st k.seen k.slot
end Verge
