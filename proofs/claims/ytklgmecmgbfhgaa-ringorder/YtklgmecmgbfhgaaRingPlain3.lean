/-
  A ring and its tickets as plain states: what all of them keep, however they step between each other; the document's step beside the ring's.
-/
import Derived.Test.YtklgmecmgbfhgaaRingPlain2
namespace Verge
set_option linter.unusedVariables false

structure Inv (n nx fi q : Nat) (P : Nat → Bool) (T : Nat → TSt) : Prop where
  le : fi ≤ nx
  room : nx ≤ fi + n
  pub : ∀ p, nx ≤ p → P p = false
  gone : ∀ p, p < fi → P p = true
  st : ∀ k, k < q → (T k).st = 0 ∨ (T k).st = 1 ∨ (T k).st = 2
  su : ∀ k, k < q → (T k).su = 0 ∨ (T k).su = 1 ∨ (T k).su = 2
  fl : ∀ k, k < q → (T k).su ≠ 2 → (T k).fl = false
  pos : ∀ k, k < q → (T k).pos ≤ nx
  take : ∀ k, k < q → (T k).su = 0 → (T k).st = 2 → (T k).pos < fi + n
  held : ∀ k, k < q → (T k).su = 2 → (T k).pos < nx ∧ P (T k).pos = (T k).fl
  apart : ∀ j k, j < q → k < q → (T j).su = 2 → (T k).su = 2 → (T j).pos = (T k).pos → j = k

theorem Inv.new (n : Nat) (T : Nat → TSt) : Inv n 0 0 0 (fun _ => false) T := by
  constructor
  all_goals (intros; first | omega | rfl)
theorem Inv.begin {n nx fi q : Nat} {P : Nat → Bool} {T : Nat → TSt} (h : Inv n nx fi q P T) : Inv n nx fi (q + 1) P (upd T q ⟨0, 0, 0, false⟩) := by
  have cs : ∀ k, k < q + 1 → (k = q ∧ upd T q ⟨0, 0, 0, false⟩ k = ⟨0, 0, 0, false⟩) ∨ (k < q ∧ upd T q ⟨0, 0, 0, false⟩ k = T k) := by
    intro k hk
    by_cases e : k = q
    · exact .inl ⟨e, by rw [e]; exact upd_same _ _ _⟩
    · exact .inr ⟨by omega, upd_other _ _ _ _ e⟩
  refine ⟨h.le, h.room, h.pub, h.gone, ?_, ?_, ?_, ?_, ?_, ?_, ?_⟩
  · intro k hk; rcases cs k hk with ⟨-, e⟩ | ⟨hq, e⟩ <;> rw [e]
    · exact .inl rfl
    · exact h.st k hq
  · intro k hk; rcases cs k hk with ⟨-, e⟩ | ⟨hq, e⟩ <;> rw [e]
    · exact .inl rfl
    · exact h.su k hq
  · intro k hk; rcases cs k hk with ⟨-, e⟩ | ⟨hq, e⟩ <;> rw [e]
    · intro _; rfl
    · exact h.fl k hq
  · intro k hk; rcases cs k hk with ⟨-, e⟩ | ⟨hq, e⟩ <;> rw [e]
    · exact Nat.zero_le _
    · exact h.pos k hq
  · intro k hk; rcases cs k hk with ⟨-, e⟩ | ⟨hq, e⟩ <;> rw [e]
    · intro _ h2; cases h2
    · exact h.take k hq
  · intro k hk; rcases cs k hk with ⟨-, e⟩ | ⟨hq, e⟩ <;> rw [e]
    · intro h2; cases h2
    · exact h.held k hq
  · intro j k hj hk
    rcases cs j hj with ⟨e0, e⟩ | ⟨hq, e⟩ <;> rw [e]
    · intro h2; cases h2
    · rcases cs k hk with ⟨e0', e'⟩ | ⟨hq', e'⟩ <;> rw [e']
      · intro _ h2; cases h2
      · exact h.apart j k hq hq'

/-- one ticket turns: what that asks of it -/
theorem Inv.turn {n nx nx' fi q k : Nat} {P : Nat → Bool} {T : Nat → TSt} {t : TSt} (h : Inv n nx fi q P T) (hk : k < q) (h0 : nx ≤ nx') (h1 : nx' ≤ fi + n) (a1 : t.st = 0 ∨ t.st = 1 ∨ t.st = 2) (a2 : t.su = 0 ∨ t.su = 1 ∨ t.su = 2)
    (a3 : t.su ≠ 2 → t.fl = false) (a4 : t.pos ≤ nx') (a5 : t.su = 0 → t.st = 2 → t.pos < fi + n) (a6 : t.su = 2 → t.pos < nx' ∧ P t.pos = t.fl) (a7 : t.su = 2 → ∀ j, j < q → j ≠ k → (T j).su = 2 → (T j).pos ≠ t.pos) :
    Inv n nx' fi q P (upd T k t) := by
  have cs : ∀ j, j < q → (j = k ∧ upd T k t j = t) ∨ (j ≠ k ∧ upd T k t j = T j) := by
    intro j hj
    by_cases e : j = k
    · exact .inl ⟨e, by rw [e]; exact upd_same _ _ _⟩
    · exact .inr ⟨e, upd_other _ _ _ _ e⟩
  refine ⟨by have := h.le; omega, h1, fun p hp => h.pub p (by omega), h.gone, ?_, ?_, ?_, ?_, ?_, ?_, ?_⟩
  · intro j hj; rcases cs j hj with ⟨-, e⟩ | ⟨-, e⟩ <;> rw [e]
    · exact a1
    · exact h.st j hj
  · intro j hj; rcases cs j hj with ⟨-, e⟩ | ⟨-, e⟩ <;> rw [e]
    · exact a2
    · exact h.su j hj
  · intro j hj; rcases cs j hj with ⟨-, e⟩ | ⟨-, e⟩ <;> rw [e]
    · exact a3
    · exact h.fl j hj
  · intro j hj; rcases cs j hj with ⟨-, e⟩ | ⟨-, e⟩ <;> rw [e]
    · exact a4
    · have := h.pos j hj; omega
  · intro j hj; rcases cs j hj with ⟨-, e⟩ | ⟨-, e⟩ <;> rw [e]
    · exact a5
    · exact h.take j hj
  · intro j hj; rcases cs j hj with ⟨-, e⟩ | ⟨-, e⟩ <;> rw [e]
    · exact a6
    · intro h2; have := h.held j hj h2; exact ⟨by omega, this.2⟩
  · intro i j hi hj
    rcases cs i hi with ⟨e0, e⟩ | ⟨e0, e⟩ <;> rw [e] <;> rcases cs j hj with ⟨e0', e'⟩ | ⟨e0', e'⟩ <;> rw [e']
    · intros; omega
    · intro h2 h3 h4; exact absurd h4.symm (a7 h2 j hj e0' h3)
    · intro h2 h3 h4; exact absurd h4 (a7 h3 i hi e0 h2)
    · exact h.apart i j hi hj

theorem Inv.step {n nx fi q k : Nat} {P : Nat → Bool} {T : Nat → TSt} (h : Inv n nx fi q P T) (hk : k < q) : Inv n (tickStep n nx fi P (T k)).1 fi q P (upd T k (tickStep n nx fi P (T k)).2) := by
  have ht := h.st k hk
  have hu := h.su k hk
  have hf := h.fl k hk
  have hp := h.pos k hk
  have hta := h.take k hk
  have hh := h.held k hk
  have hap := fun j hj h1 h2 => h.apart j k hj hk h1 h2
  have hle := h.le
  have hroom := h.room
  have hpub := h.pub
  have hheld := h.held
  have hgone := h.gone
  generalize hT : T k = t at *
  obtain ⟨st, su, pos, fl⟩ := t
  dsimp only at ht hu hf hp hta hh hap
  by_cases h0 : su = 0
  · subst h0
    have hfl : fl = false := hf (by decide)
    subst hfl
    rcases ht with rfl | rfl | rfl
    · have e : tickStep n nx fi P ⟨0, 0, pos, false⟩ = (nx, ⟨1, 0, nx, false⟩) := by simp [tickStep]
      rw [e]
      exact h.turn hk (Nat.le_refl _) hroom (.inr (.inl rfl)) (.inl rfl) (fun _ => rfl) (Nat.le_refl _) (fun _ h2 => by cases h2) (fun h2 => by cases h2) (fun h2 => by cases h2)
    · by_cases c1 : fi + n ≤ pos
      · have e : tickStep n nx fi P ⟨1, 0, pos, false⟩ = (nx, ⟨1, 1, pos, false⟩) := by simp [tickStep, c1]
        rw [e]
        exact h.turn hk (Nat.le_refl _) hroom (.inr (.inl rfl)) (.inr (.inl rfl)) (fun _ => rfl) hp (fun h2 => by cases h2) (fun h2 => by cases h2) (fun h2 => by cases h2)
      · by_cases c2 : pos < fi ∨ P pos = true
        · have e : tickStep n nx fi P ⟨1, 0, pos, false⟩ = (nx, ⟨0, 0, pos, false⟩) := by simp [tickStep, c1, c2]
          rw [e]
          exact h.turn hk (Nat.le_refl _) hroom (.inl rfl) (.inl rfl) (fun _ => rfl) hp (fun _ h2 => by cases h2) (fun h2 => by cases h2) (fun h2 => by cases h2)
        · have e : tickStep n nx fi P ⟨1, 0, pos, false⟩ = (nx, ⟨2, 0, pos, false⟩) := by simp [tickStep, c1, c2]
          rw [e]
          exact h.turn hk (Nat.le_refl _) hroom (.inr (.inr rfl)) (.inl rfl) (fun _ => rfl) hp (fun _ _ => by dsimp only; omega) (fun h2 => by cases h2) (fun h2 => by cases h2)
    · by_cases c1 : nx = pos
      · subst c1
        have e : tickStep n nx fi P ⟨2, 0, nx, false⟩ = (nx + 1, ⟨2, 2, nx, false⟩) := by simp [tickStep]
        rw [e]
        have := hta rfl rfl
        refine h.turn hk (by omega) (by dsimp only; omega) (.inr (.inr rfl)) (.inr (.inr rfl)) (fun _ => rfl) (by dsimp only; omega) (fun h2 => by cases h2) (fun _ => ⟨by dsimp only; omega, hpub nx (Nat.le_refl _)⟩) (fun _ j hj hjk h2 h3 => ?_)
        dsimp only at h3
        have := (hheld j hj h2).1
        omega
      · have e : tickStep n nx fi P ⟨2, 0, pos, false⟩ = (nx, ⟨0, 0, pos, false⟩) := by simp [tickStep, c1]
        rw [e]
        exact h.turn hk (Nat.le_refl _) hroom (.inl rfl) (.inl rfl) (fun _ => rfl) hp (fun _ h2 => by cases h2) (fun h2 => by cases h2) (fun h2 => by cases h2)
  · have e : tickStep n nx fi P ⟨st, su, pos, fl⟩ = (nx, ⟨st, su, pos, fl⟩) := by simp [tickStep, h0]
    rw [e]
    refine h.turn hk (Nat.le_refl _) hroom ht hu hf hp hta hh (fun h2 j hj hjk h3 h4 => hjk (hap j hj h3 h2 h4))

theorem Inv.fill {n nx fi q k : Nat} {P : Nat → Bool} {T : Nat → TSt} (h : Inv n nx fi q P T) (hk : k < q) (h2 : (T k).su = 2) (h3 : (T k).fl = false) :
    (fi ≤ (T k).pos ∧ (T k).pos < nx) ∧ Inv n nx fi q (upd P (T k).pos true) (upd T k ⟨(T k).st, (T k).su, (T k).pos, true⟩) := by
  have hh := h.held k hk h2
  have hlo : fi ≤ (T k).pos := by
    apply Classical.byContradiction
    intro hn
    have := h.gone (T k).pos (by omega)
    rw [hh.2, h3] at this
    cases this
  refine ⟨⟨hlo, hh.1⟩, ?_⟩
  have cs : ∀ j, j < q → (j = k ∧ upd T k ⟨(T k).st, (T k).su, (T k).pos, true⟩ j = ⟨(T k).st, (T k).su, (T k).pos, true⟩) ∨ (j ≠ k ∧ upd T k ⟨(T k).st, (T k).su, (T k).pos, true⟩ j = T j) := by
    intro j hj
    by_cases e : j = k
    · exact .inl ⟨e, by rw [e]; exact upd_same _ _ _⟩
    · exact .inr ⟨e, upd_other _ _ _ _ e⟩
  refine ⟨h.le, h.room, ?_, ?_, ?_, ?_, ?_, ?_, ?_, ?_, ?_⟩
  · intro p hp
    rw [upd_other _ _ _ _ (by omega)]
    exact h.pub p hp
  · intro p hp
    rw [upd_other _ _ _ _ (by omega)]
    exact h.gone p hp
  · intro j hj; rcases cs j hj with ⟨-, e⟩ | ⟨-, e⟩ <;> rw [e]
    · exact h.st k hk
    · exact h.st j hj
  · intro j hj; rcases cs j hj with ⟨-, e⟩ | ⟨-, e⟩ <;> rw [e]
    · exact h.su k hk
    · exact h.su j hj
  · intro j hj; rcases cs j hj with ⟨-, e⟩ | ⟨-, e⟩ <;> rw [e]
    · intro h4; exact absurd h2 h4
    · exact h.fl j hj
  · intro j hj; rcases cs j hj with ⟨-, e⟩ | ⟨-, e⟩ <;> rw [e]
    · exact h.pos k hk
    · exact h.pos j hj
  · intro j hj; rcases cs j hj with ⟨-, e⟩ | ⟨-, e⟩ <;> rw [e]
    · exact h.take k hk
    · exact h.take j hj
  · intro j hj; rcases cs j hj with ⟨-, e⟩ | ⟨hne, e⟩ <;> rw [e]
    · intro _; exact ⟨hh.1, upd_same _ _ _⟩
    · intro h4
      have h5 := h.held j hj h4
      refine ⟨h5.1, ?_⟩
      rw [upd_other _ _ _ _ (fun e => hne (h.apart j k hj hk h4 h2 e))]
      exact h5.2
  · intro i j hi hj
    rcases cs i hi with ⟨e0, e⟩ | ⟨e0, e⟩ <;> rw [e] <;> rcases cs j hj with ⟨e0', e'⟩ | ⟨e0', e'⟩ <;> rw [e']
    · intros; omega
    · intro _ h4 h5; rw [e0]; exact h.apart k j hk hj h2 h4 h5
    · intro h4 _ h5; rw [e0']; exact h.apart i k hi hk h4 h2 h5
    · exact h.apart i j hi hj

theorem Inv.pop {n nx fi q : Nat} {P : Nat → Bool} {T : Nat → TSt} (h : Inv n nx fi q P T) (hP : P fi = true) : fi < nx ∧ Inv n nx (fi + 1) q P T := by
  have hlt : fi < nx := by
    apply Classical.byContradiction
    intro hn
    rw [h.pub fi (by omega)] at hP
    cases hP
  have hr := h.room
  refine ⟨hlt, ⟨by omega, by omega, h.pub, ?_, h.st, h.su, h.fl, h.pos, ?_, h.held, h.apart⟩⟩
  · intro p hp
    by_cases e : p = fi
    · rw [e]; exact hP
    · exact h.gone p (by omega)
  · intro k hk h1 h2
    have := h.take k hk h1 h2
    omega

/-- the document's word for how far a ticket is -/
def atOf (t : TSt) : Int := if t.su = 1 then 3 else if t.su = 2 then (if t.fl = true then 5 else 4) else t.st
/-- the document's step -/
def refStep (n nx fi : Nat) (P : Nat → Bool) (A : Int) (pos : Nat) : Nat × Int × Nat :=
  if A = 0 then (nx, 1, nx)
  else if A = 1 then (if pos < nx ∧ P pos = true then (nx, 0, pos) else if (n : Int) ≤ (pos : Int) - fi then (nx, 3, pos) else (nx, 2, pos))
  else if A = 2 then (if pos = nx then (nx + 1, 4, pos) else (nx, 0, pos))
  else (nx, A, pos)
def refAns (A : Int) : Int := if A = 3 then 1 else if 3 < A then 2 else 0
theorem ref_same {n nx fi q k : Nat} {P : Nat → Bool} {T : Nat → TSt} (h : Inv n nx fi q P T) (hk : k < q) :
    refStep n nx fi P (atOf (T k)) (T k).pos = ((tickStep n nx fi P (T k)).1, atOf (tickStep n nx fi P (T k)).2, (tickStep n nx fi P (T k)).2.pos) ∧ refAns (atOf (tickStep n nx fi P (T k)).2) = (tickStep n nx fi P (T k)).2.su := by
  have ht := h.st k hk
  have hu := h.su k hk
  have hf := h.fl k hk
  have hp := h.pos k hk
  have hroom := h.room
  have hpub := h.pub
  have hgone := h.gone
  have hle := h.le
  generalize T k = t at *
  obtain ⟨st, su, pos, fl⟩ := t
  dsimp only at ht hu hf hp
  by_cases h0 : su = 0
  · subst h0
    have hfl : fl = false := hf (by decide)
    subst hfl
    rcases ht with rfl | rfl | rfl
    · simp [tickStep, refStep, atOf, refAns]
    · by_cases c1 : fi + n ≤ pos
      · have e : tickStep n nx fi P ⟨1, 0, pos, false⟩ = (nx, ⟨1, 1, pos, false⟩) := by simp [tickStep, c1]
        have c2 : P pos = false := hpub pos (by omega)
        have c3 : (n : Int) ≤ (pos : Int) - fi := by omega
        rw [e]
        simp [refStep, atOf, refAns, c2, c3]
      · by_cases c2 : pos < fi ∨ P pos = true
        · have e : tickStep n nx fi P ⟨1, 0, pos, false⟩ = (nx, ⟨0, 0, pos, false⟩) := by simp [tickStep, c1, c2]
          have c3 : P pos = true := by
            rcases c2 with c2 | c2
            · exact hgone pos c2
            · exact c2
          have c4 : pos < nx := by
            apply Classical.byContradiction
            intro hn
            rw [hpub pos (by omega)] at c3
            cases c3
          rw [e]
          simp [refStep, atOf, refAns, c3, c4]
        · have e : tickStep n nx fi P ⟨1, 0, pos, false⟩ = (nx, ⟨2, 0, pos, false⟩) := by simp [tickStep, c1, c2]
          have c3 : ¬ (pos < nx ∧ P pos = true) := fun x => c2 (.inr x.2)
          have c4 : ¬ (n : Int) ≤ (pos : Int) - fi := by omega
          rw [e]
          simp only [refStep, atOf, refAns, c3, c4]
          simp
    · by_cases c1 : nx = pos
      · subst c1
        simp [tickStep, refStep, atOf, refAns]
      · have c2 : ¬ pos = nx := fun e => c1 e.symm
        simp [tickStep, refStep, atOf, refAns, c1, c2]
  · have e : tickStep n nx fi P ⟨st, su, pos, fl⟩ = (nx, ⟨st, su, pos, fl⟩) := by simp [tickStep, h0]
    rw [e]
    rcases hu with rfl | rfl | rfl
    · exact absurd rfl h0
    · simp [refStep, atOf, refAns]
    · cases fl <;> simp [refStep, atOf, refAns]
end Verge
