/-
  A program as an object: what is still to be made, its state; may it, is it done, a step.
-/
import Derived.Test.YtjaalkjdpgnfjaaStgWalks2
import Derived.Test.YtjaalkjdpgnfjaaStgRow
namespace Go.Proofs.Ytjaalkjdpgnfjaa
open Go.RowKit Verge
set_option linter.unusedVariables false

/-- a program in block b that made n steps, with these to be made; the blocks X are none of its own -/
def Pg (X : Nat → Prop) (l : List Own) (Q : Own) (b n : Nat) (w : World) : Prop :=
  ∃ m d S M, IsPg w b m d (n : Int) ∧ Stg l Q S (.agg #[m, d]) w ∧ Q.P M w ∧ (∀ k, S k → ¬ M k) ∧ (∀ k, S k → k < w.heap.size) ∧ (¬ M b ∧ ¬ S b ∧ ¬ X b) ∧ ∀ k, X k → k < w.heap.size ∧ ¬ M k
section
variable {X : Nat → Prop} {l r : List Own} {Q Q1 : Own} {b n : Nat} {w w' : World}
theorem Pg.kept (h : Pg X l Q b n w) (c : Ch Nil w w') : Pg X l Q b n w' := by
  obtain ⟨m, d, S, M, h1, h2, h3, h4, h5, h6, h7⟩ := h
  have cz := c.size
  exact ⟨m, d, S, M, h1.kept c (fun e => e), h2.ag (c.ag h5 (fun _ _ e => e)), Own.nil h3 c, h4, fun k hk => by have := h5 k hk; omega, h6, fun k hk => ⟨by have := (h7 k hk).1; omega, (h7 k hk).2⟩⟩
theorem Pg.state (h : Pg X l Q b n w) : ∃ M, Q.P M w ∧ ∀ k, X k → ¬ M k := by
  obtain ⟨m, d, S, M, h1, h2, h3, h4, h5, h6, h7⟩ := h
  exact ⟨M, h3, fun k hk => (h7 k hk).2⟩
theorem stg_may {S : Nat → Prop} {m d : Value} (h : Stg l Q S (.agg #[m, d]) w) : May m d (!l.isEmpty) w := by
  cases l with
  | nil =>
    obtain ⟨m', hm, e⟩ := h
    cases e
    exact .inl ⟨rfl, rfl⟩
  | cons q r =>
    obtain ⟨d', e, K, c, rfl, -⟩ := h
    cases e
    exact .inr ⟨K, c, rfl, .inl ⟨rfl, rfl⟩⟩
theorem stg_end {S : Nat → Prop} {m d : Value} (h : Stg l Q S (.agg #[m, d]) w) : IsFn d ∧ isNilF d = l.isEmpty := by
  cases l with
  | nil =>
    obtain ⟨m', hm, e⟩ := h
    cases e
    exact ⟨.inl rfl, rfl⟩
  | cons q r =>
    obtain ⟨d', e, K, c, rfl, -⟩ := h
    cases e
    exact ⟨.inr ⟨K, c, rfl⟩, rfl⟩
theorem Pg.may (h : Pg X l Q b n w) : Calls Try.prog 13 #[.pointer (some ⟨b, 0, none⟩)] w fun e w' => e = .returned (.bool (!l.isEmpty)) ∧ Ch Nil w w' := by
  obtain ⟨m, d, S, M, h1, h2, -⟩ := h
  exact pMay_of h1 (stg_may h2)
theorem Pg.done (h : Pg X l Q b n w) : Calls Try.prog 12 #[.pointer (some ⟨b, 0, none⟩)] w fun e w' => e = .returned (.bool l.isEmpty) ∧ Ch Nil w w' := by
  obtain ⟨m, d, S, M, h1, h2, -⟩ := h
  obtain ⟨hf, he⟩ := stg_end h2
  rw [← he]
  exact pDone_of h1 hf
theorem Pg.steps (h : Pg X l Q b n w) : Calls Try.prog 14 #[.pointer (some ⟨b, 0, none⟩)] w fun e w' => e = .returned (.int .i64 (n : Nat)) ∧ Ch Nil w w' := by
  obtain ⟨m, d, S, M, h1, -⟩ := h
  exact pSteps_of h1
theorem Pg.stuck (h : Pg X [] Q b n w) : Calls Try.prog 16 #[.pointer (some ⟨b, 0, none⟩)] w fun e w' => e = .returned (.bool false) ∧ Ch Nil w w' := by
  obtain ⟨m, d, S, M, h1, h2, -⟩ := h
  exact pStep_no h1 (stg_may h2)
theorem Pg.step (h : Pg X (Q1 :: r) Q b n w) (hn : n < 1000000) : Calls Try.prog 16 #[.pointer (some ⟨b, 0, none⟩)] w fun e w' => e = .returned (.bool true) ∧ Pg X r Q1 b (n + 1) w' ∧ Ch (fun k => ¬ X k) w w' := by
  obtain ⟨m, d, S, M, h1, h2, h3, h4, h5, ⟨h6, h7, h8⟩, h9⟩ := h
  obtain ⟨d', e, K, c, rfl, en, hl, hcall⟩ := h2
  cases e
  have hb := h1.lt
  refine (pStep_yes (R := fun m' d' w1 w2 => ∃ S' M', Q1.P M' w2 ∧ Stg r Q1 S' (.agg #[m', d']) w2 ∧ Ch M w1 w2 ∧ (∀ k, M' k → M k ∨ w1.heap.size ≤ k) ∧ (∀ k, S' k → S k ∨ w1.heap.size ≤ k) ∧ (∀ k, S' k → ¬ M' k) ∧ ∀ k, S' k → k < w2.heap.size) h1 (.inl ⟨rfl, rfl⟩) en (by omega) (by omega) (fun w1 c1 => ?_)).mono ?_
  · refine (hcall w1 M (c1.ag h5 (fun _ _ e => e)) h4 (Own.nil h3 c1)).mono ?_
    rintro e w2 ⟨v, S', M', rfl, g1, g2, g3, g4, g5, g6, g7⟩
    obtain ⟨m', d', rfl, fm, fd⟩ := g2.shape
    exact ⟨m', d', rfl, fm, fd, (h1.kept c1 (fun e => e)).kept g3 h6, S', M', g1, g2, g3, g4, g5, g6, g7⟩
  · rintro e w' ⟨rfl, m', d', w1, w2, c1, ⟨S', M', g1, g2, g3, g4, g5, g6, g7⟩, hp, c2⟩
    have z1 := c1.size
    have z2 := g3.size
    have z3 := c2.size
    have nM : ¬ M' b := fun e => by rcases g4 b e with e | e; exact h6 e; omega
    have nS : ¬ S' b := fun e => by rcases g5 b e with e | e; exact h7 e; omega
    refine ⟨rfl, ⟨m', d', S', M', ?_, g2.ag (c2.ag g7 (fun k hk e => nS ((show k = b from e) ▸ hk))), Own.kept g1 c2 (fun k hk e => nM ((show k = b from e) ▸ hk)), g6, fun k hk => by have := g7 k hk; omega, ⟨nM, nS, h8⟩, fun k hk => ⟨by have := (h9 k hk).1; omega, fun e => ?_⟩⟩, ?_⟩
    · simpa using hp
    · rcases g4 k e with e | e
      · exact (h9 k hk).2 e
      · have := (h9 k hk).1; omega
    · refine ((c1.mono (fun _ _ e => e.elim)).trans (g3.mono (fun i _ e x => (h9 i x).2 e))).trans (c2.mono (fun i _ e x => ?_))
      have e' : i = b := e
      subst e'
      exact h8 x
theorem pg_new {S M : Nat → Prop} {v : Value} (h2 : Stg l Q S v w) (h3 : Q.P M w) (h4 : ∀ k, S k → ¬ M k) (h5 : ∀ k, S k → k < w.heap.size) (hx : ∀ k, X k → k < w.heap.size ∧ ¬ M k) :
    Calls Try.prog 10 #[v] w fun e w' => ∃ b, e = .returned (.pointer (some ⟨b, 0, none⟩)) ∧ Pg X l Q b 0 w' ∧ Ch Nil w w' ∧ w.heap.size ≤ b := by
  obtain ⟨m, d, rfl, -⟩ := h2.shape
  refine (new_any m d w).mono ?_
  rintro e w' ⟨b, rfl, hp, c, hb⟩
  have cz := c.size
  exact ⟨b, rfl, ⟨m, d, S, M, hp, h2.ag (c.ag h5 (fun _ _ e => e)), Own.nil h3 c, h4, fun k hk => by have := h5 k hk; omega, ⟨fun e => by have := Q.lt M w h3 b e; omega, fun e => by have := h5 b e; omega, fun e => by have := (hx b e).1; omega⟩, fun k hk => ⟨by have := (hx k hk).1; omega, (hx k hk).2⟩⟩, c, hb⟩
end

/-- two words: the states behind each of some numbers -/
def sts (Q : List Int → Own) : List Int → List Int → List Own
  | _, [] => []
  | g, x :: r => Q (g ++ [x]) :: sts Q (g ++ [x]) r
theorem sts_append (Q : List Int → Own) (ys : List Int) : ∀ (xs g : List Int), sts Q g (xs ++ ys) = sts Q g xs ++ sts Q (g ++ xs) ys
  | [], g => by simp [sts]
  | x :: r, g => by simp only [List.cons_append, sts]; rw [sts_append Q ys r (g ++ [x])]; simp
theorem sts_last (Q : List Int → Own) : ∀ (xs g : List Int), lastQ (sts Q g xs) (Q g) = Q (g ++ xs)
  | [], g => by simp [sts, lastQ]
  | x :: r, g => by simp only [sts, lastQ]; rw [sts_last Q r (g ++ [x])]; simp
theorem sts_empty (Q : List Int → Own) : ∀ (xs g : List Int), (sts Q g xs).isEmpty = xs.isEmpty
  | [], g => rfl
  | x :: r, g => rfl
end Go.Proofs.Ytjaalkjdpgnfjaa
