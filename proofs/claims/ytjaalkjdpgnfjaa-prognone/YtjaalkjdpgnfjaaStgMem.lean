/-
  What goes on step by step: states that a step owns, worlds that hold the same in some blocks; what a function, a stage, what is behind a stage do; a program in memory.
-/
import Derived.Test.YtjaalkjdpgnfjaaOwnRow
import Derived.Test.YtjaalkjdpgnfjaaListMem
import Derived.Test.YtjaalkjdpgnfjaaListInts
namespace Verge
section
variable {α : Type}
/-- the state behind the last of a row of states -/
def lastQ : List α → α → α
  | [], q => q
  | p :: r, _ => lastQ r p
/-- the state that something begins with: what is behind it at once, if it is over -/
def hdQ : List α → α → α → α
  | [], _, e => e
  | _ :: _, q, _ => q
/-- the states of one thing behind another one -/
def joinQ (e : α) (l2 : List α) : List α → List α
  | [] => l2
  | p :: r => hdQ r p e :: joinQ e l2 r
theorem joinQ_last (l2 : List α) (l : List α) (p q : α) : joinQ (lastQ l p) l2 (l) = l ++ l2 ∧ hdQ l q (lastQ l q) = q := by
  refine ⟨?_, by cases l <;> rfl⟩
  induction l generalizing p with
  | nil => rfl
  | cons x r ih =>
    simp only [lastQ, joinQ, List.cons_append]
    rw [ih]
    cases r <;> rfl
end
end Verge
namespace Go.Proofs.Ytjaalkjdpgnfjaa
open Go.RowKit Verge
set_option linter.unusedVariables false

/-- worlds that hold the same in the blocks S -/
structure Ag (S : Nat → Prop) (w w' : World) : Prop where
  size : w.heap.size ≤ w'.heap.size
  block : ∀ k, S k → w'.heap[k]? = w.heap[k]?
section
variable {S T M : Nat → Prop} {w w' w'' : World} {b : Nat} {p : Addr} {v : Value}
theorem Ag.refl (S : Nat → Prop) (w : World) : Ag S w w := ⟨Nat.le_refl _, fun _ _ => rfl⟩
theorem Ag.trans (h : Ag S w w') (k : Ag S w' w'') : Ag S w w'' := ⟨Nat.le_trans h.size k.size, fun i hi => (k.block i hi).trans (h.block i hi)⟩
theorem Ag.mono (h : Ag S w w') (k : ∀ i, T i → S i) : Ag T w w' := ⟨h.size, fun i hi => h.block i (k i hi)⟩
theorem Ag.cell (h : Ag S w w') (hc : w.cell? p = some v) (hs : S p.block) : w'.cell? p = some v := (World.cell?_of_block (w := w) (h.block _ hs)).trans hc
theorem Ag.blk (h : Ag S w w') (hb : Blk w b) (hs : S b) : Blk w' b := by
  obtain ⟨cs, t, hb⟩ := hb
  exact ⟨cs, t, (h.block b hs).trans hb⟩
theorem Ch.ag (c : Ch M w w') (hl : ∀ k, S k → k < w.heap.size) (ha : ∀ k, S k → ¬ M k) : Ag S w w' := ⟨c.size, fun k hk => c.block k (hl k hk) (ha k hk)⟩
end

/-- a state: the blocks that it owns, the world; it hangs on these blocks alone -/
structure Own where
  P : (Nat → Prop) → World → Prop
  lt : ∀ M w, P M w → ∀ k, M k → k < w.heap.size
  ag : ∀ M w w', P M w → Ag M w w' → P M w'
theorem Own.kept {Q : Own} {S M : Nat → Prop} {w w' : World} (h : Q.P M w) (c : Ch S w w') (hn : ∀ k, M k → ¬ S k) : Q.P M w' := Q.ag M w w' h (c.ag (Q.lt M w h) hn)
theorem Own.nil {Q : Own} {M : Nat → Prop} {w w' : World} (h : Q.P M w) (c : Ch Nil w w') : Q.P M w' := Own.kept h c (fun _ _ e => e)

/-- a function, or nil -/
def IsFn (v : Value) : Prop := v = .nilFunc ∨ ∃ K c, v = .func (.func K) #[] c
/-- is it nil? -/
def isNilF : Value → Bool
  | .nilFunc => true
  | _ => false
/-- a function of that number may be called -/
def Enters (K : Nat) : Prop := ∀ args w, (callFunc K args).run Try.prog w = .ok (.enter K args) w

/-- in each world that holds the same in S, and in which Q stands, the function leads to Q', and to a thing of which T stands -/
def Leads (Q Q' : Own) (T : (Nat → Prop) → Value → World → Prop) (S : Nat → Prop) (f : Value) (w : World) : Prop :=
  ∃ K c, f = .func (.func K) #[] c ∧ Enters K ∧ (∀ k, S k → k < w.heap.size) ∧ ∀ w' M, Ag S w w' → (∀ k, S k → ¬ M k) → Q.P M w' →
    Calls Try.prog K c w' fun e w'' => ∃ v S' M', e = .returned v ∧ Q'.P M' w'' ∧ T S' v w'' ∧ Ch M w' w'' ∧ (∀ k, M' k → M k ∨ w'.heap.size ≤ k) ∧ (∀ k, S' k → S k ∨ w'.heap.size ≤ k) ∧ (∀ k, S' k → ¬ M' k) ∧ (∀ k, S' k → k < w''.heap.size)

/-- it answers nothing -/
def Void : (Nat → Prop) → Value → World → Prop := fun S v _ => v = .tuple #[] ∧ ∀ k, ¬ S k
/-- a stage that makes just these steps, each of which leads to the next one of these states; then it is over -/
def Stg : List Own → Own → (Nat → Prop) → Value → World → Prop
  | [], _, _, v, _ => ∃ m, IsFn m ∧ v = .agg #[m, .nilFunc]
  | Q1 :: r, Q0, S, v, w => ∃ d, v = .agg #[.nilFunc, d] ∧ Leads Q0 Q1 (Stg r Q1) S d w

section
variable {S S' M : Nat → Prop} {w w' w'' : World} {Q Q' : Own} {T : (Nat → Prop) → Value → World → Prop} {f v : Value} {l : List Own}
theorem Leads.ag (h : Leads Q Q' T S f w) (a : Ag S w w') : Leads Q Q' T S f w' := by
  obtain ⟨K, c, e, en, hl, hc⟩ := h
  exact ⟨K, c, e, en, fun k hk => Nat.lt_of_lt_of_le (hl k hk) a.size, fun w2 M a2 hM hQ => hc w2 M (a.trans a2) hM hQ⟩
theorem Leads.lt (h : Leads Q Q' T S f w) : ∀ k, S k → k < w.heap.size := by obtain ⟨K, c, e, en, hl, hc⟩ := h; exact hl
theorem Leads.wide (h : Leads Q Q' T S f w) (hs : ∀ k, S k → S' k) (hl : ∀ k, S' k → k < w.heap.size) : Leads Q Q' T S' f w := by
  obtain ⟨K, c, e, en, -, hc⟩ := h
  refine ⟨K, c, e, en, hl, fun w2 M a2 hM hQ => (hc w2 M (a2.mono hs) (fun k hk => hM k (hs k hk)) hQ).mono ?_⟩
  rintro e w3 ⟨v, S2, M2, h1, h2, h3, h4, h5, h6, h7, h8⟩
  exact ⟨v, S2, M2, h1, h2, h3, h4, h5, fun k hk => (h6 k hk).imp (hs k) id, h7, h8⟩
theorem Leads.fn (h : Leads Q Q' T S f w) : IsFn f := by obtain ⟨K, c, e, -⟩ := h; exact .inr ⟨K, c, e⟩
theorem Stg.shape (h : Stg l Q S v w) : ∃ m d, v = .agg #[m, d] ∧ IsFn m ∧ IsFn d := by
  cases l with
  | nil => obtain ⟨m, hm, e⟩ := h; exact ⟨m, _, e, hm, .inl rfl⟩
  | cons q r => obtain ⟨d, e, h⟩ := h; exact ⟨_, d, e, .inl rfl, h.fn⟩
theorem Stg.wide (h : Stg l Q S v w) (hs : ∀ k, S k → S' k) (hl : ∀ k, S' k → k < w.heap.size) : Stg l Q S' v w := by
  cases l with
  | nil => exact h
  | cons q r => obtain ⟨d, e, h⟩ := h; exact ⟨d, e, h.wide hs hl⟩
theorem Stg.ag (h : Stg l Q S v w) (a : Ag S w w') : Stg l Q S v w' := by
  cases l with
  | nil => exact h
  | cons q r => obtain ⟨d, e, h⟩ := h; exact ⟨d, e, h.ag a⟩
end

/-- a program: its stage's two functions, how many steps were made -/
structure IsPg (w : World) (b : Nat) (m d : Value) (n : Int) : Prop where
  m : w.cell? ⟨b, 0, none⟩ = some m
  d : w.cell? ⟨b, 1, none⟩ = some d
  n : w.cell? ⟨b, 2, none⟩ = some (.int .i64 n)
  k : Blk w b
section
variable {S : Nat → Prop} {w w' : World} {b : Nat} {m d : Value} {n : Int}
theorem IsPg.lt (h : IsPg w b m d n) : b < w.heap.size := lt_of_cell h.m
theorem IsPg.kept (h : IsPg w b m d n) (c : Ch S w w') (hn : ¬ S b) : IsPg w' b m d n := ⟨c.keeps h.m hn, c.keeps h.d hn, c.keeps h.n hn, h.k.kept c hn⟩
theorem IsPg.new (w : World) (m d : Value) (n : Int) (T : TypeId) : IsPg (w.alloc (.cells #[m, d, .int .i64 n] T)) w.heap.size m d n :=
  ⟨by rw [cell_fresh]; rfl, by rw [cell_fresh]; rfl, by rw [cell_fresh]; rfl, Blk.new _ _ _⟩
theorem IsPg.set (h : IsPg w b m d n) (m' d' : Value) (n' : Int) : IsPg (((w.setCell ⟨b, 0, none⟩ m').setCell ⟨b, 1, none⟩ d').setCell ⟨b, 2, none⟩ (.int .i64 n')) b m' d' n' := by
  obtain ⟨hm, hd, hn, hk⟩ := h
  refine ⟨?_, ?_, ?_, ((hk.set _ _).set _ _).set _ _⟩ <;> simp [cell_set, hm, hd, hn]
end
end Go.Proofs.Ytjaalkjdpgnfjaa
