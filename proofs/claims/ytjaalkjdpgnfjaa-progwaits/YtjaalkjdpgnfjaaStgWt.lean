/-
  ProgWaits' program: the variables that its stages share, and how it goes on.
-/
import Derived.Test.YtjaalkjdpgnfjaaStgWait
namespace Go.Proofs.Ytjaalkjdpgnfjaa
open Go.RowKit Verge
set_option linter.unusedVariables false

/-- the program in block b that made m steps: the numbers lie in block B, the gate in A, the row behind it, then the function that makes stages -/
structure WtAt (B A b : Nat) (a : Option Addr) (cap : Nat) (xs : List Int) (m : Nat) (o : Bool) (mm dd : Value) (lo : Nat) (ag : Option Addr) (cg : Nat) (w : World) : Prop where
  l : w.cell? ⟨B, 0, none⟩ = some (.slice a xs.length cap)
  s : w.cell? ⟨A + 1 + 1, 0, none⟩ = some (mkF B A (A + 1) (A + 1 + 1))
  o : w.cell? ⟨A, 0, none⟩ = some (.bool o)
  ok : Blk w A
  src : SrcB B w a xs
  st : StW B A (A + 1) (A + 1 + 1) xs.length m lo mm dd w
  pg : IsPg w b mm dd (m : Nat)
  g : GotAt (A + 1) (xs.take m) ag cg w
  mn : m ≤ xs.length
  low : A + 1 + 1 < lo ∧ A + 1 + 1 < b ∧ B < A
  own : ∀ k, OwnS ag k → A + 1 + 1 < k ∧ k ≠ b ∧ k < lo
  nib : ∀ ib, dd = doF B (A + 1) (A + 1 + 1) ib → ib ≠ b
def Wt (B A b : Nat) (a : Option Addr) (cap : Nat) (xs : List Int) (m : Nat) (o : Bool) (w : World) : Prop := ∃ mm dd lo ag cg, WtAt B A b a cap xs m o mm dd lo ag cg w
section
variable {B A b cap m lo cg : Nat} {a ag : Option Addr} {xs : List Int} {o : Bool} {mm dd : Value} {w w' : World}
theorem WtAt.nil (h : WtAt B A b a cap xs m o mm dd lo ag cg w) (c : Ch Nil w w') : WtAt B A b a cap xs m o mm dd lo ag cg w' :=
  ⟨c.keeps h.l (fun e => e), c.keeps h.s (fun e => e), c.keeps h.o (fun e => e), h.ok.kept c (fun e => e), h.src.ag (c.ag (fun k hk => by have := lt_of_cell h.l; simp only at this; omega) (fun _ _ e => e)), h.st.kept c (fun _ _ _ e => e), h.pg.kept c (fun e => e), h.g.kept c (fun e => e) (fun _ _ e => e), h.mn, h.low, h.own, h.nib⟩
theorem Wt.nil (h : Wt B A b a cap xs m o w) (c : Ch Nil w w') : Wt B A b a cap xs m o w' := by
  obtain ⟨mm, dd, lo, ag, cg, h⟩ := h
  exact ⟨mm, dd, lo, ag, cg, h.nil c⟩
theorem Wt.gate (h : Wt B A b a cap xs m o w) (o' : Bool) : Wt B A b a cap xs m o' (w.setCell ⟨A, 0, none⟩ (.bool o')) ∧ Ch (fun k => B ≤ k) w (w.setCell ⟨A, 0, none⟩ (.bool o')) := by
  obtain ⟨mm, dd, lo, ag, cg, h⟩ := h
  obtain ⟨l1, l2, l3⟩ := h.low
  have c : Ch (One A) w (w.setCell ⟨A, 0, none⟩ (.bool o')) := (Ch.refl _ _).setB _ _
  have nA : ∀ k, k ≠ A → ¬ One A k := fun k h e => h e
  refine ⟨⟨mm, dd, lo, ag, cg, c.keeps h.l (nA _ (by simp only; omega)), c.keeps h.s (nA _ (by simp only; omega)), World.cell?_setCell_same _ _ _ h.o, h.ok.set _ _, h.src.ag (c.ag (fun k hk => by have := lt_of_cell h.l; simp only at this; omega) (fun k hk e => by have e' : k = A := e; omega)), h.st.kept c (fun k h1 h2 e => by have e' : k = A := e; omega), h.pg.kept c (nA _ (by omega)), h.g.kept c (nA _ (by omega)) (fun k hk e => by have e' : k = A := e; have := (h.own k hk).1; omega), h.mn, h.low, h.own, h.nib⟩, c.mono (fun k _ e => by have e' : k = A := e; omega)⟩
theorem Wt.asks (h : Wt B A b a cap xs m o w) : Calls Try.prog 13 #[.pointer (some ⟨b, 0, none⟩)] w fun e w' => e = .returned (.bool (o && decide (m < xs.length))) ∧ Ch Nil w w' := by
  obtain ⟨mm, dd, lo, ag, cg, h⟩ := h
  refine pMay_of h.pg ?_
  rcases h.st with ⟨hn, rfl, rfl⟩ | ⟨hn, ib, rfl, rfl, h1, h2⟩
  · exact .inl ⟨rfl, by rw [decide_eq_false (by omega), Bool.and_false]⟩
  · refine .inr ⟨_, _, rfl, .inr ⟨_, _, rfl, enters_w11, fun w' c => ?_⟩⟩
    rw [decide_eq_true hn, Bool.and_true]
    exact ask_of (c.keeps h.o (fun e => e))
theorem Wt.done (h : Wt B A b a cap xs m o w) : Calls Try.prog 12 #[.pointer (some ⟨b, 0, none⟩)] w fun e w' => e = .returned (.bool (decide (m = xs.length))) ∧ Ch Nil w w' := by
  obtain ⟨mm, dd, lo, ag, cg, h⟩ := h
  have hm := h.mn
  have hd := pDone_of h.pg h.st.fns.2
  rcases h.st with ⟨hn, rfl, rfl⟩ | ⟨hn, ib, rfl, rfl, h1, h2⟩
  · rw [decide_eq_true (by omega)]; exact hd
  · rw [decide_eq_false (by omega)]; exact hd
theorem Wt.steps (h : Wt B A b a cap xs m o w) : Calls Try.prog 14 #[.pointer (some ⟨b, 0, none⟩)] w fun e w' => e = .returned (.int .i64 (m : Nat)) ∧ Ch Nil w w' := by
  obtain ⟨mm, dd, lo, ag, cg, h⟩ := h
  exact pSteps_of h.pg
theorem Wt.shut (h : Wt B A b a cap xs m o w) (hb : (o && decide (m < xs.length)) = false) : Calls Try.prog 16 #[.pointer (some ⟨b, 0, none⟩)] w fun e w' => e = .returned (.bool false) ∧ Ch Nil w w' := by
  obtain ⟨mm, dd, lo, ag, cg, h⟩ := h
  refine pStep_no h.pg ?_
  rcases h.st with ⟨hn, rfl, rfl⟩ | ⟨hn, ib, rfl, rfl, h1, h2⟩
  · exact .inl ⟨rfl, rfl⟩
  · rw [decide_eq_true hn, Bool.and_true] at hb
    subst hb
    exact .inr ⟨_, _, rfl, .inr ⟨_, _, rfl, enters_w11, fun w' c => ask_of (c.keeps h.o (fun e => e))⟩⟩
theorem Wt.goes (h : Wt B A b a cap xs m true w) (hm : m < xs.length) (hx : xs.length ≤ 30) : Calls Try.prog 16 #[.pointer (some ⟨b, 0, none⟩)] w fun e w' => e = .returned (.bool true) ∧ Wt B A b a cap xs (m + 1) true w' ∧ Ch (fun k => B ≤ k) w w' := by
  obtain ⟨mm, dd, lo, ag, cg, h⟩ := h
  obtain ⟨l1, l2, l3⟩ := h.low
  rcases h.st with ⟨hn, -, -⟩ | ⟨-, ib, rfl, rfl, h1, h2⟩
  · omega
  obtain ⟨v, hv⟩ : ∃ v, xs[m]? = some v := ⟨_, List.getElem?_eq_getElem hm⟩
  have ht : xs.take (m + 1) = xs.take m ++ [v] := by rw [List.take_add_one, hv]; rfl
  have hib := h.nib ib rfl
  have hbl : ∀ k, OwnS a k → k < B ∨ xs = [] := fun k hk => by
    rcases h.src with h | ⟨b', o', rfl, hb', -⟩
    · exact .inr h
    · cases hk; exact .inl hb'
  have hGb : ¬ (b = A + 1 ∨ OwnS ag b) := fun e => by
    rcases e with e | e
    · omega
    · exact (h.own b e).2.1 rfl
  have lw : b < w.heap.size := h.pg.lt
  have lib : ib < w.heap.size := lt_of_cell h1
  have lB : B < w.heap.size := lt_of_cell h.l
  refine (pStep_yes (R := fun m' d' w1 w2 => ∃ lo', StW B A (A + 1) (A + 1 + 1) xs.length (m + 1) lo' m' d' w2 ∧ w1.heap.size ≤ lo' ∧ Ch (fun k => k = A + 1 ∨ OwnS ag k) w1 w2 ∧ ∃ ag' cg', GotAt (A + 1) (xs.take m ++ [v]) ag' cg' w2 ∧ ∀ k, OwnS ag' k → (OwnS ag k ∨ w1.heap.size ≤ k) ∧ k < lo') h.pg (.inr ⟨_, _, rfl, enters_w11, fun w' c => ask_of (c.keeps h.o (fun e => e))⟩) enters_w12 (by omega) (by omega) (fun w1 c1 => ?_)).mono ?_
  · have k := h.nil c1
    refine (doit_of (Ob := A) k.g k.l k.src.srcA (c1.keeps h1 (fun e => e)) hv k.s hx (by rw [List.length_take]; omega) ⟨by omega, fun e => by have := (h.own B e).1; omega⟩ ⟨by omega, fun e => by have := (h.own ib e).2.2; omega⟩ ⟨by omega, fun e => by have := (h.own _ e).1; omega⟩ (fun j hj => ?_)).mono ?_
    · rcases hbl j hj with hj | hj
      · exact ⟨by omega, fun e => by have := (h.own j e).1; omega⟩
      · subst hj; simp at hm
    · rintro e w2 ⟨m', d', lo', rfl, g1, g2, g3, g4⟩
      obtain ⟨f1, f2⟩ := g1.fns
      exact ⟨m', d', rfl, f1, f2, k.pg.kept g3 hGb, lo', g1, g2, g3, g4⟩
  · rintro e w' ⟨rfl, m', d', w1, w2, c1, ⟨lo', g1, g2, g3, ag', cg', g4, g5⟩, hp, c2⟩
    have z1 := c1.size
    have z2 := g3.size
    have k1 := h.nil c1
    have nG : ∀ k, k ≠ A + 1 → ¬ OwnS ag k → ¬ (fun k => k = A + 1 ∨ OwnS ag k) k := fun k h1 h2 e => e.elim h1 h2
    have nB : ∀ k, k ≠ b → ¬ One b k := fun k h e => h e
    have low : ∀ k, k ≤ A + 1 + 1 → ¬ OwnS ag k := fun k hk e => by have := (h.own k e).1; omega
    have ho' : ∀ k, OwnS ag' k → A + 1 + 1 < k ∧ k ≠ b ∧ k < lo' := fun k hk => by
      obtain ⟨hk1, hk2⟩ := g5 k hk
      rcases hk1 with e | e
      · obtain ⟨o1, o2, -⟩ := h.own k e
        exact ⟨o1, o2, hk2⟩
      · exact ⟨by omega, by omega, hk2⟩
    refine ⟨rfl, ⟨m', d', lo', ag', cg', ?_, ?_, ?_, ?_, ?_, g1.kept c2 (fun k h1 h2 e => by have e' : k = b := e; omega), by simpa using hp, by rw [ht]; exact g4.kept c2 (nB _ (by omega)) (fun k hk e => (ho' k hk).2.1 e), hm, ⟨by omega, l2, l3⟩, ho', fun ib' hd e => ?_⟩, ?_⟩
    · exact c2.keeps (g3.keeps k1.l (nG _ (by simp only; omega) (low _ (by simp only; omega)))) (nB _ (by simp only; omega))
    · exact c2.keeps (g3.keeps k1.s (nG _ (by simp only; omega) (low _ (by simp only; omega)))) (nB _ (by simp only; omega))
    · exact c2.keeps (g3.keeps k1.o (nG _ (by simp only; omega) (low _ (by simp only; omega)))) (nB _ (by simp only; omega))
    · exact (k1.ok.kept g3 (nG _ (by omega) (low _ (by omega)))).kept c2 (nB _ (by omega))
    · exact (k1.src.ag (g3.ag (fun k hk => by omega) (fun k (hk : k < B) => nG k (by omega) (low k (by omega))))).ag (c2.ag (fun k hk => by omega) (fun k (hk : k < B) => nB k (by omega)))
    · rcases g1 with ⟨-, -, rfl⟩ | ⟨-, ib2, -, rfl, q1, q2⟩
      · cases hd
      · unfold doF at hd
        simp at hd
        all_goals omega
    · refine ((c1.mono (fun _ _ e => e.elim)).trans (g3.mono (fun k _ e => ?_))).trans (c2.mono (fun k _ e => ?_))
      · rcases e with e | e
        · omega
        · have := (h.own k e).1; omega
      · have e' : k = b := e; omega
end
end Go.Proofs.Ytjaalkjdpgnfjaa
