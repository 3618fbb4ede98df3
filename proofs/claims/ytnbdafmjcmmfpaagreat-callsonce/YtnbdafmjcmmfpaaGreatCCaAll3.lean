import Derived.Test.YtnbdafmjcmmfpaaGreatCCaAll2
/-
  A floor and many works: a new floor has none; what lies beside them has turned, or grown.
-/
namespace Go.Proofs.YtnbdafmjcmmfpaaGreat
open Go.RowKit Verge
set_option linter.unusedVariables false
set_option linter.unusedSimpArgs false
section
variable {E : Ee} {Z Z' : Nat → Prop} {w0 W W' : World} {σ σ' : Wd} {n n' : Nat} {ls : List (Mx × Wk)}
theorem Al.start (h : Bf E (fun j => w0.heap.size ≤ j) w0 W nilW 0) (hN : E.N.n ≤ 64) : Al E w0 W nilW 0 [] (fun _ => False) := by
  have hx := Fx.new h
  obtain ⟨S1, hb, hs, -⟩ := hx.b
  exact ⟨⟨⟨S1, hb, fun j e => ⟨(hs j e).1, (hs j e).2, fun z => z⟩, fun p hp => (by cases hp)⟩, fun p hp => (by cases hp), fun i j p q _ e => (by simp at e), fun j z => z.elim, hx.c⟩, fam_nil _, fun p hp => (by cases hp), fun _ => Nat.le_refl _, hN⟩
theorem Al.withZ (h : Al E w0 W σ n ls Z) (hw : ∀ j, Z j → w0.heap.size ≤ j) (c : Ch Z W W') (hz : ∀ j, Z' j → j < W'.heap.size ∧ (Z j ∨ W.heap.size ≤ j)) : Al E w0 W' σ n ls Z' := by
  obtain ⟨S1, hb, hs, hx⟩ := h.m.b
  have sz := c.size
  refine ⟨⟨⟨S1, hb.apart c (fun j _ z e => (hs j e).2.2 z), fun j e => ⟨by have := (hs j e).1; omega, (hs j e).2.1, fun z => ?_⟩, hx⟩, fun p hp => ⟨(h.m.v p hp).1.kept c (fun j hj z => (h.m.v p hp).2 j hj z) (Nat.le_refl _), fun j hj z => ?_⟩, h.m.d, fun j z => (hz j z).1, h.m.c.then c (fun j hj z => by have := hw j z; omega)⟩, h.f, h.p, h.x, h.n⟩
  · rcases (hz j z).2 with q | q
    · exact (hs j e).2.2 q
    · have := (hs j e).1; omega
  · rcases (hz j z).2 with q | q
    · exact (h.m.v p hp).2 j hj q
    · have := (h.m.v p hp).1.kw.lt hj; omega
theorem Al.up (h : Al E w0 W σ n ls Z) (hn : n ≤ n') : Al E w0 W σ n' ls Z := by
  obtain ⟨S1, hb, hs, hx⟩ := h.m.b
  exact ⟨⟨⟨S1, hb.up hn, hs, hx⟩, fun p hp => ⟨(h.m.v p hp).1.kept (Ch.refl Nil _) (fun _ _ e => e) hn, (h.m.v p hp).2⟩, h.m.d, h.m.z, h.m.c⟩, h.f.up hn, fun p hp => ⟨(h.p p hp).1.up hn, (h.p p hp).2⟩, fun c => Nat.le_trans (h.x c) hn, h.n⟩
end
end Go.Proofs.YtnbdafmjcmmfpaaGreat
