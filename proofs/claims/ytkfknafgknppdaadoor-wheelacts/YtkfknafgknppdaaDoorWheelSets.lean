/-
  The blocks of a wheel, told apart (no world in sight).
-/
import Derived.Test.YtkfknafgknppdaaDoorWheelPlain
namespace Verge
set_option linter.unusedVariables false
/-- a wheel's own blocks: its own, its levels', their lists' heads, the head of what lies beyond -/
structure Wh where
  wb : Nat
  vb : Nat → Nat
  hd : Nat → Nat → Nat
  lb : Nat
abbrev nd (x : Ent) : Nat := x.e + 1
/-- an entry's node's entry -/
def pre (b : Nat) : Nat := b - 1
theorem pre_nd (x : Ent) : pre (x.e + 1) = x.e := rfl
/-- the nodes of a level's slots -/
def nrow (R : Nat → List Ent) (h : Nat) : Nat → List Nat := fun s => if s < 64 then (R (64 * h + s)).map nd else []
theorem nrow_at {R : Nat → List Ent} {h s : Nat} (hs : s < 64) : nrow R h s = (R (64 * h + s)).map nd := if_pos hs
theorem nrow_len {R : Nat → List Ent} {h s : Nat} (hs : s < 64) : (nrow R h s).length = (R (64 * h + s)).length := by rw [nrow_at hs, List.length_map]
/-- the lasting blocks of the levels (0 to 3) and of what lies beyond (4) -/
def SB (g : Wh) (h k : Nat) : Prop := (h < 4 ∧ (k = g.vb h ∨ ∃ s, s < 64 ∧ k = g.hd h s)) ∨ (h = 4 ∧ k = g.lb)
/-- all blocks of a level, of what lies beyond -/
def CB (g : Wh) (R : Nat → List Ent) (h k : Nat) : Prop := SB g h k ∨ ∃ p, p ≤ 256 ∧ p / 64 = h ∧ ∃ x, x ∈ R p ∧ k = x.e + 1
/-- all blocks of a wheel and of its entries -/
def WS (g : Wh) (P : List Ent) (k : Nat) : Prop := k = g.wb ∨ (∃ h, SB g h k) ∨ ∃ x, x ∈ P ∧ (k = x.e ∨ k = x.e + 1)
structure WFix (g : Wh) (P : List Ent) : Prop where
  sd : ∀ h h' k, SB g h k → SB g h' k → h = h'
  sw : ∀ h, ¬ SB g h g.wb
  oe : ∀ x, x ∈ P → x.e ≠ g.wb ∧ x.e + 1 ≠ g.wb ∧ ∀ h, ¬ SB g h x.e ∧ ¬ SB g h (x.e + 1)
  on : ∀ x y, x ∈ P → y ∈ P → x.e ≠ y.e + 1
  oi : ∀ x y, x ∈ P → y ∈ P → x.e = y.e → x = y
structure RFix (R : Nat → List Ent) (P : List Ent) : Prop where
  r : ∀ p, p ≤ 256 → ∀ x, x ∈ R p → x ∈ P
  un : ∀ p q x, p ≤ 256 → q ≤ 256 → x ∈ R p → x ∈ R q → p = q
section
variable {g : Wh} {R : Nat → List Ent} {P : List Ent} {h h' k p : Nat} {x : Ent}
theorem CB.eq (F : WFix g P) (G : RFix R P) (a : CB g R h k) (b : CB g R h' k) : h = h' := by
  rcases a with a | ⟨p, hp, rfl, x, hx, rfl⟩ <;> rcases b with b | ⟨q, hq, rfl, y, hy, e⟩
  · exact F.sd _ _ _ a b
  · subst e; exact absurd a ((F.oe y (G.r _ hq y hy)).2.2 h).2
  · exact absurd b ((F.oe x (G.r _ hp x hx)).2.2 h').2
  · obtain rfl := F.oi x y (G.r _ hp x hx) (G.r _ hq y hy) (by omega)
    rw [G.un _ _ _ hp hq hx hy]
theorem CB.wb (F : WFix g P) (G : RFix R P) : ¬ CB g R h g.wb := by
  rintro (a | ⟨p, hp, rfl, x, hx, e⟩)
  · exact F.sw _ a
  · exact (F.oe x (G.r _ hp x hx)).2.1 e.symm
theorem CB.ent (F : WFix g P) (G : RFix R P) (hx : x ∈ P) : ¬ CB g R h x.e := by
  rintro (a | ⟨p, hp, rfl, y, hy, e⟩)
  · exact ((F.oe x hx).2.2 h).1 a
  · exact F.on x y hx (G.r _ hp y hy) e
theorem CB.free (F : WFix g P) (G : RFix R P) (hx : x ∈ P) (hf : ∀ p, p ≤ 256 → x ∉ R p) : ¬ CB g R h (x.e + 1) := by
  rintro (a | ⟨p, hp, rfl, y, hy, e⟩)
  · exact ((F.oe x hx).2.2 h).2 a
  · obtain rfl := F.oi x y hx (G.r _ hp y hy) (by omega)
    exact hf p hp hy
theorem CB.ws (G : RFix R P) (a : CB g R h k) : WS g P k := by
  rcases a with a | ⟨p, hp, rfl, x, hx, rfl⟩
  · exact .inr (.inl ⟨_, a⟩)
  · exact .inr (.inr ⟨x, G.r _ hp x hx, .inr rfl⟩)
theorem RFix.upd (G : RFix R P) {ys : List Ent} {N : Ent → Prop} (hp : p ≤ 256) (hN : ∀ x, N x → x ∈ P ∧ ∀ q, q ≤ 256 → x ∉ R q) (hy : ∀ x, x ∈ ys → x ∈ R p ∨ N x) : RFix (upd R p ys) P := by
  refine ⟨fun q hq x hx => ?_, fun q q' x hq hq' hx hx' => ?_⟩
  · by_cases e : q = p
    · subst e; rw [upd_same] at hx
      rcases hy x hx with h | h
      · exact G.r _ hq x h
      · exact (hN x h).1
    · rw [upd_other _ _ _ _ e] at hx; exact G.r _ hq x hx
  · by_cases e : q = p
    · by_cases e' : q' = p
      · omega
      · subst e; rw [upd_same] at hx; rw [upd_other _ _ _ _ e'] at hx'
        rcases hy x hx with h | h
        · exact G.un _ _ _ hq hq' h hx'
        · exact absurd hx' ((hN x h).2 _ hq')
    · rw [upd_other _ _ _ _ e] at hx
      by_cases e' : q' = p
      · subst e'; rw [upd_same] at hx'
        rcases hy x hx' with h | h
        · exact G.un _ _ _ hq hq' hx h
        · exact absurd hx ((hN x h).2 _ hq)
      · rw [upd_other _ _ _ _ e'] at hx'; exact G.un _ _ _ hq hq' hx hx'
theorem nrow_upd {ys : List Ent} (hp : p < 256) : nrow (upd R p ys) (p / 64) = upd (nrow R (p / 64)) (p % 64) (ys.map nd) := by
  funext s
  unfold nrow
  by_cases hs : s < 64
  · rw [if_pos hs]
    by_cases e : s = p % 64
    · subst e; rw [upd_same, show 64 * (p / 64) + p % 64 = p by omega, upd_same]
    · rw [upd_other _ _ _ _ e, upd_other _ _ _ _ (by omega)]; simp only [if_pos hs]
  · rw [if_neg hs, upd_other _ _ _ _ (by omega)]; simp only [if_neg hs]
theorem nrow_same {ys : List Ent} (h : ¬ p / 64 = h') : nrow (upd R p ys) h' = nrow R h' := by
  funext s
  unfold nrow
  by_cases hs : s < 64
  · rw [if_pos hs, if_pos hs, upd_other _ _ _ _ (by omega)]
  · rw [if_neg hs, if_neg hs]
theorem rowsOf_fix {Q : List Ent} {now : Nat} (hQ : ∀ x, x ∈ Q → x ∈ P) : RFix (rowsOf Q now) P :=
  ⟨fun p hp x hx => hQ x (mem_rowsOf.1 hx).1, fun p q x _ _ hx hy => (mem_rowsOf.1 hx).2.symm.trans (mem_rowsOf.1 hy).2⟩
end
end Verge
