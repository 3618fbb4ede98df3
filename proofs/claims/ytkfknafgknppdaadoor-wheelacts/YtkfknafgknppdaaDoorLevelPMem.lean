/-
  A level in memory: its block (64 pointers, the map), its lists; what stands though other blocks turn; one list turned.
-/
import Derived.Test.YtkfknafgknppdaaDoorListP6
import Derived.Test.YtkfknafgknppdaaDoorBitsWalks4
import Derived.Test.YtkfknafgknppdaaDoorWheelGen
namespace Go.Proofs.YtkfknafgknppdaaDoor.LP
open Go.RowKit Verge
set_option linter.unusedVariables false


/-- a level in block vb: the heads of its lists, their nodes, what these hold; its map's number -/
structure IsV (w : World) (vb : Nat) (hd : Nat → Nat) (X : Nat → List Nat) (V : Nat → Nat) (m : Nat) : Prop where
  s : ∀ i, i < 64 → w.cell? ⟨vb, i, none⟩ = some (.pointer (some ⟨hd i, 0, none⟩))
  m : w.cell? ⟨vb, 64, none⟩ = some (.int .u64 (m : Nat))
  k : Blk w vb
  l : ∀ i, i < 64 → IsL w (hd i) (X i) V
  d : ∀ i j, i < 64 → j < 64 → i ≠ j → ∀ k, LB (hd i) (X i) k → ¬ LB (hd j) (X j) k
  nv : ∀ i, i < 64 → ¬ LB (hd i) (X i) vb
/-- and the map is right -/
abbrev IsLv (w : World) (vb : Nat) (hd : Nat → Nat) (X : Nat → List Nat) (V : Nat → Nat) : Prop := IsV w vb hd X V (mapX X)
/-- the blocks of a level -/
def LvB (vb : Nat) (hd : Nat → Nat) (X : Nat → List Nat) : Nat → Prop := fun k => k = vb ∨ ∃ i, i < 64 ∧ LB (hd i) (X i) k
section
variable {S : Nat → Prop} {w w' : World} {vb m b s : Nat} {hd : Nat → Nat} {X : Nat → List Nat} {V : Nat → Nat}
theorem IsV.blk (h : IsV w vb hd X V m) {k : Nat} (hk : LvB vb hd X k) : Blk w k := by
  rcases hk with rfl | ⟨i, hi, hk⟩
  · exact h.k
  · exact (h.l i hi).blk hk
theorem IsV.lt (h : IsV w vb hd X V m) {k : Nat} (hk : LvB vb hd X k) : k < w.heap.size := (h.blk hk).lt
theorem IsV.kept (h : IsV w vb hd X V m) (c : Ch S w w') (hn : ∀ k, LvB vb hd X k → ¬ S k) : IsV w' vb hd X V m :=
  ⟨fun i hi => c.keeps (h.s i hi) (hn _ (.inl rfl)), c.keeps h.m (hn _ (.inl rfl)), h.k.kept c (hn _ (.inl rfl)), fun i hi => (h.l i hi).kept c (fun k hk => hn k (.inr ⟨i, hi, hk⟩)), h.d, h.nv⟩
theorem IsV.congr (h : IsV w vb hd X V m) (V' : Nat → Nat) (hV : ∀ i b, i < 64 → b ∈ X i → V' b = V b) : IsV w vb hd X V' m :=
  ⟨h.s, h.m, h.k, fun i hi => (h.l i hi).congr V' (fun b hb => hV i b hi hb), h.d, h.nv⟩
theorem IsV.mem (h : IsV w vb hd X V m) {i : Nat} (hi : i < 64) {b : Nat} (hb : b ∈ X i) : LvB vb hd X b := .inr ⟨i, hi, .inr hb⟩
/-- the map set, and nothing else -/
theorem IsV.setm (h : IsV w vb hd X V m) (m' : Nat) : IsV (w.setCell ⟨vb, 64, none⟩ (.int .u64 (m' : Nat))) vb hd X V m' := by
  have c : Ch (One vb) w (w.setCell ⟨vb, 64, none⟩ (.int .u64 (m' : Nat))) := (Ch.refl _ _).setB 64 _
  exact ⟨fun i hi => (cell_ne (by omega) _).trans (h.s i hi), World.cell?_setCell_same _ _ _ h.m, h.k.set _ _, fun i hi => (h.l i hi).kept c (fun k hk e => h.nv i hi (e ▸ hk)), h.d, h.nv⟩
/-- what a list's turning may touch: its own blocks, and blocks that are no block of the level -/
theorem IsV.turned (h : IsV w vb hd X V m) (hs : s < 64) {ys : List Nat} {P : Nat → Prop} (c : Ch (fun k => LB (hd s) (X s) k ∨ P k) w w') (hP : ∀ k, P k → ¬ LvB vb hd X k) (hl : IsL w' (hd s) ys V) (hy : ∀ b, b ∈ ys → b ∈ X s ∨ P b) :
    IsV w' vb hd (upd X s ys) V m := by
  have nvb : ¬ (LB (hd s) (X s) vb ∨ P vb) := by
    rintro (e | e)
    · exact h.nv s hs e
    · exact hP _ e (.inl rfl)
  have sub : ∀ k, LB (hd s) ys k → LB (hd s) (X s) k ∨ P k := by
    rintro k (rfl | hk)
    · exact .inl (.inl rfl)
    · rcases hy k hk with hk | hk
      · exact .inl (.inr hk)
      · exact .inr hk
  have apart : ∀ j, j < 64 → j ≠ s → ∀ k, LB (hd j) (X j) k → ¬ (LB (hd s) (X s) k ∨ P k) := by
    rintro j hj hne k hk (e | e)
    · exact h.d j s hj hs hne k hk e
    · exact hP k e (.inr ⟨j, hj, hk⟩)
  refine ⟨fun i hi => c.keeps (h.s i hi) nvb, c.keeps h.m nvb, h.k.kept c nvb, fun i hi => ?_, fun i j hi hj hne k hk hk' => ?_, fun i hi e => ?_⟩
  · by_cases e : i = s
    · subst e; rw [upd_same]; exact hl
    · rw [upd_other _ _ _ _ e]; exact (h.l i hi).kept c (apart i hi e)
  · by_cases ei : i = s
    · subst ei
      rw [upd_same] at hk
      rw [upd_other _ _ _ _ (fun e => hne e.symm)] at hk'
      exact apart j hj (fun e => hne e.symm) k hk' (sub k hk)
    · rw [upd_other _ _ _ _ ei] at hk
      by_cases ej : j = s
      · subst ej; rw [upd_same] at hk'; exact apart i hi ei k hk (sub k hk')
      · rw [upd_other _ _ _ _ ej] at hk'; exact h.d i j hi hj hne k hk hk'
  · by_cases ei : i = s
    · subst ei; rw [upd_same] at e; exact nvb (sub vb e)
    · rw [upd_other _ _ _ _ ei] at e; exact h.nv i hi e
theorem upd_self {α : Type} (f : Nat → α) (i : Nat) : upd f i (f i) = f := by
  funext j; by_cases e : j = i
  · subst e; rw [upd_same]
  · rw [upd_other _ _ _ _ e]
/-- the blocks of a level one of whose lists has turned -/
theorem LvB.upd {ys : List Nat} {P : Nat → Prop} (hs : s < 64) (hy : ∀ b, b ∈ ys → b ∈ X s ∨ P b) {k : Nat} (hk : LvB vb hd (upd X s ys) k) : LvB vb hd X k ∨ P k := by
  rcases hk with rfl | ⟨i, hi, hk⟩
  · exact .inl (.inl rfl)
  · by_cases e : i = s
    · subst e
      rw [upd_same] at hk
      rcases hk with rfl | hk
      · exact .inl (.inr ⟨i, hi, .inl rfl⟩)
      · rcases hy k hk with hk | hk
        · exact .inl (.inr ⟨i, hi, .inr hk⟩)
        · exact .inr hk
    · rw [upd_other _ _ _ _ e] at hk; exact .inl (.inr ⟨i, hi, hk⟩)
end
end Go.Proofs.YtkfknafgknppdaaDoor.LP
