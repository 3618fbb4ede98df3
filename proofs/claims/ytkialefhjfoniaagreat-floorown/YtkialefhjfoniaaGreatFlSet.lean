/-
  Cells stored one behind the other in a block.
-/
import Derived.Test.YtkialefhjfoniaaGreatRingMem
import Derived.Test.YtkialefhjfoniaaGreatListMem
namespace Go.Proofs.YtkialefhjfoniaaGreat
open Go.RowKit
set_option linter.unusedVariables false
/-- values stored from a place on -/
def setVs (w : World) (b : Nat) : Nat → List Value → World
  | _, [] => w
  | o, v :: vs => setVs (w.setCell ⟨b, o, none⟩ v) b (o + 1) vs
theorem setVs_tch (b : Nat) (vs : List Value) : ∀ (w : World) (o : Nat), Tch b o vs.length w (setVs w b o vs) := by
  induction vs with
  | nil => exact fun w o => Tch.refl _ _ _ _
  | cons v vs ih => exact fun w o => (((Tch.refl b o 1 w).set o (by omega) v).wide (by omega) (by simp only [List.length_cons]; omega)).trans ((ih _ _).wide (by omega) (by simp only [List.length_cons]; omega))
theorem setVs_get (b : Nat) (vs : List Value) : ∀ (w : World) (o : Nat), (∀ j, j < vs.length → ∃ x, w.cell? ⟨b, o + j, none⟩ = some x) → ∀ j v, vs[j]? = some v → (setVs w b o vs).cell? ⟨b, o + j, none⟩ = some v := by
  induction vs with
  | nil => intro w o h j v hj; simp at hj
  | cons u vs ih =>
    intro w o h j v hj
    have h' : ∀ i, i < vs.length → ∃ x, (w.setCell ⟨b, o, none⟩ u).cell? ⟨b, o + 1 + i, none⟩ = some x := fun i hi => by
      rw [cell_ne (by omega), show o + 1 + i = o + (i + 1) by omega]
      exact h (i + 1) (by simp; omega)
    cases j with
    | zero =>
      simp at hj
      subst hj
      obtain ⟨x, hx⟩ := h 0 (by simp)
      have := (setVs_tch b vs (w.setCell ⟨b, o, none⟩ u) (o + 1)).cell o (by omega)
      exact this.trans (World.cell?_setCell_same _ _ _ hx)
    | succ j =>
      have := ih (w.setCell ⟨b, o, none⟩ u) (o + 1) h' j v (by simpa using hj)
      rwa [show o + 1 + j = o + (j + 1) by omega] at this
/-- cells that lie in a block from place 0 on, none frozen -/
structure IsVs (w : World) (b : Nat) (vs : List Value) : Prop where
  c : ∀ j v, vs[j]? = some v → w.cell? ⟨b, j, none⟩ = some v
  b : Blk w b
section
variable {S : Nat → Prop} {w w' : World} {b : Nat} {vs us : List Value}
theorem IsVs.lt (h : IsVs w b vs) : b < w.heap.size := h.b.lt
theorem IsVs.kept (h : IsVs w b vs) (c : Ch S w w') (hn : ¬ S b) : IsVs w' b vs := ⟨fun j v hj => c.keeps (h.c j v hj) hn, h.b.kept c hn⟩
theorem IsVs.new (w : World) (vs : List Value) (T : TypeId) : IsVs (w.alloc (.cells vs.toArray T)) w.heap.size vs :=
  ⟨fun j v hj => by rw [cell_fresh]; simpa using hj, Blk.new _ _ _⟩
theorem Blk.setVs (vs : List Value) : ∀ (w : World) (o : Nat), Blk w b → Blk (setVs w b o vs) b := by
  induction vs with
  | nil => exact fun w o h => h
  | cons v vs ih => exact fun w o h => ih _ _ (h.set _ _)
theorem IsVs.set (h : IsVs w b us) (hl : us.length = vs.length) : IsVs (setVs w b 0 vs) b vs :=
  ⟨fun j v hj => by
    have := setVs_get b vs w 0 (fun j hj => ⟨us[j]'(by omega), by rw [Nat.zero_add]; exact h.c j _ (List.getElem?_eq_getElem (by omega))⟩) j v hj
    rwa [Nat.zero_add] at this, Blk.setVs vs w 0 h.b⟩
theorem setVs_nil (b : Nat) (vs : List Value) (h : Ch Nil w w') (hb : w.heap.size ≤ b) : Ch Nil w (setVs w' b 0 vs) :=
  h.then (setVs_tch b vs w' 0).ch (fun i hi e => by have e' : i = b := e; omega)
end
end Go.Proofs.YtkialefhjfoniaaGreat
