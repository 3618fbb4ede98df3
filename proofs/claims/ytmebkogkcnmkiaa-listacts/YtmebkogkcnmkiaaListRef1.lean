/-
  The document's answer in memory: of each list the numbers of its nodes, of each node its value; a list set anew, a value more.
-/
import Derived.Test.YtmebkogkcnmkiaaListInts
import Derived.Test.YtmebkogkcnmkiaaListMem
import Derived.Test.YtmebkogkcnmkiaaRingPlain
namespace Go.Proofs.Ytmebkogkcnmkiaa
open Go.RowKit Verge
set_option linter.unusedVariables false

/-- numbers of nodes, as a row holds them -/
abbrev numR (xs : List Nat) : Nat → Int := fun j => ((xs.getD j 0 : Nat) : Int)
structure RefL (w : World) (R : Nat → Prop) (wb q : Nat) (Val : Nat → Int) (L : Nat → List Nat) (ra : Nat → Option Addr) (rc : Nat → Nat) (va : Option Addr) (vc : Nat) : Prop where
  c : ∀ k, k < 3 → w.cell? ⟨wb, k, none⟩ = some (.slice (ra k) (L k).length (rc k))
  cv : w.cell? ⟨wb, 3, none⟩ = some (.slice va q vc)
  b : Blk w wb
  r : ∀ k, k < 3 → RowI w (ra k) (L k).length (rc k) (numR (L k))
  rv : RowI w va q vc Val
  nil : ∀ k, k < 3 → L k = [] → ra k = none ∧ rc k = 0
  xl : ∀ k, k < 3 → ∀ i, i ∈ L k → i < q
  mb : R wb
  mr : ∀ k, k < 3 → ∀ j, OwnS (ra k) j → R j
  mv : ∀ j, OwnS va j → R j
  nb : ∀ k, k < 3 → ¬ OwnS (ra k) wb
  nv : ¬ OwnS va wb
  rr : ∀ k k' j, k < 3 → k' < 3 → OwnS (ra k) j → OwnS (ra k') j → k = k'
  rrv : ∀ k j, k < 3 → OwnS (ra k) j → ¬ OwnS va j
  lt : ∀ j, R j → j < w.heap.size
section
variable {S : Nat → Prop} {w w1 w' : World} {R : Nat → Prop} {wb q k vc c' : Nat} {Val : Nat → Int} {L : Nat → List Nat} {ra : Nat → Option Addr} {rc : Nat → Nat} {va a : Option Addr} {xs : List Nat}
theorem RefL.kept (h : RefL w R wb q Val L ra rc va vc) (c : Ch S w w') (ha : ∀ j, R j → ¬ S j) : RefL w' R wb q Val L ra rc va vc :=
  ⟨fun k hk => c.keeps (h.c k hk) (ha _ h.mb), c.keeps h.cv (ha _ h.mb), h.b.kept c (ha _ h.mb), fun k hk => (h.r k hk).kept c (fun j hj => ha j (h.mr k hk j hj)), h.rv.kept c (fun j hj => ha j (h.mv j hj)), h.nil, h.xl, h.mb, h.mr, h.mv, h.nb, h.nv, h.rr, h.rrv, fun j hj => Nat.lt_of_lt_of_le (h.lt j hj) c.size⟩
/-- list k set anew -/
theorem RefL.setL (h : RefL w R wb q Val L ra rc va vc) (hk : k < 3) (c : Ch (OwnS (ra k)) w w1) (row : RowI w1 a xs.length c' (numR xs)) (ha : ∀ j, OwnS a j → OwnS (ra k) j ∨ w.heap.size ≤ j) (hn : xs = [] → a = none ∧ c' = 0) (hx : ∀ i, i ∈ xs → i < q) :
    RefL (w1.setCell ⟨wb, k, none⟩ (.slice a xs.length c')) (fun j => R j ∨ OwnS a j) wb q Val (upd L k xs) (upd ra k a) (upd rc k c') va vc ∧ Ch R w (w1.setCell ⟨wb, k, none⟩ (.slice a xs.length c')) := by
  have c2 : Ch (One wb) w1 (w1.setCell ⟨wb, k, none⟩ (.slice a xs.length c')) := (Ch.refl _ _).setB k _
  have hlt := h.lt
  have s1 := c.size
  have wbk := h.nb k hk
  have hwb : ¬ OwnS a wb := fun e => by
    rcases ha wb e with e' | e'
    · exact wbk e'
    · have := hlt wb h.mb; omega
  have old : ∀ k', k' < 3 → k' ≠ k → ∀ j, OwnS (ra k') j → ¬ OwnS a j := by
    intro k' hk' hne j hj e
    rcases ha j e with e' | e'
    · exact hne (h.rr k' k j hk' hk hj e')
    · have := hlt j (h.mr k' hk' j hj); omega
  have oldv : ∀ j, OwnS va j → ¬ OwnS a j := by
    intro j hj e
    rcases ha j e with e' | e'
    · exact h.rrv k j hk e' hj
    · have := hlt j (h.mv j hj); omega
  refine ⟨⟨fun k' hk' => ?_, ?_, (h.b.kept c wbk).set _ _, fun k' hk' => ?_, ?_, fun k' hk' e => ?_, fun k' hk' i hi => ?_, .inl h.mb, fun k' hk' j hj => ?_, fun j hj => .inl (h.mv j hj), fun k' hk' => ?_, h.nv, fun k1 k2 j h1 h2 => ?_, fun k' j hk' hj => ?_, fun j hj => ?_⟩, ?_⟩
  · by_cases e : k' = k
    · subst e; rw [upd_same, upd_same, upd_same]; exact World.cell?_setCell_same _ _ _ (c.keeps (h.c k' hk') wbk)
    · rw [upd_other _ _ _ _ e, upd_other _ _ _ _ e, upd_other _ _ _ _ e, cell_ne (fun e' => e e'.symm)]; exact c.keeps (h.c k' hk') wbk
  · rw [cell_ne (by omega)]; exact c.keeps h.cv wbk
  · by_cases e : k' = k
    · subst e; rw [upd_same, upd_same, upd_same]; exact row.kept c2 (fun j hj e => hwb (e ▸ hj))
    · rw [upd_other _ _ _ _ e, upd_other _ _ _ _ e, upd_other _ _ _ _ e]
      exact ((h.r k' hk').kept c (fun j hj e' => e (h.rr k' k j hk' hk hj e'))).kept c2 (fun j hj e' => h.nb k' hk' (e' ▸ hj))
  · exact (h.rv.kept c (fun j hj e' => h.rrv k j hk e' hj)).kept c2 (fun j hj e' => h.nv (e' ▸ hj))
  · by_cases e' : k' = k
    · subst e'; rw [upd_same] at e; rw [upd_same, upd_same]; exact hn e
    · rw [upd_other _ _ _ _ e'] at e; rw [upd_other _ _ _ _ e', upd_other _ _ _ _ e']; exact h.nil k' hk' e
  · by_cases e' : k' = k
    · subst e'; rw [upd_same] at hi; exact hx i hi
    · rw [upd_other _ _ _ _ e'] at hi; exact h.xl k' hk' i hi
  · by_cases e' : k' = k
    · subst e'; rw [upd_same] at hj; exact .inr hj
    · rw [upd_other _ _ _ _ e'] at hj; exact .inl (h.mr k' hk' j hj)
  · by_cases e' : k' = k
    · subst e'; rw [upd_same]; exact hwb
    · rw [upd_other _ _ _ _ e']; exact h.nb k' hk'
  · by_cases e1 : k1 = k
    · by_cases e2 : k2 = k
      · intros; omega
      · rw [e1, upd_same, upd_other _ _ _ _ e2]; intro hj1 hj2; exact absurd hj1 (old k2 h2 e2 j hj2)
    · by_cases e2 : k2 = k
      · rw [e2, upd_same, upd_other _ _ _ _ e1]; intro hj1 hj2; exact absurd hj2 (old k1 h1 e1 j hj1)
      · rw [upd_other _ _ _ _ e1, upd_other _ _ _ _ e2]; exact h.rr k1 k2 j h1 h2
  · by_cases e' : k' = k
    · subst e'; rw [upd_same] at hj; intro e; exact oldv j e hj
    · rw [upd_other _ _ _ _ e'] at hj; exact h.rrv k' j hk' hj
  · refine Nat.lt_of_lt_of_le ?_ c2.size
    rcases hj with hj | hj
    · have := hlt j hj; omega
    · exact row.lt j hj
  · exact (c.mono fun j _ hj => h.mr k hk j hj).then c2 fun j _ e => e ▸ h.mb
/-- a node more, its value last -/
theorem RefL.setV (h : RefL w R wb q Val L ra rc va vc) (v : Int) (c : Ch (OwnS va) w w1) (row : RowI w1 a (q + 1) c' (upd Val q v)) (ha : ∀ j, OwnS a j → OwnS va j ∨ w.heap.size ≤ j) :
    RefL (w1.setCell ⟨wb, 3, none⟩ (.slice a (q + 1) c')) (fun j => R j ∨ OwnS a j) wb (q + 1) (upd Val q v) L ra rc a c' ∧ Ch R w (w1.setCell ⟨wb, 3, none⟩ (.slice a (q + 1) c')) := by
  have c2 : Ch (One wb) w1 (w1.setCell ⟨wb, 3, none⟩ (.slice a (q + 1) c')) := (Ch.refl _ _).setB 3 _
  have hlt := h.lt
  have s1 := c.size
  have hwb : ¬ OwnS a wb := fun e => by
    rcases ha wb e with e' | e'
    · exact h.nv e'
    · have := hlt wb h.mb; omega
  have old : ∀ k', k' < 3 → ∀ j, OwnS (ra k') j → ¬ OwnS a j := by
    intro k' hk' j hj e
    rcases ha j e with e' | e'
    · exact h.rrv k' j hk' hj e'
    · have := hlt j (h.mr k' hk' j hj); omega
  refine ⟨⟨fun k' hk' => ?_, ?_, (h.b.kept c h.nv).set _ _, fun k' hk' => ?_, ?_, h.nil, fun k' hk' i hi => ?_, .inl h.mb, fun k' hk' j hj => .inl (h.mr k' hk' j hj), fun j hj => .inr hj, h.nb, hwb, h.rr, fun k' j hk' hj => old k' hk' j hj, fun j hj => ?_⟩, ?_⟩
  · rw [cell_ne (by omega)]; exact c.keeps (h.c k' hk') h.nv
  · exact World.cell?_setCell_same _ _ _ (c.keeps h.cv h.nv)
  · exact ((h.r k' hk').kept c (fun j hj e' => h.rrv k' j hk' hj e')).kept c2 (fun j hj e' => h.nb k' hk' (e' ▸ hj))
  · exact row.kept c2 (fun j hj e => hwb (e ▸ hj))
  · have := h.xl k' hk' i hi; omega
  · refine Nat.lt_of_lt_of_le ?_ c2.size
    rcases hj with hj | hj
    · have := hlt j hj; omega
    · exact row.lt j hj
  · exact (c.mono fun j _ hj => h.mv j hj).then c2 fun j _ e => e ▸ h.mb
end

/-- in which list a node is; below 0: in none -/
def ofL (L : Nat → List Nat) (n : Nat) : Int := if n ∈ L 0 then 0 else if n ∈ L 1 then 1 else if n ∈ L 2 then 2 else -1
theorem ofL_at {L : Nat → List Nat} {n i : Nat} (hi : i < 3) (h : n ∈ L i) (hb : ∀ k, k < i → n ∉ L k) : ofL L n = i := by
  unfold ofL
  match i, hi with
  | 0, _ => rw [if_pos h]; rfl
  | 1, _ => rw [if_neg (hb 0 (by omega)), if_pos h]; rfl
  | 2, _ => rw [if_neg (hb 0 (by omega)), if_neg (hb 1 (by omega)), if_pos h]; rfl
theorem ofL_none {L : Nat → List Nat} {n : Nat} (h : ∀ k, k < 3 → n ∉ L k) : ofL L n = -1 := by
  unfold ofL; rw [if_neg (h 0 (by omega)), if_neg (h 1 (by omega)), if_neg (h 2 (by omega))]
end Go.Proofs.Ytmebkogkcnmkiaa
