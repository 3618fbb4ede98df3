/-
  A list, all nodes that were made for it (those that are in it, in order; the rest in none), the row that keeps them, and a map beside them: what each call makes of them.
-/
import Derived.Test.YtfofiheoebchmaaListPush
import Derived.Test.YtfofiheoebchmaaListPlain
import Derived.Test.YtfofiheoebchmaaRingMap
namespace Go.Proofs.Ytfofiheoebchmaa
open Go.RowKit Verge LI
set_option linter.unusedVariables false

structure Fam (w wr : World) (lb len : Nat) (xs : List Nat) (nb : Nat → Nat) (V zs : Nat → Int) (a : Option Addr) (cap mb cnt : Nat) (F : Nat → Bool) : Prop where
  l : IsL wr lb (xs.map nb) V
  fr : ∀ i, i < len → i ∉ xs → IsN wr (nb i) (V (nb i)) none none none
  xl : ∀ i, i ∈ xs → i < len
  r : RowN wr a len cap nb
  v : ∀ i, i < len → V (nb i) = zs i
  inj : ∀ i j, i < len → j < len → nb i = nb j → i = j
  m : MapB wr mb cnt F
  nl : ∀ i, i < len → nb i ≠ lb
  ap : ∀ g, OwnS a g → g ≠ lb ∧ g ≠ mb ∧ ∀ i, i < len → g ≠ nb i
  ml : mb ≠ lb
  mn : ∀ i, i < len → mb ≠ nb i
  hl : w.heap.size ≤ lb
  hn : ∀ i, i < len → w.heap.size ≤ nb i
  hr : ∀ g, OwnS a g → w.heap.size ≤ g
  hm : w.heap.size ≤ mb
  c : Ch Nil w wr
/-- the blocks of the list and of all nodes -/
def NB (lb len : Nat) (nb : Nat → Nat) : Nat → Prop := fun k => k = lb ∨ ∃ i, i < len ∧ k = nb i
section
variable {S : Nat → Prop} {w wr w5 : World} {lb len k cap mb cnt cnt' : Nat} {xs : List Nat} {nb : Nat → Nat} {V zs : Nat → Int} {a : Option Addr} {F F' : Nat → Bool}
theorem Fam.sub (h : Fam w wr lb len xs nb V zs a cap mb cnt F) {j : Nat} (hj : LB lb (xs.map nb) j) : NB lb len nb j := by
  rcases hj with rfl | hj
  · exact .inl rfl
  · obtain ⟨i, hi, rfl⟩ := List.mem_map.1 hj; exact .inr ⟨i, h.xl i hi, rfl⟩
theorem Fam.high (h : Fam w wr lb len xs nb V zs a cap mb cnt F) {j : Nat} (hj : NB lb len nb j) : w.heap.size ≤ j := by
  rcases hj with rfl | ⟨i, hi, rfl⟩
  · exact h.hl
  · exact h.hn i hi
theorem Fam.rowN (h : Fam w wr lb len xs nb V zs a cap mb cnt F) {j : Nat} (hj : OwnS a j) : ¬ NB lb len nb j := by
  rintro (rfl | ⟨i, hi, rfl⟩)
  · exact (h.ap _ hj).1 rfl
  · exact (h.ap _ hj).2.2 i hi rfl
theorem Fam.mapN (h : Fam w wr lb len xs nb V zs a cap mb cnt F) : ¬ NB lb len nb mb := by
  rintro (e | ⟨i, hi, e⟩)
  · exact h.ml e
  · exact h.mn i hi e
theorem Fam.blk (h : Fam w wr lb len xs nb V zs a cap mb cnt F) {i : Nat} (hi : i < len) : Blk wr (nb i) := by
  by_cases hx : i ∈ xs
  · exact h.l.blk (.inr (List.mem_map.2 ⟨i, hx, rfl⟩))
  · exact (h.fr i hi hx).k
theorem Fam.lt (h : Fam w wr lb len xs nb V zs a cap mb cnt F) {j : Nat} (hj : NB lb len nb j) : j < wr.heap.size := by
  rcases hj with rfl | ⟨i, hi, rfl⟩
  · exact h.l.lt (.inl rfl)
  · exact (h.blk hi).lt
theorem Fam.mem (h : Fam w wr lb len xs nb V zs a cap mb cnt F) {i : Nat} (hi : i < len) (hm : nb i ∈ xs.map nb) : i ∈ xs := by
  obtain ⟨j, hj, e⟩ := List.mem_map.1 hm
  rw [← h.inj j i (h.xl j hj) hi e]; exact hj
/-- what turns nothing of the family's -/
theorem Fam.kept (h : Fam w wr lb len xs nb V zs a cap mb cnt F) (c : Ch S wr w5) (h1 : ∀ j, NB lb len nb j → ¬ S j) (h2 : ∀ j, OwnS a j → ¬ S j) (h3 : ¬ S mb) (h4 : ∀ j, S j → w.heap.size ≤ j) : Fam w w5 lb len xs nb V zs a cap mb cnt F :=
  ⟨h.l.kept c (fun j hj => h1 j (h.sub hj)), fun i hi hx => (h.fr i hi hx).kept c (h1 _ (.inr ⟨i, hi, rfl⟩)), h.xl, h.r.kept c h2, h.v, h.inj, h.m.kept c h3, h.nl, h.ap, h.ml, h.mn, h.hl, h.hn, h.hr, h.hm, h.c.up c h4⟩
theorem Fam.nil (h : Fam w wr lb len xs nb V zs a cap mb cnt F) (c : Ch Nil wr w5) : Fam w w5 lb len xs nb V zs a cap mb cnt F :=
  h.kept c (fun _ _ e => e) (fun _ _ e => e) (fun e => e) (fun _ e => e.elim)
/-- the list has turned: its new nodes, and those that are free -/
theorem Fam.turn (h : Fam w wr lb len xs nb V zs a cap mb cnt F) {ys : List Nat} (hl : IsL w5 lb (ys.map nb) V) (c : Ch (NB lb len nb) wr w5) (hy : ∀ i, i ∈ ys → i < len) (hf : ∀ i, i < len → i ∉ ys → IsN w5 (nb i) (V (nb i)) none none none) : Fam w w5 lb len ys nb V zs a cap mb cnt F :=
  ⟨hl, hf, hy, h.r.kept c (fun j hj => h.rowN hj), h.v, h.inj, h.m.kept c h.mapN, h.nl, h.ap, h.ml, h.mn, h.hl, h.hn, h.hr, h.hm, h.c.up c (fun j hj => h.high hj)⟩
theorem Fam.mapped (h : Fam w wr lb len xs nb V zs a cap mb cnt F) (m : MapB w5 mb cnt' F') (c : Ch (One mb) wr w5) : Fam w w5 lb len xs nb V zs a cap mb cnt' F' :=
  ⟨h.l.kept c (fun j hj e => h.mapN (e ▸ h.sub hj)), fun i hi hx => (h.fr i hi hx).kept c (fun e => h.mn i hi e.symm), h.xl, h.r.kept c (fun j hj e => (h.ap j hj).2.1 e), h.v, h.inj, m, h.nl, h.ap, h.ml, h.mn, h.hl, h.hn, h.hr, h.hm, h.c.up c (fun j e => e ▸ h.hm)⟩

theorem mem_erase {xs : List Nat} {i j k : Nat} (hi : xs[i]? = some k) (hj : j ∈ xs) (hne : j ≠ k) : j ∈ xs.eraseIdx i := by
  obtain ⟨m, hm⟩ := List.mem_iff_getElem?.1 hj
  by_cases h : m < i
  · exact List.mem_of_getElem? (i := m) (by rw [getElem?_erase, if_pos h]; exact hm)
  · have : m ≠ i := by rintro rfl; rw [hm] at hi; cases hi; exact hne rfl
    exact List.mem_of_getElem? (i := m - 1) (by rw [getElem?_erase, if_neg (by omega)]; rw [show m - 1 + 1 = m by omega]; exact hm)

theorem Fam.unlink (h : Fam w wr lb len xs nb V zs a cap mb cnt F) {i k : Nat} (hi : xs[i]? = some k) (hs : xs.length ≤ 1000000) :
    Calls Try.prog 13 #[.pointer (some ⟨lb, 0, none⟩), .pointer (some ⟨nb k, 0, none⟩)] wr fun e w' => e = .returned (.int .i64 0) ∧ Fam w w' lb len (xs.eraseIdx i) nb V zs a cap mb cnt F ∧ Ch (NB lb len nb) wr w' := by
  have hk := List.mem_of_getElem? hi
  refine (h.l.unlink (i := i) (b := nb k) (by rw [List.getElem?_map, hi]; rfl) (by rw [List.length_map]; exact hs)).mono ?_
  rintro e w' ⟨he, h1, h2, h3⟩
  have c : Ch (NB lb len nb) wr w' := h3.mono fun j _ hj => h.sub hj
  refine ⟨he, h.turn (by rw [← eraseIdx_map]; exact h1) c (fun j hj => h.xl j (List.mem_of_mem_eraseIdx hj)) (fun j hj hx => ?_), c⟩
  by_cases e : j = k
  · subst e; exact h2
  · have hx' : j ∉ xs := fun hm => hx (mem_erase hi hm e)
    refine (h.fr j hj hx').kept h3 ?_
    rintro (e' | hm)
    · exact h.nl j hj e'
    · exact hx' (h.mem hj hm)
theorem Fam.unlink_no (h : Fam w wr lb len xs nb V zs a cap mb cnt F) {k : Nat} (hk : k < len) (hx : k ∉ xs) :
    Calls Try.prog 13 #[.pointer (some ⟨lb, 0, none⟩), .pointer (some ⟨nb k, 0, none⟩)] wr fun e w' => e = .returned (.int .i64 6) ∧ wr = w' :=
  LI.unlink_none lb (nb k) none _ (h.fr k hk hx).l h.l.h.k (fun x e => by cases e) (by simp)
theorem Fam.put (h : Fam w wr lb len xs nb V zs a cap mb cnt F) {k : Nat} (hk : k < len) (hx : k ∉ xs) (hs : xs.length ≤ 1000000) :
    Calls Try.prog 11 #[.pointer (some ⟨lb, 0, none⟩), .pointer (some ⟨nb k, 0, none⟩)] wr fun e w' => e = .returned (.int .i64 0) ∧ Fam w w' lb len (xs ++ [k]) nb V zs a cap mb cnt F ∧ Ch (NB lb len nb) wr w' := by
  refine (h.l.put (h.fr k hk hx) (fun hm => hx (h.mem hk hm)) (h.nl k hk) (by rw [List.length_map]; exact hs)).mono ?_
  rintro e w' ⟨he, h1, h3⟩
  have c : Ch (NB lb len nb) wr w' := h3.mono fun j _ hj => by
    rcases hj with hj | rfl
    · exact h.sub hj
    · exact .inr ⟨k, hk, rfl⟩
  refine ⟨he, h.turn (by rw [List.map_append]; exact h1) c (fun j hj => ?_) (fun j hj hx' => ?_), c⟩
  · rcases List.mem_append.1 hj with hj | hj
    · exact h.xl j hj
    · simp at hj; subst hj; exact hk
  · simp only [List.mem_append, List.mem_singleton, not_or] at hx'
    refine (h.fr j hj hx'.1).kept h3 ?_
    rintro ((e' | hm) | e')
    · exact h.nl j hj e'
    · exact hx'.1 (h.mem hj hm)
    · exact hx'.2 (h.inj j k hj hk e')
theorem Fam.ints (h : Fam w wr lb len xs nb V zs a cap mb cnt F) {w' : World} {r : Option Addr} {c : Nat} (hr : LI.RowE w' r (xs.map nb).length c (LI.valAt (xs.map nb) V)) : RowI w' r xs.length c (fun j => zs (xs.getD j 0)) := by
  rw [List.length_map] at hr
  refine RowI.congr (RowE.ints hr) _ fun i hi => ?_
  have e : xs[i]? = some (xs.getD i 0) := by rw [List.getD_eq_getElem?_getD, List.getElem?_eq_getElem hi]; rfl
  have e2 : (xs.map nb).getD i 0 = nb (xs.getD i 0) := by rw [List.getD_eq_getElem?_getD, List.getElem?_map, e]; rfl
  rw [e2, h.v _ (h.xl _ (List.mem_of_getElem? e))]
theorem Fam.all (h : Fam w wr lb len xs nb V zs a cap mb cnt F) (hs : xs.length ≤ 100000) :
    Calls Try.prog 22 #[.pointer (some ⟨lb, 0, none⟩)] wr fun e w' => ∃ r c, e = .returned (.slice r xs.length c) ∧ RowI w' r xs.length c (fun j => zs (xs.getD j 0)) ∧ (∀ g, OwnS r g → wr.heap.size ≤ g) ∧ Fam w w' lb len xs nb V zs a cap mb cnt F ∧ Ch Nil wr w' := by
  refine (h.l.all (by rw [List.length_map]; exact hs)).mono ?_
  rintro e w' ⟨r, c, he, hr, ho, hc⟩
  rw [List.length_map] at he
  exact ⟨r, c, he, h.ints hr, ho, h.nil hc, hc⟩
theorem Fam.drain (h : Fam w wr lb len xs nb V zs a cap mb cnt F) (hs : xs.length ≤ 100000) :
    Calls Try.prog 17 #[.pointer (some ⟨lb, 0, none⟩)] wr fun e w' => ∃ r c, e = .returned (.slice r xs.length c) ∧ RowI w' r xs.length c (fun j => zs (xs.getD j 0)) ∧ (∀ g, OwnS r g → wr.heap.size ≤ g) ∧ Fam w w' lb len [] nb V zs a cap mb cnt F ∧ Ch (NB lb len nb) wr w' := by
  refine (h.l.drain (by rw [List.length_map]; exact hs)).mono ?_
  rintro e w' ⟨r, c, he, hr, ho, hl, hf, hc⟩
  rw [List.length_map] at he
  have ch : Ch (NB lb len nb) wr w' := hc.mono fun j _ hj => h.sub hj
  refine ⟨r, c, he, h.ints hr, ho, h.turn hl ch (fun i hi => by cases hi) (fun j hj _ => ?_), ch⟩
  by_cases hx : j ∈ xs
  · exact hf _ (List.mem_map.2 ⟨j, hx, rfl⟩)
  · refine (h.fr j hj hx).kept hc ?_
    rintro (e' | hm)
    · exact h.nl j hj e'
    · exact hx (h.mem hj hm)
/-- all that was pushed, and a map beside it -/
theorem Pushed.fam (h : Pushed w wr lb len nb V zs a cap) (hm : MapB wr mb cnt F) (h1 : w.heap.size ≤ mb) (h2 : ¬ LB lb (firsts nb len) mb) (h3 : ¬ OwnS a mb) : Fam w wr lb len (List.range len) nb V zs a cap mb cnt F := by
  have inb : ∀ i, i < len → nb i ∈ firsts nb len := fun i hi => firsts_mem.2 ⟨i, hi, rfl⟩
  refine ⟨h.l, fun i hi hx => absurd (List.mem_range.2 hi) hx, fun i hi => List.mem_range.1 hi, h.r, h.v, fun i j hi hj e => h.inj hi hj e, hm, fun i hi e => h.l.nl (e ▸ inb i hi), fun g hg => ⟨fun e => h.ap g hg (.inl e), fun e => h3 (e ▸ hg), fun i hi e => h.ap g hg (.inr (e ▸ inb i hi))⟩, fun e => h2 (.inl e), fun i hi e => h2 (.inr (e ▸ inb i hi)), h.hl, h.hn, h.hr, h1, h.c⟩
end
end Go.Proofs.Ytfofiheoebchmaa
