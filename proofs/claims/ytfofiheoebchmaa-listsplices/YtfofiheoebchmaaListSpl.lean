/-
  Nodes that are pushed onto list after list and spliced: the rows that keep them and their values, an idle list beside them.
-/
import Derived.Test.YtfofiheoebchmaaListPush
namespace Go.Proofs.Ytfofiheoebchmaa
open Go.RowKit Verge LI
set_option linter.unusedVariables false

structure Core (w wr : World) (lb ob m : Nat) (nb : Nat → Nat) (V zz : Nat → Int) (an : Option Addr) (cn : Nat) (aw : Option Addr) (cw : Nat) : Prop where
  o : IsL wr ob [] V
  r : RowN wr an m cn nb
  g : RowI wr aw m cw zz
  v : ∀ i, i < m → V (nb i) = zz i
  inj : ∀ i j, i < m → j < m → nb i = nb j → i = j
  nl : ∀ i, i < m → nb i ≠ lb ∧ nb i ≠ ob
  lt : ∀ i, i < m → nb i < wr.heap.size
  ol : ob ≠ lb
  dr : ∀ g, OwnS an g → g ≠ lb ∧ g ≠ ob ∧ (∀ i, i < m → g ≠ nb i) ∧ ¬ OwnS aw g
  dw : ∀ g, OwnS aw g → g ≠ lb ∧ g ≠ ob ∧ ∀ i, i < m → g ≠ nb i
  hl : w.heap.size ≤ lb
  ho : w.heap.size ≤ ob
  hn : ∀ i, i < m → w.heap.size ≤ nb i
  hr : ∀ g, OwnS an g → w.heap.size ≤ g
  hw : ∀ g, OwnS aw g → w.heap.size ≤ g
  c : Ch Nil w wr
/-- the nodes from the q-th on -/
def part (nb : Nat → Nat) (q k : Nat) : List Nat := (List.range k).map fun j => nb (q + j)
theorem part_mem {nb : Nat → Nat} {q k j : Nat} : j ∈ part nb q k ↔ ∃ i, i < k ∧ nb (q + i) = j := by simp [part]
theorem part_len (nb : Nat → Nat) (q k : Nat) : (part nb q k).length = k := by simp [part]
theorem part_succ (nb : Nat → Nat) (q k b : Nat) : part nb q k ++ [b] = part (upd nb (q + k) b) q (k + 1) := by
  unfold part
  rw [List.range_succ, List.map_append, List.map_congr_left (g := fun j => upd nb (q + k) b (q + j)) (fun i hi => (upd_other _ _ _ _ (by have := List.mem_range.1 hi; omega)).symm)]
  simp [upd_same]
theorem firsts_part (nb : Nat → Nat) (q k : Nat) : firsts nb q ++ part nb q k = firsts nb (q + k) := by
  unfold firsts part
  rw [List.range_add, List.map_append, List.map_map]
  rfl
theorem firsts_old (nb : Nat → Nat) {q m b : Nat} (h : q ≤ m) : firsts (upd nb m b) q = firsts nb q := by
  unfold firsts
  exact List.map_congr_left fun i hi => upd_other _ _ _ _ (by have := List.mem_range.1 hi; omega)
section
variable {S : Nat → Prop} {w wr w5 w6 w7 : World} {lb ob m b g g' cn cw cn' cw' H6 H7 : Nat} {nb : Nat → Nat} {V zz U : Nat → Int} {an aw : Option Addr} {z : Int}
theorem Core.kept (h : Core w wr lb ob m nb V zz an cn aw cw) (c : Ch S wr w5) (h1 : ¬ S ob) (h2 : ∀ j, OwnS an j → ¬ S j) (h3 : ∀ j, OwnS aw j → ¬ S j) (h4 : ∀ j, S j → w.heap.size ≤ j) : Core w w5 lb ob m nb V zz an cn aw cw :=
  ⟨h.o.kept c (by rintro k (rfl | hk); exact h1; cases hk), h.r.kept c h2, h.g.kept c h3, h.v, h.inj, h.nl, fun i hi => Nat.lt_of_lt_of_le (h.lt i hi) c.size, h.ol, h.dr, h.dw, h.hl, h.ho, h.hn, h.hr, h.hw, h.c.up c h4⟩
theorem Core.nil (h : Core w wr lb ob m nb V zz an cn aw cw) (c : Ch Nil wr w5) : Core w w5 lb ob m nb V zz an cn aw cw := h.kept c (fun e => e) (fun _ _ e => e) (fun _ _ e => e) (fun _ e => e.elim)
/-- a node more, in whatever list: it stands in the row of nodes, its value in the row of values -/
theorem Core.more (h : Core w wr lb ob m nb V zz an cn aw cw) (hb : wr.heap.size ≤ b) (hb2 : b < w5.heap.size) (c5 : Ch S wr w5) (s1 : ¬ S ob) (s2 : ∀ j, OwnS an j → ¬ S j) (s3 : ∀ j, OwnS aw j → ¬ S j) (s4 : ∀ j, S j → w.heap.size ≤ j)
    (c6 : Ch (OwnS an) w5 w6) (row6 : RowN w6 (some ⟨g, 0, none⟩) (m + 1) cn' (upd nb m b)) (at6 : OwnS an g ∨ g = H6) (hH6 : w5.heap.size ≤ H6) (hg6 : g < w6.heap.size)
    (c7 : Ch (OwnS aw) w6 w7) (row7 : RowI w7 (some ⟨g', 0, none⟩) (m + 1) cw' (upd zz m z)) (at7 : OwnS aw g' ∨ g' = H7) (hH7 : w6.heap.size ≤ H7) (hlb : lb < wr.heap.size) :
    Core w w7 lb ob (m + 1) (upd nb m b) (upd V b z) (upd zz m z) (some ⟨g, 0, none⟩) cn' (some ⟨g', 0, none⟩) cw' := by
  have t5 := c5.size; have t6 := c6.size; have t7 := c7.size; have t0 := h.c.size
  have hob : ob < wr.heap.size := h.o.lt (.inl rfl)
  have rlow : ∀ j, OwnS an j → j < wr.heap.size := fun j hj => h.r.lt j hj
  have wlow : ∀ j, OwnS aw j → j < wr.heap.size := fun j hj => h.g.lt j hj
  have cs : ∀ i, i < m + 1 → (i = m ∧ upd nb m b i = b) ∨ (i < m ∧ upd nb m b i = nb i) := by
    intro i hi
    by_cases e : i = m
    · exact .inl ⟨e, by rw [e, upd_same]⟩
    · exact .inr ⟨by omega, upd_other _ _ _ _ e⟩
  have ne6 : g ≠ g' := by
    rintro rfl
    rcases at7 with h' | h'
    · rcases at6 with h'' | h''
      · exact (h.dr g h'').2.2.2 h'
      · have := wlow g h'; omega
    · omega
  have o5 := h.o.kept c5 (by rintro k (rfl | hk); exact s1; cases hk)
  have o6 := o5.kept c6 (by rintro k (rfl | hk) e; exact (h.dr _ e).2.1 rfl; cases hk)
  have o7 := o6.kept c7 (by rintro k (rfl | hk) e; exact (h.dw _ e).2.1 rfl; cases hk)
  refine ⟨o7.congr _ (fun x hx => by cases hx), row6.kept c7 (fun j hj e => ?_), row7, ?_, ?_, ?_, ?_, h.ol, ?_, ?_, h.hl, h.ho, ?_, ?_, ?_, ?_⟩
  · cases hj
    rcases at6 with h'' | h''
    · exact (h.dr g h'').2.2.2 e
    · have := wlow g e; omega
  · intro i hi
    rcases cs i hi with ⟨rfl, e⟩ | ⟨hi', e⟩
    · rw [e, upd_same, upd_same]
    · rw [e, upd_other _ _ _ _ (by have := h.lt i hi'; omega), upd_other _ _ _ _ (by omega)]; exact h.v i hi'
  · intro i j hi hj
    rcases cs i hi with ⟨h1, e⟩ | ⟨h1, e⟩ <;> rcases cs j hj with ⟨h2, e'⟩ | ⟨h2, e'⟩ <;> rw [e, e']
    · intros; omega
    · have := h.lt j h2; intros; omega
    · have := h.lt i h1; intros; omega
    · exact h.inj i j h1 h2
  · intro i hi
    rcases cs i hi with ⟨h1, e⟩ | ⟨h1, e⟩ <;> rw [e]
    · exact ⟨by omega, by omega⟩
    · exact h.nl i h1
  · intro i hi
    rcases cs i hi with ⟨h1, e⟩ | ⟨h1, e⟩ <;> rw [e]
    · omega
    · have := h.lt i h1; omega
  · intro j hj
    cases hj
    refine ⟨?_, ?_, fun i hi => ?_, fun e => by cases e; exact ne6 rfl⟩
    · rcases at6 with h' | h'
      · exact (h.dr _ h').1
      · simp only; omega
    · rcases at6 with h' | h'
      · exact (h.dr _ h').2.1
      · simp only; omega
    · rcases cs i hi with ⟨h1, e⟩ | ⟨h1, e⟩ <;> rw [e]
      · rcases at6 with h' | h'
        · have := rlow _ h'; simp only; omega
        · simp only; omega
      · rcases at6 with h' | h'
        · exact (h.dr _ h').2.2.1 i h1
        · have := h.lt i h1; simp only; omega
  · intro j hj
    cases hj
    refine ⟨?_, ?_, fun i hi => ?_⟩
    · rcases at7 with h' | h'
      · exact (h.dw _ h').1
      · simp only; omega
    · rcases at7 with h' | h'
      · exact (h.dw _ h').2.1
      · simp only; omega
    · rcases cs i hi with ⟨h1, e⟩ | ⟨h1, e⟩ <;> rw [e]
      · rcases at7 with h' | h'
        · have := wlow _ h'; simp only; omega
        · simp only; omega
      · rcases at7 with h' | h'
        · exact (h.dw _ h').2.2 i h1
        · have := h.lt i h1; simp only; omega
  · intro i hi
    rcases cs i hi with ⟨h1, e⟩ | ⟨h1, e⟩ <;> rw [e]
    · omega
    · exact h.hn i h1
  · intro j hj
    cases hj
    rcases at6 with h' | h'
    · exact h.hr _ h'
    · simp only; omega
  · intro j hj
    cases hj
    rcases at7 with h' | h'
    · exact h.hw _ h'
    · simp only; omega
  · exact ((h.c.up c5 s4).up c6 h.hr).up c7 h.hw
theorem Core.ints (h : Core w wr lb ob m nb V zz an cn aw cw) {w' : World} {r : Option Addr} {c : Nat} (hr : LI.RowE w' r (firsts nb m).length c (LI.valAt (firsts nb m) V)) : RowI w' r m c zz := by
  rw [firsts_len] at hr
  refine RowI.congr (RowE.ints hr) zz fun i hi => ?_
  rw [firsts_getD nb hi, h.v i hi]
/-- the list of the first q: its blocks -/
theorem Core.high (h : Core w wr lb ob m nb V zz an cn aw cw) {q : Nat} (hq : q ≤ m) : ∀ j, LB lb (firsts nb q) j → w.heap.size ≤ j := by
  rintro j (rfl | hj)
  · exact h.hl
  · obtain ⟨i, hi, rfl⟩ := firsts_mem.1 hj; exact h.hn i (by omega)
theorem Core.apR (h : Core w wr lb ob m nb V zz an cn aw cw) {q : Nat} (hq : q ≤ m) : ∀ j, OwnS an j → ¬ LB lb (firsts nb q) j := by
  rintro j hj (rfl | hm)
  · exact (h.dr _ hj).1 rfl
  · obtain ⟨i, hi, e⟩ := firsts_mem.1 hm; exact (h.dr _ hj).2.2.1 i (by omega) e.symm
theorem Core.apW (h : Core w wr lb ob m nb V zz an cn aw cw) {q : Nat} (hq : q ≤ m) : ∀ j, OwnS aw j → ¬ LB lb (firsts nb q) j := by
  rintro j hj (rfl | hm)
  · exact (h.dw _ hj).1 rfl
  · obtain ⟨i, hi, e⟩ := firsts_mem.1 hm; exact (h.dw _ hj).2.2 i (by omega) e.symm
theorem Core.apO (h : Core w wr lb ob m nb V zz an cn aw cw) {q : Nat} (hq : q ≤ m) : ¬ LB lb (firsts nb q) ob := by
  rintro (e | hm)
  · exact h.ol e
  · obtain ⟨i, hi, e⟩ := firsts_mem.1 hm; exact (h.nl i (by omega)).2 e
theorem core_new (h : IsL wr ob [] V) (hl : w.heap.size ≤ lb) (ho : w.heap.size ≤ ob) (hne : ob ≠ lb) (c : Ch Nil w wr) (nb : Nat → Nat) (zz : Nat → Int) : Core w wr lb ob 0 nb V zz none 0 none 0 :=
  ⟨h, Row.nil _ _ _ _, Row.nil _ _ _ _, fun i hi => by omega, fun i j hi => by omega, fun i hi => by omega, fun i hi => by omega, hne, fun g hg => (by cases hg), fun g hg => (by cases hg), hl, ho, fun i hi => by omega, fun g hg => (by cases hg), fun g hg => (by cases hg), c⟩
end

/-- a part under way: its list, apart from all others -/
structure Part (w wr : World) (lb ob pb q k : Nat) (nb : Nat → Nat) (V zz : Nat → Int) (an : Option Addr) (cn : Nat) (aw : Option Addr) (cw : Nat) : Prop where
  l : IsL wr lb (firsts nb q) V
  p : IsL wr pb (part nb q k) V
  c : Core w wr lb ob (q + k) nb V zz an cn aw cw
  pl : pb ≠ lb
  po : pb ≠ ob
  pn : ∀ i, i < q + k → pb ≠ nb i
  pr : ¬ OwnS an pb
  pw : ¬ OwnS aw pb
  hp : w.heap.size ≤ pb
section
variable {w wr w5 w6 w7 : World} {lb ob pb q k b g g' cn cw cn' cw' H6 H7 : Nat} {nb : Nat → Nat} {V zz : Nat → Int} {an aw : Option Addr} {z : Int}
theorem Part.apart (h : Part w wr lb ob pb q k nb V zz an cn aw cw) : ∀ j, LB lb (firsts nb q) j → ¬ LB pb (part nb q k) j := by
  rintro j (rfl | hj) (e | hm)
  · exact h.pl e.symm
  · obtain ⟨i, hi, e⟩ := part_mem.1 hm; exact (h.c.nl (q + i) (by omega)).1 e
  · obtain ⟨i, hi, e'⟩ := firsts_mem.1 hj; exact h.pn i (by omega) (e'.trans e).symm
  · obtain ⟨i, hi, e⟩ := firsts_mem.1 hj; obtain ⟨i', hi', e'⟩ := part_mem.1 hm
    have := h.c.inj i (q + i') (by omega) (by omega) (e.trans e'.symm); omega
theorem Part.apO (h : Part w wr lb ob pb q k nb V zz an cn aw cw) : ¬ LB pb (part nb q k) ob := by
  rintro (e | hm)
  · exact h.po e.symm
  · obtain ⟨i, hi, e⟩ := part_mem.1 hm; exact (h.c.nl (q + i) (by omega)).2 e
theorem Part.rN (h : Part w wr lb ob pb q k nb V zz an cn aw cw) : ∀ j, OwnS an j → ¬ LB pb (part nb q k) j := by
  rintro j hj (rfl | hm)
  · exact h.pr hj
  · obtain ⟨i, hi, e⟩ := part_mem.1 hm; exact (h.c.dr j hj).2.2.1 (q + i) (by omega) e.symm
theorem Part.rW (h : Part w wr lb ob pb q k nb V zz an cn aw cw) : ∀ j, OwnS aw j → ¬ LB pb (part nb q k) j := by
  rintro j hj (rfl | hm)
  · exact h.pw hj
  · obtain ⟨i, hi, e⟩ := part_mem.1 hm; exact (h.c.dw j hj).2.2 (q + i) (by omega) e.symm
theorem Part.high (h : Part w wr lb ob pb q k nb V zz an cn aw cw) : ∀ j, LB pb (part nb q k) j → w.heap.size ≤ j := by
  rintro j (rfl | hm)
  · exact h.hp
  · obtain ⟨i, hi, rfl⟩ := part_mem.1 hm; exact h.c.hn (q + i) (by omega)
theorem Part.more (h : Part w wr lb ob pb q k nb V zz an cn aw cw) (hb : wr.heap.size ≤ b) (h5 : IsL w5 pb (part nb q k ++ [b]) (upd V b z)) (c5 : Ch (LB pb (part nb q k)) wr w5)
    (c6 : Ch (OwnS an) w5 w6) (row6 : RowN w6 (some ⟨g, 0, none⟩) (q + k + 1) cn' (upd nb (q + k) b)) (at6 : OwnS an g ∨ g = H6) (hH6 : w5.heap.size ≤ H6) (hg6 : g < w6.heap.size)
    (c7 : Ch (OwnS aw) w6 w7) (row7 : RowI w7 (some ⟨g', 0, none⟩) (q + k + 1) cw' (upd zz (q + k) z)) (at7 : OwnS aw g' ∨ g' = H7) (hH7 : w6.heap.size ≤ H7) :
    Part w w7 lb ob pb q (k + 1) (upd nb (q + k) b) (upd V b z) (upd zz (q + k) z) (some ⟨g, 0, none⟩) cn' (some ⟨g', 0, none⟩) cw' := by
  have hlb : lb < wr.heap.size := h.l.lt (.inl rfl)
  have hpb : pb < wr.heap.size := h.p.lt (.inl rfl)
  have t5 := c5.size; have t6 := c6.size
  have low5 : ∀ j, LB pb (part nb q k ++ [b]) j → j < w5.heap.size := fun j hj => h5.lt hj
  have hb2 : b < w5.heap.size := low5 b (.inr (by simp))
  have rlow : ∀ j, OwnS an j → j < wr.heap.size := fun j hj => h.c.r.lt j hj
  have wlow : ∀ j, OwnS aw j → j < wr.heap.size := fun j hj => h.c.g.lt j hj
  have sub : ∀ j, LB pb (part nb q k ++ [b]) j → LB pb (part nb q k) j ∨ j = b := by
    rintro j (rfl | hj)
    · exact .inl (.inl rfl)
    · rcases List.mem_append.1 hj with hj | hj
      · exact .inl (.inr hj)
      · simp at hj; exact .inr hj
  have core := h.c.more hb hb2 c5 h.apO h.rN h.rW h.high c6 row6 at6 hH6 hg6 c7 row7 at7 hH7 hlb
  refine ⟨?_, ?_, core, h.pl, h.po, ?_, ?_, ?_, h.hp⟩
  · rw [firsts_old nb (by omega)]
    have l5 := h.l.kept c5 h.apart
    have l6 := l5.kept c6 (fun j hj e => h.c.apR (q := q) (by omega) j e hj)
    have l7 := l6.kept c7 (fun j hj e => h.c.apW (q := q) (by omega) j e hj)
    refine l7.congr _ fun x hx => upd_other _ _ _ _ ?_
    have := h.l.lt (.inr hx); omega
  · rw [← part_succ]
    refine (h5.kept c6 fun j hj e => ?_).kept c7 fun j hj e => ?_
    · rcases sub j hj with hj | rfl
      · exact h.rN j e hj
      · have := rlow _ e; omega
    · rcases sub j hj with hj | rfl
      · exact h.rW j e hj
      · have := wlow _ e; omega
  · intro i hi
    by_cases e : i = q + k
    · rw [e, upd_same]; omega
    · rw [upd_other _ _ _ _ e]; exact h.pn i (by omega)
  · intro e
    have e' : g = pb := by simpa [OwnS] using e
    rcases at6 with h' | h'
    · exact h.pr (e' ▸ h')
    · omega
  · intro e
    have e' : g' = pb := by simpa [OwnS] using e
    rcases at7 with h' | h'
    · exact h.pw (e' ▸ h')
    · omega
theorem part_new (hl : IsL wr lb (firsts nb q) V) (hc : Core w wr lb ob q nb V zz an cn aw cw) (hp : IsL w5 pb [] V) (hb : wr.heap.size ≤ pb) (c : Ch Nil wr w5) : Part w w5 lb ob pb q 0 nb V zz an cn aw cw := by
  have t := hc.c.size
  have h1 : lb < wr.heap.size := hl.lt (.inl rfl)
  have h2 : ob < wr.heap.size := hc.o.lt (.inl rfl)
  exact ⟨hl.kept c (fun _ _ e => e), hp, hc.nil c, by omega, by omega, fun i hi => by have := hc.lt i (by omega); omega, fun e => by have := hc.r.lt _ e; omega, fun e => by have := hc.g.lt _ e; omega, by omega⟩
end
end Go.Proofs.Ytfofiheoebchmaa
