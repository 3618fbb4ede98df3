/-
  A level and a row of nodes, each in one of the level's slots or in no list: what each call makes of them.
-/
import Derived.Test.YtgaakhiapgmnbaaDoorLevelTake
namespace Go.Proofs.YtgaakhiapgmnbaaDoor
open Go.RowKit Verge LI
attribute [local go_sem] Oper.semAt_some
set_option linter.unusedVariables false
set_option linter.unusedSimpArgs false

def ptrM (nb : Nat → Nat) : Nat → Value := fun i => .pointer (some ⟨nb i, 0, none⟩)
abbrev RowM (w : World) (a : Option Addr) (n cap : Nat) (nb : Nat → Nat) : Prop := Row w 27 1 a n cap (ptrM nb)
/-- at most k nodes were put; c of them stand in the row -/
structure LM (w : World) (vb : Nat) (hd : Nat → Nat) (k : Nat) (X : Nat → List Nat) (V : Nat → Int) (c : Nat) (nb : Nat → Nat) (ad : Option Addr) (cap : Nat) (W : World) : Prop where
  l : IsLv W vb hd X V
  r : RowM W ad c cap nb
  nd : ∀ j, j < c → (∃ s, s < 64 ∧ nb j ∈ X s) ∨ (IsN W (nb j) (V (nb j)) none none none ∧ ¬ LvB vb hd X (nb j))
  ln : ∀ s, s < 64 → (X s).length ≤ k
  cn : c ≤ k
  ra : ∀ g, OwnS ad g → ¬ LvB vb hd X g ∧ ∀ j, j < c → g ≠ nb j
  hi : ∀ j, LvB vb hd X j → w.heap.size ≤ j
  hn : ∀ j, j < c → w.heap.size ≤ nb j
  hr : ∀ g, OwnS ad g → w.heap.size ≤ g
  ch : Ch Nil w W
section
variable {S : Nat → Prop} {w W w4 w5 w6 : World} {vb k c b s cap : Nat} {hd : Nat → Nat} {X : Nat → List Nat} {V : Nat → Int} {nb : Nat → Nat} {ad : Option Addr}
theorem LM.nil (h : LM w vb hd k X V c nb ad cap W) (c5 : Ch Nil W w5) : LM w vb hd k X V c nb ad cap w5 :=
  ⟨h.l.kept c5 (fun _ _ e => e), h.r.kept c5 (fun _ _ e => e), fun j hj => (h.nd j hj).imp (fun e => e) (fun e => ⟨e.1.kept c5 (fun e => e), e.2⟩), h.ln, h.cn, h.ra, h.hi, h.hn, h.hr, h.ch.trans c5⟩
theorem LM.more (h : LM w vb hd k X V c nb ad cap W) : LM w vb hd (k + 1) X V c nb ad cap W :=
  ⟨h.l, h.r, h.nd, fun s hs => by have := h.ln s hs; omega, by have := h.cn; omega, h.ra, h.hi, h.hn, h.hr, h.ch⟩
theorem LM.still (h : LM w vb hd k X V c nb ad cap W) (h5 : IsLv w5 vb hd X V) (c5 : Ch (One vb) W w5) : LM w vb hd k X V c nb ad cap w5 := by
  have v : LvB vb hd X vb := .inl rfl
  exact ⟨h5, h.r.kept c5 (fun g hg e => (h.ra g hg).1 (e ▸ v)), fun j hj => (h.nd j hj).imp (fun e => e) (fun e => ⟨e.1.kept c5 (fun e' => e.2 (e' ▸ v)), e.2⟩), h.ln, h.cn, h.ra, h.hi, h.hn, h.hr, h.ch.up c5 (fun j e => e ▸ h.hi _ v)⟩
theorem LM.low (h : LM w vb hd k X V c nb ad cap W) : (∀ j, LvB vb hd X j → j < W.heap.size) ∧ (∀ j, j < c → nb j < W.heap.size) ∧ ∀ g, OwnS ad g → g < W.heap.size := by
  refine ⟨fun j hj => h.l.lt hj, fun j hj => ?_, fun g hg => h.r.lt g hg⟩
  rcases h.nd j hj with ⟨s, hs, hm⟩ | ⟨hn, -⟩
  · exact h.l.lt (h.l.mem hs hm)
  · exact hn.lt
/-- a node more, that stands in no list -/
theorem LM.val (h : LM w vb hd k X V c nb ad cap W) (hb : ¬ LvB vb hd X b) (v : Int) : IsLv W vb hd X (upd V b v) :=
  h.l.congr _ (fun i x hi hx => upd_other _ _ _ _ (fun e => hb (e ▸ h.l.mem hi hx)))
theorem LM.put (h : LM w vb hd k X V c nb ad cap W) (hb : ¬ LvB vb hd X b) (hbn : ∀ j, j < c → nb j ≠ b) (hbr : ¬ OwnS ad b) (hbl : w.heap.size ≤ b) (hbW : b < W.heap.size) (hs : s < 64) {v : Int}
    (h5 : IsLv w5 vb hd (upd X s (X s ++ [b])) (upd V b v)) (c5 : Ch (fun j => LvB vb hd X j ∨ j = b) W w5) (c6 : Ch (OwnS ad) w5 w6) {g cap6 H : Nat} (row6 : RowM w6 (some ⟨g, 0, none⟩) (c + 1) cap6 (upd nb c b)) (at6 : OwnS ad g ∨ g = H) (hH : w5.heap.size ≤ H) :
    LM w vb hd (k + 1) (upd X s (X s ++ [b])) (upd V b v) (c + 1) (upd nb c b) (some ⟨g, 0, none⟩) cap6 w6 := by
  obtain ⟨l1, l2, l3⟩ := h.low
  have hw := h.ch.size
  have hw5 := c5.size
  have sub : ∀ j, LvB vb hd (upd X s (X s ++ [b])) j → LvB vb hd X j ∨ j = b := fun j hj => LvB.upd (P := One b) hs (fun x hx => by simpa using hx) hj
  have l5 : ∀ j, LvB vb hd (upd X s (X s ++ [b])) j → j < W.heap.size := by
    intro j hj
    rcases sub j hj with e | rfl
    · exact l1 j e
    · exact hbW
  have nr : ∀ j, LvB vb hd (upd X s (X s ++ [b])) j → ¬ OwnS ad j := by
    intro j hj e
    rcases sub j hj with e' | rfl
    · exact (h.ra j e).1 e'
    · exact hbr e
  have memb : b ∈ upd X s (X s ++ [b]) s := by rw [upd_same]; simp
  have gg : ∀ g', OwnS (some ⟨g, 0, none⟩) g' → OwnS ad g' ∨ g' = H := fun g' e => by cases e; exact at6
  refine ⟨h5.kept c6 nr, row6, fun j hj => ?_, fun i hi => ?_, by have := h.cn; omega, fun g' hg' => ?_, fun j hj => ?_, fun j hj => ?_, fun g' hg' => ?_, (h.ch.up c5 ?_).up c6 (fun j e => h.hr j e)⟩
  · by_cases e : j = c
    · subst e; rw [upd_same]; exact .inl ⟨s, hs, memb⟩
    · rw [upd_other _ _ _ _ e]
      rcases h.nd j (by omega) with ⟨s', hs', hm⟩ | ⟨hn, hx⟩
      · refine .inl ⟨s', hs', ?_⟩
        by_cases es : s' = s
        · subst es; rw [upd_same]; simp [hm]
        · rw [upd_other _ _ _ _ es]; exact hm
      · have ne : nb j ≠ b := hbn j (by omega)
        refine .inr ⟨?_, fun e' => ?_⟩
        · rw [upd_other _ _ _ _ ne]
          refine (hn.kept c5 ?_).kept c6 (fun e' => (h.ra _ e').2 j (by omega) rfl)
          rintro (e' | e')
          · exact hx e'
          · exact ne e'
        · rcases sub _ e' with e' | e'
          · exact hx e'
          · exact ne e'
  · by_cases e : i = s
    · subst e; rw [upd_same]; have := h.ln i hi; simp; omega
    · rw [upd_other _ _ _ _ e]; have := h.ln i hi; omega
  · rcases gg g' hg' with e | e
    · refine ⟨fun e' => nr _ e' e, fun j hj => ?_⟩
      by_cases ej : j = c
      · subst ej; rw [upd_same]; rintro rfl; exact hbr e
      · rw [upd_other _ _ _ _ ej]; exact (h.ra g' e).2 j (by omega)
    · refine ⟨fun e' => by have := l5 _ e'; omega, fun j hj => ?_⟩
      by_cases ej : j = c
      · subst ej; rw [upd_same]; omega
      · rw [upd_other _ _ _ _ ej]; have := l2 j (by omega); omega
  · rcases sub j hj with e | rfl
    · exact h.hi j e
    · exact hbl
  · by_cases ej : j = c
    · subst ej; rw [upd_same]; exact hbl
    · rw [upd_other _ _ _ _ ej]; exact h.hn j (by omega)
  · rcases gg g' hg' with e | e
    · exact h.hr g' e
    · omega
  · rintro j (e | rfl)
    · exact h.hi j e
    · exact hbl

/-- one slot's nodes turn, and become fewer: those that leave are free -/
theorem LM.turn (h : LM w vb hd k X V c nb ad cap W) (hs : s < 64) {ys : List Nat} (h5 : IsLv w5 vb hd (upd X s ys) V) (c5 : Ch (LvB vb hd X) W w5) (hy : ∀ b, b ∈ ys → b ∈ X s) (hl : ys.length ≤ (X s).length) (hf : ∀ b, b ∈ X s → b ∉ ys → IsN w5 b (V b) none none none) :
    LM w vb hd k (upd X s ys) V c nb ad cap w5 := by
  have sub : ∀ j, LvB vb hd (upd X s ys) j → LvB vb hd X j := fun j hj => by
    rcases LvB.upd (P := Nil) hs (fun x hx => .inl (hy x hx)) hj with e | e
    · exact e
    · exact e.elim
  refine ⟨h5, h.r.kept c5 (fun g hg => (h.ra g hg).1), fun j hj => ?_, fun i hi => ?_, h.cn, fun g hg => ⟨fun e => (h.ra g hg).1 (sub g e), (h.ra g hg).2⟩, fun j hj => h.hi j (sub j hj), h.hn, h.hr, h.ch.up c5 h.hi⟩
  · rcases h.nd j hj with ⟨s', hs', hm⟩ | ⟨hn, hx⟩
    · by_cases es : s' = s
      · subst es
        by_cases hm' : nb j ∈ ys
        · exact .inl ⟨s', hs', by rw [upd_same]; exact hm'⟩
        · refine .inr ⟨hf _ hm hm', ?_⟩
          rintro (e | ⟨i, hi, (e | hi')⟩)
          · exact h.l.nv s' hs' (.inr (e ▸ hm))
          · by_cases ei : i = s'
            · subst ei; exact (h.l.l i hi).ne hm e
            · exact h.l.d s' i hs' hi (fun e => ei e.symm) (nb j) (.inr hm) (.inl e)
          · by_cases ei : i = s'
            · subst ei; rw [upd_same] at hi'; exact hm' hi'
            · rw [upd_other _ _ _ _ ei] at hi'; exact h.l.d s' i hs' hi (fun e => ei e.symm) (nb j) (.inr hm) (.inr hi')
      · exact .inl ⟨s', hs', by rw [upd_other _ _ _ _ es]; exact hm⟩
    · exact .inr ⟨hn.kept c5 hx, fun e => hx (sub _ e)⟩
  · by_cases e : i = s
    · subst e; rw [upd_same]; have := h.ln i hi; omega
    · rw [upd_other _ _ _ _ e]; exact h.ln i hi

theorem LM.rem (h : LM w vb hd k X V c nb ad cap W) (hs : s < 64) {j : Nat} (hj : j < c) (hk : k ≤ 1000000) :
    Calls Tryd.prog 12 #[.pointer (some ⟨vb, 0, none⟩), .int .i64 (s : Nat), .pointer (some ⟨nb j, 0, none⟩)] W fun e w' => (∃ r, e = .returned (.int .i64 r)) ∧ (∃ X', LM w vb hd k X' V c nb ad cap w') ∧ Ch (LvB vb hd X) W w' := by
  by_cases hm : nb j ∈ X s
  · obtain ⟨i, hi⟩ := List.mem_iff_getElem?.1 hm
    refine (vrem_of h.l hs hi (by have := h.ln s hs; omega)).mono ?_
    rintro e w' ⟨rfl, h5, n5, c5⟩
    refine ⟨⟨_, rfl⟩, ⟨_, h.turn hs h5 c5 (fun b hb => List.mem_of_mem_eraseIdx hb) (by have := List.length_eraseIdx_le (X s) i; omega) (fun b hb hb' => ?_)⟩, c5⟩
    have : b = nb j := by
      obtain ⟨i', hi'⟩ := List.mem_iff_getElem?.1 hb
      by_cases e : i' = i
      · subst e; rw [hi] at hi'; cases hi'; rfl
      · exact absurd (List.mem_eraseIdx_iff_getElem?.2 ⟨i', e, hi'⟩) hb'
    rw [this]; exact n5
  · have hc : ∃ lp, W.cell? ⟨nb j, 1, none⟩ = some (pt lp) ∧ (∀ x, lp = some x → Blk W x) ∧ lp ≠ some (hd s) := by
      rcases h.nd j hj with ⟨s', hs', hm'⟩ | ⟨hn, -⟩
      · have hne : s' ≠ s := fun e => hm (e ▸ hm')
        obtain ⟨i, -, hn⟩ := (h.l.l s' hs').node hm'
        refine ⟨some (hd s'), hn.l, fun x e => (by cases e; exact (h.l.l s' hs').h.k), fun e => ?_⟩
        simp only [Option.some.injEq] at e
        exact h.l.d s' s hs' hs hne (hd s') (.inl rfl) (.inl e)
      · exact ⟨none, hn.l, fun x e => (by cases e), by simp⟩
    obtain ⟨lp, hc1, hc2, hc3⟩ := hc
    refine (vrem_none h.l hs hc1 hc2 hc3).mono ?_
    rintro e w' ⟨rfl, h5, c5⟩
    exact ⟨⟨_, rfl⟩, ⟨_, h.still h5 c5⟩, c5.mono (fun i _ e => .inl e)⟩
theorem LM.take (h : LM w vb hd k X V c nb ad cap W) (hs : s < 64) (hk : k ≤ 100000) :
    Calls Tryd.prog 13 #[.pointer (some ⟨vb, 0, none⟩), .int .i64 (s : Nat)] W fun e w' => (∃ a n cp, e = .returned (.slice a n cp)) ∧ ∃ X', LM w vb hd k X' V c nb ad cap w' := by
  refine (vtake_of h.l hs (by have := h.ln s hs; omega)).mono ?_
  rintro e w' ⟨a, cp, rfl, r5, g5, h5, n5, c5⟩
  exact ⟨⟨_, _, _, rfl⟩, _, h.turn hs h5 c5 (fun b hb => by cases hb) (by simp) (fun b hb _ => n5 b hb)⟩
end
end Go.Proofs.YtgaakhiapgmnbaaDoor
