/-
  SlabRoom: a slab, many requests, a map of the numbers that were seen.
-/
import Derived.Test.YtjhmmfdmoalfmaaSlabLaws
import Derived.Test.YtjhmmfdmoalfmaaSlabPlain3
import Derived.Test.YtjhmmfdmoalfmaaSlabMap
import Derived.Test.YtjhmmfdmoalfmaaOwnRow
import Derived.Test.YtjhmmfdmoalfmaaHeld
import Derived.Deep.QuietTactic
import Derived.BigQuiet
import Derived.Deep.Cut
import Derived.Deep.CutRange
import Derived.Deep.CutBlock
import Derived.RegionTactic
import Derived.BigRegion
namespace Go.Proofs.Ytjhmmfdmoalfmaa
open Go.RowKit Verge
set_option linter.unusedVariables false
set_option linter.unusedSimpArgs false
attribute [local go_sem] Oper.semAt_some

def ptF (B : Nat → Nat) (j : Nat) : Value := .pointer (some ⟨B j, 0, none⟩)
def upN (B : Nat → Nat) (k x : Nat) : Nat → Nat := fun i => if i = k then x else B i
theorem upN_same (B : Nat → Nat) (k x : Nat) : upN B k x k = x := by simp [upN]
theorem upN_other (B : Nat → Nat) {k i : Nat} (x : Nat) (h : i ≠ k) : upN B k x i = B i := by simp [upN, h]
/-- a slab, np requests (in the blocks B), a map of what was seen; nothing that was there has turned -/
structure RmR (w W : World) (b rb n cnt : Nat) (R : Nat → Rec) (np : Nat) (B : Nat → Nat) (Q : Nat → Rq) (ae : Option Addr) (ce mb cm : Nat) (F : Nat → Bool) (m : Nat) : Prop where
  s : IsS W b rb n cnt R
  i : Inv n cnt R (looks Q np) m
  q : ∀ j, j < np → IsQ W (B j) b (Q j)
  k : ∀ j, j < np → RqOk n (Q j)
  o : ∀ j, j < np → w.heap.size ≤ B j ∧ B j ≠ b ∧ B j ≠ rb ∧ B j ≠ mb ∧ ¬ OwnS ae (B j)
  d : ∀ j j', j < np → j' < np → B j = B j' → j = j'
  e : Row W 34 1 ae np ce (ptF B)
  eo : ∀ j, OwnS ae j → w.heap.size ≤ j ∧ j ≠ b ∧ j ≠ rb ∧ j ≠ mb
  f : MapB W mb cm F
  fm : cm ≤ m
  ff : ∀ id, id ≤ 1000000 → F id = true → givenId n R id
  mo : w.heap.size ≤ mb ∧ mb ≠ b ∧ mb ≠ rb
  c : Ch Nil w W
  hb : w.heap.size ≤ b
  hr : w.heap.size ≤ rb
  nm : np ≤ m
section
variable {w W W' : World} {b rb n cnt cnt' np ce mb cm m m' : Nat} {R R' : Nat → Rec} {B : Nat → Nat} {Q : Nat → Rq} {ae : Option Addr} {F : Nat → Bool}
theorem given_mono {id : Nat} (h : givenId n R id) (g : ∀ k, (R k).gv ≤ (R' k).gv) : givenId n R' id := ⟨h.1, h.2.1, Nat.le_trans h.2.2 (g _)⟩
theorem RmR.two (h : RmR w W b rb n cnt R np B Q ae ce mb cm F m) (s : IsS W' b rb n cnt' R') (i : Inv n cnt' R' (looks Q np) m') (hm : m ≤ m') (g : ∀ k, (R k).gv ≤ (R' k).gv) (c : Ch (Two b rb) W W') : RmR w W' b rb n cnt' R' np B Q ae ce mb cm F m' :=
  ⟨s, i, fun j hj => (h.q j hj).kept c (fun e => by have := h.o j hj; rcases e with e | e <;> omega), h.k, h.o, h.d, h.e.kept c (fun j hj e => by have := h.eo j hj; rcases e with e | e <;> omega), h.eo,
   h.f.kept c (fun e => by have := h.mo; rcases e with e | e <;> omega), by have := h.fm; omega, fun id h1 h2 => given_mono (h.ff id h1 h2) g, h.mo, h.c.then c (fun j hj e => by have := h.hb; have := h.hr; rcases e with e | e <;> omega), h.hb, h.hr, by have := h.nm; omega⟩
theorem RmR.more (h : RmR w W b rb n cnt R np B Q ae ce mb cm F m) (hm : m ≤ m') : RmR w W b rb n cnt R np B Q ae ce mb cm F m' :=
  h.two h.s (h.i.more hm) hm (fun _ => Nat.le_refl _) (Ch.refl _ _)
theorem RmR.sq (h : RmR w W b rb n cnt R np B Q ae ce mb cm F m) {j : Nat} (hj : j < np) : SQ W (B j) b rb n cnt R (Q j) := ⟨h.s, h.q j hj, (h.o j hj).2.1, (h.o j hj).2.2.1⟩
/-- a request has stepped -/
theorem RmR.step (h : RmR w W b rb n cnt R np B Q ae ce mb cm F m) {j : Nat} (hj : j < np) {r : Rq} (s : SQ W' (B j) b rb n cnt' R' r) (c : Ch (Tri (B j) b rb) W W') (i : Inv n cnt' R' (looks (upQ Q j r) np) m') (k : RqOk n r) (hm : m ≤ m') (g : ∀ k, (R k).gv ≤ (R' k).gv) : RmR w W' b rb n cnt' R' np B (upQ Q j r) ae ce mb cm F m' := by
  have ho := h.o j hj
  refine ⟨s.s, i, fun j' hj' => ?_, fun j' hj' => ?_, h.o, h.d, h.e.kept c (fun x hx e => ?_), h.eo, h.f.kept c (fun e => by have := h.mo; rcases e with e | e | e <;> omega), by have := h.fm; omega, fun id h1 h2 => given_mono (h.ff id h1 h2) g, h.mo, h.c.then c (fun x hx e => by have := h.hb; have := h.hr; rcases e with e | e | e <;> omega), h.hb, h.hr, by have := h.nm; omega⟩
  · by_cases e : j' = j
    · subst e; rw [upQ_same]; exact s.rq
    · rw [upQ_other _ _ e]
      refine (h.q j' hj').kept c (fun e' => ?_)
      have h2 := h.o j' hj'
      rcases e' with e' | e' | e'
      · exact e (h.d _ _ hj' hj e')
      · omega
      · omega
  · by_cases e : j' = j
    · subst e; rw [upQ_same]; exact k
    · rw [upQ_other _ _ e]; exact h.k j' hj'
  · have h2 := h.eo x hx
    rcases e with e | e | e
    · subst e; exact ho.2.2.2.2 hx
    · omega
    · omega
/-- a number was seen -/
theorem RmR.saw (h : RmR w W b rb n cnt R np B Q ae ce mb cm F m) {id : Nat} (hid : givenId n R id) (f : MapB W' mb (cm + 1) (upd F id true)) (c : Ch (One mb) W W') (hm : cm + 1 ≤ m) : RmR w W' b rb n cnt R np B Q ae ce mb (cm + 1) (upd F id true) m := by
  have hmo := h.mo
  refine ⟨h.s.kept c (fun e => hmo.2.1 e.symm) (fun e => hmo.2.2 e.symm), h.i, fun j hj => (h.q j hj).kept c (fun e => (h.o j hj).2.2.2.1 e), h.k, h.o, h.d, h.e.kept c (fun j hj e => (h.eo j hj).2.2.2 e), h.eo, f, hm, fun id' h1 h2 => ?_, h.mo, h.c.then c (fun j hj e => by change j = _ at e; omega), h.hb, h.hr, h.nm⟩
  by_cases e : id' = id
  · subst e; exact hid
  · rw [upd_other _ _ _ _ e] at h2; exact h.ff id' h1 h2
/-- a request more -/
theorem RmR.grow (h : RmR w W b rb n cnt R np B Q ae ce mb cm F m) {q pd g cap : Nat} {W1 : World} (hq : W.heap.size ≤ q) (s : SQ W1 q b rb n cnt R ⟨pd, 0, 0, 0, 0, 0⟩) (c : Ch Nil W W1) (hl : q < W1.heap.size)
    (row : Row W' 34 1 (some ⟨g, 0, none⟩) (np + 1) cap (ptF (upN B np q))) (c2 : Ch (OwnS ae) W1 W') (hg : OwnS ae g ∨ W1.heap.size ≤ g) (hm : m + 1 ≤ m') : RmR w W' b rb n cnt R (np + 1) (upN B np q) (upQ Q np ⟨pd, 0, 0, 0, 0, 0⟩) (some ⟨g, 0, none⟩) cap mb cm F m' := by
  have hcz := h.c.size
  have hqo : ¬ OwnS ae q := fun e => by have := h.e.lt _ e; omega
  have nb : ¬ OwnS ae b := fun e => (h.eo b e).2.1 rfl
  have nr : ¬ OwnS ae rb := fun e => (h.eo rb e).2.2.1 rfl
  have nmb : ¬ OwnS ae mb := fun e => (h.eo mb e).2.2.2 rfl
  have lm := h.f.lt
  have ls := h.s.lt
  have lr := h.s.lt2
  have gx : ∀ x, OwnS (some ⟨g, 0, none⟩) x → x = g := fun x hx => (by simpa [OwnS] using hx : g = x).symm
  have cz := c.size
  refine ⟨s.s.kept c2 nb nr, by rw [looks_more]; exact h.i.more (by omega), fun j hj => ?_, fun j hj => ?_, fun j hj => ?_, fun j j' hj hj' e => ?_, row, fun x hx => ?_, (h.f.kept c (fun e => e)).kept c2 nmb, by have := h.fm; omega, h.ff, h.mo, (h.c.trans c).then c2 (fun j hj e => by have := (h.eo j e).1; omega), h.hb, h.hr, by have := h.nm; omega⟩
  · by_cases e : j = np
    · subst e; rw [upN_same, upQ_same]; exact s.rq.kept c2 hqo
    · rw [upN_other _ _ e, upQ_other _ _ e]
      exact ((h.q j (by omega)).kept c (fun e => e)).kept c2 (h.o j (by omega)).2.2.2.2
  · by_cases e : j = np
    · subst e; rw [upQ_same]; exact RqOk.new n pd h.s.n0
    · rw [upQ_other _ _ e]; exact h.k j (by omega)
  · by_cases e : j = np
    · subst e
      rw [upN_same]
      refine ⟨by omega, by omega, by omega, by omega, fun hx => ?_⟩
      have := gx _ hx
      rcases hg with hg | hg
      · rw [← this] at hg; exact hqo hg
      · omega
    · rw [upN_other _ _ e]
      have ho := h.o j (by omega)
      refine ⟨ho.1, ho.2.1, ho.2.2.1, ho.2.2.2.1, fun hx => ?_⟩
      have := gx _ hx
      rcases hg with hg | hg
      · rw [← this] at hg; exact ho.2.2.2.2 hg
      · have := (h.q j (by omega)).lt; omega
  · by_cases e1 : j = np
    · by_cases e2 : j' = np
      · omega
      · rw [e1, upN_same, upN_other _ _ e2] at e
        have := (h.q j' (by omega)).lt; omega
    · by_cases e2 : j' = np
      · rw [e2, upN_same, upN_other _ _ e1] at e
        have := (h.q j (by omega)).lt; omega
      · rw [upN_other _ _ e1, upN_other _ _ e2] at e
        exact h.d _ _ (by omega) (by omega) e
  · have := gx _ hx
    subst this
    rcases hg with hg | hg
    · exact h.eo _ hg
    · have := h.mo; exact ⟨by omega, by omega, by omega, by omega⟩
end
end Go.Proofs.Ytjhmmfdmoalfmaa
