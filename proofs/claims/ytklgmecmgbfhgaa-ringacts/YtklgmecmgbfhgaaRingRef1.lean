/-
  The document's ring (vergeref04) in memory, and contracts of its Ready and Pop.
-/
import Derived.Test.YtklgmecmgbfhgaaOwnRow
import Derived.Test.YtklgmecmgbfhgaaRingPlain3
import Derived.Test.YtklgmecmgbfhgaaHeld
import Derived.IntWalk
import Derived.BigQuiet
import Derived.Deep.QuietTactic
namespace Go.Proofs.Ytklgmecmgbfhgaa
open Go.RowKit Verge
attribute [local go_sem] Oper.semAt_some
set_option linter.unusedVariables false
set_option linter.unusedSimpArgs false

/-- the cells of the tickets' row -/
def tkCell (A : Nat → Int) (Q : Nat → Nat) (i : Nat) : Value := if i % 2 = 0 then .int .i64 (A (i / 2)) else .int .i64 (Q (i / 2))
theorem tkCell_at (A : Nat → Int) (Q : Nat → Nat) (k : Nat) : tkCell A Q (k * 2) = .int .i64 (A k) := by
  unfold tkCell; rw [if_pos (by omega), show k * 2 / 2 = k by omega]
theorem tkCell_pos (A : Nat → Int) (Q : Nat → Nat) (k : Nat) : tkCell A Q (k * 2 + 1) = .int .i64 (Q k) := by
  unfold tkCell; rw [if_neg (by omega), show (k * 2 + 1) / 2 = k by omega]
/-- the document's ring: R holds its blocks -/
structure IsRefG (w : World) (R : Nat → Prop) (c n np nv fi q : Nat) (P : Nat → Bool) (V : Nat → Int) (A : Nat → Int) (Q : Nat → Nat) (a1 a2 a3 : Option Addr) (k1 k2 k3 : Nat) : Prop where
  n : w.cell? ⟨c, 0, none⟩ = some (.int .i64 n)
  p : w.cell? ⟨c, 1, none⟩ = some (.slice a1 np k1)
  v : w.cell? ⟨c, 2, none⟩ = some (.slice a2 nv k2)
  o : w.cell? ⟨c, 3, none⟩ = some (.int .i64 fi)
  t : w.cell? ⟨c, 4, none⟩ = some (.slice a3 q k3)
  rp : Row w 4 1 a1 np k1 (fun i => .bool (P i))
  rv : Row w 3 1 a2 nv k2 (fun i => .int .i64 (V i))
  rt : Row w 40 2 a3 q k3 (tkCell A Q)
  f : ∀ i, w.frozen? ⟨c, i, none⟩ = false
  rc : R c
  r1 : ∀ k, OwnS a1 k → R k
  r2 : ∀ k, OwnS a2 k → R k
  r3 : ∀ k, OwnS a3 k → R k
  c1 : ¬ OwnS a1 c
  c2 : ¬ OwnS a2 c
  c3 : ¬ OwnS a3 c
  p12 : ∀ k, OwnS a1 k → ¬ OwnS a2 k
  p13 : ∀ k, OwnS a1 k → ¬ OwnS a3 k
  p23 : ∀ k, OwnS a2 k → ¬ OwnS a3 k
  lt : ∀ k, R k → k < w.heap.size
/-- as it stands between calls -/
abbrev IsRef (w : World) (R : Nat → Prop) (c n nx fi q : Nat) (P : Nat → Bool) (V : Nat → Int) (A : Nat → Int) (Q : Nat → Nat) (a1 a2 a3 : Option Addr) (k1 k2 k3 : Nat) : Prop := IsRefG w R c n nx nx fi q P V A Q a1 a2 a3 k1 k2 k3
section
variable {w w' : World} {R S : Nat → Prop} {c n nx fi q : Nat} {P : Nat → Bool} {V : Nat → Int} {A : Nat → Int} {Q : Nat → Nat} {a1 a2 a3 : Option Addr} {k1 k2 k3 : Nat}
theorem IsRefG.kept {np nv : Nat} (h : IsRefG w R c n np nv fi q P V A Q a1 a2 a3 k1 k2 k3) (ch : Ch S w w') (ha : ∀ k, R k → ¬ S k) : IsRefG w' R c n np nv fi q P V A Q a1 a2 a3 k1 k2 k3 :=
  ⟨ch.keeps h.n (ha _ h.rc), ch.keeps h.p (ha _ h.rc), ch.keeps h.v (ha _ h.rc), ch.keeps h.o (ha _ h.rc), ch.keeps h.t (ha _ h.rc), h.rp.kept ch (fun k hk => ha _ (h.r1 k hk)), h.rv.kept ch (fun k hk => ha _ (h.r2 k hk)), h.rt.kept ch (fun k hk => ha _ (h.r3 k hk)),
   fun i => (ch.frozen (p := ⟨c, i, none⟩) (h.lt _ h.rc) (ha _ h.rc)).trans (h.f i), h.rc, h.r1, h.r2, h.r3, h.c1, h.c2, h.c3, h.p12, h.p13, h.p23, fun k hk => Nat.lt_of_lt_of_le (h.lt k hk) ch.size⟩
end

section
variable {w w' : World} {R S : Nat → Prop} {c n nx fi q : Nat} {P : Nat → Bool} {V : Nat → Int} {A : Nat → Int} {Q : Nat → Nat} {a1 a2 a3 : Option Addr} {k1 k2 k3 : Nat}
/-- a block of a row turned: what lies elsewhere is kept -/
theorem IsRefG.setO (h : IsRef w R c n nx fi q P V A Q a1 a2 a3 k1 k2 k3) (x : Nat) : IsRef (w.setCell ⟨c, 3, none⟩ (.int .i64 x)) R c n nx x q P V A Q a1 a2 a3 k1 k2 k3 := by
  have ch : Ch (One c) w (w.setCell ⟨c, 3, none⟩ (.int .i64 x)) := (Ch.refl _ _).setB _ _
  exact ⟨(cell_ne (by omega) _).trans h.n, (cell_ne (by omega) _).trans h.p, (cell_ne (by omega) _).trans h.v, World.cell?_setCell_same _ _ _ h.o, (cell_ne (by omega) _).trans h.t,
    h.rp.kept ch (fun k hk e => h.c1 (e ▸ hk)), h.rv.kept ch (fun k hk e => h.c2 (e ▸ hk)), h.rt.kept ch (fun k hk e => h.c3 (e ▸ hk)), fun i => (World.frozen?_setCell _ _ _ _).trans (h.f i),
    h.rc, h.r1, h.r2, h.r3, h.c1, h.c2, h.c3, h.p12, h.p13, h.p23, fun k hk => Nat.lt_of_lt_of_le (h.lt k hk) ch.size⟩
theorem own_some (g : Nat) : OwnS (some ⟨g, 0, none⟩) g := rfl
theorem own_eq {g k : Nat} (h : OwnS (some ⟨g, 0, none⟩) k) : k = g := by simpa [OwnS] using h.symm
theorem IsRefG.setPub {g : Nat} (h : IsRef w R c n nx fi q P V A Q (some ⟨g, 0, none⟩) a2 a3 k1 k2 k3) (p : Nat) (hp : p < nx) : IsRef (w.setCell ⟨g, p, none⟩ (.bool true)) R c n nx fi q (upd P p true) V A Q (some ⟨g, 0, none⟩) a2 a3 k1 k2 k3 := by
  have ch : Ch (One g) w (w.setCell ⟨g, p, none⟩ (.bool true)) := (Ch.refl _ _).setB _ _
  have ng : ¬ c = g := fun e => h.c1 (e ▸ own_some g)
  exact ⟨ch.keeps h.n ng, ch.keeps h.p ng, ch.keeps h.v ng, ch.keeps h.o ng, ch.keeps h.t ng,
    h.rp.set p (by omega) _ _ (by rw [upd_same]) (fun j hj => by rw [upd_other _ _ _ _ hj]), h.rv.kept ch (fun k hk e => h.p12 g (own_some g) (e ▸ hk)), h.rt.kept ch (fun k hk e => h.p13 g (own_some g) (e ▸ hk)), fun i => (World.frozen?_setCell _ _ _ _).trans (h.f i),
    h.rc, h.r1, h.r2, h.r3, h.c1, h.c2, h.c3, h.p12, h.p13, h.p23, fun k hk => Nat.lt_of_lt_of_le (h.lt k hk) ch.size⟩
theorem IsRefG.setVal {g : Nat} (h : IsRef w R c n nx fi q P V A Q a1 (some ⟨g, 0, none⟩) a3 k1 k2 k3) (p : Nat) (hp : p < nx) (x : Int) : IsRef (w.setCell ⟨g, p, none⟩ (.int .i64 x)) R c n nx fi q P (upd V p x) A Q a1 (some ⟨g, 0, none⟩) a3 k1 k2 k3 := by
  have ch : Ch (One g) w (w.setCell ⟨g, p, none⟩ (.int .i64 x)) := (Ch.refl _ _).setB _ _
  have ng : ¬ c = g := fun e => h.c2 (e ▸ own_some g)
  exact ⟨ch.keeps h.n ng, ch.keeps h.p ng, ch.keeps h.v ng, ch.keeps h.o ng, ch.keeps h.t ng,
    h.rp.kept ch (fun k hk e => h.p12 k hk (by subst e; exact own_some k)), h.rv.set p (by omega) _ _ (by rw [upd_same]) (fun j hj => by rw [upd_other _ _ _ _ hj]), h.rt.kept ch (fun k hk e => h.p23 g (own_some g) (e ▸ hk)), fun i => (World.frozen?_setCell _ _ _ _).trans (h.f i),
    h.rc, h.r1, h.r2, h.r3, h.c1, h.c2, h.c3, h.p12, h.p13, h.p23, fun k hk => Nat.lt_of_lt_of_le (h.lt k hk) ch.size⟩
theorem IsRefG.setAt {g : Nat} (h : IsRef w R c n nx fi q P V A Q a1 a2 (some ⟨g, 0, none⟩) k1 k2 k3) (j : Nat) (hj : j < q) (x : Int) : IsRef (w.setCell ⟨g, j * 2, none⟩ (.int .i64 x)) R c n nx fi q P V (upd A j x) Q a1 a2 (some ⟨g, 0, none⟩) k1 k2 k3 := by
  have ch : Ch (One g) w (w.setCell ⟨g, j * 2, none⟩ (.int .i64 x)) := (Ch.refl _ _).setB _ _
  have ng : ¬ c = g := fun e => h.c3 (e ▸ own_some g)
  refine ⟨ch.keeps h.n ng, ch.keeps h.p ng, ch.keeps h.v ng, ch.keeps h.o ng, ch.keeps h.t ng,
    h.rp.kept ch (fun k hk e => h.p13 k hk (by subst e; exact own_some k)), h.rv.kept ch (fun k hk e => h.p23 k hk (by subst e; exact own_some k)), h.rt.set (j * 2) (by omega) _ _ ?_ ?_, fun i => (World.frozen?_setCell _ _ _ _).trans (h.f i),
    h.rc, h.r1, h.r2, h.r3, h.c1, h.c2, h.c3, h.p12, h.p13, h.p23, fun k hk => Nat.lt_of_lt_of_le (h.lt k hk) ch.size⟩
  · rw [tkCell_at, upd_same]
  · intro i hi
    unfold tkCell
    by_cases h2 : i % 2 = 0
    · rw [if_pos h2, if_pos h2, upd_other _ _ _ _ (by omega)]
    · rw [if_neg h2, if_neg h2]
theorem IsRefG.setPos {g : Nat} (h : IsRef w R c n nx fi q P V A Q a1 a2 (some ⟨g, 0, none⟩) k1 k2 k3) (j : Nat) (hj : j < q) (x : Nat) : IsRef (w.setCell ⟨g, j * 2 + 1, none⟩ (.int .i64 x)) R c n nx fi q P V A (upd Q j x) a1 a2 (some ⟨g, 0, none⟩) k1 k2 k3 := by
  have ch : Ch (One g) w (w.setCell ⟨g, j * 2 + 1, none⟩ (.int .i64 x)) := (Ch.refl _ _).setB _ _
  have ng : ¬ c = g := fun e => h.c3 (e ▸ own_some g)
  refine ⟨ch.keeps h.n ng, ch.keeps h.p ng, ch.keeps h.v ng, ch.keeps h.o ng, ch.keeps h.t ng,
    h.rp.kept ch (fun k hk e => h.p13 k hk (by subst e; exact own_some k)), h.rv.kept ch (fun k hk e => h.p23 k hk (by subst e; exact own_some k)), h.rt.set (j * 2 + 1) (by omega) _ _ ?_ ?_, fun i => (World.frozen?_setCell _ _ _ _).trans (h.f i),
    h.rc, h.r1, h.r2, h.r3, h.c1, h.c2, h.c3, h.p12, h.p13, h.p23, fun k hk => Nat.lt_of_lt_of_le (h.lt k hk) ch.size⟩
  · rw [tkCell_pos, upd_same]
  · intro i hi
    unfold tkCell
    by_cases h2 : i % 2 = 0
    · rw [if_pos h2, if_pos h2]
    · rw [if_neg h2, if_neg h2, upd_other _ _ _ _ (by omega)]
end

section
variable {w w' : World} {R S : Nat → Prop} {c n np nv fi q : Nat} {P : Nat → Bool} {V : Nat → Int} {A : Nat → Int} {Q : Nat → Nat} {a1 a2 a3 : Option Addr} {k1 k2 k3 : Nat}
/-- the block that an append leaves behind: the old one, or a new one -/
theorem grow_far {a b : Option Addr} {g H : Nat} (hat : OwnS a g ∨ g = H) (hp : ∀ k, OwnS a k → ¬ OwnS b k) (hb : ∀ k, OwnS b k → k < H) : ¬ OwnS b g := by
  rcases hat with h | rfl
  · exact hp g h
  · intro e; have := hb _ e; omega
theorem IsRefG.growP {wa w4 : World} {g H cap : Nat} (h : IsRefG w R c n np nv fi q P V A Q a1 a2 a3 k1 k2 k3) (ca : Ch Nil w wa) (c4 : Ch (OwnS a1) wa w4) (hH : w.heap.size ≤ H) (hat : OwnS a1 g ∨ g = H) (hlt : g < w4.heap.size)
    (row : Row w4 4 1 (some ⟨g, 0, none⟩) (np + 1) cap (fun i => .bool (P i))) :
    IsRefG (w4.setCell ⟨c, 1, none⟩ (.slice (some ⟨g, 0, none⟩) (np + 1) cap)) (fun k => R k ∨ k = g) c n (np + 1) nv fi q P V A Q (some ⟨g, 0, none⟩) a2 a3 cap k2 k3 ∧ Ch R w (w4.setCell ⟨c, 1, none⟩ (.slice (some ⟨g, 0, none⟩) (np + 1) cap)) := by
  have cc : Ch (OwnS a1) w w4 := (ca.mono fun _ _ e => e.elim).trans c4
  have ch : Ch (One c) w4 (w4.setCell ⟨c, 1, none⟩ (.slice (some ⟨g, 0, none⟩) (np + 1) cap)) := (Ch.refl _ _).setB _ _
  have ng : ¬ g = c := by
    intro e
    rcases hat with h1 | h1
    · exact h.c1 (e ▸ h1)
    · have := h.lt _ h.rc; omega
  have l2 : ∀ k, OwnS a2 k → k < H := fun k hk => by have := h.lt _ (h.r2 k hk); omega
  have l3 : ∀ k, OwnS a3 k → k < H := fun k hk => by have := h.lt _ (h.r3 k hk); omega
  have f2 := grow_far hat h.p12 l2
  have f3 := grow_far hat h.p13 l3
  refine ⟨⟨(cell_ne (by omega) _).trans (cc.keeps h.n h.c1), World.cell?_setCell_same _ _ _ (cc.keeps h.p h.c1), (cell_ne (by omega) _).trans (cc.keeps h.v h.c1), (cell_ne (by omega) _).trans (cc.keeps h.o h.c1), (cell_ne (by omega) _).trans (cc.keeps h.t h.c1),
    row.kept ch (fun k hk e => ng (own_eq hk ▸ e)), (h.rv.kept cc (fun k hk e => h.p12 k e hk)).kept ch (fun k hk e => h.c2 (e ▸ hk)), (h.rt.kept cc (fun k hk e => h.p13 k e hk)).kept ch (fun k hk e => h.c3 (e ▸ hk)),
    fun i => ((World.frozen?_setCell _ _ _ _).trans (cc.frozen (p := ⟨c, i, none⟩) (h.lt _ h.rc) h.c1)).trans (h.f i),
    .inl h.rc, fun k hk => .inr (own_eq hk), fun k hk => .inl (h.r2 k hk), fun k hk => .inl (h.r3 k hk), fun e => ng (own_eq e).symm, h.c2, h.c3, fun k hk => own_eq hk ▸ f2, fun k hk => own_eq hk ▸ f3, h.p23, ?_⟩, ?_⟩
  · intro k hk
    have := cc.size
    have e := ch.size
    rcases hk with hk | hk
    · have := h.lt k hk; omega
    · omega
  · exact (cc.mono fun i hi e => h.r1 i e).then ch (fun i hi e => by change i = c at e; subst e; exact h.rc)
theorem IsRefG.growV {wa w4 : World} {g H cap : Nat} {V' : Nat → Int} (h : IsRefG w R c n np nv fi q P V A Q a1 a2 a3 k1 k2 k3) (ca : Ch Nil w wa) (c4 : Ch (OwnS a2) wa w4) (hH : w.heap.size ≤ H) (hat : OwnS a2 g ∨ g = H) (hlt : g < w4.heap.size)
    (row : Row w4 3 1 (some ⟨g, 0, none⟩) (nv + 1) cap (fun i => .int .i64 (V' i))) :
    IsRefG (w4.setCell ⟨c, 2, none⟩ (.slice (some ⟨g, 0, none⟩) (nv + 1) cap)) (fun k => R k ∨ k = g) c n np (nv + 1) fi q P V' A Q a1 (some ⟨g, 0, none⟩) a3 k1 cap k3 ∧ Ch R w (w4.setCell ⟨c, 2, none⟩ (.slice (some ⟨g, 0, none⟩) (nv + 1) cap)) := by
  have cc : Ch (OwnS a2) w w4 := (ca.mono fun _ _ e => e.elim).trans c4
  have ch : Ch (One c) w4 (w4.setCell ⟨c, 2, none⟩ (.slice (some ⟨g, 0, none⟩) (nv + 1) cap)) := (Ch.refl _ _).setB _ _
  have ng : ¬ g = c := by
    intro e
    rcases hat with h1 | h1
    · exact h.c2 (e ▸ h1)
    · have := h.lt _ h.rc; omega
  have l1 : ∀ k, OwnS a1 k → k < H := fun k hk => by have := h.lt _ (h.r1 k hk); omega
  have l3 : ∀ k, OwnS a3 k → k < H := fun k hk => by have := h.lt _ (h.r3 k hk); omega
  have f1 := grow_far hat (fun k hk e => h.p12 k e hk) l1
  have f3 := grow_far hat h.p23 l3
  refine ⟨⟨(cell_ne (by omega) _).trans (cc.keeps h.n h.c2), (cell_ne (by omega) _).trans (cc.keeps h.p h.c2), World.cell?_setCell_same _ _ _ (cc.keeps h.v h.c2), (cell_ne (by omega) _).trans (cc.keeps h.o h.c2), (cell_ne (by omega) _).trans (cc.keeps h.t h.c2),
    (h.rp.kept cc (fun k hk e => h.p12 k hk e)).kept ch (fun k hk e => h.c1 (e ▸ hk)), row.kept ch (fun k hk e => ng (own_eq hk ▸ e)), (h.rt.kept cc (fun k hk e => h.p23 k e hk)).kept ch (fun k hk e => h.c3 (e ▸ hk)),
    fun i => ((World.frozen?_setCell _ _ _ _).trans (cc.frozen (p := ⟨c, i, none⟩) (h.lt _ h.rc) h.c2)).trans (h.f i),
    .inl h.rc, fun k hk => .inl (h.r1 k hk), fun k hk => .inr (own_eq hk), fun k hk => .inl (h.r3 k hk), h.c1, fun e => ng (own_eq e).symm, h.c3, fun k hk e => f1 (own_eq e ▸ hk), h.p13, fun k hk => own_eq hk ▸ f3, ?_⟩, ?_⟩
  · intro k hk
    have := cc.size
    have e := ch.size
    rcases hk with hk | hk
    · have := h.lt k hk; omega
    · omega
  · exact (cc.mono fun i hi e => h.r2 i e).then ch (fun i hi e => by change i = c at e; subst e; exact h.rc)
theorem IsRefG.growT {wa w4 : World} {g H cap : Nat} {A' : Nat → Int} {Q' : Nat → Nat} (h : IsRefG w R c n np nv fi q P V A Q a1 a2 a3 k1 k2 k3) (ca : Ch Nil w wa) (c4 : Ch (OwnS a3) wa w4) (hH : w.heap.size ≤ H) (hat : OwnS a3 g ∨ g = H) (hlt : g < w4.heap.size)
    (row : Row w4 40 2 (some ⟨g, 0, none⟩) (q + 1) cap (tkCell A' Q')) :
    IsRefG (w4.setCell ⟨c, 4, none⟩ (.slice (some ⟨g, 0, none⟩) (q + 1) cap)) (fun k => R k ∨ k = g) c n np nv fi (q + 1) P V A' Q' a1 a2 (some ⟨g, 0, none⟩) k1 k2 cap ∧ Ch R w (w4.setCell ⟨c, 4, none⟩ (.slice (some ⟨g, 0, none⟩) (q + 1) cap)) := by
  have cc : Ch (OwnS a3) w w4 := (ca.mono fun _ _ e => e.elim).trans c4
  have ch : Ch (One c) w4 (w4.setCell ⟨c, 4, none⟩ (.slice (some ⟨g, 0, none⟩) (q + 1) cap)) := (Ch.refl _ _).setB _ _
  have ng : ¬ g = c := by
    intro e
    rcases hat with h1 | h1
    · exact h.c3 (e ▸ h1)
    · have := h.lt _ h.rc; omega
  have l1 : ∀ k, OwnS a1 k → k < H := fun k hk => by have := h.lt _ (h.r1 k hk); omega
  have l2 : ∀ k, OwnS a2 k → k < H := fun k hk => by have := h.lt _ (h.r2 k hk); omega
  have f1 := grow_far hat (fun k hk e => h.p13 k e hk) l1
  have f2 := grow_far hat (fun k hk e => h.p23 k e hk) l2
  refine ⟨⟨(cell_ne (by omega) _).trans (cc.keeps h.n h.c3), (cell_ne (by omega) _).trans (cc.keeps h.p h.c3), (cell_ne (by omega) _).trans (cc.keeps h.v h.c3), (cell_ne (by omega) _).trans (cc.keeps h.o h.c3), World.cell?_setCell_same _ _ _ (cc.keeps h.t h.c3),
    (h.rp.kept cc (fun k hk e => h.p13 k hk e)).kept ch (fun k hk e => h.c1 (e ▸ hk)), (h.rv.kept cc (fun k hk e => h.p23 k hk e)).kept ch (fun k hk e => h.c2 (e ▸ hk)), row.kept ch (fun k hk e => ng (own_eq hk ▸ e)),
    fun i => ((World.frozen?_setCell _ _ _ _).trans (cc.frozen (p := ⟨c, i, none⟩) (h.lt _ h.rc) h.c3)).trans (h.f i),
    .inl h.rc, fun k hk => .inl (h.r1 k hk), fun k hk => .inl (h.r2 k hk), fun k hk => .inr (own_eq hk), h.c1, h.c2, fun e => ng (own_eq e).symm, h.p12, fun k hk e => f1 (own_eq e ▸ hk), fun k hk e => f2 (own_eq e ▸ hk), ?_⟩, ?_⟩
  · intro k hk
    have := cc.size
    have e := ch.size
    rcases hk with hk | hk
    · have := h.lt k hk; omega
    · omega
  · exact (cc.mono fun i hi e => h.r3 i e).then ch (fun i hi e => by change i = c at e; subst e; exact h.rc)
end
/-- it is there, wherever its rows lie -/
def Ref (w : World) (R : Nat → Prop) (c n nx fi q : Nat) (P : Nat → Bool) (V : Nat → Int) (A : Nat → Int) (Q : Nat → Nat) : Prop := ∃ a1 a2 a3 k1 k2 k3, IsRef w R c n nx fi q P V A Q a1 a2 a3 k1 k2 k3
section
variable {w w' : World} {R S : Nat → Prop} {c n nx fi q : Nat} {P : Nat → Bool} {V : Nat → Int} {A : Nat → Int} {Q : Nat → Nat}
theorem Ref.kept (h : Ref w R c n nx fi q P V A Q) (ch : Ch S w w') (ha : ∀ k, R k → ¬ S k) : Ref w' R c n nx fi q P V A Q := by
  obtain ⟨a1, a2, a3, k1, k2, k3, h⟩ := h
  exact ⟨a1, a2, a3, k1, k2, k3, h.kept ch ha⟩

theorem ref_ready (h : Ref w R c n nx fi q P V A Q) (hp : Hid (nx ≤ fi → P fi = false)) (hx : fi ≤ 900000) :
    Calls Try.prog 19 #[.pointer (some ⟨c, 0, none⟩)] w fun e w' => e = .returned (.bool (P fi)) ∧ ∃ k, w' = w.drewN k := by
  obtain ⟨a1, a2, a3, k1, k2, k3, h⟩ := h
  by_cases hlt : fi < nx
  · obtain ⟨g, rfl, hg⟩ := h.rp.form (by omega)
    have h1 := h.rp.cell fi (by omega)
    have ho := h.o
    have hpp := h.p
    have d1 : decide (fi < nx) = true := by simpa using hlt
    clear h hp
    go_enter Try.func19, Try.ntmps19
    go_wp2
    go_quiet (fail)
    go_wp2
    go_ret
    exact ⟨rfl, _, rfl⟩
  · have ho := h.o
    have hpp := h.p
    have d1 : decide (fi < nx) = false := by simpa using hlt
    have hP := hp.out (by omega)
    rw [hP]
    clear h hp
    go_enter Try.func19, Try.ntmps19
    go_wp2
    go_quiet (fail)
    go_wp2
    go_ret
    exact ⟨rfl, _, rfl⟩

set_option maxHeartbeats 1600000 in
theorem ref_popnone (h : Ref w R c n nx fi q P V A Q) (hp : Hid (nx ≤ fi → P fi = false)) (hx : fi ≤ 900000) (hP : Hid (P fi = false)) :
    Calls Try.prog 16 #[.pointer (some ⟨c, 0, none⟩)] w fun e w' => e = .returned (.tuple #[.int .i64 0, .bool false]) ∧ ∃ k, w' = w.drewN k := by
  have H := Lib.hid h
  clear h
  go_enter Try.func16, Try.ntmps16
  go_wp2_with fail
  refine (ref_ready H.out hp hx).mono ?_
  rw [hP.out]
  rintro e w1 ⟨rfl, k, rfl⟩
  go_wp2
  go_ret2
  exact ⟨rfl, _, rfl⟩

set_option maxHeartbeats 1600000 in
theorem ref_pop (h : Ref w R c n nx fi q P V A Q) (hp : Hid (nx ≤ fi → P fi = false)) (hx : fi ≤ 900000) (hP : Hid (P fi = true)) :
    Calls Try.prog 16 #[.pointer (some ⟨c, 0, none⟩)] w fun e w' => e = .returned (.tuple #[.int .i64 (V fi), .bool true]) ∧ Ref w' R c n nx (fi + 1) q P V A Q ∧ Ch R w w' := by
  have H := Lib.hid h
  obtain ⟨a1, a2, a3, k1, k2, k3, hr⟩ := h
  have hlt : fi < nx := by
    apply Classical.byContradiction
    intro hn
    have := hp.out (by omega)
    rw [hP.out] at this
    cases this
  obtain ⟨g, rfl, hg⟩ := hr.rv.form (by omega)
  have HR := Lib.hid hr
  clear hr
  go_enter Try.func16, Try.ntmps16
  go_wp2_with fail
  refine (ref_ready H.out hp hx).mono ?_
  rw [hP.out]
  rintro e w1 ⟨rfl, k, hw1⟩
  have c1 : Ch Nil w w1 := by rw [hw1]; exact (Ch.refl _ _).drewN k
  have R1 := Lib.hid (HR.out.kept c1 (fun _ _ e => e))
  have C1 := Lib.hid c1
  clear hw1 c1 H HR
  have ho := R1.out.o
  have hv := R1.out.v
  have hf := R1.out.f 3
  have h1 := R1.out.rv.cell fi (by omega)
  have hne : ¬ g = c := fun e => R1.out.c2 (by simp [OwnS, e])
  have e1 : IntKind.i64.wrap ((fi : Int) + 1 - 1) = fi := by rw [IntWalk.i64_in _ (by omega)]; omega
  go_wp2
  go_quiet (fail)
  go_wp2
  go_ret2
  have e3 : ((fi : Int) + 1) = ((fi + 1 : Nat) : Int) := by omega
  rw [e3]
  exact ⟨rfl, ⟨_, _, _, _, _, _, (R1.out.setO (fi + 1)).kept (S := Nil) ((Ch.refl _ _).drewN _) (fun _ _ e => e)⟩, (C1.out.mono (fun _ _ e => e.elim)).then (S' := One c) (((Ch.refl _ _).setB _ _).drewN _) (fun _ _ e => e ▸ R1.out.rc)⟩
end
end Go.Proofs.Ytklgmecmgbfhgaa
