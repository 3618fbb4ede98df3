/-
  What a slab and a request are in memory.
-/
import Derived.Test.YtkialefhjfoniaaGreatRingMem
import Derived.Test.YtkialefhjfoniaaGreatSlabPlain
namespace Go.Proofs.YtkialefhjfoniaaGreat
open Go.RowKit Verge
set_option linter.unusedVariables false

/-- a cell of a number -/
def IsJ (w : World) (b o : Nat) (v : Int) : Prop := ∃ l t u, IsC w b o (.int .i64 v) l t u
theorem IsJ.lt {w : World} {b o : Nat} {v : Int} (h : IsJ w b o v) : b < w.heap.size := by obtain ⟨l, t, u, h⟩ := h; exact h.lt
theorem IsJ.kept {S : Nat → Prop} {w w' : World} {b o : Nat} {v : Int} (h : IsJ w b o v) (c : Ch S w w') (hn : ¬ S b) : IsJ w' b o v := by
  obtain ⟨l, t, u, h⟩ := h; exact ⟨l, t, u, h.keeps c hn⟩

structure IsRec (w : World) (rb o : Nat) (x : Rec) : Prop where
  c : IsU w rb o x.wd
  g : w.cell? ⟨rb, o + 4, none⟩ = some (.int .u64 (x.gv : Nat))
  p : w.cell? ⟨rb, o + 5, none⟩ = some (.int .u64 (x.pd : Nat))
  fg : w.frozen? ⟨rb, o + 4, none⟩ = false
  fp : w.frozen? ⟨rb, o + 5, none⟩ = false
theorem IsRec.kept {S : Nat → Prop} {w w' : World} {b o : Nat} {x : Rec} (h : IsRec w b o x) (c : Ch S w w') (hn : ¬ S b) : IsRec w' b o x := by
  have hl := h.c.lt
  exact ⟨h.c.kept c hn, c.keeps h.g hn, c.keeps h.p hn, (c.frozen (p := ⟨b, _, none⟩) hl hn).trans h.fg, (c.frozen (p := ⟨b, _, none⟩) hl hn).trans h.fp⟩
theorem IsRec.far {w w' : World} {b o o' k : Nat} {x : Rec} (h : IsRec w b o x) (c : Tch b o' k w w') (hn : o + 6 ≤ o' ∨ o' + k ≤ o) : IsRec w' b o x :=
  ⟨h.c.far c (by omega), (c.cell _ (by omega)).trans h.g, (c.cell _ (by omega)).trans h.p, (c.fz _).trans h.fg, (c.fz _).trans h.fp⟩
/-- the record's cell has turned -/
theorem IsRec.turn {w w' : World} {b o : Nat} {x : Rec} {v : Nat} (h : IsRec w b o x) (c : Tch b o 4 w w') (hu : IsU w' b o v) : IsRec w' b o ⟨v, x.gv, x.pd⟩ :=
  ⟨hu, (c.cell _ (by omega)).trans h.g, (c.cell _ (by omega)).trans h.p, (c.fz _).trans h.fg, (c.fz _).trans h.fp⟩
theorem IsRec.setG {w : World} {b o : Nat} {x : Rec} (h : IsRec w b o x) (v : Nat) : IsRec (w.setCell ⟨b, o + 4, none⟩ (.int .u64 (v : Nat))) b o ⟨x.wd, v, x.pd⟩ := by
  have c : Tch b (o + 4) 1 w (w.setCell ⟨b, o + 4, none⟩ (.int .u64 (v : Nat))) := (Tch.refl _ _ _ _).set _ (by omega) _
  exact ⟨h.c.far c (by omega), World.cell?_setCell_same _ _ _ h.g, (c.cell _ (by omega)).trans h.p, (c.fz _).trans h.fg, (c.fz _).trans h.fp⟩
theorem IsRec.setP {w : World} {b o : Nat} {x : Rec} (h : IsRec w b o x) (v : Nat) : IsRec (w.setCell ⟨b, o + 5, none⟩ (.int .u64 (v : Nat))) b o ⟨x.wd, x.gv, v⟩ := by
  have c : Tch b (o + 5) 1 w (w.setCell ⟨b, o + 5, none⟩ (.int .u64 (v : Nat))) := (Tch.refl _ _ _ _).set _ (by omega) _
  exact ⟨h.c.far c (by omega), (c.cell _ (by omega)).trans h.g, World.cell?_setCell_same _ _ _ h.p, (c.fz _).trans h.fg, (c.fz _).trans h.fp⟩

/-- a slab: its room, its count, its records -/
structure IsS (w : World) (b rb n cnt : Nat) (R : Nat → Rec) : Prop where
  cnt : IsJ w b 0 (cnt : Nat)
  recs : w.cell? ⟨b, 4, none⟩ = some (.slice (some ⟨rb, 0, none⟩) n n)
  rc : ∀ k, k < n → IsRec w rb (k * 6) (R k)
  ne : b ≠ rb
  n0 : 0 < n
  n1 : n ≤ 64
abbrev Two (b rb : Nat) : Nat → Prop := fun k => k = b ∨ k = rb
abbrev Tri (q b rb : Nat) : Nat → Prop := fun k => k = q ∨ k = b ∨ k = rb
theorem Ch_two1 {b rb : Nat} {w w' : World} (c : Ch (One b) w w') : Ch (Two b rb) w w' := c.mono fun _ _ e => .inl e
theorem Ch_two2 {b rb : Nat} {w w' : World} (c : Ch (One rb) w w') : Ch (Two b rb) w w' := c.mono fun _ _ e => .inr e
theorem Ch_tri {q b rb : Nat} {w w' : World} (c : Ch (Two b rb) w w') : Ch (Tri q b rb) w w' := c.mono fun _ _ e => .inr e
theorem Ch_tri1 {q b rb : Nat} {w w' : World} (c : Ch (One q) w w') : Ch (Tri q b rb) w w' := c.mono fun _ _ e => .inl e
theorem Ch_any {S : Nat → Prop} {w w' : World} (c : Ch Nil w w') : Ch S w w' := c.mono fun _ _ e => e.elim
section
variable {w w' : World} {b rb n cnt : Nat} {R : Nat → Rec}
theorem IsS.lt (h : IsS w b rb n cnt R) : b < w.heap.size := h.cnt.lt
theorem IsS.lt2 (h : IsS w b rb n cnt R) : rb < w.heap.size := (h.rc 0 h.n0).c.lt
theorem IsS.kept {S : Nat → Prop} (h : IsS w b rb n cnt R) (c : Ch S w w') (hb : ¬ S b) (hr : ¬ S rb) : IsS w' b rb n cnt R :=
  ⟨h.cnt.kept c hb, c.keeps h.recs hb, fun k hk => (h.rc k hk).kept c hr, h.ne, h.n0, h.n1⟩
theorem IsS.quiet (h : IsS w b rb n cnt R) (c : Ch Nil w w') : IsS w' b rb n cnt R := h.kept c (fun e => e) (fun e => e)
/-- the count's cell has turned -/
theorem IsS.count {c' : Nat} (h : IsS w b rb n cnt R) (c : Tch b 0 4 w w') (hj : IsJ w' b 0 (c' : Nat)) : IsS w' b rb n c' R :=
  ⟨hj, (c.cell 4 (by omega)).trans h.recs, fun k hk => (h.rc k hk).kept c.ch (fun e => h.ne e.symm), h.ne, h.n0, h.n1⟩
/-- a record has turned -/
theorem IsS.turn {k : Nat} {x : Rec} (h : IsS w b rb n cnt R) (hk : k < n) (c : Tch rb (k * 6) 6 w w') (hx : IsRec w' rb (k * 6) x) : IsS w' b rb n cnt (upR R k x) := by
  refine ⟨h.cnt.kept c.ch h.ne, c.ch.keeps h.recs h.ne, fun i hi => ?_, h.ne, h.n0, h.n1⟩
  by_cases e : i = k
  · subst e; rw [upR_same]; exact hx
  · rw [upR_other _ _ e]; exact (h.rc i hi).far c (by omega)
/-- a record has turned, and is what it was -/
theorem IsS.same {k : Nat} (h : IsS w b rb n cnt R) (hk : k < n) (c : Tch rb (k * 6) 6 w w') (hx : IsRec w' rb (k * 6) (R k)) : IsS w' b rb n cnt R := by
  refine ⟨h.cnt.kept c.ch h.ne, c.ch.keeps h.recs h.ne, fun i hi => ?_, h.ne, h.n0, h.n1⟩
  by_cases e : i = k
  · subst e; exact hx
  · exact (h.rc i hi).far c (by omega)
end

/-- a request of a slab in block b -/
structure IsQ (w : World) (q b : Nat) (r : Rq) : Prop where
  c0 : w.cell? ⟨q, 0, none⟩ = some (.pointer (some ⟨b, 0, none⟩))
  c1 : w.cell? ⟨q, 1, none⟩ = some (.int .u64 (r.pd : Nat))
  c2 : w.cell? ⟨q, 2, none⟩ = some (.int .i64 (r.st : Nat))
  c3 : w.cell? ⟨q, 3, none⟩ = some (.int .i64 (r.ss : Nat))
  c4 : w.cell? ⟨q, 4, none⟩ = some (.int .i64 (r.seen : Nat))
  c5 : w.cell? ⟨q, 5, none⟩ = some (.int .i64 (r.slot : Nat))
  c6 : w.cell? ⟨q, 6, none⟩ = some (.int .u64 (r.id : Nat))
  f2 : w.frozen? ⟨q, 2, none⟩ = false
  f3 : w.frozen? ⟨q, 3, none⟩ = false
  f4 : w.frozen? ⟨q, 4, none⟩ = false
  f5 : w.frozen? ⟨q, 5, none⟩ = false
  f6 : w.frozen? ⟨q, 6, none⟩ = false
section
variable {w w' : World} {q b : Nat} {r : Rq}
theorem IsQ.lt (h : IsQ w q b r) : q < w.heap.size := lt_of_cell h.c0
theorem IsQ.kept {S : Nat → Prop} (h : IsQ w q b r) (c : Ch S w w') (hn : ¬ S q) : IsQ w' q b r := by
  have hl := h.lt
  exact ⟨c.keeps h.c0 hn, c.keeps h.c1 hn, c.keeps h.c2 hn, c.keeps h.c3 hn, c.keeps h.c4 hn, c.keeps h.c5 hn, c.keeps h.c6 hn, (c.frozen (p := ⟨q, _, none⟩) hl hn).trans h.f2, (c.frozen (p := ⟨q, _, none⟩) hl hn).trans h.f3, (c.frozen (p := ⟨q, _, none⟩) hl hn).trans h.f4, (c.frozen (p := ⟨q, _, none⟩) hl hn).trans h.f5, (c.frozen (p := ⟨q, _, none⟩) hl hn).trans h.f6⟩
theorem IsQ.set_st (h : IsQ w q b r) (v : Nat) : IsQ (w.setCell ⟨q, 2, none⟩ (.int .i64 (v : Nat))) q b { r with st := v } :=
  ⟨(cell_ne (by omega) _).trans h.c0, (cell_ne (by omega) _).trans h.c1, World.cell?_setCell_same _ _ _ h.c2, (cell_ne (by omega) _).trans h.c3, (cell_ne (by omega) _).trans h.c4, (cell_ne (by omega) _).trans h.c5, (cell_ne (by omega) _).trans h.c6, (World.frozen?_setCell _ _ _ _).trans h.f2, (World.frozen?_setCell _ _ _ _).trans h.f3, (World.frozen?_setCell _ _ _ _).trans h.f4, (World.frozen?_setCell _ _ _ _).trans h.f5, (World.frozen?_setCell _ _ _ _).trans h.f6⟩
theorem IsQ.set_ss (h : IsQ w q b r) (v : Nat) : IsQ (w.setCell ⟨q, 3, none⟩ (.int .i64 (v : Nat))) q b { r with ss := v } :=
  ⟨(cell_ne (by omega) _).trans h.c0, (cell_ne (by omega) _).trans h.c1, (cell_ne (by omega) _).trans h.c2, World.cell?_setCell_same _ _ _ h.c3, (cell_ne (by omega) _).trans h.c4, (cell_ne (by omega) _).trans h.c5, (cell_ne (by omega) _).trans h.c6, (World.frozen?_setCell _ _ _ _).trans h.f2, (World.frozen?_setCell _ _ _ _).trans h.f3, (World.frozen?_setCell _ _ _ _).trans h.f4, (World.frozen?_setCell _ _ _ _).trans h.f5, (World.frozen?_setCell _ _ _ _).trans h.f6⟩
theorem IsQ.set_seen (h : IsQ w q b r) (v : Nat) : IsQ (w.setCell ⟨q, 4, none⟩ (.int .i64 (v : Nat))) q b { r with seen := v } :=
  ⟨(cell_ne (by omega) _).trans h.c0, (cell_ne (by omega) _).trans h.c1, (cell_ne (by omega) _).trans h.c2, (cell_ne (by omega) _).trans h.c3, World.cell?_setCell_same _ _ _ h.c4, (cell_ne (by omega) _).trans h.c5, (cell_ne (by omega) _).trans h.c6, (World.frozen?_setCell _ _ _ _).trans h.f2, (World.frozen?_setCell _ _ _ _).trans h.f3, (World.frozen?_setCell _ _ _ _).trans h.f4, (World.frozen?_setCell _ _ _ _).trans h.f5, (World.frozen?_setCell _ _ _ _).trans h.f6⟩
theorem IsQ.set_slot (h : IsQ w q b r) (v : Nat) : IsQ (w.setCell ⟨q, 5, none⟩ (.int .i64 (v : Nat))) q b { r with slot := v } :=
  ⟨(cell_ne (by omega) _).trans h.c0, (cell_ne (by omega) _).trans h.c1, (cell_ne (by omega) _).trans h.c2, (cell_ne (by omega) _).trans h.c3, (cell_ne (by omega) _).trans h.c4, World.cell?_setCell_same _ _ _ h.c5, (cell_ne (by omega) _).trans h.c6, (World.frozen?_setCell _ _ _ _).trans h.f2, (World.frozen?_setCell _ _ _ _).trans h.f3, (World.frozen?_setCell _ _ _ _).trans h.f4, (World.frozen?_setCell _ _ _ _).trans h.f5, (World.frozen?_setCell _ _ _ _).trans h.f6⟩
theorem IsQ.set_id (h : IsQ w q b r) (v : Nat) : IsQ (w.setCell ⟨q, 6, none⟩ (.int .u64 (v : Nat))) q b { r with id := v } :=
  ⟨(cell_ne (by omega) _).trans h.c0, (cell_ne (by omega) _).trans h.c1, (cell_ne (by omega) _).trans h.c2, (cell_ne (by omega) _).trans h.c3, (cell_ne (by omega) _).trans h.c4, (cell_ne (by omega) _).trans h.c5, World.cell?_setCell_same _ _ _ h.c6, (World.frozen?_setCell _ _ _ _).trans h.f2, (World.frozen?_setCell _ _ _ _).trans h.f3, (World.frozen?_setCell _ _ _ _).trans h.f4, (World.frozen?_setCell _ _ _ _).trans h.f5, (World.frozen?_setCell _ _ _ _).trans h.f6⟩
end
end Go.Proofs.YtkialefhjfoniaaGreat
