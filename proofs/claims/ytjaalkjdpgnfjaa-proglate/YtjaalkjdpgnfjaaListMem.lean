/-
  What a list and its nodes are in memory: pointers that may be nil; cells set and read.
-/
import Derived.Test.YtjaalkjdpgnfjaaCellMem
import Derived.Test.YtjaalkjdpgnfjaaListRange
import Derived.IntWalk
import Derived.LaidEql
namespace Go.Proofs.Ytjaalkjdpgnfjaa
open Go.RowKit
set_option linter.unusedVariables false

/-- a pointer to a block, or nil -/
def pt : Option Nat → Value
  | none => .pointer none
  | some b => .pointer (some ⟨b, 0, none⟩)
@[simp] theorem pt_none : pt none = .pointer none := rfl
@[simp] theorem pt_some (b : Nat) : pt (some b) = .pointer (some ⟨b, 0, none⟩) := rfl
theorem cell_set (w : World) (b i c j : Nat) (v : Value) : (w.setCell ⟨b, i, none⟩ v).cell? ⟨c, j, none⟩ = if c = b ∧ j = i then (w.cell? ⟨c, j, none⟩).map (fun _ => v) else w.cell? ⟨c, j, none⟩ := by
  split
  · rename_i h
    obtain ⟨rfl, rfl⟩ := h
    cases hc : w.cell? ⟨c, j, none⟩ with
    | some u => exact World.cell?_setCell_same _ _ _ hc
    | none =>
      rw [Option.map_none, ← hc]
      unfold World.cell? World.setCell at *
      simp only at hc ⊢
      cases ho : w.heap[c]? with
      | none =>
        have : (w.heap.modify c fun x => match x with | .cells cs t z => .cells (cs.setIfInBounds j v) t z | o => o)[c]? = none := by
          simp at ho ⊢; exact ho
        simp_all
      | some o =>
        have hlt := (Array.getElem?_eq_some_iff.1 ho).1
        cases o <;> simp_all [Array.getElem_modify]
  · rename_i h
    exact World.cell?_setCell_other _ _ _ _ (fun e => by cases e; exact h ⟨rfl, rfl⟩)

theorem cell_fresh (w : World) (cs : Array Value) (t : TypeId) (j : Nat) : (w.alloc (.cells cs t)).cell? ⟨w.heap.size, j, none⟩ = cs[j]? := by
  have h := World.alloc_heap_new w (.cells cs t)
  unfold World.cell?
  simp only [h]
  simp
theorem frozen_fresh (w : World) (cs : Array Value) (t : TypeId) (j : Nat) : (w.alloc (.cells cs t)).frozen? ⟨w.heap.size, j, none⟩ = false := by
  have h := World.alloc_heap_new w (.cells cs t)
  unfold World.frozen?
  simp only [h]
  simp

/-- a block of cells, none of them frozen -/
def Blk (w : World) (b : Nat) : Prop := ∃ cs t, w.heap[b]? = some (.cells cs t (0, 0))
section
variable {S : Nat → Prop} {w w' : World} {b : Nat}
theorem Blk.lt (h : Blk w b) : b < w.heap.size := by obtain ⟨cs, t, h⟩ := h; exact (Array.getElem?_eq_some_iff.1 h).1
theorem Blk.fz (h : Blk w b) (j : Nat) : w.frozen? ⟨b, j, none⟩ = false := by
  obtain ⟨cs, t, h⟩ := h
  unfold World.frozen?
  simp only [h]
  simp
theorem Blk.kept (h : Blk w b) (c : Ch S w w') (hn : ¬ S b) : Blk w' b := by
  have hl := h.lt
  obtain ⟨cs, t, h⟩ := h
  exact ⟨cs, t, (c.block b hl hn).trans h⟩
theorem Blk.new (w : World) (cs : Array Value) (t : TypeId) : Blk (w.alloc (.cells cs t)) w.heap.size := ⟨cs, t, World.alloc_heap_new w _⟩
theorem Blk.set (h : Blk w b) (p : Addr) (v : Value) : Blk (w.setCell p v) b := by
  have hl := h.lt
  obtain ⟨cs, t, h⟩ := h
  by_cases e : b = p.block
  · refine ⟨if p.spot.isSome = true then cs else cs.setIfInBounds p.off v, t, ?_⟩
    obtain ⟨hl', h'⟩ := Array.getElem?_eq_some_iff.1 h
    unfold World.setCell
    simp only
    rw [← e, Array.getElem?_eq_getElem (by rw [Array.size_modify]; exact hl), Array.getElem_modify_self, h']
  · exact ⟨cs, t, (Below.heap_setCell w p v b e).trans h⟩
theorem Blk.drew (h : Blk w b) : Blk w.drew b := h
end

theorem run_equalIn_pt {P : Program} {w : World} {t e : TypeId} (d : Nat) (p q : Option Nat) (hp : ∀ b, p = some b → Blk w b) (hq : ∀ b, q = some b → Blk w b) (ht : P.underlying t = some (.pointer e)) (he : ((P.info? e).map (·.size)).any (· != 0) = true) :
    (Op.equalIn (d + 1) t (pt p) (pt q)).run P w = .ok (decide (p = q)) w := by
  obtain ⟨j, hj, hs⟩ : ∃ j, P.info? e = some j ∧ j.size ≠ 0 := by
    cases h : P.info? e with
    | none => simp [h] at he
    | some j => exact ⟨j, rfl, by simpa [h] using he⟩
  cases p with
  | none => cases q <;> simp [Op.equalIn, run_underlying ht]
  | some a =>
    cases q with
    | none => simp [Op.equalIn, run_underlying ht]
    | some b =>
      by_cases h : a = b
      · subst h
        simp [Op.equalIn, run_underlying ht, sizeOf, typeInfo, hj, run_sameAddr_same]
      · obtain ⟨ca, ta, ha⟩ := hp a rfl
        obtain ⟨cb, tb, hb⟩ := hq b rfl
        have := run_sameAddr_other (P := P) w (a := ⟨a, 0, none⟩) (b := ⟨b, 0, none⟩) (fun e => h (by cases e; rfl)) ha hb
        simp [Op.equalIn, run_underlying ht, sizeOf, typeInfo, hj, hs, this, h]
/-- two pointers held against each other -/
theorem run_eql_pt {P : Program} {w : World} {t e : TypeId} (p q : Option Nat) (hp : ∀ b, p = some b → Blk w b) (hq : ∀ b, q = some b → Blk w b) (ht : P.underlying t = some (.pointer e)) (he : ((P.info? e).map (·.size)).any (· != 0) = true) :
    (binOp .eql t (pt p) (pt q)).run P w = .ok (.bool (decide (p = q))) w := by
  have h := run_equalIn_pt (P := P) (w := w) 9999 p q hp hq ht he
  cases p <;> cases q <;> simp only [pt] at h ⊢ <;> simp only [binOp] <;> simp [Op.equal, Op.maxDepth, h]
theorem run_neq_pt {P : Program} {w : World} {t e : TypeId} (p q : Option Nat) (hp : ∀ b, p = some b → Blk w b) (hq : ∀ b, q = some b → Blk w b) (ht : P.underlying t = some (.pointer e)) (he : ((P.info? e).map (·.size)).any (· != 0) = true) :
    (binOp .neq t (pt p) (pt q)).run P w = .ok (.bool (!decide (p = q))) w := by
  have h := run_equalIn_pt (P := P) (w := w) 9999 p q hp hq ht he
  cases p <;> cases q <;> simp only [pt] at h ⊢ <;> simp only [binOp] <;> simp [Op.equal, Op.maxDepth, h]

/-- a list's head: its first node, its last, how many -/
structure IsH (w : World) (lb : Nat) (fi la : Option Nat) (n : Nat) : Prop where
  f : w.cell? ⟨lb, 0, none⟩ = some (pt fi)
  l : w.cell? ⟨lb, 1, none⟩ = some (pt la)
  n : w.cell? ⟨lb, 2, none⟩ = some (.int .i64 n)
  k : Blk w lb
section
variable {S : Nat → Prop} {w w' : World} {lb n : Nat} {fi la : Option Nat}
theorem IsH.lt (h : IsH w lb fi la n) : lb < w.heap.size := lt_of_cell h.f
theorem IsH.kept (h : IsH w lb fi la n) (c : Ch S w w') (hn : ¬ S lb) : IsH w' lb fi la n :=
  ⟨c.keeps h.f hn, c.keeps h.l hn, c.keeps h.n hn, h.k.kept c hn⟩
end
end Go.Proofs.Ytjaalkjdpgnfjaa
