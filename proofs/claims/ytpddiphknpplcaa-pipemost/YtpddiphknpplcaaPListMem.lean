/-
  A list that lies inside a pipe: in its block from place 1 on; what else lies there.
-/
import Derived.Test.YtpddiphknpplcaaListMem
import Derived.Test.YtpddiphknpplcaaPipeComm
namespace Go.Proofs.Ytpddiphknpplcaa
open Go.RowKit
set_option linter.unusedVariables false

/-- a pointer to place 1 of a block, or nil -/
def po : Option Nat → Value
  | none => .pointer none
  | some b => .pointer (some ⟨b, 1, none⟩)
@[simp] theorem po_none : po none = .pointer none := rfl
@[simp] theorem po_some (b : Nat) : po (some b) = .pointer (some ⟨b, 1, none⟩) := rfl
theorem run_equalIn_po {P : Program} {w : World} {t e : TypeId} (d : Nat) (p q : Option Nat) (hp : ∀ b, p = some b → Blk w b) (hq : ∀ b, q = some b → Blk w b) (ht : P.underlying t = some (.pointer e)) (he : ((P.info? e).map (·.size)).any (· != 0) = true) :
    (Op.equalIn (d + 1) t (po p) (po q)).run P w = .ok (decide (p = q)) w := by
  obtain ⟨j, hj, hs⟩ : ∃ j, P.info? e = some j ∧ j.size ≠ 0 := by
    cases h : P.info? e with
    | none => simp [h] at he
    | some j => exact ⟨j, rfl, by simpa [h] using he⟩
  cases p with
  | none => cases q <;> simp [Op.equalIn, run_underlying ht]
  | some a =>
    cases q with
    | none => simp [Op.equalIn, run_underlying ht]
    | some b =>
      by_cases h : a = b
      · subst h
        simp [Op.equalIn, run_underlying ht, sizeOf, typeInfo, hj, run_sameAddr_same]
      · obtain ⟨ca, ta, ha⟩ := hp a rfl
        obtain ⟨cb, tb, hb⟩ := hq b rfl
        have := run_sameAddr_other (P := P) w (a := ⟨a, 1, none⟩) (b := ⟨b, 1, none⟩) (fun e => h (by cases e; rfl)) ha hb
        simp [Op.equalIn, run_underlying ht, sizeOf, typeInfo, hj, hs, this, h]
theorem run_eql_po {P : Program} {w : World} {t e : TypeId} (p q : Option Nat) (hp : ∀ b, p = some b → Blk w b) (hq : ∀ b, q = some b → Blk w b) (ht : P.underlying t = some (.pointer e)) (he : ((P.info? e).map (·.size)).any (· != 0) = true) :
    (binOp .eql t (po p) (po q)).run P w = .ok (.bool (decide (p = q))) w := by
  have h := run_equalIn_po (P := P) (w := w) 9999 p q hp hq ht he
  cases p <;> cases q <;> simp only [po] at h ⊢ <;> simp only [binOp] <;> simp [Op.equal, Op.maxDepth, h]

/-- what lies beside the list: places 0, 4, 5 -/
structure Oth where
  c : Value
  m : Value
  s : Value
/-- a list's head: its first node, its last, how many; and what lies beside it -/
structure IsHX (X : Oth) (w : World) (lb : Nat) (fi la : Option Nat) (n : Nat) : Prop where
  f : w.cell? ⟨lb, 1, none⟩ = some (pt fi)
  l : w.cell? ⟨lb, 2, none⟩ = some (pt la)
  n : w.cell? ⟨lb, 3, none⟩ = some (.int .i64 n)
  k : Blk w lb
  c : w.cell? ⟨lb, 0, none⟩ = some X.c
  m : w.cell? ⟨lb, 4, none⟩ = some X.m
  s : w.cell? ⟨lb, 5, none⟩ = some X.s
section
variable {X : Oth} {S : Nat → Prop} {w w' : World} {lb n : Nat} {fi la : Option Nat}
theorem IsHX.lt (h : IsHX X w lb fi la n) : lb < w.heap.size := lt_of_cell h.f
theorem IsHX.kept (h : IsHX X w lb fi la n) (c : Ch S w w') (hn : ¬ S lb) : IsHX X w' lb fi la n :=
  ⟨c.keeps h.f hn, c.keeps h.l hn, c.keeps h.n hn, h.k.kept c hn, c.keeps h.c hn, c.keeps h.m hn, c.keeps h.s hn⟩
theorem IsHX.setM (h : IsHX X w lb fi la n) (v : Value) : IsHX { X with m := v } (w.setCell ⟨lb, 4, none⟩ v) lb fi la n :=
  ⟨(cell_ne (by omega) _).trans h.f, (cell_ne (by omega) _).trans h.l, (cell_ne (by omega) _).trans h.n, h.k.set _ _, (cell_ne (by omega) _).trans h.c, World.cell?_setCell_same _ _ _ h.m, (cell_ne (by omega) _).trans h.s⟩
theorem IsHX.setS (h : IsHX X w lb fi la n) (v : Value) : IsHX { X with s := v } (w.setCell ⟨lb, 5, none⟩ v) lb fi la n :=
  ⟨(cell_ne (by omega) _).trans h.f, (cell_ne (by omega) _).trans h.l, (cell_ne (by omega) _).trans h.n, h.k.set _ _, (cell_ne (by omega) _).trans h.c, (cell_ne (by omega) _).trans h.m, World.cell?_setCell_same _ _ _ h.s⟩
end
end Go.Proofs.Ytpddiphknpplcaa
