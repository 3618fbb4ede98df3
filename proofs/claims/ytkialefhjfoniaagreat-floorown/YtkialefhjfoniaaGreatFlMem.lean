/-
  A floor's own cells, as values and in memory; what a floor's methods see of it (whole), and its config.
-/
import Derived.Test.YtkialefhjfoniaaGreatFlSet
import Derived.Test.YtkialefhjfoniaaGreatOwnRow
import Derived.Test.YtkialefhjfoniaaGreatCellWalks1
import Derived.RegionTactic
import Derived.Deep.Cut
import Derived.Deep.CutRange
import Derived.Deep.CutBlock
import Derived.Lib.Hide
namespace Verge
/-- a config's six numbers -/
structure Cf where
  s : Int
  c : Int
  r : Int
  m : Int
  k : Int
  l : Int
  deriving DecidableEq
/-- where a floor and its parts lie: slab, row of shards (how many, its room), pipe, log, cells -/
structure Fb where
  c : Cf
  f : Nat
  sb : Nat
  g : Nat
  n : Nat
  gc : Nat
  pb : Nat
  lb : Nat
  cl : Nat
  ins : Nat
  bz : Nat
  nw : Nat
  srb : Nat
  cb : Nat
  sh : Nat → Nat
  lk : Nat → Nat
end Verge
namespace Go.Proofs.YtkialefhjfoniaaGreat
open Go.RowKit Verge
attribute [local go_sem] Oper.semAt_some
set_option linter.unusedVariables false
set_option linter.unusedSimpArgs false

def cfV (c : Cf) : List Value := [.int .i64 c.s, .int .i64 c.c, .int .i64 c.r, .int .i64 c.m, .int .i64 c.k, .int .i64 c.l]
def flV (F : Fb) (tr : Option Addr) (tl tc : Nat) : List Value := [.int .i64 F.c.s, .int .i64 F.c.c, .int .i64 F.c.r, .int .i64 F.c.m, .int .i64 F.c.k, .int .i64 F.c.l, .pointer (some ⟨F.sb, 0, none⟩), .slice (some ⟨F.g, 0, none⟩) F.n F.gc, .pointer (some ⟨F.pb, 0, none⟩), .pointer (some ⟨F.lb, 0, none⟩), .pointer (some ⟨F.cl, 0, none⟩), .pointer (some ⟨F.ins, 0, none⟩), .pointer (some ⟨F.bz, 0, none⟩), .pointer (some ⟨F.nw, 0, none⟩), .slice tr tl tc]
/-- a floor's cells -/
abbrev IsF (w : World) (F : Fb) (tr : Option Addr) (tl tc : Nat) : Prop := IsVs w F.f (flV F tr tl tc)
section
variable {S : Nat → Prop} {w w' : World} {F : Fb} {tr : Option Addr} {tl tc : Nat}
theorem IsVs.cells15 {b : Nat} {v0 v1 v2 v3 v4 v5 v6 v7 v8 v9 v10 v11 v12 v13 v14 : Value} (h : IsVs w b [v0, v1, v2, v3, v4, v5, v6, v7, v8, v9, v10, v11, v12, v13, v14]) :
    w.cell? ⟨b, 0, none⟩ = some v0 ∧ w.cell? ⟨b, 1, none⟩ = some v1 ∧ w.cell? ⟨b, 2, none⟩ = some v2 ∧ w.cell? ⟨b, 3, none⟩ = some v3 ∧ w.cell? ⟨b, 4, none⟩ = some v4 ∧ w.cell? ⟨b, 5, none⟩ = some v5 ∧ w.cell? ⟨b, 6, none⟩ = some v6 ∧ w.cell? ⟨b, 7, none⟩ = some v7 ∧ w.cell? ⟨b, 8, none⟩ = some v8 ∧ w.cell? ⟨b, 9, none⟩ = some v9 ∧ w.cell? ⟨b, 10, none⟩ = some v10 ∧ w.cell? ⟨b, 11, none⟩ = some v11 ∧ w.cell? ⟨b, 12, none⟩ = some v12 ∧ w.cell? ⟨b, 13, none⟩ = some v13 ∧ w.cell? ⟨b, 14, none⟩ = some v14 :=
  ⟨h.c 0 _ rfl, h.c 1 _ rfl, h.c 2 _ rfl, h.c 3 _ rfl, h.c 4 _ rfl, h.c 5 _ rfl, h.c 6 _ rfl, h.c 7 _ rfl, h.c 8 _ rfl, h.c 9 _ rfl, h.c 10 _ rfl, h.c 11 _ rfl, h.c 12 _ rfl, h.c 13 _ rfl, h.c 14 _ rfl⟩
theorem IsVs.cells6 {b : Nat} {v0 v1 v2 v3 v4 v5 : Value} (h : IsVs w b [v0, v1, v2, v3, v4, v5]) :
    w.cell? ⟨b, 0, none⟩ = some v0 ∧ w.cell? ⟨b, 1, none⟩ = some v1 ∧ w.cell? ⟨b, 2, none⟩ = some v2 ∧ w.cell? ⟨b, 3, none⟩ = some v3 ∧ w.cell? ⟨b, 4, none⟩ = some v4 ∧ w.cell? ⟨b, 5, none⟩ = some v5 :=
  ⟨h.c 0 _ rfl, h.c 1 _ rfl, h.c 2 _ rfl, h.c 3 _ rfl, h.c 4 _ rfl, h.c 5 _ rfl⟩
theorem fld0 (v0 v1 v2 v3 v4 v5 v6 v7 v8 v9 v10 v11 v12 v13 v14 : Value) (w : World) : (Instr.field 77 (.agg #[v0, v1, v2, v3, v4, v5, v6, v7, v8, v9, v10, v11, v12, v13, v14]) 0).run Tryz.prog w = .ok (.agg #[v0, v1, v2, v3, v4, v5]) w := by kernel_rfl
theorem fld1 (v0 v1 v2 v3 v4 v5 v6 v7 v8 v9 v10 v11 v12 v13 v14 : Value) (w : World) : (Instr.field 77 (.agg #[v0, v1, v2, v3, v4, v5, v6, v7, v8, v9, v10, v11, v12, v13, v14]) 1).run Tryz.prog w = .ok v6 w := by kernel_rfl
theorem fld2 (v0 v1 v2 v3 v4 v5 v6 v7 v8 v9 v10 v11 v12 v13 v14 : Value) (w : World) : (Instr.field 77 (.agg #[v0, v1, v2, v3, v4, v5, v6, v7, v8, v9, v10, v11, v12, v13, v14]) 2).run Tryz.prog w = .ok v7 w := by kernel_rfl
theorem fld3 (v0 v1 v2 v3 v4 v5 v6 v7 v8 v9 v10 v11 v12 v13 v14 : Value) (w : World) : (Instr.field 77 (.agg #[v0, v1, v2, v3, v4, v5, v6, v7, v8, v9, v10, v11, v12, v13, v14]) 3).run Tryz.prog w = .ok v8 w := by kernel_rfl
theorem fld4 (v0 v1 v2 v3 v4 v5 v6 v7 v8 v9 v10 v11 v12 v13 v14 : Value) (w : World) : (Instr.field 77 (.agg #[v0, v1, v2, v3, v4, v5, v6, v7, v8, v9, v10, v11, v12, v13, v14]) 4).run Tryz.prog w = .ok v9 w := by kernel_rfl
theorem fld5 (v0 v1 v2 v3 v4 v5 v6 v7 v8 v9 v10 v11 v12 v13 v14 : Value) (w : World) : (Instr.field 77 (.agg #[v0, v1, v2, v3, v4, v5, v6, v7, v8, v9, v10, v11, v12, v13, v14]) 5).run Tryz.prog w = .ok v10 w := by kernel_rfl
theorem fld6 (v0 v1 v2 v3 v4 v5 v6 v7 v8 v9 v10 v11 v12 v13 v14 : Value) (w : World) : (Instr.field 77 (.agg #[v0, v1, v2, v3, v4, v5, v6, v7, v8, v9, v10, v11, v12, v13, v14]) 6).run Tryz.prog w = .ok v11 w := by kernel_rfl
theorem fld7 (v0 v1 v2 v3 v4 v5 v6 v7 v8 v9 v10 v11 v12 v13 v14 : Value) (w : World) : (Instr.field 77 (.agg #[v0, v1, v2, v3, v4, v5, v6, v7, v8, v9, v10, v11, v12, v13, v14]) 7).run Tryz.prog w = .ok v12 w := by kernel_rfl
theorem fld8 (v0 v1 v2 v3 v4 v5 v6 v7 v8 v9 v10 v11 v12 v13 v14 : Value) (w : World) : (Instr.field 77 (.agg #[v0, v1, v2, v3, v4, v5, v6, v7, v8, v9, v10, v11, v12, v13, v14]) 8).run Tryz.prog w = .ok v13 w := by kernel_rfl
theorem fld9 (v0 v1 v2 v3 v4 v5 v6 v7 v8 v9 v10 v11 v12 v13 v14 : Value) (w : World) : (Instr.field 77 (.agg #[v0, v1, v2, v3, v4, v5, v6, v7, v8, v9, v10, v11, v12, v13, v14]) 9).run Tryz.prog w = .ok v14 w := by kernel_rfl
theorem cfld0 (v0 v1 v2 v3 v4 v5 : Value) (w : World) : (Instr.field 29 (.agg #[v0, v1, v2, v3, v4, v5]) 0).run Tryz.prog w = .ok v0 w := by kernel_rfl
theorem IsVs.cells10 {b : Nat} {v0 v1 v2 v3 v4 v5 v6 v7 v8 v9 : Value} (h : IsVs w b [v0, v1, v2, v3, v4, v5, v6, v7, v8, v9]) :
    w.cell? ⟨b, 0, none⟩ = some v0 ∧ w.cell? ⟨b, 1, none⟩ = some v1 ∧ w.cell? ⟨b, 2, none⟩ = some v2 ∧ w.cell? ⟨b, 3, none⟩ = some v3 ∧ w.cell? ⟨b, 4, none⟩ = some v4 ∧ w.cell? ⟨b, 5, none⟩ = some v5 ∧ w.cell? ⟨b, 6, none⟩ = some v6 ∧ w.cell? ⟨b, 7, none⟩ = some v7 ∧ w.cell? ⟨b, 8, none⟩ = some v8 ∧ w.cell? ⟨b, 9, none⟩ = some v9 :=
  ⟨h.c 0 _ rfl, h.c 1 _ rfl, h.c 2 _ rfl, h.c 3 _ rfl, h.c 4 _ rfl, h.c 5 _ rfl, h.c 6 _ rfl, h.c 7 _ rfl, h.c 8 _ rfl, h.c 9 _ rfl⟩
def flZ : List Value := [.int .i64 0, .int .i64 0, .int .i64 0, .int .i64 0, .int .i64 0, .int .i64 0, .pointer none, .slice none 0 0, .pointer none, .pointer none, .pointer none, .pointer none, .pointer none, .pointer none, .slice none 0 0]
def cfZ : List Value := [.int .i64 0, .int .i64 0, .int .i64 0, .int .i64 0, .int .i64 0, .int .i64 0]
set_option maxHeartbeats 4000000 in
set_option maxRecDepth 100000 in
theorem whole_nil (w : World) :
    Calls Tryz.prog 42 #[.pointer none] w fun e w' => e = .returned (.agg #[.int .i64 0, .int .i64 0, .int .i64 0, .int .i64 0, .int .i64 0, .int .i64 0, .pointer none, .slice none 0 0, .pointer none, .pointer none, .pointer none, .pointer none, .pointer none, .pointer none, .slice none 0 0]) ∧ Ch Nil w w' := by
  have cA : Ch Nil w (w.alloc (Obj.cells #[.int .i64 0, .int .i64 0, .int .i64 0, .int .i64 0, .int .i64 0, .int .i64 0, .pointer none, .slice none 0 0, .pointer none, .pointer none, .pointer none, .pointer none, .pointer none, .pointer none, .slice none 0 0] 77)) := (Ch.refl _ _).alloc _
  have bx : IsVs (w.alloc (Obj.cells #[.int .i64 0, .int .i64 0, .int .i64 0, .int .i64 0, .int .i64 0, .int .i64 0, .pointer none, .slice none 0 0, .pointer none, .pointer none, .pointer none, .pointer none, .pointer none, .pointer none, .slice none 0 0] 77)) w.heap.size flZ := IsVs.new w flZ 77
  have CA := Lib.hid cA
  clear cA
  go_enter Tryz.func42, Tryz.ntmps42
  go_upto_region 1 with (fail)
  generalize w.alloc (Obj.cells #[.int .i64 0, .int .i64 0, .int .i64 0, .int .i64 0, .int .i64 0, .int .i64 0, .pointer none, .slice none 0 0, .pointer none, .pointer none, .pointer none, .pointer none, .pointer none, .pointer none, .slice none 0 0] 77) = W at CA bx ⊢
  obtain ⟨B, hB⟩ : ∃ B, B = w.heap.size := ⟨_, rfl⟩
  rw [← hB] at bx ⊢
  have HB := Lib.hid hB
  clear hB
  have BX := Lib.hid bx
  obtain ⟨c0, c1, c2, c3, c4, c5, c6, c7, c8, c9, c10, c11, c12, c13, c14⟩ := bx.cells15
  have f0 := bx.b.fz 0
  have f1 := bx.b.fz 1
  have f2 := bx.b.fz 2
  have f3 := bx.b.fz 3
  have f4 := bx.b.fz 4
  have f5 := bx.b.fz 5
  have f6 := bx.b.fz 6
  have f7 := bx.b.fz 7
  have f8 := bx.b.fz 8
  have f9 := bx.b.fz 9
  have f10 := bx.b.fz 10
  have f11 := bx.b.fz 11
  have f12 := bx.b.fz 12
  have f13 := bx.b.fz 13
  have f14 := bx.b.fz 14
  clear bx
  go_wp2
  have hr : IsVs (setVs W B 0 flZ) B flZ := BX.out.set rfl
  have hc : Ch Nil w (setVs W B 0 flZ) := setVs_nil B _ CA.out (Nat.le_of_eq HB.out.symm)
  (try simp only [Exit.inBlock, Exit.then])
  refine bodyPost_ret (v := .agg #[.int .i64 0, .int .i64 0, .int .i64 0, .int .i64 0, .int .i64 0, .int .i64 0, .pointer none, .slice none 0 0, .pointer none, .pointer none, .pointer none, .pointer none, .pointer none, .pointer none, .slice none 0 0]) ?hr rfl ⟨rfl, hc⟩
  case hr =>
    change (results _ _).run _ (setVs W B 0 flZ) = .ok _ (setVs W B 0 flZ)
    generalize setVs W B 0 flZ = W5 at hr ⊢
    obtain ⟨d0, d1, d2, d3, d4, d5, d6, d7, d8, d9, d10, d11, d12, d13, d14⟩ := hr.cells15
    simp [results, Tryz.results42, go_sem, d0, d1, d2, d3, d4, d5, d6, d7, d8, d9, d10, d11, d12, d13, d14]
set_option maxHeartbeats 4000000 in
set_option maxRecDepth 100000 in
theorem whole_of (h : IsF w F tr tl tc) :
    Calls Tryz.prog 42 #[.pointer (some ⟨F.f, 0, none⟩)] w fun e w' => e = .returned (.agg #[.int .i64 F.c.s, .int .i64 F.c.c, .int .i64 F.c.r, .int .i64 F.c.m, .int .i64 F.c.k, .int .i64 F.c.l, .pointer (some ⟨F.sb, 0, none⟩), .slice (some ⟨F.g, 0, none⟩) F.n F.gc, .pointer (some ⟨F.pb, 0, none⟩), .pointer (some ⟨F.lb, 0, none⟩), .pointer (some ⟨F.cl, 0, none⟩), .pointer (some ⟨F.ins, 0, none⟩), .pointer (some ⟨F.bz, 0, none⟩), .pointer (some ⟨F.nw, 0, none⟩), .slice tr tl tc]) ∧ Ch Nil w w' := by
  have cA : Ch Nil w (w.alloc (Obj.cells #[.int .i64 0, .int .i64 0, .int .i64 0, .int .i64 0, .int .i64 0, .int .i64 0, .pointer none, .slice none 0 0, .pointer none, .pointer none, .pointer none, .pointer none, .pointer none, .pointer none, .slice none 0 0] 77)) := (Ch.refl _ _).alloc _
  have bx : IsVs (w.alloc (Obj.cells #[.int .i64 0, .int .i64 0, .int .i64 0, .int .i64 0, .int .i64 0, .int .i64 0, .pointer none, .slice none 0 0, .pointer none, .pointer none, .pointer none, .pointer none, .pointer none, .pointer none, .slice none 0 0] 77)) w.heap.size flZ := IsVs.new w flZ 77
  have h1 := h.kept cA (fun e => e)
  clear h
  have CA := Lib.hid cA
  clear cA
  go_enter Tryz.func42, Tryz.ntmps42
  go_upto_region 1 with (fail)
  generalize w.alloc (Obj.cells #[.int .i64 0, .int .i64 0, .int .i64 0, .int .i64 0, .int .i64 0, .int .i64 0, .pointer none, .slice none 0 0, .pointer none, .pointer none, .pointer none, .pointer none, .pointer none, .pointer none, .slice none 0 0] 77) = W at CA bx h1 ⊢
  obtain ⟨B, hB⟩ : ∃ B, B = w.heap.size := ⟨_, rfl⟩
  rw [← hB] at bx ⊢
  have HB := Lib.hid hB
  clear hB
  have BX := Lib.hid bx
  obtain ⟨c0, c1, c2, c3, c4, c5, c6, c7, c8, c9, c10, c11, c12, c13, c14⟩ := bx.cells15
  obtain ⟨g0, g1, g2, g3, g4, g5, g6, g7, g8, g9, g10, g11, g12, g13, g14⟩ := h1.cells15
  clear h1
  have f0 := bx.b.fz 0
  have f1 := bx.b.fz 1
  have f2 := bx.b.fz 2
  have f3 := bx.b.fz 3
  have f4 := bx.b.fz 4
  have f5 := bx.b.fz 5
  have f6 := bx.b.fz 6
  have f7 := bx.b.fz 7
  have f8 := bx.b.fz 8
  have f9 := bx.b.fz 9
  have f10 := bx.b.fz 10
  have f11 := bx.b.fz 11
  have f12 := bx.b.fz 12
  have f13 := bx.b.fz 13
  have f14 := bx.b.fz 14
  clear bx
  go_wp2
  have hr : IsVs (setVs W B 0 (flV F tr tl tc)) B (flV F tr tl tc) := BX.out.set rfl
  have hc : Ch Nil w (setVs W B 0 (flV F tr tl tc)) := setVs_nil B _ CA.out (Nat.le_of_eq HB.out.symm)
  (try simp only [Exit.inBlock, Exit.then])
  refine bodyPost_ret (v := .agg #[.int .i64 F.c.s, .int .i64 F.c.c, .int .i64 F.c.r, .int .i64 F.c.m, .int .i64 F.c.k, .int .i64 F.c.l, .pointer (some ⟨F.sb, 0, none⟩), .slice (some ⟨F.g, 0, none⟩) F.n F.gc, .pointer (some ⟨F.pb, 0, none⟩), .pointer (some ⟨F.lb, 0, none⟩), .pointer (some ⟨F.cl, 0, none⟩), .pointer (some ⟨F.ins, 0, none⟩), .pointer (some ⟨F.bz, 0, none⟩), .pointer (some ⟨F.nw, 0, none⟩), .slice tr tl tc]) ?hr rfl ⟨rfl, hc⟩
  case hr =>
    change (results _ _).run _ (setVs W B 0 (flV F tr tl tc)) = .ok _ (setVs W B 0 (flV F tr tl tc))
    generalize setVs W B 0 (flV F tr tl tc) = W5 at hr ⊢
    obtain ⟨d0, d1, d2, d3, d4, d5, d6, d7, d8, d9, d10, d11, d12, d13, d14⟩ := hr.cells15
    simp [results, Tryz.results42, go_sem, d0, d1, d2, d3, d4, d5, d6, d7, d8, d9, d10, d11, d12, d13, d14]
end
end Go.Proofs.YtkialefhjfoniaaGreat
