/-
  The document's floor: what each act does to it.
-/
import Derived.Test.YtkialefhjfoniaaGreatFlObj
namespace Go.Proofs.YtkialefhjfoniaaGreat
open Go.RowKit Verge
attribute [local go_sem] Oper.semAt_some
set_option linter.unusedVariables false
set_option linter.unusedSimpArgs false

theorem IsVs.cells12 {w : World} {b : Nat} {v0 v1 v2 v3 v4 v5 v6 v7 v8 v9 v10 v11 : Value} (h : IsVs w b [v0, v1, v2, v3, v4, v5, v6, v7, v8, v9, v10, v11]) : w.cell? ⟨b, 0, none⟩ = some v0 ∧ w.cell? ⟨b, 1, none⟩ = some v1 ∧ w.cell? ⟨b, 2, none⟩ = some v2 ∧ w.cell? ⟨b, 3, none⟩ = some v3 ∧ w.cell? ⟨b, 4, none⟩ = some v4 ∧ w.cell? ⟨b, 5, none⟩ = some v5 ∧ w.cell? ⟨b, 6, none⟩ = some v6 ∧ w.cell? ⟨b, 7, none⟩ = some v7 ∧ w.cell? ⟨b, 8, none⟩ = some v8 ∧ w.cell? ⟨b, 9, none⟩ = some v9 ∧ w.cell? ⟨b, 10, none⟩ = some v10 ∧ w.cell? ⟨b, 11, none⟩ = some v11 :=
  ⟨h.c 0 _ rfl, h.c 1 _ rfl, h.c 2 _ rfl, h.c 3 _ rfl, h.c 4 _ rfl, h.c 5 _ rfl, h.c 6 _ rfl, h.c 7 _ rfl, h.c 8 _ rfl, h.c 9 _ rfl, h.c 10 _ rfl, h.c 11 _ rfl⟩
/-- the document's floor in block vb -/
structure Rf (w : World) (vb : Nat) (s : St) (a : Option Addr) (tc : Nat) : Prop where
  v : IsVs w vb [.int .i64 (s.i : Nat), .int .i64 (s.b : Nat), .bool s.cl, .int .u64 (s.t : Nat), .slice a s.L.length tc]
  tr : ERow w a tc s.L
  nb : ¬ OwnS a vb
def RfS (vb : Nat) (a : Option Addr) : Nat → Prop := fun k => k = vb ∨ OwnS a k
section
variable {S : Nat → Prop} {w w' : World} {vb : Nat} {s : St} {a : Option Addr} {tc : Nat}
theorem Rf.kept (h : Rf w vb s a tc) (c : Ch S w w') (hn : ∀ k, RfS vb a k → ¬ S k) : Rf w' vb s a tc :=
  ⟨h.v.kept c (hn vb (.inl rfl)), h.tr.kept c (fun k hk => hn k (.inr hk)), h.nb⟩
theorem Rf.quiet (h : Rf w vb s a tc) (c : Ch Nil w w') : Rf w' vb s a tc := h.kept c (fun _ _ e => e)
theorem Rf.lt (h : Rf w vb s a tc) {k : Nat} (hk : RfS vb a k) : k < w.heap.size := by
  rcases hk with rfl | hk
  · exact h.v.lt
  · exact h.tr.lt k hk
end
end Go.Proofs.YtkialefhjfoniaaGreat
