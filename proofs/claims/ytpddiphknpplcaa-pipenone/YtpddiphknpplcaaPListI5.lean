/-
  Contract of package list's Splice at int.
-/
import Derived.Test.YtpddiphknpplcaaPListI4
namespace Go.Proofs.Ytpddiphknpplcaa.PI
open Go.RowKit Go.Shelf Verge
attribute [local go_sem] Oper.semAt_some
set_option linter.unusedVariables false
set_option linter.unusedSimpArgs false
variable {X : Oth}

section
variable {S : Nat → Prop} {w w' : World} {lb ob b : Nat} {xs ys : List Nat} {V : Nat → Int}
theorem NoCells.blk {W : World} {r k : Nat} (h : NoCells W r) (hb : Blk W k) : k ≠ r := by obtain ⟨cs, t, hb⟩ := hb; exact h.row hb
theorem IsL.steady (h : IsL X w lb xs V) {r : Nat} (c : Ch (One r) w w') (hr : NoCells w r) : IsL X w' lb xs V :=
  h.kept c fun k hk => NoCells.blk hr (h.blk hk)
theorem Keeps.of_ch {B : Nat} (c : Ch S w w') (hS : ∀ k, S k → k < B) : KeepsFrom B w w' :=
  ⟨c.size, fun k o hB hk ho => (c.block k (Array.getElem?_eq_some_iff.1 hk).1 fun hs => by have := hS k hs; omega).trans hk⟩
theorem Ch.late {r : Nat} {a : World} (h : Ch S a w) (c : Ch (One r) w w') (hr : a.heap.size ≤ r) : Ch S a w' :=
  h.then c fun i hi e => by subst e; omega

/-- between two rounds of Splice -/
structure SpIn (X : Oth) (w : World) (lb ob : Nat) (xs ys : List Nat) (V : Nat → Int) (k : Nat) (W : World) : Prop where
  o : IsL X W ob (ys.drop k) V
  l : IsL X W lb (xs ++ ys.take k) V
  bl : W.cell? ⟨w.heap.size, 0, none⟩ = some (.pointer (some ⟨lb, 1, none⟩))
  bo : W.cell? ⟨w.heap.size + 1, 0, none⟩ = some (.pointer (some ⟨ob, 1, none⟩))
  c : Ch (fun k => LB lb xs k ∨ LB ob ys k) w W
theorem SpIn.steady {B : Nat} (hB : w.heap.size ≤ B) : Steady B (SpIn X w lb ob xs ys V) :=
  fun k W W' r h c hr nc => ⟨h.o.steady c nc, h.l.steady c nc, c.keeps h.bl (fun e => nc.cell h.bl e), c.keeps h.bo (fun e => nc.cell h.bo e), Ch.late h.c c (by omega)⟩

theorem drop_succ {ys : List Nat} {k : Nat} : (ys.drop k).eraseIdx 0 = ys.drop (k + 1) := by
  rw [List.eraseIdx_zero, List.tail_drop]
theorem take_succ {ys : List Nat} {k b : Nat} (h : ys[k]? = some b) : ys.take (k + 1) = ys.take k ++ [b] := by
  rw [List.take_add_one, h]; rfl

end
end Go.Proofs.Ytpddiphknpplcaa.PI
