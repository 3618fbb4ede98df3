/-
  What holds between the calls of the statements of package slab.
-/
import Derived.Test.YtkialefhjfoniaaSlabFree
import Derived.Test.YtkialefhjfoniaaHeld
import Derived.Deep.QuietTactic
import Derived.BigQuiet
import Derived.Deep.Cut
import Derived.Deep.CutRange
import Derived.Deep.CutBlock
import Derived.RegionTactic
import Derived.BigRegion
namespace Go.Proofs.Ytkialefhjfoniaa
open Go.RowKit Verge
set_option linter.unusedVariables false
set_option linter.unusedSimpArgs false
attribute [local go_sem] Oper.semAt_some

/-- a slab that the call has made; nothing that was there has turned -/
structure SlR (w W : World) (b rb n cnt : Nat) (R : Nat → Rec) (m : Nat) : Prop where
  s : IsS W b rb n cnt R
  i : Inv n cnt R 0 m
  c : Ch Nil w W
  hb : w.heap.size ≤ b
  hr : w.heap.size ≤ rb
section
variable {w W W' : World} {b rb n cnt cnt' m m' q : Nat} {R R' : Nat → Rec}
theorem SlR.two (h : SlR w W b rb n cnt R m) (s : IsS W' b rb n cnt' R') (i : Inv n cnt' R' 0 m') (c : Ch (Two b rb) W W') : SlR w W' b rb n cnt' R' m' :=
  ⟨s, i, h.c.then c (fun i hi e => by have := h.hb; have := h.hr; rcases e with e | e <;> omega), h.hb, h.hr⟩
theorem SlR.quiet (h : SlR w W b rb n cnt R m) (c : Ch Nil W W') : SlR w W' b rb n cnt R m := ⟨h.s.quiet c, h.i, h.c.trans c, h.hb, h.hr⟩
theorem SlR.more (h : SlR w W b rb n cnt R m) (hm : m ≤ m') : SlR w W b rb n cnt R m' := ⟨h.s, h.i.more hm, h.c, h.hb, h.hr⟩
end
/-- a request that has made k steps, of a slab that was (cnt, R) -/
structure ItR (w W : World) (b rb n cnt : Nat) (R : Nat → Rec) (q pd k : Nat) : Prop where
  sq : SQ W q b rb n (itS n cnt R ⟨pd, 0, 0, 0, 0, 0⟩ k).1 (itS n cnt R ⟨pd, 0, 0, 0, 0, 0⟩ k).2.1 (itS n cnt R ⟨pd, 0, 0, 0, 0, 0⟩ k).2.2
  c : Ch Nil w W
  hb : w.heap.size ≤ b
  hr : w.heap.size ≤ rb
  hq : w.heap.size ≤ q
theorem ItR.next {w W W' : World} {b rb n cnt : Nat} {R : Nat → Rec} {q pd k : Nat} (h : ItR w W b rb n cnt R q pd k)
    (s : SQ W' q b rb n (stepM n (itS n cnt R ⟨pd, 0, 0, 0, 0, 0⟩ k).1 (itS n cnt R ⟨pd, 0, 0, 0, 0, 0⟩ k).2.1 (itS n cnt R ⟨pd, 0, 0, 0, 0, 0⟩ k).2.2).1 (stepM n (itS n cnt R ⟨pd, 0, 0, 0, 0, 0⟩ k).1 (itS n cnt R ⟨pd, 0, 0, 0, 0, 0⟩ k).2.1 (itS n cnt R ⟨pd, 0, 0, 0, 0, 0⟩ k).2.2).2.1 (stepM n (itS n cnt R ⟨pd, 0, 0, 0, 0, 0⟩ k).1 (itS n cnt R ⟨pd, 0, 0, 0, 0, 0⟩ k).2.1 (itS n cnt R ⟨pd, 0, 0, 0, 0, 0⟩ k).2.2).2.2)
    (c : Ch (Tri q b rb) W W') : ItR w W' b rb n cnt R q pd (k + 1) :=
  ⟨s, h.c.then c (fun i hi e => by have := h.hb; have := h.hr; have := h.hq; rcases e with e | e | e <;> omega), h.hb, h.hr, h.hq⟩
theorem tmod_nat (a n : Nat) : ((a : Int)).tmod (n : Int) = ((a % n : Nat) : Int) := (Int.ofNat_tmod a n).symm
end Go.Proofs.Ytkialefhjfoniaa
