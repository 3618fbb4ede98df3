/-
  What is done with a cell of integers, as a plain function.
-/
import Derived.Test.YtnflieejfegnhaaCellMem
namespace Verge
open Go.RowKit
structure CSt where
  v : Int
  l : Int
  t : Int
  u : Int
/-- what is answered, whether it was turned, and the cell behind it -/
def doC (k old x : Int) (s : CSt) : Int × Bool × CSt :=
  if k = 0 then (s.v, false, ⟨s.v, wrap64 (s.l + 1), s.t, s.u⟩)
  else if k = 1 then (0, false, ⟨x, s.l, s.t, s.u⟩)
  else if k = 2 then (if s.v = old then (0, true, ⟨x, s.l, wrap64 (s.t + 1), wrap64 (s.u + 1)⟩) else (0, false, ⟨s.v, s.l, wrap64 (s.t + 1), s.u⟩))
  else if k = 3 then (if old < s.v then (s.v, true, ⟨x, wrap64 (s.l + 1), wrap64 (s.t + 1), wrap64 (s.u + 1)⟩) else (s.v, false, ⟨s.v, wrap64 (s.l + 1), s.t, s.u⟩))
  else (0, false, s)
end Verge
namespace Go.Proofs.Ytnflieejfegnhaa
/-- a cell of integers in block b, at its beginning -/
abbrev IsI (w : World) (b : Nat) (s : Verge.CSt) : Prop := IsC w b 0 (.int .i64 s.v) s.l s.t s.u
theorem IsI.kept {S : Nat → Prop} {w w' : World} {b : Nat} {s : Verge.CSt} (h : IsI w b s) (c : Ch S w w') (hn : ¬ S b) : IsI w' b s := IsC.keeps h c hn
end Go.Proofs.Ytnflieejfegnhaa
