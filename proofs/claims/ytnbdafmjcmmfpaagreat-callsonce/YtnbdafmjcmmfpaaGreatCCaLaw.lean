import Derived.Test.YtnbdafmjcmmfpaaGreatK24
import Derived.Test.YtnbdafmjcmmfpaaGreatCIsTab
/-
  What the laws on many works want: a config, a call out of a slice.
-/
namespace Go.Proofs.YtnbdafmjcmmfpaaGreat
open Go.ChangeShapes Go.WideShapes Go.RowKit Verge
set_option linter.unusedVariables false
set_option linter.unusedSimpArgs false
theorem cf_rr {a b : Nat} (h : (1 ≤ a ∧ a ≤ 8) ∧ 1 ≤ b ∧ b ≤ 8) : cfOk ⟨2, a, b, 4, 1, 8⟩ := by
  intro i hi
  rcases lt6 hi with rfl | rfl | rfl | rfl | rfl | rfl <;> first | (simp [numC, limC]; done) | (simp [numC, limC]; omega)
/-- a call that lies in a slice -/
theorem calls_at {w : World} {ad : Option Addr} {len cap k : Nat} (h : IsTab [.i .i64, .i .u64, .i .u64, .i .u64] w ad len cap) (hk : k < len) :
    ∃ x, ad = some x ∧ ∃ (a0 : Int) (a1 a2 a3 : Nat), a1 < 18446744073709551616 ∧ a2 < 18446744073709551616 ∧ a3 < 18446744073709551616 ∧ ∀ w', Ch Nil w w' → w'.cell? (x.add (k * 4)) = some (.int .i64 a0) ∧ w'.cell? ⟨(x.add (k * 4)).block, (x.add (k * 4)).off + 1, none⟩ = some (.int .u64 (a1 : Nat)) ∧ w'.cell? ⟨(x.add (k * 4)).block, (x.add (k * 4)).off + 2, none⟩ = some (.int .u64 (a2 : Nat)) ∧ w'.cell? ⟨(x.add (k * 4)).block, (x.add (k * 4)).off + 3, none⟩ = some (.int .u64 (a3 : Nat)) := by
  rcases h with ⟨-, h0, -⟩ | ⟨x, rfl, -, -, hx⟩
  · omega
  obtain ⟨_, q0, y0, rfl, -⟩ := hx k hk 0 _ rfl
  obtain ⟨_, q1, y1, rfl, b1⟩ := hx k hk 1 _ rfl
  obtain ⟨_, q2, y2, rfl, b2⟩ := hx k hk 2 _ rfl
  obtain ⟨_, q3, y3, rfl, b3⟩ := hx k hk 3 _ rfl
  have e : ∀ z : Int, (Lit.int .u64 z).wf = true → ∃ n : Nat, z = (n : Int) ∧ n < 18446744073709551616 := fun z hz => by
    have : 0 ≤ z ∧ z ≤ 18446744073709551615 := by simpa [Lit.wf, IntKind.min, IntKind.max, IntKind.signed, IntKind.bits] using hz
    exact ⟨z.toNat, by omega, by omega⟩
  obtain ⟨n1, rfl, m1⟩ := e y1 b1
  obtain ⟨n2, rfl, m2⟩ := e y2 b2
  obtain ⟨n3, rfl, m3⟩ := e y3 b3
  exact ⟨x, rfl, y0, n1, n2, n3, m1, m2, m3, fun w' c => ⟨c.keeps q0 (fun e => e), cell_at (k * 4) 1 (c.keeps q1 (fun e => e)), cell_at (k * 4) 2 (c.keeps q2 (fun e => e)), cell_at (k * 4) 3 (c.keeps q3 (fun e => e))⟩⟩
end Go.Proofs.YtnbdafmjcmmfpaaGreat
