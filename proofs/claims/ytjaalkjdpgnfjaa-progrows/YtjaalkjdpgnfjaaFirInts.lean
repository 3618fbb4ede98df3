/-
  The statements' comparisons of two rows of numbers, over the rows' cells: the same numbers are found the same.
-/
import Derived.Test.YtjaalkjdpgnfjaaListInts
namespace Go.Proofs.Ytjaalkjdpgnfjaa
open Go.RowKit
attribute [local go_sem] Oper.semAt_some
set_option linter.unusedVariables false
/-- a slice of n elements of one cell, the i-th one V i -/
def SrcC (w : World) (a : Option Addr) (n : Nat) (V : Nat → Value) : Prop := n = 0 ∨ ∃ b o, a = some ⟨b, o, none⟩ ∧ ∀ i, i < n → w.cell? ⟨b, o + i, none⟩ = some (V i)
section
variable {S : Nat → Prop} {w w' : World} {a a' : Option Addr} {n cap cap' : Nat} {V : Nat → Value} {F : Nat → Int}
theorem SrcC.kept (h : SrcC w a n V) (c : Ch S w w') (hn : ∀ k, OwnS a k → ¬ S k) : SrcC w' a n V := by
  rcases h with h | ⟨b, o, rfl, h⟩
  · exact .inl h
  · exact .inr ⟨b, o, rfl, fun i hi => c.keeps (h i hi) (hn b rfl)⟩
theorem SrcC.form (h : SrcC w a n V) (hp : 0 < n) : ∃ b o, a = some ⟨b, o, none⟩ ∧ ∀ i, i < n → w.cell? ⟨b, o + i, none⟩ = some (V i) := by
  rcases h with h | h
  · omega
  · exact h
theorem Row.srcC {e : TypeId} {f : Nat → Value} (h : Row w e 1 a n cap f) : SrcC w a n f := by
  by_cases hn : n = 0
  · exact .inl hn
  · obtain ⟨g, rfl, -⟩ := h.form (by omega)
    exact .inr ⟨g, 0, rfl, fun i hi => by have := h.cell i (by omega); simpa using this⟩
theorem SrcC.congr (h : SrcC w a n V) {U : Nat → Value} (hu : ∀ i, i < n → U i = V i) : SrcC w a n U := by
  rcases h with h | ⟨b, o, rfl, h⟩
  · exact .inl h
  · exact .inr ⟨b, o, rfl, fun i hi => by rw [hu i hi]; exact h i hi⟩

set_option maxHeartbeats 1000000 in
theorem ints_src (h : SrcC w a n (fun i => .int .i64 (F i))) (h' : SrcC w a' n (fun i => .int .i64 (F i))) (hn : n ≤ 1000000) :
    Calls Try.prog 15 #[.slice a n cap, .slice a' n cap'] w fun e w' => e = .returned (.bool true) ∧ Ch Nil w w' := by
  have H := Lib.hid h
  have H' := Lib.hid h'
  clear h h'
  go_enter Try.func15, Try.ntmps15
  go_wp2
  go_loopw [5] (fun i wr => ∃ k : Nat, k ≤ n ∧ i = .int .i64 k ∧ Ch Nil w wr) (fun i _ => n - (intOf i).toNat)
  case atStart => exact ⟨0, by omega, rfl, Ch.refl _ _⟩
  case round =>
    obtain ⟨k, hk, rfl, hc⟩ := hrel
    have HC := Lib.hid hc
    by_cases hlt : k < n
    · obtain ⟨g, o, rfl, q⟩ := H.out.form (by omega)
      obtain ⟨g', o', rfl, q'⟩ := H'.out.form (by omega)
      replace q := hc.keeps (q k hlt) (fun e => e)
      replace q' := hc.keeps (q' k hlt) (fun e => e)
      clear hc
      have hkz : (k : Int) < (n : Int) := by omega
      have hkz0 : (0 : Int) ≤ (k : Int) := by omega
      go_wp2
      go_quiet (fail)
      go_wp2
      go_roundw
      case rel => exact ⟨k + 1, by omega, by go_num, HC.out.drewN _⟩
      case measure => simp [intOf]; omega
    · obtain rfl : k = n := by omega
      clear hc
      go_wp2
      go_ret
      exact ⟨rfl, HC.out⟩

end
end Go.Proofs.Ytjaalkjdpgnfjaa
