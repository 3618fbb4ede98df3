/-
  The statements' comparison of two rows of numbers: the same numbers are found the same.
-/
import Derived.Test.YtjaalkjdpgnfjaaOwnRow
import Derived.WalkKit
import Derived.Deep.QuietTactic
import Derived.BigQuiet
namespace Go.Proofs.Ytjaalkjdpgnfjaa
open Go.RowKit
attribute [local go_sem] Oper.semAt_some
set_option linter.unusedVariables false
/-- a row of numbers of one's own -/
def RowI (w : World) (a : Option Addr) (n cap : Nat) (F : Nat → Int) : Prop := Row w 3 1 a n cap (fun i => .int .i64 (F i))
section
variable {S : Nat → Prop} {w w' : World} {a a' : Option Addr} {n cap cap' : Nat} {F : Nat → Int}
theorem RowI.kept (h : RowI w a n cap F) (c : Ch S w w') (hn : ∀ k, OwnS a k → ¬ S k) : RowI w' a n cap F := Row.kept h c hn
theorem RowI.congr (h : RowI w a n cap F) (G : Nat → Int) (hg : ∀ i, i < n → G i = F i) : RowI w a n cap G := Row.congr h _ (fun i hi => by rw [hg i (by simpa using hi)])

set_option maxHeartbeats 1000000 in
theorem ints_same (h : RowI w a n cap F) (h' : RowI w a' n cap' F) (hn : n ≤ 1000000) :
    Calls Try.prog 15 #[.slice a n cap, .slice a' n cap'] w fun e w' => e = .returned (.bool true) ∧ Ch Nil w w' := by
  have H := Lib.hid h
  have H' := Lib.hid h'
  clear h h'
  go_enter Try.func15, Try.ntmps15
  go_wp2
  go_loopw [5] (fun i wr => ∃ k : Nat, k ≤ n ∧ i = .int .i64 k ∧ Ch Nil w wr) (fun i _ => n - (intOf i).toNat)
  case atStart => exact ⟨0, by omega, rfl, Ch.refl _ _⟩
  case round =>
    obtain ⟨k, hk, rfl, hc⟩ := hrel
    have HC := Lib.hid hc
    by_cases hlt : k < n
    · obtain ⟨g, rfl, -⟩ := H.out.form (by omega)
      obtain ⟨g', rfl, -⟩ := H'.out.form (by omega)
      have q := hc.keeps (H.out.cell k (by omega)) (fun e => e)
      have q' := hc.keeps (H'.out.cell k (by omega)) (fun e => e)
      have lc := H.out.len_cap
      have lc' := H'.out.len_cap
      clear hc
      have hkz : (k : Int) < (n : Int) := by omega
      have hkz0 : (0 : Int) ≤ (k : Int) := by omega
      go_wp2
      go_quiet (fail)
      go_wp2
      go_roundw
      case rel => exact ⟨k + 1, by omega, by go_num, HC.out.drewN _⟩
      case measure => simp [intOf]; omega
    · obtain rfl : k = n := by omega
      clear hc
      go_wp2
      go_ret
      exact ⟨rfl, HC.out⟩
end
end Go.Proofs.Ytjaalkjdpgnfjaa
