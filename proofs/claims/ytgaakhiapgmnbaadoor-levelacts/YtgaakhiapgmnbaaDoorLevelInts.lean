/-
  The statements' comparison of a row of one's own with one that came in; what a level tells, as numbers.
-/
import Derived.Test.YtgaakhiapgmnbaaDoorListInts
import Derived.Test.YtgaakhiapgmnbaaDoorIsRow
import Derived.Test.YtgaakhiapgmnbaaDoorLevelTake
namespace Go.Proofs.YtgaakhiapgmnbaaDoor
open Go.RowKit LI
attribute [local go_sem] Oper.semAt_some
set_option linter.unusedVariables false
section
variable {S : Nat → Prop} {w w' : World} {a a' : Option Addr} {n cap cap' : Nat} {F : Nat → Int}
theorem RowE.ints {xs : List Nat} {V : Nat → Int} (h : RowE w a n cap (valAt xs V)) : RowI w a n cap (fun i => V (xs.getD i 0)) := h
set_option maxHeartbeats 1000000 in
theorem ints_in {zs : List Int} {w0 : World} (h : RowI w a n cap F) (h' : IsRow .i64 w0 a' n cap' zs) (hF : ∀ i, i < n → F i = zs.getD i 0) (c0 : Ch Nil w0 w) (hn : n ≤ 1000000) :
    Calls Tryd.prog 14 #[.slice a n cap, .slice a' n cap'] w fun e w' => e = .returned (.bool true) ∧ Ch Nil w w' := by
  have H := Lib.hid h
  have H' := Lib.hid h'
  have HF := Lib.hid hF
  have C0 := Lib.hid c0
  clear h h' hF c0
  go_enter Tryd.func14, Tryd.ntmps14
  go_wp2
  go_loopw [5] (fun i wr => ∃ k : Nat, k ≤ n ∧ i = .int .i64 k ∧ Ch Nil w wr) (fun i _ => n - (intOf i).toNat)
  case atStart => exact ⟨0, by omega, rfl, Ch.refl _ _⟩
  case round =>
    obtain ⟨k, hk, rfl, hc⟩ := hrel
    have HC := Lib.hid hc
    by_cases hlt : k < n
    · obtain ⟨g, rfl, -⟩ := H.out.form (by omega)
      obtain ⟨x, rfl, hc', -⟩ := H'.out.item hlt
      have q := hc.keeps (H.out.cell k (by omega)) (fun e => e)
      have q' := (C0.out.trans hc).keeps hc' (fun e => e)
      rw [HF.out k hlt] at q
      generalize zs.getD k 0 = z at *
      have lc := H.out.len_cap
      have hkz : (k : Int) < (n : Int) := by omega
      have hkz0 : (0 : Int) ≤ (k : Int) := by omega
      clear hc hc'
      go_wp2
      go_quiet (fail)
      go_wp2
      go_roundw
      case rel => exact ⟨k + 1, by omega, by go_num, HC.out.drewN _⟩
      case measure => simp [intOf]; omega
    · obtain rfl : k = n := by omega
      clear hc
      go_wp2
      go_ret
      exact ⟨rfl, HC.out⟩
end
end Go.Proofs.YtgaakhiapgmnbaaDoor
