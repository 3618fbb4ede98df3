/-
  Contract of the document's answer for what comes of an event (vergeref02.Next), at every number, event and way.
-/
import Derived.Test.YtjhmmfdmoalfmaaWordWalks6
namespace Go.Proofs.Ytjhmmfdmoalfmaa
open Go.RowKit Verge
attribute [local go_sem] Oper.semAt_some
set_option linter.unusedVariables false

set_option maxHeartbeats 4000000 in
theorem refNext_any (n : Nat) (ev : Int) (per : Bool) (hn : n < 18446744073709551616) (w : World) :
    Calls Try.prog 29 #[.int .u64 n, .int .i64 ev, .bool per] w fun e w' =>
      e = .returned (.tuple #[.int .u64 ((nxZ n ev per).1 : Nat), .int .i64 ((nxZ n ev per).2 : Nat)]) ∧ Below w.heap.size w w' := by
  cases hok : okW n
  · have HO := Lib.hid hok
    rw [nx_form hok]
    clear hok
    go_enter Try.func29, Try.ntmps29
    go_wp2_with fail
    refine (parts_any n hn _).mono ?_
    rintro e w1 ⟨rfl, rfl⟩
    rw [HO.out]
    go_wp2
    go_ret2
    exact ⟨rfl, Below.refl _ _⟩
  · by_cases he : ev < 1 ∨ 10 < ev
    · rw [nx_inv hok he]
      have HO := Lib.hid hok
      clear hok
      rcases he with he | he
      all_goals
        go_enter Try.func29, Try.ntmps29
        go_wp2_with fail
        refine (parts_any n hn _).mono ?_
        rintro e w1 ⟨rfl, rfl⟩
        rw [HO.out]
        go_wp2
        go_ret2
        exact ⟨rfl, Below.refl _ _⟩
    · obtain ⟨k, rfl⟩ := Int.eq_ofNat_of_zero_le (show 0 ≤ ev by omega)
      exact refNext_ok n k per hn hok (by omega) w

end Go.Proofs.Ytjhmmfdmoalfmaa
