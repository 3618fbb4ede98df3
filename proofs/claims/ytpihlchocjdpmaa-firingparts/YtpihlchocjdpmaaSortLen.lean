/-
  math/bits.Len64 below 256.
-/
import Derived.Test.YtpihlchocjdpmaaChecked
import Derived.Lib.Strings
import Derived.Lib.Slices
import Derived.Lib.Small
import Derived.Lib.Walk
import Derived.Lib.BitFns
import Derived.Lib.ItoaNum
namespace Go.Proofs.Ytpihlchocjdpmaa
set_option linter.unusedVariables false

theorem bitLen_two (x : Nat) (hx : x < 256) (h0 : 0 < x) : 2 ^ Lib.bitLen x ≤ 2 * x := by
  have h := (Lib.bitLenAux_bounds 64 x (by omega) (by omega))
  unfold Lib.bitLen
  obtain ⟨h1, h2, -⟩ := h
  obtain ⟨k, hk⟩ : ∃ k, Lib.bitLenAux 64 x = k + 1 := ⟨Lib.bitLenAux 64 x - 1, by omega⟩
  rw [hk] at h2 ⊢
  rw [Nat.add_sub_cancel] at h2
  rw [Nat.pow_succ]
  omega
theorem bitLen_8 (x : Nat) (hx : x < 256) : Lib.bitLen x ≤ 8 := Lib.bitLen_le8 ⟨x, hx⟩

set_option maxHeartbeats 4000000 in
set_option maxRecDepth 100000 in
theorem len64_of (x : Int) (h0 : 0 ≤ x) (hx : x < 256) (w : World) : Calls Try.prog 48 #[.int .u64 x] w fun e w' => e = .returned (.int .i64 ((Lib.bitLen x.toNat : Nat) : Int)) ∧ w' = w := by
  go_enter Try.func48, Try.ntmps48
  go_wp2
  all_goals (go_ret; refine ⟨congrArg Ending.returned (congrArg (Value.int IntKind.i64) ?_), rfl⟩)
  all_goals first
    | (exfalso; omega)
    | (rw [Lib.len8_of (x % 256) (by omega) (by omega)]
       have e : (x % 256).toNat = x.toNat := by omega
       have l := Lib.bitLen_le8' (x % 256) (by omega) (by omega)
       rw [e] at l ⊢
       omega)
end Go.Proofs.Ytpihlchocjdpmaa
