/-
  Contracts of the statements' own example (alive) and of the document's Has, All, From.
-/
import Derived.Test.YtcmpidlmfbelpaaDoorBitsWalks4
namespace Go.Proofs.YtcmpidlmfbelpaaDoor
open Go.RowKit Go.Shelf Verge
attribute [local go_sem] Oper.semAt_some
set_option linter.unusedVariables false
set_option linter.unusedSimpArgs false

theorem ex_with : withN (withN 0 3) 40 = 1099511627784 := by decide
theorem ex_from4 : fromN 1099511627784 4 = 40 := by decide +kernel
theorem ex_from41 : fromN 1099511627784 41 = -1 := by decide +kernel
theorem ex_round41 : roundN 1099511627784 41 = 3 := by decide +kernel

set_option maxRecDepth 100000 in
theorem alive_any (w : World) (T : Tab w) : Calls Tryd.prog 8 #[] w fun e w' => e = .returned (.bool true) ∧ Ch Nil w w' := by
  have HT := Lib.hid T
  clear T
  have A1 := Lib.hid (with_any 0 3 (by decide))
  have A2 := Lib.hid (with_any (withN 0 3) 40 (by decide))
  rw [ex_with] at A2
  go_enter Tryd.func8, Tryd.ntmps8
  go_wp2_with fail
  refine (A1.out _).mono ?_
  rintro e w' ⟨rfl, rfl⟩
  go_wp2_with fail
  refine (A2.out _).mono ?_
  rintro e w' ⟨rfl, rfl⟩
  go_wp2_with fail
  refine (from_any 1099511627784 4 (by decide) _ HT.out).mono ?_
  rw [ex_from4]
  rintro e w1 ⟨rfl, c1⟩
  have C1 := Lib.hid c1
  have T1 := Lib.hid (HT.out.keeps c1 (fun e => e))
  clear c1
  go_wp2_with fail
  refine (from_any 1099511627784 41 (by decide) _ T1.out).mono ?_
  rw [ex_from41]
  rintro e w2 ⟨rfl, c2⟩
  have C2 := Lib.hid c2
  have T2 := Lib.hid (T1.out.keeps c2 (fun e => e))
  clear c2
  go_wp2_with fail
  refine (round_any 1099511627784 41 (by decide) _ T2.out).mono ?_
  rw [ex_round41]
  rintro e w3 ⟨rfl, c3⟩
  have C3 := Lib.hid c3
  clear c3
  go_wp2
  go_ret
  exact ⟨rfl, (C1.out.trans C2.out).trans C3.out⟩
end Go.Proofs.YtcmpidlmfbelpaaDoor
