/-
  slices.reverseRangeOrdered at uint64.
-/
import Derived.Test.YtpihlchocjdpmaaSortMem
import Derived.Sort.LotB
namespace Go.Proofs.Ytpihlchocjdpmaa
open Go.RowKit Go.Sort Verge
set_option linter.unusedVariables false
set_option linter.unusedSimpArgs false
set_option maxRecDepth 100000 in
set_option maxHeartbeats 8000000 in
theorem rev_of {w : World} {g cap n : Nat} {d : Array Nat} (h : UR w g cap n d w) (a b : Nat) (hab : a < b) (hb : b ≤ n) (hn : n ≤ 1000000) :
    Calls Try.prog 42 #[.slice (some ⟨g, 0, none⟩) n cap, .int .i64 (a : Nat), .int .i64 (b : Nat)] w fun e w' => e = .returned (.tuple #[]) ∧ UR w g cap n (reverseRange d a b) w' := by
  obtain ⟨B, hB⟩ : ∃ B, b = B + 1 := ⟨b - 1, by omega⟩
  have e0 : (b : Int) - 1 = (B : Int) := by omega
  have hwB := IntWalk.i64_in (B : Int) (by omega)
  have hdef : reverseRange d a b = reverseLoop a B d := by subst hB; rfl
  have hBn : B < n := by omega
  have haB : a ≤ B := by omega
  have H := Lib.hid h
  rw [hdef]
  clear h hB hdef
  go_enter Try.func42, Try.ntmps42
  go_wp2
  go_loopw [6, 7] (fun u v wr => ∃ (i j : Nat) (dk : Array Nat), u = .int .i64 (i : Nat) ∧ v = .int .i64 (j : Nat) ∧ j ≤ B ∧ Hid (UR w g cap n dk wr ∧ reverseLoop i j dk = reverseLoop a B d)) (fun u v _ => (intOf v).toNat)
  case atStart => exact ⟨a, B, d, rfl, rfl, by omega, Lib.hid ⟨H.out, rfl⟩⟩
  case round =>
    obtain ⟨i, j, dk, rfl, rfl, hjB, HR⟩ := hrel
    by_cases hlt : i < j
    · obtain ⟨J, rfl⟩ : ∃ J, j = J + 1 := ⟨j - 1, by omega⟩
      have z1 : (i : Int) < (J : Int) + 1 := by omega
      have z2 : (i : Int) < (n : Int) := by omega
      have z3 : (J : Int) + 1 < (n : Int) := by omega
      have z4 : (0 : Int) ≤ (J : Int) + 1 := by omega
      have hne : i ≠ J + 1 := by omega
      have hwJ := IntWalk.i64_in (J : Int) (by omega)
      obtain ⟨x, hx⟩ : ∃ x, x = dk[i]! := ⟨_, rfl⟩
      have c1 : wr.cell? ⟨g, i, none⟩ = some (.int .u64 (x : Nat)) := by rw [hx]; exact HR.out.1.cell (i) (by omega)
      have f1 := HR.out.1.fz (i)
      have HX := Lib.hid hx
      clear hx
      obtain ⟨y, hy⟩ : ∃ x, x = dk[J + 1]! := ⟨_, rfl⟩
      have c2 : wr.cell? ⟨g, J + 1, none⟩ = some (.int .u64 (y : Nat)) := by rw [hy]; exact HR.out.1.cell (J + 1) (by omega)
      have f2 := HR.out.1.fz (J + 1)
      have HY := Lib.hid hy
      clear hy
      go_wp2
      go_region
      all_goals go_wp2
      go_roundw
      case rel => exact ⟨i + 1, J, _, by go_num, by go_num, by omega, Lib.hid ⟨HR.out.1.swpD (by omega) (by omega) HX.out HY.out, by rw [← HR.out.2, reverseLoop.eq_def i (J + 1) dk, if_pos hlt]; rfl⟩⟩
      case measure => simp [intOf]; try omega
    · have z1 : ¬ (i : Int) < (j : Int) := by omega
      go_wp2
      go_end0
      exact ⟨rfl, by have := HR.out; rw [reverseLoop.eq_def i j dk, if_neg hlt] at this; rw [← this.2]; exact this.1⟩
end Go.Proofs.Ytpihlchocjdpmaa
