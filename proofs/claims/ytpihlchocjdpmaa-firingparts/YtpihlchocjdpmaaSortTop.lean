/-
  slices.Sort at uint64 (rows of fewer than 256, and none): a permutation, that rises.
-/
import Derived.Test.YtpihlchocjdpmaaSortPdq
namespace Go.Proofs.Ytpihlchocjdpmaa
open Go.RowKit Go.Sort Verge
set_option linter.unusedVariables false
set_option linter.unusedSimpArgs false
set_option maxRecDepth 100000 in
set_option maxHeartbeats 8000000 in
theorem sort_of {w : World} {g cap n : Nat} {d : Array Nat} (h : UR w g cap n d w) (hn : n < 256) :
    Calls Try.prog 31 #[.slice (some ⟨g, 0, none⟩) n cap] w fun e w' => e = .returned (.tuple #[]) ∧ ∃ d', PermIn 0 n d d' ∧ SortedIn ltN 0 n d' ∧ UR w g cap n d' w' := by
  have LB := Lib.hid (fun W => len_bits n hn W)
  have hl := bitLen_8 n hn
  generalize Lib.bitLen n = r at LB hl
  have PQ := Lib.hid (pdq_of n w g cap n d 0 n r (by omega) h (by omega) (Nat.le_refl _) hn (by omega) (.inl rfl))
  have hw : IntKind.u64.wrap (n : Int) = (n : Int) := by rw [IntKind.wrap_u64]; omega
  clear h
  go_enter Try.func31, Try.ntmps31
  go_wp2_with fail
  refine (LB.out _).mono ?_
  rintro e w1 ⟨rfl, rfl⟩
  go_wp2_with fail
  refine PQ.out.mono ?_
  rintro e w2 ⟨rfl, hd⟩
  have HD := Lib.hid hd
  clear hd PQ LB
  go_wp2
  go_end0
  exact ⟨rfl, HD.out⟩

theorem ins_nil (w : World) : Calls Try.prog 38 #[.slice none 0 0, .int .i64 0, .int .i64 0] w fun e w' => e = .returned (.tuple #[]) ∧ w' = w := by
  go_enter Try.func38, Try.ntmps38
  go_wp2
  go_loopw [6] (fun v wr => v = .int .i64 1 ∧ wr = w) (fun _ _ => 0)
  case atStart => exact ⟨rfl, rfl⟩
  case round =>
    obtain ⟨rfl, rfl⟩ := hrel
    go_wp2
    go_end0
    exact ⟨rfl, rfl⟩
theorem pdq_nil (w : World) : Calls Try.prog 35 #[.slice none 0 0, .int .i64 0, .int .i64 0, .int .i64 0] w fun e w' => e = .returned (.tuple #[]) ∧ w' = w := by
  go_enter Try.func35, Try.ntmps35
  go_wp2
  go_loopw [1, 2] (fun v u wr => v = .int .i64 0 ∧ u = .int .i64 0 ∧ wr = w) (fun _ _ _ => 0)
  case atStart => exact ⟨rfl, rfl, rfl⟩
  case round =>
    obtain ⟨rfl, rfl, rfl⟩ := hrel
    go_wp2_with fail
    refine (ins_nil _).mono ?_
    rintro e w1 ⟨rfl, rfl⟩
    go_wp2
    refine bodyPost_ret (results_none rfl _ _ _) rfl ?_
    exact ⟨rfl, rfl⟩
theorem sort_nil (w : World) : Calls Try.prog 31 #[.slice none 0 0] w fun e w' => e = .returned (.tuple #[]) ∧ w' = w := by
  have LB := Lib.hid (fun W => len_bits 0 (by omega) W)
  go_enter Try.func31, Try.ntmps31
  go_wp2_with fail
  refine (LB.out _).mono ?_
  rw [show Lib.bitLen 0 = 0 from rfl]
  rintro e w1 ⟨rfl, rfl⟩
  go_wp2_with fail
  refine (pdq_nil _).mono ?_
  rintro e w2 ⟨rfl, rfl⟩
  go_wp2
  go_end0
  exact ⟨rfl, rfl⟩
theorem cmp_nil (w : World) : Calls Try.prog 32 #[.slice none 0 0] w fun e w' => e = .returned (.slice none 0 0) ∧ w' = w := by
  go_enter Try.func32, Try.ntmps32
  go_wp2
  go_ret
  exact ⟨rfl, rfl⟩
end Go.Proofs.Ytpihlchocjdpmaa
