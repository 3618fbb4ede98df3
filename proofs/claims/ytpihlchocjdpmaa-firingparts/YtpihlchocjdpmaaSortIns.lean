/-
  slices.insertionSortOrdered at uint64: it makes of the row what 'Sort.insertionSort' says.
-/
import Derived.Test.YtpihlchocjdpmaaSortMem
namespace Go.Proofs.Ytpihlchocjdpmaa
open Go.RowKit Go.Sort Verge
set_option linter.unusedVariables false
set_option linter.unusedSimpArgs false
section
variable {α : Type} [Inhabited α] (lt : α → α → Bool)
theorem ins_go (a j : Nat) (d : Array α) (hj : a ≤ j) (hl : lt d[j + 1]! d[j]! = true) : insInner lt a (j + 1) d = insInner lt a j (swp d (j + 1) j) := by
  rw [insInner]
  simp only [Bool.and_eq_true, decide_eq_true_eq]
  rw [if_pos ⟨by omega, hl⟩]
theorem ins_no (a j : Nat) (d : Array α) (h : j < a ∨ lt d[j + 1]! d[j]! = false) : insInner lt a (j + 1) d = d := by
  rw [insInner]
  simp only [Bool.and_eq_true, decide_eq_true_eq]
  rw [if_neg]
  rintro ⟨h1, h2⟩
  rcases h with h | h
  · omega
  · rw [h] at h2; cases h2
theorem ins_low (a j : Nat) (d : Array α) (h : j ≤ a) : insInner lt a j d = d := by
  cases j with
  | zero => rw [insInner]
  | succ j => exact ins_no lt a j d (.inl (by omega))
theorem outer_go (a b i : Nat) (d : Array α) (h : i < b) : insOuter lt a b i d = insOuter lt a b (i + 1) (insInner lt a i d) := by
  rw [insOuter, if_pos h]
theorem outer_no (a b i : Nat) (d : Array α) (h : ¬ i < b) : insOuter lt a b i d = d := by
  rw [insOuter, if_neg h]
end

set_option maxRecDepth 100000 in
set_option maxHeartbeats 4000000 in
theorem insSort_of {w : World} {g cap n : Nat} {d : Array Nat} (h : UR w g cap n d w) (a b : Nat) (hab : a ≤ b) (hb : b ≤ n) (hn : n ≤ 1000000) :
    Calls Try.prog 38 #[.slice (some ⟨g, 0, none⟩) n cap, .int .i64 (a : Nat), .int .i64 (b : Nat)] w fun e w' => e = .returned (.tuple #[]) ∧ UR w g cap n (insertionSort ltN d a b) w' := by
  have H := Lib.hid h
  clear h
  go_enter Try.func38, Try.ntmps38
  go_wp2
  go_loopw [6] (fun v wr => ∃ (i : Nat) (dk : Array Nat), v = .int .i64 (i : Nat) ∧ a < i ∧ i ≤ b + 1 ∧ Hid (UR w g cap n dk wr ∧ insOuter ltN a b i dk = insOuter ltN a b (a + 1) d)) (fun v _ => b + 1 - (intOf v).toNat)
  case atStart => exact ⟨a + 1, d, by go_num, by omega, by omega, Lib.hid ⟨H.out, rfl⟩⟩
  case round =>
    obtain ⟨i, dk, rfl, hai, hib, HO⟩ := hrel
    by_cases hlt : i < b
    · have hz : (i : Int) < (b : Int) := by omega
      go_wp2
      go_loopw [7] (fun v wr => ∃ (j : Nat) (dj : Array Nat), v = .int .i64 (j : Nat) ∧ a ≤ j ∧ j ≤ i ∧ Hid (UR w g cap n dj wr ∧ insInner ltN a j dj = insInner ltN a i dk)) (fun v _ => (intOf v).toNat)
      case atStart => exact ⟨i, dk, rfl, by omega, by omega, Lib.hid ⟨HO.out.1, rfl⟩⟩
      case round =>
        obtain ⟨j, dj, rfl, haj, hji, HI⟩ := hrel
        have OUT : Hid (∀ q, insInner ltN a j dj = dj → Hid (UR w g cap n dj (wr.drewN q) ∧ insOuter ltN a b (i + 1) dj = insOuter ltN a b (a + 1) d)) := Lib.hid fun q hq =>
          Lib.hid ⟨HI.out.1.nil ((Ch.refl _ _).drewN q), by rw [← HO.out.2, outer_go _ _ _ _ _ hlt, ← HI.out.2, hq]⟩
        by_cases hja : a < j
        · obtain ⟨k, rfl⟩ : ∃ k, j = k + 1 := ⟨j - 1, by omega⟩
          obtain ⟨x, hx⟩ : ∃ x, x = dj[k + 1]! := ⟨_, rfl⟩
          obtain ⟨y, hy⟩ : ∃ y, y = dj[k]! := ⟨_, rfl⟩
          have c1 : wr.cell? ⟨g, k + 1, none⟩ = some (.int .u64 (x : Nat)) := by rw [hx]; exact HI.out.1.cell (k + 1) (by omega)
          have c2 : wr.cell? ⟨g, k, none⟩ = some (.int .u64 (y : Nat)) := by rw [hy]; exact HI.out.1.cell k (by omega)
          have f1 := HI.out.1.fz (k + 1)
          have f2 := HI.out.1.fz k
          have HX := Lib.hid hx
          have HY := Lib.hid hy
          have k1 : (a : Int) < (k : Int) + 1 := by omega
          have k2 : (k : Int) + 1 - 1 = (k : Int) := by omega
          have k3 : (k : Int) + 1 < (n : Int) := by omega
          have k4 : (k : Int) < (n : Int) := by omega
          have k5 : (0 : Int) ≤ (k : Int) := by omega
          have k6 : (0 : Int) ≤ (k : Int) + 1 := by omega
          have hwk : IntKind.i64.wrap (k : Int) = (k : Int) := IntWalk.i64_in _ (by omega)
          clear hx hy
          go_wp2
          cases hl : ltN x y with
          | true =>
            have HL := Lib.hid hl
            have hlz : ltN x y = true := hl
            clear hl
            go_quiet (first | (go_at_call 44; refine Calls.quiet_of_same (less_of _ _ _)))
            go_wp2
            generalize hX : wr.drewN nq = X at *
            have c3 : X.cell? ⟨g, k + 1, none⟩ = some (.int .u64 (x : Nat)) := by rw [← hX]; exact c1
            have c4 : X.cell? ⟨g, k, none⟩ = some (.int .u64 (y : Nat)) := by rw [← hX]; exact c2
            have f3 : X.frozen? ⟨g, k + 1, none⟩ = false := by rw [← hX]; exact f1
            have f4 : X.frozen? ⟨g, k, none⟩ = false := by rw [← hX]; exact f2
            have HXX := Lib.hid hX
            clear hX c1 c2 f1 f2 hlz
            go_region
            all_goals go_wp2
            go_roundw
            case rel => exact ⟨k, _, rfl, by omega, by omega, Lib.hid ⟨(HXX.out ▸ HI.out.1.drewN nq).swpD (by omega) (by omega) HX.out HY.out, by rw [← HI.out.2, ins_go ltN a k dj (by omega) (by rw [← HX.out, ← HY.out]; exact HL.out)]⟩⟩
            case measure => simp [intOf]
          | false =>
            have hlz : ltN x y = false := hl
            have O := Lib.hid fun q => OUT.out q (ins_no ltN a k dj (.inr (by rw [← HX.out, ← HY.out]; exact hl)))
            clear hl
            go_quiet (first | (go_at_call 44; refine Calls.quiet_of_same (less_of _ _ _)))
            go_wp2
            go_roundw
            case rel => exact ⟨i + 1, dj, by go_num, by omega, by omega, O.out _⟩
            case measure => simp [intOf]; omega
        · have k1 : ¬ (a : Int) < (j : Int) := by omega
          have k2 : decide ((a : Int) < (j : Int)) = false := decide_eq_false k1
          have O := Lib.hid fun q => OUT.out q (ins_low ltN a j dj (by omega))
          go_wp2
          go_quiet (first | (go_at_call 44; refine Calls.quiet_of_same (less_of _ _ _)))
          go_wp2
          go_roundw
          case rel => exact ⟨i + 1, dj, by go_num, by omega, by omega, O.out _⟩
          case measure => simp [intOf]; omega
    · have hz : ¬ (i : Int) < (b : Int) := by omega
      go_wp2
      go_end0
      exact ⟨rfl, by have := HO.out; rw [outer_no _ _ _ _ _ hlt] at this; unfold Sort.insertionSort; rw [← this.2]; exact this.1⟩
end Go.Proofs.Ytpihlchocjdpmaa
