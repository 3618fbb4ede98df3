/-
  slices.partialInsertionSortOrdered at uint64.
-/
import Derived.Test.YtpihlchocjdpmaaSortMem
import Derived.Deep.Cut
import Derived.Deep.CutRange
import Derived.Deep.CutBlock
namespace Go.Proofs.Ytpihlchocjdpmaa
open Go.RowKit Go.Sort Verge
set_option linter.unusedVariables false
set_option linter.unusedSimpArgs false
section
variable {α : Type} [Inhabited α] (lt : α → α → Bool)
theorem ss_go (d : Array α) (b i : Nat) (h : i < b) (hl : lt d[i]! d[i - 1]! = false) : scanSorted lt d b i = scanSorted lt d b (i + 1) := by
  rw [scanSorted, if_pos (by simp [h, hl])]
theorem ss_stop (d : Array α) (b i : Nat) (h : b ≤ i ∨ lt d[i]! d[i - 1]! = true) : scanSorted lt d b i = i := by
  rw [scanSorted, if_neg]
  simp only [Bool.and_eq_true, decide_eq_true_eq]
  rintro ⟨h1, h2⟩
  rcases h with h | h
  · omega
  · rw [h] at h2; cases h2
theorem sw_go (d : Array α) (j : Nat) (hl : lt d[j + 1]! d[j]! = true) : shiftDown lt (j + 1) d = shiftDown lt j (swp d (j + 1) j) := by
  rw [shiftDown, if_neg (by simp [hl])]
theorem sw_stop (d : Array α) (j : Nat) (hl : lt d[j + 1]! d[j]! = false) : shiftDown lt (j + 1) d = d := by
  rw [shiftDown, if_pos (by simp [hl])]
theorem sx_go (d : Array α) (b j : Nat) (h : j + 1 < b) (hl : lt d[j + 1]! d[j]! = true) : shiftUp lt b (j + 1) d = shiftUp lt b (j + 2) (swp d (j + 1) j) := by
  rw [shiftUp, if_pos h, if_neg (by simp [hl])]
  rfl
theorem sx_stop (d : Array α) (b j : Nat) (hl : lt d[j + 1]! d[j]! = false) : shiftUp lt b (j + 1) d = d := by
  rw [shiftUp]
  split
  · rw [if_pos (by simp [hl])]
  · rfl
theorem sx_end (d : Array α) (b j : Nat) (h : ¬ j < b) : shiftUp lt b j d = d := by
  rw [shiftUp, if_neg h]
/-- one step of partialIns -/
theorem pi_true (a b s i : Nat) (d : Array α) (h : scanSorted lt d b i = b) : partialIns lt a b (s + 1) i d = (d, true) := by
  simp only [partialIns]; rw [if_pos h]
theorem pi_false (a b s i : Nat) (d : Array α) (h : scanSorted lt d b i ≠ b) (h50 : b - a < 50) : partialIns lt a b (s + 1) i d = (d, false) := by
  simp only [partialIns]; rw [if_neg h, if_pos h50]
theorem pi_go (a b s i k : Nat) (d d1 d2 d3 : Array α) (hk : scanSorted lt d b i = k) (h : k ≠ b) (h50 : ¬ b - a < 50) (h1 : d1 = swp d k (k - 1)) (h2 : d2 = if k - a ≥ 2 then shiftDown lt (k - 1) d1 else d1) (h3 : d3 = if b - k ≥ 2 then shiftUp lt b (k + 1) d2 else d2) :
    partialIns lt a b (s + 1) i d = partialIns lt a b s k d3 := by
  simp only [partialIns]; rw [hk, if_neg h, if_neg h50, ← h1, ← h2, ← h3]
end
/-- where the scan stops -/
def ScD (w : World) (g cap n : Nat) (dk : Array Nat) (b i : Nat) (v : Value) (wc : World) : Prop := ∃ k : Nat, v = .int .i64 (k : Nat) ∧ scanSorted ltN dk b i = k ∧ i ≤ k ∧ k ≤ b ∧ UR w g cap n dk wc

set_option maxRecDepth 100000 in
set_option maxHeartbeats 8000000 in
theorem pins_of {w : World} {g cap n : Nat} {d : Array Nat} (h : UR w g cap n d w) (a b : Nat) (hab : a < b) (hb : b ≤ n) (hn : n ≤ 1000000) :
    Calls Try.prog 43 #[.slice (some ⟨g, 0, none⟩) n cap, .int .i64 (a : Nat), .int .i64 (b : Nat)] w fun e w' => e = .returned (.bool (partialInsertionSort ltN d a b).2) ∧ UR w g cap n (partialInsertionSort ltN d a b).1 w' := by
  have H := Lib.hid h
  clear h
  obtain ⟨r, hr⟩ : ∃ r, r = partialInsertionSort ltN d a b := ⟨_, rfl⟩
  rw [← hr]
  have HR0 := Lib.hid (show partialIns ltN a b 5 (a + 1) d = r from hr.symm)
  clear hr
  go_enter Try.func43, Try.ntmps43
  go_wp2
  go_loopw [7, 8] (fun u v wr => ∃ (i s : Nat) (dk : Array Nat), u = .int .i64 (i : Nat) ∧ v = .int .i64 (5 - (s : Int)) ∧ s ≤ 5 ∧ a < i ∧ i ≤ b ∧ Hid (UR w g cap n dk wr ∧ partialIns ltN a b s i dk = r)) (fun u v _ => (5 - intOf v).toNat)
  case atStart => exact ⟨a + 1, 5, d, by go_num, rfl, by omega, by omega, by omega, Lib.hid ⟨H.out, HR0.out⟩⟩
  case round =>
    obtain ⟨i, s, dk, rfl, rfl, hs5, hai, hib, HR⟩ := hrel
    rcases Nat.eq_zero_or_pos s with rfl | hsp
    · rw [show (5 : Int) - ((0 : Nat) : Int) = 5 from rfl]
      have hz : r = (dk, false) := HR.out.2.symm
      go_wp2
      go_ret
      exact ⟨by rw [hz]; rfl, by rw [hz]; exact HR.out.1⟩
    · obtain ⟨s, rfl⟩ : ∃ t, s = t + 1 := ⟨s - 1, by omega⟩
      obtain ⟨cv, hcv⟩ : ∃ cv : Int, cv = 5 - ((s + 1 : Nat) : Int) := ⟨_, rfl⟩
      have hcv1 : cv < 5 := by omega
      have hcv0 : 0 ≤ cv := by omega
      rw [← hcv]
      have HCV := Lib.hid hcv
      clear hcv
      have HU := Lib.hid HR.out.1
      go_upto_block 2 with (fail)
      go_cut [7] from 17 to 132 (fun v wc => Hid (ScD w g cap n dk b i v wc))
      case first =>
        go_wp2
        go_loopw [7] (fun v wr => ∃ ii, v = .int .i64 (ii : Nat) ∧ i ≤ ii ∧ ii ≤ b ∧ Hid (UR w g cap n dk wr ∧ scanSorted ltN dk b ii = scanSorted ltN dk b i)) (fun v _ => b - (intOf v).toNat)
        case atStart => exact ⟨i, rfl, by omega, by omega, Lib.hid ⟨HU.out, rfl⟩⟩
        case round =>
          obtain ⟨ii, rfl, hi1, hi2, HI⟩ := hrel
          by_cases hlt : ii < b
          · obtain ⟨k, rfl⟩ : ∃ k, ii = k + 1 := ⟨ii - 1, by omega⟩
            have z1 : (k : Int) + 1 < (b : Int) := by omega
            have z2 : (k : Int) + 1 < (n : Int) := by omega
            have z3 : (k : Int) < (n : Int) := by omega
            have z4 : (0 : Int) ≤ (k : Int) + 1 := by omega
            have hwk := IntWalk.i64_in (k : Int) (by omega)
            obtain ⟨x, hx⟩ : ∃ x, x = dk[k + 1]! := ⟨_, rfl⟩
            have c1 : wr.cell? ⟨g, k + 1, none⟩ = some (.int .u64 (x : Nat)) := by rw [hx]; exact HI.out.1.cell (k + 1) (by omega)
            have f1 := HI.out.1.fz (k + 1)
            have HX := Lib.hid hx
            clear hx
            obtain ⟨y, hy⟩ : ∃ x, x = dk[k]! := ⟨_, rfl⟩
            have c2 : wr.cell? ⟨g, k, none⟩ = some (.int .u64 (y : Nat)) := by rw [hy]; exact HI.out.1.cell (k) (by omega)
            have f2 := HI.out.1.fz (k)
            have HY := Lib.hid hy
            clear hy
            cases hl : ltN x y with
            | false =>
              have HL := Lib.hid hl
              go_wp2
              go_quiet (first | (go_at_call 44; refine Calls.quiet_of_same (less_of _ _ _)))
              go_wp2
              go_roundw
              case rel => exact ⟨k + 2, by go_num, by omega, by omega, Lib.hid ⟨HI.out.1.drewN _, by rw [← HI.out.2, ss_go ltN dk b (k + 1) hlt (by have h := HL.out; rw [HX.out, HY.out] at h; exact h)]⟩⟩
              case measure => simp [intOf]; omega
            | true =>
              have HL := Lib.hid hl
              go_wp2
              go_quiet (first | (go_at_call 44; refine Calls.quiet_of_same (less_of _ _ _)))
              go_wp2
              go_meet
              case rel => exact Lib.hid ⟨k + 1, rfl, by rw [← HI.out.2, ss_stop ltN dk b (k + 1) (.inr (by have h := HL.out; rw [HX.out, HY.out] at h; exact h))], by omega, by omega, HI.out.1.drewN _⟩
          · have z1 : ¬ (ii : Int) < (b : Int) := by omega
            have z2 : decide ((ii : Int) < (b : Int)) = false := decide_eq_false z1
            go_wp2
            go_quiet (first | (go_at_call 44; refine Calls.quiet_of_same (less_of _ _ _)))
            go_wp2
            go_meet
            case rel => exact Lib.hid ⟨ii, rfl, by rw [← HI.out.2, ss_stop ltN dk b ii (.inl (by omega))], by omega, by omega, HI.out.1.drewN _⟩
      case rest =>
        obtain ⟨k, rfl, hk, hik, hkb, hu⟩ := hcut.out
        have HK := Lib.hid hk
        replace HU := Lib.hid hu
        clear hcut hu hk
        by_cases hkeq : k = b
        · subst hkeq
          have hz : r = (dk, true) := by rw [← HR.out.2, pi_true ltN a k s i dk HK.out]
          have HZ := Lib.hid hz
          clear hz
          go_wp2
          go_ret
          exact ⟨by rw [HZ.out]; rfl, by rw [HZ.out]; exact HU.out⟩
        · have z1 : (k : Int) ≠ (b : Int) := by omega
          have z1b : ((k : Int) == (b : Int)) = false := beq_eq_false_iff_ne.2 z1
          by_cases h50 : b - a < 50
          · have z2 : (b : Int) - (a : Int) < 50 := by omega
            have hz : r = (dk, false) := by rw [← HR.out.2, pi_false ltN a b s i dk (by rw [HK.out]; exact hkeq) h50]
            have HZ := Lib.hid hz
            clear hz
            go_wp2
            go_ret
            exact ⟨by rw [HZ.out]; rfl, by rw [HZ.out]; exact HU.out⟩
          · have z2 : ¬ (b : Int) - (a : Int) < 50 := by omega
            obtain ⟨m, rfl⟩ : ∃ m, k = m + 1 := ⟨k - 1, by omega⟩
            have GO := Lib.hid (fun d1 d2 d3 h1 h2 h3 => pi_go ltN a b s i (m + 1) dk d1 d2 d3 HK.out hkeq h50 h1 h2 h3)
            have z3 : (m : Int) + 1 < (n : Int) := by omega
            have z4 : (m : Int) < (n : Int) := by omega
            have z5 : (0 : Int) ≤ (m : Int) + 1 := by omega
            have z6 : (m : Int) + 1 < (b : Int) := by omega
            have z7 : (a : Int) ≤ (m : Int) := by omega
            have hwm := IntWalk.i64_in (m : Int) (by omega)
            clear h50
            obtain ⟨x, hx⟩ : ∃ x, x = dk[m + 1]! := ⟨_, rfl⟩
            have c1 : wc.cell? ⟨g, m + 1, none⟩ = some (.int .u64 (x : Nat)) := by rw [hx]; exact HU.out.cell (m + 1) (by omega)
            have f1 := HU.out.fz (m + 1)
            have HX := Lib.hid hx
            clear hx
            obtain ⟨y, hy⟩ : ∃ x, x = dk[m]! := ⟨_, rfl⟩
            have c2 : wc.cell? ⟨g, m, none⟩ = some (.int .u64 (y : Nat)) := by rw [hy]; exact HU.out.cell (m) (by omega)
            have f2 := HU.out.fz (m)
            have HY := Lib.hid hy
            clear hy
            go_wp2
            go_region
            all_goals go_upto_if 61 with (fail)
            obtain ⟨d1, hd1⟩ : ∃ d1, d1 = swp dk (m + 1) m := ⟨_, rfl⟩
            have U1 : Hid (UR w g cap n d1 (((wc.setCell ⟨g, m + 1, none⟩ (.int .u64 (y : Nat))).setCell ⟨g, m, none⟩ (.int .u64 (x : Nat))).drew)) := Lib.hid (by rw [hd1]; exact HU.out.swpD (i := m + 1) (j := m) (by omega) (by omega) HX.out HY.out)
            have HD1 := Lib.hid hd1
            clear hd1
            generalize World.drew _ = W1 at U1 ⊢
            clear c1 c2 f1 f2 HU HX HY HK HR0
            go_cut [9] from 62 to 132 (fun v wc => Hid (UR w g cap n (if (m + 1) - a ≥ 2 then shiftDown ltN m d1 else d1) wc))
            case first =>
              by_cases h2 : (m + 1) - a ≥ 2
              · have y1 : (2 : Int) ≤ (m : Int) + 1 - (a : Int) := by omega
                go_wp2
                go_loopw [9] (fun v wr => ∃ (j : Nat) (dj : Array Nat), v = .int .i64 (j : Nat) ∧ j ≤ m ∧ Hid (UR w g cap n dj wr ∧ shiftDown ltN j dj = shiftDown ltN m d1)) (fun v _ => (intOf v).toNat)
                case atStart => exact ⟨m, d1, rfl, by omega, Lib.hid ⟨U1.out, rfl⟩⟩
                case round =>
                  obtain ⟨j, dj, rfl, hjm, HJ⟩ := hrel
                  rcases Nat.eq_zero_or_pos j with rfl | hjp
                  · rw [show ((0 : Nat) : Int) = 0 from rfl]
                    go_wp2
                    go_meet
                    case rel => exact Lib.hid (by rw [if_pos h2, ← HJ.out.2]; exact HJ.out.1)
                  · obtain ⟨t, rfl⟩ : ∃ t, j = t + 1 := ⟨j - 1, by omega⟩
                    have y2 : (1 : Int) ≤ (t : Int) + 1 := by omega
                    have y3 : (t : Int) + 1 < (n : Int) := by omega
                    have y4 : (t : Int) < (n : Int) := by omega
                    have y5 : (0 : Int) ≤ (t : Int) + 1 := by omega
                    have hwt := IntWalk.i64_in (t : Int) (by omega)
                    obtain ⟨x, hx⟩ : ∃ x, x = dj[t + 1]! := ⟨_, rfl⟩
                    have c1 : wr.cell? ⟨g, t + 1, none⟩ = some (.int .u64 (x : Nat)) := by rw [hx]; exact HJ.out.1.cell (t + 1) (by omega)
                    have f1 := HJ.out.1.fz (t + 1)
                    have HX := Lib.hid hx
                    clear hx
                    obtain ⟨y, hy⟩ : ∃ x, x = dj[t]! := ⟨_, rfl⟩
                    have c2 : wr.cell? ⟨g, t, none⟩ = some (.int .u64 (y : Nat)) := by rw [hy]; exact HJ.out.1.cell (t) (by omega)
                    have f2 := HJ.out.1.fz (t)
                    have HY := Lib.hid hy
                    clear hy
                    cases hl : ltN x y with
                    | false =>
                      have HL := Lib.hid hl
                      go_wp2
                      go_quiet (first | (go_at_call 44; refine Calls.quiet_of_same (less_of _ _ _)))
                      go_wp2
                      go_meet
                      case rel => exact Lib.hid (by rw [if_pos h2, ← HJ.out.2, sw_stop ltN dj t (by have h := HL.out; rw [HX.out, HY.out] at h; exact h)]; exact HJ.out.1.drewN _)
                    | true =>
                      have HL := Lib.hid hl
                      go_wp2
                      go_quiet (first | (go_at_call 44; refine Calls.quiet_of_same (less_of _ _ _)))
                      go_wp2
                      generalize hX : wr.drewN nq = X at *
                      replace c1 : X.cell? ⟨g, t + 1, none⟩ = some (.int .u64 (x : Nat)) := by rw [← hX]; exact c1
                      replace f1 : X.frozen? ⟨g, t + 1, none⟩ = false := by rw [← hX]; exact f1
                      replace c2 : X.cell? ⟨g, t, none⟩ = some (.int .u64 (y : Nat)) := by rw [← hX]; exact c2
                      replace f2 : X.frozen? ⟨g, t, none⟩ = false := by rw [← hX]; exact f2
                      have HXX := Lib.hid hX
                      clear hX
                      clear hl
                      go_region
                      all_goals go_wp2
                      go_roundw
                      case rel => exact ⟨t, _, by go_num, by omega, Lib.hid ⟨(HXX.out ▸ HJ.out.1.drewN _).swpD (by omega) (by omega) HX.out HY.out, by rw [← HJ.out.2, sw_go ltN dj t (by have h := HL.out; rw [HX.out, HY.out] at h; exact h)]⟩⟩
                      case measure => simp [intOf]; try omega
              · have y1 : ¬ (2 : Int) ≤ (m : Int) + 1 - (a : Int) := by omega
                go_wp2
                go_meet
                case rel => exact Lib.hid (by rw [if_neg h2]; exact U1.out)
            case rest =>
              obtain ⟨d2, hd2⟩ : ∃ d2, d2 = if (m + 1) - a ≥ 2 then shiftDown ltN m d1 else d1 := ⟨_, rfl⟩
              rw [← hd2] at hcut
              have HD2 := Lib.hid hd2
              replace U1 := hcut
              clear hcut hd2
              have hw5 := IntWalk.i64_in (cv + 1) (by omega)
              by_cases h2 : b - (m + 1) ≥ 2
              · have y1 : (2 : Int) ≤ (b : Int) - ((m : Int) + 1) := by omega
                go_wp2
                go_loopw [10] (fun v wr => ∃ (j : Nat) (dj : Array Nat), v = .int .i64 ((j : Int) + 1) ∧ m < j ∧ j < b ∧ Hid (UR w g cap n dj wr ∧ shiftUp ltN b (j + 1) dj = shiftUp ltN b (m + 2) d2)) (fun v _ => b + 1 - (intOf v).toNat)
                case atStart => exact ⟨m + 1, d2, by go_num, by omega, by omega, Lib.hid ⟨U1.out, rfl⟩⟩
                case round =>
                  obtain ⟨t, dj, rfl, hjm, htb, HJ⟩ := hrel
                  by_cases hlt : t + 1 < b
                  · have y2 : (t : Int) + 1 < (b : Int) := by omega
                    have y3 : (t : Int) + 1 < (n : Int) := by omega
                    have y4 : (t : Int) < (n : Int) := by omega
                    have y5 : (0 : Int) ≤ (t : Int) + 1 := by omega
                    have hwt := IntWalk.i64_in (t : Int) (by omega)
                    obtain ⟨x, hx⟩ : ∃ x, x = dj[t + 1]! := ⟨_, rfl⟩
                    have c1 : wr.cell? ⟨g, t + 1, none⟩ = some (.int .u64 (x : Nat)) := by rw [hx]; exact HJ.out.1.cell (t + 1) (by omega)
                    have f1 := HJ.out.1.fz (t + 1)
                    have HX := Lib.hid hx
                    clear hx
                    obtain ⟨y, hy⟩ : ∃ x, x = dj[t]! := ⟨_, rfl⟩
                    have c2 : wr.cell? ⟨g, t, none⟩ = some (.int .u64 (y : Nat)) := by rw [hy]; exact HJ.out.1.cell (t) (by omega)
                    have f2 := HJ.out.1.fz (t)
                    have HY := Lib.hid hy
                    clear hy
                    cases hl : ltN x y with
                    | false =>
                      have HL := Lib.hid hl
                      go_wp2
                      go_quiet (first | (go_at_call 44; refine Calls.quiet_of_same (less_of _ _ _)))
                      go_wp2
                      go_roundw
                      case rel => exact ⟨m + 1, s, _, by go_num, by have := HCV.out; first | go_num | (congr 1; omega), by omega, by omega, by omega, Lib.hid ⟨(show UR w g cap n (if b - (m + 1) ≥ 2 then shiftUp ltN b (m + 2) d2 else d2) _ from (by rw [if_pos h2, ← HJ.out.2, sx_stop ltN dj b t (by have h := HL.out; rw [HX.out, HY.out] at h; exact h)]; exact HJ.out.1.drewN _)), by rw [← HR.out.2]; exact (GO.out _ _ _ HD1.out HD2.out rfl).symm⟩⟩
                      case measure => simp [intOf]; try omega
                    | true =>
                      have HL := Lib.hid hl
                      go_wp2
                      go_quiet (first | (go_at_call 44; refine Calls.quiet_of_same (less_of _ _ _)))
                      go_wp2
                      generalize hX : wr.drewN nq = X at *
                      replace c1 : X.cell? ⟨g, t + 1, none⟩ = some (.int .u64 (x : Nat)) := by rw [← hX]; exact c1
                      replace f1 : X.frozen? ⟨g, t + 1, none⟩ = false := by rw [← hX]; exact f1
                      replace c2 : X.cell? ⟨g, t, none⟩ = some (.int .u64 (y : Nat)) := by rw [← hX]; exact c2
                      replace f2 : X.frozen? ⟨g, t, none⟩ = false := by rw [← hX]; exact f2
                      have HXX := Lib.hid hX
                      clear hX
                      clear hl
                      go_region
                      all_goals go_wp2
                      go_roundw
                      case rel => exact ⟨t + 1, _, by go_num, by omega, by omega, Lib.hid ⟨(HXX.out ▸ HJ.out.1.drewN _).swpD (by omega) (by omega) HX.out HY.out, by rw [← HJ.out.2, sx_go ltN dj b t hlt (by have h := HL.out; rw [HX.out, HY.out] at h; exact h)]⟩⟩
                      case measure => simp [intOf]; try omega
                  · have y2 : ¬ (t : Int) + 1 < (b : Int) := by omega
                    go_wp2
                    go_roundw
                    case rel => exact ⟨m + 1, s, _, by go_num, by have := HCV.out; first | go_num | (congr 1; omega), by omega, by omega, by omega, Lib.hid ⟨(show UR w g cap n (if b - (m + 1) ≥ 2 then shiftUp ltN b (m + 2) d2 else d2) _ from (by rw [if_pos h2, ← HJ.out.2, sx_end ltN dj b (t + 1) hlt]; exact HJ.out.1)), by rw [← HR.out.2]; exact (GO.out _ _ _ HD1.out HD2.out rfl).symm⟩⟩
                    case measure => simp [intOf]; try omega
              · have y1 : ¬ (2 : Int) ≤ (b : Int) - ((m : Int) + 1) := by omega
                go_wp2
                go_roundw
                case rel => exact ⟨m + 1, s, _, by go_num, by have := HCV.out; first | go_num | (congr 1; omega), by omega, by omega, by omega, Lib.hid ⟨(show UR w g cap n (if b - (m + 1) ≥ 2 then shiftUp ltN b (m + 2) d2 else d2) _ from (by rw [if_neg h2]; exact U1.out)), by rw [← HR.out.2]; exact (GO.out _ _ _ HD1.out HD2.out rfl).symm⟩⟩
                case measure => simp [intOf]; try omega
end Go.Proofs.Ytpihlchocjdpmaa
