/-
  slices.siftDownOrdered, heapSortOrdered at uint64.
-/
import Derived.Test.YtpihlchocjdpmaaSortMem
import Derived.Sort.LotB
namespace Go.Proofs.Ytpihlchocjdpmaa
open Go.RowKit Go.Sort Verge
set_option linter.unusedVariables false
set_option linter.unusedSimpArgs false
section
variable {α : Type} [Inhabited α] (lt : α → α → Bool)
theorem sd_end (hi first root : Nat) (d : Array α) (h : hi ≤ 2 * root + 1) : siftDown lt hi first root d = d := by rw [siftDown, dif_pos h]
/-- the child that is taken -/
def childOf (hi first root : Nat) (d : Array α) : Nat := if 2 * root + 1 + 1 < hi && lt d[first + (2 * root + 1)]! d[first + (2 * root + 1) + 1]! then 2 * root + 2 else 2 * root + 1
theorem sd_step (hi first root : Nat) (d : Array α) (h : 2 * root + 1 < hi) : siftDown lt hi first root d = if !lt d[first + root]! d[first + childOf lt hi first root d]! then d else siftDown lt hi first (childOf lt hi first root d) (swp d (first + root) (first + childOf lt hi first root d)) := by
  rw [siftDown, dif_neg (by omega)]
  unfold childOf
  by_cases hc : (2 * root + 1 + 1 < hi && lt d[first + (2 * root + 1)]! d[first + (2 * root + 1) + 1]!) = true
  · rw [if_pos hc, if_pos hc]
    have h2 : 2 * root + 2 < hi := by simp only [Bool.and_eq_true, decide_eq_true_eq] at hc; omega
    rw [dif_pos h2]
  · rw [if_neg hc, if_neg hc]
theorem sd_two (hi first root : Nat) (d : Array α) (h : 2 * root + 1 + 1 < hi) (hl : lt d[first + (2 * root + 1)]! d[first + (2 * root + 1) + 1]! = true) : childOf lt hi first root d = 2 * root + 2 := by
  unfold childOf; rw [if_pos]; simp only [Bool.and_eq_true, decide_eq_true_eq]; exact ⟨h, hl⟩
theorem sd_one (hi first root : Nat) (d : Array α) (h : ¬ 2 * root + 1 + 1 < hi ∨ lt d[first + (2 * root + 1)]! d[first + (2 * root + 1) + 1]! = false) : childOf lt hi first root d = 2 * root + 1 := by
  unfold childOf; rw [if_neg]
  simp only [Bool.and_eq_true, decide_eq_true_eq]
  rintro ⟨h1, h2⟩
  rcases h with h | h
  · exact h h1
  · rw [h] at h2; cases h2
theorem sd_stop (hi first root c : Nat) (d : Array α) (h : 2 * root + 1 < hi) (hc : childOf lt hi first root d = c) (hl : lt d[first + root]! d[first + c]! = false) : siftDown lt hi first root d = d := by
  rw [sd_step lt hi first root d h, hc, hl]; rfl
theorem sd_go (hi first root c : Nat) (d : Array α) (h : 2 * root + 1 < hi) (hc : childOf lt hi first root d = c) (hl : lt d[first + root]! d[first + c]! = true) : siftDown lt hi first root d = siftDown lt hi first c (swp d (first + root) (first + c)) := by
  rw [sd_step lt hi first root d h, hc, hl]; rfl
end

set_option maxRecDepth 100000 in
set_option maxHeartbeats 8000000 in
theorem sift_of {w : World} {g cap n : Nat} {d : Array Nat} (h : UR w g cap n d w) (lo hi first : Nat) (hb : first + hi ≤ n) (hn : n ≤ 1000000) (hlo : lo ≤ 1000000) :
    Calls Try.prog 50 #[.slice (some ⟨g, 0, none⟩) n cap, .int .i64 (lo : Nat), .int .i64 (hi : Nat), .int .i64 (first : Nat)] w fun e w' => e = .returned (.tuple #[]) ∧ UR w g cap n (siftDown ltN hi first lo d) w' := by
  have H := Lib.hid h
  clear h
  go_enter Try.func50, Try.ntmps50
  go_wp2
  go_loopw [8] (fun v wr => ∃ (r : Nat) (dk : Array Nat), v = .int .i64 (r : Nat) ∧ r ≤ 1000000 ∧ Hid (UR w g cap n dk wr ∧ siftDown ltN hi first r dk = siftDown ltN hi first lo d)) (fun v _ => hi - (intOf v).toNat)
  case atStart => exact ⟨lo, d, rfl, hlo, Lib.hid ⟨H.out, rfl⟩⟩
  case round =>
    obtain ⟨r, dk, rfl, hr, HR⟩ := hrel
    obtain ⟨C, hC⟩ : ∃ C, C = 2 * r + 1 := ⟨_, rfl⟩
    have e1 : 2 * (r : Int) + 1 = (C : Int) := by omega
    by_cases hlt : C < hi
    · have z1 : ¬ (hi : Int) ≤ (C : Int) := by omega
      have hFr : first + r < n := by omega
      have hFC : first + C < n := by omega
      have a0 : (0 : Int) ≤ (first : Int) + (r : Int) := by omega
      have a1 : (first : Int) + (r : Int) < (n : Int) := by omega
      have a2 : (0 : Int) ≤ (first : Int) + (C : Int) := by omega
      have a3 : (first : Int) + (C : Int) < (n : Int) := by omega
      obtain ⟨p, hp⟩ : ∃ x, x = dk[first + r]! := ⟨_, rfl⟩
      have c0 : wr.cell? ⟨g, first + r, none⟩ = some (.int .u64 (p : Nat)) := by rw [hp]; exact HR.out.1.cell (first + r) (by omega)
      have f0 := HR.out.1.fz (first + r)
      have HP := Lib.hid hp
      clear hp
      obtain ⟨x, hx⟩ : ∃ x, x = dk[first + C]! := ⟨_, rfl⟩
      have c1 : wr.cell? ⟨g, first + C, none⟩ = some (.int .u64 (x : Nat)) := by rw [hx]; exact HR.out.1.cell (first + C) (by omega)
      have f1 := HR.out.1.fz (first + C)
      have HX := Lib.hid hx
      clear hx
      have HC := Lib.hid hC
      have hcr : r < C := by omega
      have hwC := IntWalk.i64_in ((first : Int) + (C : Int)) (by omega)
      have hwr := IntWalk.i64_in ((first : Int) + (r : Int)) (by omega)
      clear hC
      by_cases h2 : C + 1 < hi
      · have z2 : (C : Int) + 1 < (hi : Int) := by omega
        have a4 : (0 : Int) ≤ (first : Int) + (C : Int) + 1 := by omega
        have a5 : (first : Int) + (C : Int) + 1 < (n : Int) := by omega
        have a6 : (first : Int) + ((C : Int) + 1) = (first : Int) + (C : Int) + 1 := by omega
        have hwC1 := IntWalk.i64_in ((first : Int) + (C : Int) + 1) (by omega)
        obtain ⟨y, hy⟩ : ∃ x, x = dk[first + C + 1]! := ⟨_, rfl⟩
        have c2 : wr.cell? ⟨g, first + C + 1, none⟩ = some (.int .u64 (y : Nat)) := by rw [hy]; exact HR.out.1.cell (first + C + 1) (by omega)
        have f2 := HR.out.1.fz (first + C + 1)
        have HY := Lib.hid hy
        clear hy
        cases hl : ltN x y with
        | true =>
          have HCH : Hid (childOf ltN hi first r dk = C + 1) := Lib.hid (by have := HC.out; rw [sd_two ltN hi first r dk (by omega) (by rw [← this, ← HX.out, ← HY.out]; exact hl)]; omega)
          go_wp2
          go_quiet (first | (go_at_call 44; refine Calls.quiet_of_same (less_of _ _ _)))
          go_wp2
          clear c1 f1
          generalize hX : wr.drewN nq = X at *
          replace c0 : X.cell? ⟨g, first + r, none⟩ = some (.int .u64 (p : Nat)) := by rw [← hX]; exact c0
          replace f0 : X.frozen? ⟨g, first + r, none⟩ = false := by rw [← hX]; exact f0
          replace c2 : X.cell? ⟨g, first + C + 1, none⟩ = some (.int .u64 (y : Nat)) := by rw [← hX]; exact c2
          replace f2 : X.frozen? ⟨g, first + C + 1, none⟩ = false := by rw [← hX]; exact f2
          have HXX := Lib.hid hX
          clear hX
          cases hm : ltN p y with
          | true =>
            have HM := Lib.hid hm
            go_quiet (first | (go_at_call 44; refine Calls.quiet_of_same (less_of _ _ _)))
            go_wp2
            generalize hX : X.drewN nq = Y at *
            replace c0 : Y.cell? ⟨g, first + r, none⟩ = some (.int .u64 (p : Nat)) := by rw [← hX]; exact c0
            replace f0 : Y.frozen? ⟨g, first + r, none⟩ = false := by rw [← hX]; exact f0
            replace c2 : Y.cell? ⟨g, first + C + 1, none⟩ = some (.int .u64 (y : Nat)) := by rw [← hX]; exact c2
            replace f2 : Y.frozen? ⟨g, first + C + 1, none⟩ = false := by rw [← hX]; exact f2
            have HYY := Lib.hid hX
            clear hX
            clear hm
            go_region
            all_goals go_wp2
            go_roundw
            case rel => exact ⟨C + 1, _, rfl, by omega, Lib.hid ⟨(HYY.out ▸ (HXX.out ▸ HR.out.1.drewN _).drewN _).swpD (by omega) (by omega) HP.out HY.out, by rw [← HR.out.2, sd_go ltN hi first r (C + 1) dk (by have := HC.out; omega) HCH.out (by rw [← HP.out]; have := HY.out; rw [show first + (C + 1) = first + C + 1 from rfl, ← this]; exact HM.out)]; all_goals rfl⟩⟩
            case measure => simp [intOf]; try omega
          | false =>
            have HM := Lib.hid hm
            go_quiet (first | (go_at_call 44; refine Calls.quiet_of_same (less_of _ _ _)))
            go_wp2
            refine bodyPost_ret (results_none rfl _ _ _) rfl ?_
            exact ⟨rfl, by have h1 := sd_stop ltN hi first r (C + 1) dk (by have := HC.out; omega) HCH.out (by rw [← HP.out]; have := HY.out; rw [show first + (C + 1) = first + C + 1 from rfl, ← this]; exact HM.out); rw [← HR.out.2, h1]; exact (HXX.out ▸ HR.out.1.drewN _).drewN _⟩
        | false =>
          have HCH : Hid (childOf ltN hi first r dk = C) := Lib.hid (by have := HC.out; rw [sd_one ltN hi first r dk (.inr (by rw [← this, ← HX.out, ← HY.out]; exact hl))]; omega)
          go_wp2
          go_quiet (first | (go_at_call 44; refine Calls.quiet_of_same (less_of _ _ _)))
          go_wp2
          clear c2 f2
          generalize hX : wr.drewN nq = X at *
          replace c0 : X.cell? ⟨g, first + r, none⟩ = some (.int .u64 (p : Nat)) := by rw [← hX]; exact c0
          replace f0 : X.frozen? ⟨g, first + r, none⟩ = false := by rw [← hX]; exact f0
          replace c1 : X.cell? ⟨g, first + C, none⟩ = some (.int .u64 (x : Nat)) := by rw [← hX]; exact c1
          replace f1 : X.frozen? ⟨g, first + C, none⟩ = false := by rw [← hX]; exact f1
          have HXX := Lib.hid hX
          clear hX
          cases hm : ltN p x with
          | true =>
            have HM := Lib.hid hm
            go_quiet (first | (go_at_call 44; refine Calls.quiet_of_same (less_of _ _ _)))
            go_wp2
            generalize hX : X.drewN nq = Y at *
            replace c0 : Y.cell? ⟨g, first + r, none⟩ = some (.int .u64 (p : Nat)) := by rw [← hX]; exact c0
            replace f0 : Y.frozen? ⟨g, first + r, none⟩ = false := by rw [← hX]; exact f0
            replace c1 : Y.cell? ⟨g, first + C, none⟩ = some (.int .u64 (x : Nat)) := by rw [← hX]; exact c1
            replace f1 : Y.frozen? ⟨g, first + C, none⟩ = false := by rw [← hX]; exact f1
            have HYY := Lib.hid hX
            clear hX
            clear hm
            go_region
            all_goals go_wp2
            go_roundw
            case rel => exact ⟨C, _, rfl, by omega, Lib.hid ⟨(HYY.out ▸ (HXX.out ▸ HR.out.1.drewN _).drewN _).swpD (by omega) (by omega) HP.out HX.out, by rw [← HR.out.2, sd_go ltN hi first r (C) dk (by have := HC.out; omega) HCH.out (by rw [← HP.out]; have := HX.out; rw [show first + (C) = first + C from rfl, ← this]; exact HM.out)]; all_goals rfl⟩⟩
            case measure => simp [intOf]; try omega
          | false =>
            have HM := Lib.hid hm
            go_quiet (first | (go_at_call 44; refine Calls.quiet_of_same (less_of _ _ _)))
            go_wp2
            refine bodyPost_ret (results_none rfl _ _ _) rfl ?_
            exact ⟨rfl, by have h1 := sd_stop ltN hi first r (C) dk (by have := HC.out; omega) HCH.out (by rw [← HP.out]; have := HX.out; rw [show first + (C) = first + C from rfl, ← this]; exact HM.out); rw [← HR.out.2, h1]; exact (HXX.out ▸ HR.out.1.drewN _).drewN _⟩
      · have z2 : ¬ (C : Int) + 1 < (hi : Int) := by omega
        have z3 : decide ((C : Int) + 1 < (hi : Int)) = false := decide_eq_false z2
        have HCH : Hid (childOf ltN hi first r dk = C) := Lib.hid (by have := HC.out; rw [sd_one ltN hi first r dk (.inl (by omega))]; omega)
        go_wp2
        go_quiet (first | (go_at_call 44; refine Calls.quiet_of_same (less_of _ _ _)))
        go_wp2
        generalize hX : wr.drewN nq = X at *
        replace c0 : X.cell? ⟨g, first + r, none⟩ = some (.int .u64 (p : Nat)) := by rw [← hX]; exact c0
        replace f0 : X.frozen? ⟨g, first + r, none⟩ = false := by rw [← hX]; exact f0
        replace c1 : X.cell? ⟨g, first + C, none⟩ = some (.int .u64 (x : Nat)) := by rw [← hX]; exact c1
        replace f1 : X.frozen? ⟨g, first + C, none⟩ = false := by rw [← hX]; exact f1
        have HXX := Lib.hid hX
        clear hX
        cases hm : ltN p x with
        | true =>
          have HM := Lib.hid hm
          go_quiet (first | (go_at_call 44; refine Calls.quiet_of_same (less_of _ _ _)))
          go_wp2
          generalize hX : X.drewN nq = Y at *
          replace c0 : Y.cell? ⟨g, first + r, none⟩ = some (.int .u64 (p : Nat)) := by rw [← hX]; exact c0
          replace f0 : Y.frozen? ⟨g, first + r, none⟩ = false := by rw [← hX]; exact f0
          replace c1 : Y.cell? ⟨g, first + C, none⟩ = some (.int .u64 (x : Nat)) := by rw [← hX]; exact c1
          replace f1 : Y.frozen? ⟨g, first + C, none⟩ = false := by rw [← hX]; exact f1
          have HYY := Lib.hid hX
          clear hX
          clear hm
          go_region
          all_goals go_wp2
          go_roundw
          case rel => exact ⟨C, _, rfl, by omega, Lib.hid ⟨(HYY.out ▸ (HXX.out ▸ HR.out.1.drewN _).drewN _).swpD (by omega) (by omega) HP.out HX.out, by rw [← HR.out.2, sd_go ltN hi first r (C) dk (by have := HC.out; omega) HCH.out (by rw [← HP.out]; have := HX.out; rw [show first + (C) = first + C from rfl, ← this]; exact HM.out)]; all_goals rfl⟩⟩
          case measure => simp [intOf]; try omega
        | false =>
          have HM := Lib.hid hm
          go_quiet (first | (go_at_call 44; refine Calls.quiet_of_same (less_of _ _ _)))
          go_wp2
          refine bodyPost_ret (results_none rfl _ _ _) rfl ?_
          exact ⟨rfl, by have h1 := sd_stop ltN hi first r (C) dk (by have := HC.out; omega) HCH.out (by rw [← HP.out]; have := HX.out; rw [show first + (C) = first + C from rfl, ← this]; exact HM.out); rw [← HR.out.2, h1]; exact (HXX.out ▸ HR.out.1.drewN _).drewN _⟩
    · have z1 : (hi : Int) ≤ (C : Int) := by omega
      have hw1 := IntWalk.i64_in (C : Int) (by omega)
      have HC := Lib.hid hC
      clear hC
      go_wp2
      go_end0
      exact ⟨rfl, by have := HR.out; rw [sd_end ltN hi first r dk (by have := HC.out; omega)] at this; rw [← this.2]; exact this.1⟩

set_option maxRecDepth 100000 in
set_option maxHeartbeats 8000000 in
theorem heap_of {w : World} {g cap n : Nat} {d : Array Nat} (h : UR w g cap n d w) (a b : Nat) (hab : a < b) (hb : b ≤ n) (hn : n ≤ 1000000) :
    Calls Try.prog 39 #[.slice (some ⟨g, 0, none⟩) n cap, .int .i64 (a : Nat), .int .i64 (b : Nat)] w fun e w' => e = .returned (.tuple #[]) ∧ UR w g cap n (heapSort ltN d a b) w' := by
  obtain ⟨m, rfl⟩ : ∃ m, b = a + (m + 1) := ⟨b - a - 1, by omega⟩
  have H := Lib.hid h
  have e0 : ((a + (m + 1) : Nat) : Int) - (a : Int) = (m : Int) + 1 := by omega
  have e1 : (m : Int) + 1 - 1 = (m : Int) := by omega
  have e2 : (m : Int).tdiv 2 = ((m / 2 : Nat) : Int) := by rw [Int.tdiv_eq_ediv_of_nonneg (by omega)]; omega
  have e3 : (m : Int) / 2 = ((m / 2 : Nat) : Int) := by omega
  have hwm := IntWalk.i64_in (m : Int) (by omega)
  obtain ⟨k0, hk0⟩ : ∃ k, k = m / 2 := ⟨_, rfl⟩
  have hk0m : k0 ≤ m := by omega
  have hdef : heapSort ltN d a (a + (m + 1)) = heapPop ltN a (m + 1) (heapBuild ltN (m + 1) a (k0 + 1) d) := by
    unfold heapSort
    rw [show a + (m + 1) - a = m + 1 by omega, show (m + 1 - 1) / 2 = k0 by omega]
  rw [hdef]
  rw [← hk0] at e2 e3
  clear h hk0 hdef
  generalize hB : ((a + (m + 1) : Nat) : Int) = B at *
  have HB := Lib.hid hB
  clear hB
  go_enter Try.func39, Try.ntmps39
  go_wp2
  go_loopw [9] (fun v wr => ∃ (k : Nat) (dk : Array Nat), v = .int .i64 ((k : Int) - 1) ∧ k ≤ k0 + 1 ∧ Hid (UR w g cap n dk wr ∧ heapBuild ltN (m + 1) a k dk = heapBuild ltN (m + 1) a (k0 + 1) d)) (fun v _ => (intOf v + 1).toNat)
  case atStart => exact ⟨k0 + 1, d, by go_num, by omega, Lib.hid ⟨H.out, rfl⟩⟩
  case round =>
    obtain ⟨k, dk, rfl, hk, HR⟩ := hrel
    rcases Nat.eq_zero_or_pos k with rfl | hkp
    · rw [show ((0 : Nat) : Int) - 1 = -1 from rfl]
      go_wp2
      go_loopw [10] (fun v wr => ∃ (k : Nat) (dk : Array Nat), v = .int .i64 ((k : Int) - 1) ∧ k ≤ m + 1 ∧ Hid (UR w g cap n dk wr ∧ heapPop ltN a k dk = heapPop ltN a (m + 1) (heapBuild ltN (m + 1) a (k0 + 1) d))) (fun v _ => (intOf v + 1).toNat)
      case atStart => exact ⟨m + 1, dk, by go_num, by omega, Lib.hid ⟨HR.out.1, by rw [← HR.out.2]; rfl⟩⟩
      case round =>
        obtain ⟨k, dj, rfl, hk, HP⟩ := hrel
        rcases Nat.eq_zero_or_pos k with rfl | hkp
        · rw [show ((0 : Nat) : Int) - 1 = -1 from rfl]
          go_wp2
          go_end0
          exact ⟨rfl, by have := HP.out; rw [← this.2]; exact this.1⟩
        · obtain ⟨i, rfl⟩ : ∃ i, k = i + 1 := ⟨k - 1, by omega⟩
          have z1 : ((i + 1 : Nat) : Int) - 1 = (i : Int) := by omega
          have z2 : (0 : Int) ≤ (i : Int) := by omega
          have z3 : (a : Int) < (n : Int) := by omega
          have z4 : (a : Int) + (i : Int) < (n : Int) := by omega
          have z5 : (0 : Int) ≤ (a : Int) + (i : Int) := by omega
          have hwi := IntWalk.i64_in (i : Int) (by omega)
          have hwi1 := IntWalk.i64_in ((i : Int) - 1) (by omega)
          have hwai := IntWalk.i64_in ((a : Int) + (i : Int)) (by omega)
          obtain ⟨x, hx⟩ : ∃ x, x = dj[a]! := ⟨_, rfl⟩
          have c1 : wr.cell? ⟨g, a, none⟩ = some (.int .u64 (x : Nat)) := by rw [hx]; exact HP.out.1.cell (a) (by omega)
          have f1 := HP.out.1.fz (a)
          have HX := Lib.hid hx
          clear hx
          obtain ⟨y, hy⟩ : ∃ x, x = dj[a + i]! := ⟨_, rfl⟩
          have c2 : wr.cell? ⟨g, a + i, none⟩ = some (.int .u64 (y : Nat)) := by rw [hy]; exact HP.out.1.cell (a + i) (by omega)
          have f2 := HP.out.1.fz (a + i)
          have HY := Lib.hid hy
          clear hy
          rw [z1]
          rcases Nat.eq_zero_or_pos i with rfl | hip
          · simp only [Nat.add_zero] at c2 f2 HY
            obtain rfl : x = y := by rw [HX.out, HY.out]
            rw [show ((0 : Nat) : Int) = 0 from rfl]
            go_wp2
            go_region
            all_goals go_wp2_with fail
            refine (sift_of ((HP.out.1.swpD (i := a) (j := a) (by omega) (by omega) HX.out HX.out).start) 0 0 a (by omega) hn (by omega)).mono ?_
            rintro e w3 ⟨rfl, u3⟩
            have U3 := Lib.hid ((HP.out.1.swpD (i := a) (j := a) (by omega) (by omega) HX.out HX.out).back u3)
            clear u3
            go_wp2
            go_roundw
            case rel => exact ⟨0, _, by go_num, by omega, Lib.hid ⟨U3.out, by rw [← HP.out.2]; rfl⟩⟩
            case measure => simp [intOf]
          · obtain ⟨i, rfl⟩ : ∃ j, i = j + 1 := ⟨i - 1, by omega⟩
            go_wp2
            go_region
            all_goals go_wp2_with fail
            refine (sift_of ((HP.out.1.swpD (i := a) (j := a + (i + 1)) (by omega) (by omega) HX.out HY.out).start) 0 (i + 1) a (by omega) hn (by omega)).mono ?_
            rintro e w3 ⟨rfl, u3⟩
            have U3 := Lib.hid ((HP.out.1.swpD (i := a) (j := a + (i + 1)) (by omega) (by omega) HX.out HY.out).back u3)
            clear u3
            go_wp2
            go_roundw
            case rel => exact ⟨i + 1, _, by go_num, by omega, Lib.hid ⟨U3.out, by rw [← HP.out.2]; rfl⟩⟩
            case measure => simp [intOf]; try omega
    · obtain ⟨i, rfl⟩ : ∃ i, k = i + 1 := ⟨k - 1, by omega⟩
      have z1 : ((i + 1 : Nat) : Int) - 1 = (i : Int) := by omega
      have z2 : (0 : Int) ≤ (i : Int) := by omega
      have hwi1 := IntWalk.i64_in ((i : Int) - 1) (by omega)
      rw [z1]
      go_wp2_with fail
      refine (sift_of HR.out.1.start i (m + 1) a (by omega) hn (by omega)).mono ?_
      rintro e w3 ⟨rfl, u3⟩
      have U3 := Lib.hid (HR.out.1.back u3)
      clear u3
      go_wp2
      go_roundw
      case rel => exact ⟨i, _, by go_num, by omega, Lib.hid ⟨U3.out, by rw [← HR.out.2]; rfl⟩⟩
      case measure => simp [intOf]; try omega
end Go.Proofs.Ytpihlchocjdpmaa
