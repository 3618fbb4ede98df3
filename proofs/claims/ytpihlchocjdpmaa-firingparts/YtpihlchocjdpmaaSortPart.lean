/-
  slices.partitionEqualOrdered, partitionOrdered at uint64.
-/
import Derived.Test.YtpihlchocjdpmaaSortMem
import Derived.Sort.LotC
import Derived.Deep.Cut
import Derived.Deep.CutRange
import Derived.Deep.CutBlock
namespace Go.Proofs.Ytpihlchocjdpmaa
open Go.RowKit Go.Sort Verge
set_option linter.unusedVariables false
set_option linter.unusedSimpArgs false
section
variable {α : Type} [Inhabited α]
theorem su_go (p : α → Bool) (d : Array α) (j i : Nat) (h : i ≤ j) (hp : p d[i]! = true) : scanUp p d j i = scanUp p d j (i + 1) := by
  rw [scanUp, if_pos (by simp [h, hp])]
theorem su_stop (p : α → Bool) (d : Array α) (j i : Nat) (h : j < i ∨ p d[i]! = false) : scanUp p d j i = i := by
  rw [scanUp, if_neg]
  simp only [Bool.and_eq_true, decide_eq_true_eq]
  rintro ⟨h1, h2⟩
  rcases h with h | h
  · omega
  · rw [h] at h2; cases h2
theorem sn_go (p : α → Bool) (d : Array α) (i j : Nat) (h : i ≤ j + 1) (hp : p d[j + 1]! = true) : scanDown p d i (j + 1) = scanDown p d i j := by
  rw [scanDown, if_pos (by simp [h, hp])]
theorem sn_stop (p : α → Bool) (d : Array α) (i j : Nat) (h : j < i ∨ p d[j]! = false) (hi : 0 < i) : scanDown p d i j = j := by
  cases j with
  | zero => rw [scanDown]
  | succ j =>
    rw [scanDown, if_neg]
    simp only [Bool.and_eq_true, decide_eq_true_eq]
    rintro ⟨h1, h2⟩
    rcases h with h | h
    · omega
    · rw [h] at h2; cases h2
/-- where the two scans don't cross they are apart -/
theorem scans_ne (p q : α → Bool) (hq : ∀ x, q x = !p x) (d : Array α) (i j : Nat) (hi : 0 < i) (h : ¬ scanUp p d j i > scanDown q d (scanUp p d j i) j) : scanUp p d j i < scanDown q d (scanUp p d j i) j := by
  obtain ⟨u1, -, -, u4⟩ := scanUp_spec p d j _ i rfl
  obtain ⟨d1, -, -, d4⟩ := scanDown_spec q d (scanUp p d j i) j
  rcases Nat.lt_or_ge (scanUp p d j i) (scanDown q d (scanUp p d j i) j) with h1 | h1
  · exact h1
  · have e : scanDown q d (scanUp p d j i) j = scanUp p d j i := by omega
    have h2 := u4 (by omega)
    have h3 := d4 (by omega) (by omega)
    rw [e, hq, h2] at h3
    cases h3
end
/-- where an upward scan stops -/
def UpD (w : World) (g cap n : Nat) (dk : Array Nat) (p : Nat → Bool) (j i : Nat) (v : Value) (wc : World) : Prop := v = .int .i64 ((scanUp p dk j i : Nat) : Int) ∧ UR w g cap n dk wc
def DnD (w : World) (g cap n : Nat) (dk : Array Nat) (p : Nat → Bool) (i j : Nat) (v : Value) (wc : World) : Prop := v = .int .i64 ((scanDown p dk i j : Nat) : Int) ∧ UR w g cap n dk wc

set_option maxRecDepth 100000 in
set_option maxHeartbeats 8000000 in
theorem partEq_of {w : World} {g cap n : Nat} {d : Array Nat} (h : UR w g cap n d w) (a b q : Nat) (haq : a ≤ q) (hqb : q < b) (hb : b ≤ n) (hn : n ≤ 1000000) :
    Calls Try.prog 45 #[.slice (some ⟨g, 0, none⟩) n cap, .int .i64 (a : Nat), .int .i64 (b : Nat), .int .i64 (q : Nat)] w fun e w' => e = .returned (.int .i64 ((partitionEqual ltN d a b q).1 : Nat)) ∧ UR w g cap n (partitionEqual ltN d a b q).2 w' := by
  obtain ⟨B, hB⟩ : ∃ B, b = B + 1 := ⟨b - 1, by omega⟩
  have e0 : (b : Int) - 1 = (B : Int) := by omega
  have H := Lib.hid h
  have a1 : (a : Int) < (n : Int) := by omega
  have a2 : (q : Int) < (n : Int) := by omega
  have hwB := IntWalk.i64_in (B : Int) (by omega)
  have hdef : partitionEqual ltN d a b q = partEqLoop ltN a (a + 1) B (swp d a q) := by subst hB; rfl
  have hBq : q < B + 1 := by omega
  have hBn : B + 1 ≤ n := by omega
  clear hB
  rw [hdef]
  clear h hdef
  go_enter Try.func45, Try.ntmps45
  go_upto_region 1 with (fail)
  go_cut [8] from 11 to 28 (fun v wc => v = .int .i64 0 ∧ Hid (UR w g cap n (swp d a q) wc))
  case first =>
    obtain ⟨x, hx⟩ : ∃ x, x = d[a]! := ⟨_, rfl⟩
    have c1 : w.cell? ⟨g, a, none⟩ = some (.int .u64 (x : Nat)) := by rw [hx]; exact H.out.cell (a) (by omega)
    have f1 := H.out.fz (a)
    have HX := Lib.hid hx
    clear hx
    obtain ⟨y, hy⟩ : ∃ x, x = d[q]! := ⟨_, rfl⟩
    have c2 : w.cell? ⟨g, q, none⟩ = some (.int .u64 (y : Nat)) := by rw [hy]; exact H.out.cell (q) (by omega)
    have f2 := H.out.fz (q)
    have HY := Lib.hid hy
    clear hy
    by_cases hne : q = a
    · subst hne
      obtain rfl : x = y := by rw [HX.out, HY.out]
      go_region
      all_goals go_wp2
      go_meet
      case rel => exact ⟨rfl, Lib.hid (H.out.swpD (by omega) (by omega) HX.out HX.out)⟩
    · have hne2 : a ≠ q := fun e => hne e.symm
      go_region
      all_goals go_wp2
      go_meet
      case rel => exact ⟨rfl, Lib.hid (H.out.swpD (by omega) (by omega) HX.out HY.out)⟩
  case rest =>
    obtain ⟨rfl, HU0⟩ := hcut
    clear H
    go_wp2
    go_loopw [9, 10] (fun u v wr => ∃ (i j : Nat) (dk : Array Nat), u = .int .i64 (i : Nat) ∧ v = .int .i64 (j : Nat) ∧ a < i ∧ i ≤ j + 1 ∧ j ≤ B ∧ Hid (UR w g cap n dk wr ∧ partEqLoop ltN a i j dk = partEqLoop ltN a (a + 1) B (swp d a q))) (fun u v _ => (intOf v + 1 - intOf u).toNat)
    case atStart => exact ⟨a + 1, B, _, by go_num, by go_num, by omega, by omega, by omega, Lib.hid ⟨HU0.out, rfl⟩⟩
    case round =>
      obtain ⟨i, j, dk, rfl, rfl, hai, hij, hjB, HR⟩ := hrel
      have HU := Lib.hid HR.out.1
      go_upto_block 2 with (fail)
      go_cut [9] from 29 to 82 (fun v wc => Hid (UpD w g cap n dk (fun x => !ltN dk[a]! x) j i v wc))
      case first =>
        go_wp2
        go_loopw [9] (fun v wr => ∃ ii, v = .int .i64 (ii : Nat) ∧ i ≤ ii ∧ ii ≤ j + 1 ∧ Hid (UR w g cap n dk wr ∧ scanUp (fun x => !ltN dk[a]! x) dk j ii = scanUp (fun x => !ltN dk[a]! x) dk j i)) (fun v _ => j + 1 - (intOf v).toNat)
        case atStart => exact ⟨i, rfl, by omega, by omega, Lib.hid ⟨HU.out, rfl⟩⟩
        case round =>
          obtain ⟨ii, rfl, hi1, hi2, HI⟩ := hrel
          by_cases hle : ii ≤ j
          · have z1 : (ii : Int) ≤ (j : Int) := by omega
            have z2 : (ii : Int) < (n : Int) := by omega
            have z3 : (a : Int) < (n : Int) := by omega
            obtain ⟨x, hx⟩ : ∃ x, x = dk[ii]! := ⟨_, rfl⟩
            have c1 : wr.cell? ⟨g, ii, none⟩ = some (.int .u64 (x : Nat)) := by rw [hx]; exact HI.out.1.cell (ii) (by omega)
            have f1 := HI.out.1.fz (ii)
            have HX := Lib.hid hx
            clear hx
            obtain ⟨p, hp⟩ : ∃ x, x = dk[a]! := ⟨_, rfl⟩
            have c2 : wr.cell? ⟨g, a, none⟩ = some (.int .u64 (p : Nat)) := by rw [hp]; exact HI.out.1.cell (a) (by omega)
            have f2 := HI.out.1.fz (a)
            have HP := Lib.hid hp
            clear hp
            cases hl : ltN p x with
            | false =>
              have HL := Lib.hid hl
              go_wp2
              go_quiet (first | (go_at_call 44; refine Calls.quiet_of_same (less_of _ _ _)))
              go_wp2
              go_roundw
              case rel => exact ⟨ii + 1, by go_num, by omega, by omega, Lib.hid ⟨HI.out.1.drewN _, by rw [← HI.out.2, su_go (fun x => !ltN dk[a]! x) dk j ii hle (by have h := HL.out; rw [HX.out, HP.out] at h; exact (congrArg not h))]⟩⟩
              case measure => simp [intOf]; omega
            | true =>
              have HL := Lib.hid hl
              go_wp2
              go_quiet (first | (go_at_call 44; refine Calls.quiet_of_same (less_of _ _ _)))
              go_wp2
              go_meet
              case rel => exact Lib.hid ⟨by rw [← HI.out.2, su_stop (fun x => !ltN dk[a]! x) dk j ii (.inr (by have h := HL.out; rw [HX.out, HP.out] at h; exact (congrArg not h)))], HI.out.1.drewN _⟩
          · have z1 : ¬ (ii : Int) ≤ (j : Int) := by omega
            have z2 : decide ((ii : Int) ≤ (j : Int)) = false := decide_eq_false z1
            go_wp2
            go_quiet (first | (go_at_call 44; refine Calls.quiet_of_same (less_of _ _ _)))
            go_wp2
            go_meet
            case rel => exact Lib.hid ⟨by rw [← HI.out.2, su_stop (fun x => !ltN dk[a]! x) dk j ii (.inl (by omega))], HI.out.1.drewN _⟩
      case rest =>
        obtain ⟨i2, hi2⟩ : ∃ i2, i2 = scanUp (fun x => !ltN dk[a]! x) dk j i := ⟨_, rfl⟩
        have hb1 := scanUp_ge (fun x => !ltN dk[a]! x) dk j i
        have hb2 := (scanUp_spec (fun x => !ltN dk[a]! x) dk j _ i rfl).2.1 hij
        obtain ⟨hv, hu⟩ := hcut.out
        rw [← hi2] at hv hb1 hb2
        subst hv
        have HI2 := Lib.hid hi2
        replace HU := Lib.hid hu
        clear hcut hu hi2
        go_upto_block 4 with (fail)
        go_cut [10] from 46 to 82 (fun v wc => Hid (DnD w g cap n dk (fun x => ltN dk[a]! x) i2 j v wc))
        case first =>
          go_wp2
          go_loopw [10] (fun v wr => ∃ jj, v = .int .i64 (jj : Nat) ∧ i2 ≤ jj + 1 ∧ jj ≤ j ∧ Hid (UR w g cap n dk wr ∧ scanDown (fun x => ltN dk[a]! x) dk i2 jj = scanDown (fun x => ltN dk[a]! x) dk i2 j)) (fun v _ => (intOf v).toNat)
          case atStart => exact ⟨j, rfl, by omega, by omega, Lib.hid ⟨HU.out, rfl⟩⟩
          case round =>
            obtain ⟨jj, rfl, hi1, hi2, HI⟩ := hrel
            by_cases hle : i2 ≤ jj
            · obtain ⟨j', rfl⟩ : ∃ j', jj = j' + 1 := ⟨jj - 1, by omega⟩
              have z1 : (i2 : Int) ≤ (j' : Int) + 1 := by omega
              have z2 : (j' : Int) + 1 < (n : Int) := by omega
              have z3 : (a : Int) < (n : Int) := by omega
              have z4 : (0 : Int) ≤ (j' : Int) + 1 := by omega
              have hwj := IntWalk.i64_in (j' : Int) (by omega)
              obtain ⟨x, hx⟩ : ∃ x, x = dk[j' + 1]! := ⟨_, rfl⟩
              have c1 : wr.cell? ⟨g, j' + 1, none⟩ = some (.int .u64 (x : Nat)) := by rw [hx]; exact HI.out.1.cell (j' + 1) (by omega)
              have f1 := HI.out.1.fz (j' + 1)
              have HX := Lib.hid hx
              clear hx
              obtain ⟨p, hp⟩ : ∃ x, x = dk[a]! := ⟨_, rfl⟩
              have c2 : wr.cell? ⟨g, a, none⟩ = some (.int .u64 (p : Nat)) := by rw [hp]; exact HI.out.1.cell (a) (by omega)
              have f2 := HI.out.1.fz (a)
              have HP := Lib.hid hp
              clear hp
              cases hl : ltN p x with
              | true =>
                have HL := Lib.hid hl
                go_wp2
                go_quiet (first | (go_at_call 44; refine Calls.quiet_of_same (less_of _ _ _)))
                go_wp2
                go_roundw
                case rel => exact ⟨j', by go_num, by omega, by omega, Lib.hid ⟨HI.out.1.drewN _, by rw [← HI.out.2, sn_go (fun x => ltN dk[a]! x) dk i2 j' hle (by have h := HL.out; rw [HX.out, HP.out] at h; exact h)]⟩⟩
                case measure => simp [intOf]; try omega
              | false =>
                have HL := Lib.hid hl
                go_wp2
                go_quiet (first | (go_at_call 44; refine Calls.quiet_of_same (less_of _ _ _)))
                go_wp2
                go_meet
                case rel => exact Lib.hid ⟨by rw [← HI.out.2, sn_stop (fun x => ltN dk[a]! x) dk i2 (j' + 1) (.inr (by have h := HL.out; rw [HX.out, HP.out] at h; exact h)) (by omega)]; try rfl, HI.out.1.drewN _⟩
            · have z1 : ¬ (i2 : Int) ≤ (jj : Int) := by omega
              have z2 : decide ((i2 : Int) ≤ (jj : Int)) = false := decide_eq_false z1
              go_wp2
              go_quiet (first | (go_at_call 44; refine Calls.quiet_of_same (less_of _ _ _)))
              go_wp2
              go_meet
              case rel => exact Lib.hid ⟨by rw [← HI.out.2, sn_stop (fun x => ltN dk[a]! x) dk i2 jj (.inl (by omega)) (by omega)], HI.out.1.drewN _⟩
        case rest =>
          obtain ⟨j2, hj2⟩ : ∃ j2, j2 = scanDown (fun x => ltN dk[a]! x) dk i2 j := ⟨_, rfl⟩
          have hb3 := scanDown_le (fun x => ltN dk[a]! x) dk i2 j
          have hb4 := (scanDown_spec (fun x => ltN dk[a]! x) dk i2 j).2.1 hb2
          obtain ⟨hv, hu⟩ := hcut.out
          rw [← hj2] at hv hb3 hb4
          subst hv
          have HJ2 := Lib.hid hj2
          replace HU := Lib.hid hu
          clear hcut hu hj2
          by_cases hgt : j2 < i2
          · have z1 : (j2 : Int) < (i2 : Int) := by omega
            have fin : partEqLoop ltN a i j dk = (i2, dk) := by rw [partEqLoop_eq, ← HI2.out, ← HJ2.out, if_pos hgt]
            have FIN := Lib.hid fin
            clear fin
            go_wp2
            go_ret
            exact ⟨by rw [← HR.out.2, FIN.out]; rfl, by rw [← HR.out.2, FIN.out]; exact HU.out⟩
          · have hlt : i2 < j2 := by
              have := scans_ne (fun x => !ltN dk[a]! x) (fun x => ltN dk[a]! x) (fun x => by simp) dk i j (by omega)
              rw [← HI2.out, ← HJ2.out] at this
              exact this hgt
            have fin : partEqLoop ltN a i j dk = partEqLoop ltN a (i2 + 1) (j2 - 1) (swp dk i2 j2) := by rw [partEqLoop_eq, ← HI2.out, ← HJ2.out, if_neg hgt]
            have FIN := Lib.hid fin
            have z1 : ¬ (j2 : Int) < (i2 : Int) := by omega
            obtain ⟨J, rfl⟩ : ∃ J, j2 = J + 1 := ⟨j2 - 1, by omega⟩
            have z2 : (i2 : Int) < (n : Int) := by omega
            have z3 : (J : Int) + 1 < (n : Int) := by omega
            have z4 : (0 : Int) ≤ (J : Int) + 1 := by omega
            have hne : i2 ≠ J + 1 := by omega
            have hwJ := IntWalk.i64_in (J : Int) (by omega)
            obtain ⟨x, hx⟩ : ∃ x, x = dk[i2]! := ⟨_, rfl⟩
            have c1 : wc.cell? ⟨g, i2, none⟩ = some (.int .u64 (x : Nat)) := by rw [hx]; exact HU.out.cell (i2) (by omega)
            have f1 := HU.out.fz (i2)
            have HX := Lib.hid hx
            clear hx
            obtain ⟨y, hy⟩ : ∃ x, x = dk[J + 1]! := ⟨_, rfl⟩
            have c2 : wc.cell? ⟨g, J + 1, none⟩ = some (.int .u64 (y : Nat)) := by rw [hy]; exact HU.out.cell (J + 1) (by omega)
            have f2 := HU.out.fz (J + 1)
            have HY := Lib.hid hy
            clear hy
            clear fin
            go_wp2
            go_region
            all_goals go_wp2
            go_roundw
            case rel => exact ⟨i2 + 1, J, _, by go_num, by go_num, by omega, by omega, by omega, Lib.hid ⟨HU.out.swpD (by omega) (by omega) HX.out HY.out, by rw [← HR.out.2, FIN.out]; rfl⟩⟩
            case measure => simp [intOf]; omega

set_option maxRecDepth 100000 in
set_option maxHeartbeats 8000000 in
theorem part_of {w : World} {g cap n : Nat} {d : Array Nat} (h : UR w g cap n d w) (a b q : Nat) (haq : a ≤ q) (hqb : q < b) (hb : b ≤ n) (hn : n ≤ 1000000) :
    Calls Try.prog 46 #[.slice (some ⟨g, 0, none⟩) n cap, .int .i64 (a : Nat), .int .i64 (b : Nat), .int .i64 (q : Nat)] w fun e w' => e = .returned (.tuple #[.int .i64 ((partition ltN d a b q).1 : Nat), .bool (partition ltN d a b q).2.1]) ∧ UR w g cap n (partition ltN d a b q).2.2 w' := by
  obtain ⟨B, hB⟩ : ∃ B, b = B + 1 := ⟨b - 1, by omega⟩
  have e0 : (b : Int) - 1 = (B : Int) := by omega
  have H := Lib.hid h
  have a1 : (a : Int) < (n : Int) := by omega
  have a2 : (q : Int) < (n : Int) := by omega
  have hwB := IntWalk.i64_in (B : Int) (by omega)
  obtain ⟨dk, hdk⟩ : ∃ dk, dk = swp d a q := ⟨_, rfl⟩
  obtain ⟨i1, hi1⟩ : ∃ i1, i1 = scanUp (fun x => ltN x dk[a]!) dk B (a + 1) := ⟨_, rfl⟩
  obtain ⟨j1, hj1⟩ : ∃ j1, j1 = scanDown (fun x => !ltN x dk[a]!) dk i1 B := ⟨_, rfl⟩
  obtain ⟨r, hr⟩ : ∃ r, r = partition ltN d a b q := ⟨_, rfl⟩
  have hdef : r = if i1 > j1 then (j1, true, swp dk j1 a) else ((partLoop ltN a (i1 + 1) (j1 - 1) (swp dk i1 j1)).1, false, swp (partLoop ltN a (i1 + 1) (j1 - 1) (swp dk i1 j1)).2 (partLoop ltN a (i1 + 1) (j1 - 1) (swp dk i1 j1)).1 a) := by
    subst hB hj1 hi1 hdk hr; rfl
  rw [← hr]
  have hBq : q < B + 1 := by omega
  have hBn : B + 1 ≤ n := by omega
  have HDK := Lib.hid hdk
  have HI1 := Lib.hid hi1
  have HJ1 := Lib.hid hj1
  have HD := Lib.hid hdef
  have hb1 := scanUp_ge (fun x => ltN x dk[a]!) dk B (a + 1)
  have hb2 := (scanUp_spec (fun x => ltN x dk[a]!) dk B _ (a + 1) rfl).2.1 (by omega)
  rw [← hi1] at hb1 hb2
  have hb3 := scanDown_le (fun x => !ltN x dk[a]!) dk i1 B
  have hb4 := (scanDown_spec (fun x => !ltN x dk[a]!) dk i1 B).2.1 hb2
  rw [← hj1] at hb3 hb4
  clear hB h hdef hr hdk hi1 hj1
  go_enter Try.func46, Try.ntmps46
  go_upto_region 1 with (fail)
  go_cut [8] from 12 to 25 (fun v wc => v = .int .i64 0 ∧ Hid (UR w g cap n dk wc))
  case first =>
    obtain ⟨x, hx⟩ : ∃ x, x = d[a]! := ⟨_, rfl⟩
    have c1 : w.cell? ⟨g, a, none⟩ = some (.int .u64 (x : Nat)) := by rw [hx]; exact H.out.cell (a) (by omega)
    have f1 := H.out.fz (a)
    have HX := Lib.hid hx
    clear hx
    obtain ⟨y, hy⟩ : ∃ x, x = d[q]! := ⟨_, rfl⟩
    have c2 : w.cell? ⟨g, q, none⟩ = some (.int .u64 (y : Nat)) := by rw [hy]; exact H.out.cell (q) (by omega)
    have f2 := H.out.fz (q)
    have HY := Lib.hid hy
    clear hy
    by_cases hne : q = a
    · subst hne
      obtain rfl : x = y := by rw [HX.out, HY.out]
      go_region
      all_goals go_wp2
      go_meet
      case rel => exact ⟨rfl, Lib.hid (by rw [HDK.out]; exact H.out.swpD (by omega) (by omega) HX.out HX.out)⟩
    · have hne2 : a ≠ q := fun e => hne e.symm
      go_region
      all_goals go_wp2
      go_meet
      case rel => exact ⟨rfl, Lib.hid (by rw [HDK.out]; exact H.out.swpD (by omega) (by omega) HX.out HY.out)⟩
  case rest =>
    obtain ⟨rfl, HU⟩ := hcut
    clear H
    go_upto_block 0 with (fail)
    go_cut [10] from 30 to 45 (fun v wc => Hid (UpD w g cap n dk (fun x => ltN x dk[a]!) B (a + 1) v wc))
    case first =>
      go_wp2
      go_loopw [10] (fun v wr => ∃ ii, v = .int .i64 (ii : Nat) ∧ (a + 1) ≤ ii ∧ ii ≤ B + 1 ∧ Hid (UR w g cap n dk wr ∧ scanUp (fun x => ltN x dk[a]!) dk B ii = scanUp (fun x => ltN x dk[a]!) dk B (a + 1))) (fun v _ => B + 1 - (intOf v).toNat)
      case atStart => exact ⟨(a + 1), rfl, by omega, by omega, Lib.hid ⟨HU.out, rfl⟩⟩
      case round =>
        obtain ⟨ii, rfl, hi1, hi2, HI⟩ := hrel
        by_cases hle : ii ≤ B
        · have z1 : (ii : Int) ≤ (B : Int) := by omega
          have z2 : (ii : Int) < (n : Int) := by omega
          have z3 : (a : Int) < (n : Int) := by omega
          obtain ⟨x, hx⟩ : ∃ x, x = dk[ii]! := ⟨_, rfl⟩
          have c1 : wr.cell? ⟨g, ii, none⟩ = some (.int .u64 (x : Nat)) := by rw [hx]; exact HI.out.1.cell (ii) (by omega)
          have f1 := HI.out.1.fz (ii)
          have HX := Lib.hid hx
          clear hx
          obtain ⟨p, hp⟩ : ∃ x, x = dk[a]! := ⟨_, rfl⟩
          have c2 : wr.cell? ⟨g, a, none⟩ = some (.int .u64 (p : Nat)) := by rw [hp]; exact HI.out.1.cell (a) (by omega)
          have f2 := HI.out.1.fz (a)
          have HP := Lib.hid hp
          clear hp
          cases hl : ltN x p with
          | true =>
            have HL := Lib.hid hl
            go_wp2
            go_quiet (first | (go_at_call 44; refine Calls.quiet_of_same (less_of _ _ _)))
            go_wp2
            go_roundw
            case rel => exact ⟨ii + 1, by go_num, by omega, by omega, Lib.hid ⟨HI.out.1.drewN _, by rw [← HI.out.2, su_go (fun x => ltN x dk[a]!) dk B ii hle (by have h := HL.out; rw [HX.out, HP.out] at h; exact h)]⟩⟩
            case measure => simp [intOf]; omega
          | false =>
            have HL := Lib.hid hl
            go_wp2
            go_quiet (first | (go_at_call 44; refine Calls.quiet_of_same (less_of _ _ _)))
            go_wp2
            go_meet
            case rel => exact Lib.hid ⟨by rw [← HI.out.2, su_stop (fun x => ltN x dk[a]!) dk B ii (.inr (by have h := HL.out; rw [HX.out, HP.out] at h; exact h))], HI.out.1.drewN _⟩
        · have z1 : ¬ (ii : Int) ≤ (B : Int) := by omega
          have z2 : decide ((ii : Int) ≤ (B : Int)) = false := decide_eq_false z1
          go_wp2
          go_quiet (first | (go_at_call 44; refine Calls.quiet_of_same (less_of _ _ _)))
          go_wp2
          go_meet
          case rel => exact Lib.hid ⟨by rw [← HI.out.2, su_stop (fun x => ltN x dk[a]!) dk B ii (.inl (by omega))], HI.out.1.drewN _⟩
    case rest =>
      obtain ⟨hv, hu⟩ := hcut.out
      rw [← HI1.out] at hv
      subst hv
      replace HU := Lib.hid hu
      clear hcut hu
      go_upto_block 2 with (fail)
      go_cut [11] from 46 to 62 (fun v wc => Hid (DnD w g cap n dk (fun x => !ltN x dk[a]!) i1 B v wc))
      case first =>
        go_wp2
        go_loopw [11] (fun v wr => ∃ jj, v = .int .i64 (jj : Nat) ∧ i1 ≤ jj + 1 ∧ jj ≤ B ∧ Hid (UR w g cap n dk wr ∧ scanDown (fun x => !ltN x dk[a]!) dk i1 jj = scanDown (fun x => !ltN x dk[a]!) dk i1 B)) (fun v _ => (intOf v).toNat)
        case atStart => exact ⟨B, rfl, by omega, by omega, Lib.hid ⟨HU.out, rfl⟩⟩
        case round =>
          obtain ⟨jj, rfl, hi1, hi2, HI⟩ := hrel
          by_cases hle : i1 ≤ jj
          · obtain ⟨j', rfl⟩ : ∃ j', jj = j' + 1 := ⟨jj - 1, by omega⟩
            have z1 : (i1 : Int) ≤ (j' : Int) + 1 := by omega
            have z2 : (j' : Int) + 1 < (n : Int) := by omega
            have z3 : (a : Int) < (n : Int) := by omega
            have z4 : (0 : Int) ≤ (j' : Int) + 1 := by omega
            have hwj := IntWalk.i64_in (j' : Int) (by omega)
            obtain ⟨x, hx⟩ : ∃ x, x = dk[j' + 1]! := ⟨_, rfl⟩
            have c1 : wr.cell? ⟨g, j' + 1, none⟩ = some (.int .u64 (x : Nat)) := by rw [hx]; exact HI.out.1.cell (j' + 1) (by omega)
            have f1 := HI.out.1.fz (j' + 1)
            have HX := Lib.hid hx
            clear hx
            obtain ⟨p, hp⟩ : ∃ x, x = dk[a]! := ⟨_, rfl⟩
            have c2 : wr.cell? ⟨g, a, none⟩ = some (.int .u64 (p : Nat)) := by rw [hp]; exact HI.out.1.cell (a) (by omega)
            have f2 := HI.out.1.fz (a)
            have HP := Lib.hid hp
            clear hp
            cases hl : ltN x p with
            | false =>
              have HL := Lib.hid hl
              go_wp2
              go_quiet (first | (go_at_call 44; refine Calls.quiet_of_same (less_of _ _ _)))
              go_wp2
              go_roundw
              case rel => exact ⟨j', by go_num, by omega, by omega, Lib.hid ⟨HI.out.1.drewN _, by rw [← HI.out.2, sn_go (fun x => !ltN x dk[a]!) dk i1 j' hle (by have h := HL.out; rw [HX.out, HP.out] at h; exact (congrArg not h))]⟩⟩
              case measure => simp [intOf]; try omega
            | true =>
              have HL := Lib.hid hl
              go_wp2
              go_quiet (first | (go_at_call 44; refine Calls.quiet_of_same (less_of _ _ _)))
              go_wp2
              go_meet
              case rel => exact Lib.hid ⟨by rw [← HI.out.2, sn_stop (fun x => !ltN x dk[a]!) dk i1 (j' + 1) (.inr (by have h := HL.out; rw [HX.out, HP.out] at h; exact (congrArg not h))) (by omega)]; try rfl, HI.out.1.drewN _⟩
          · have z1 : ¬ (i1 : Int) ≤ (jj : Int) := by omega
            have z2 : decide ((i1 : Int) ≤ (jj : Int)) = false := decide_eq_false z1
            go_wp2
            go_quiet (first | (go_at_call 44; refine Calls.quiet_of_same (less_of _ _ _)))
            go_wp2
            go_meet
            case rel => exact Lib.hid ⟨by rw [← HI.out.2, sn_stop (fun x => !ltN x dk[a]!) dk i1 jj (.inl (by omega)) (by omega)], HI.out.1.drewN _⟩
      case rest =>
        obtain ⟨hv, hu⟩ := hcut.out
        rw [← HJ1.out] at hv
        subst hv
        replace HU := Lib.hid hu
        clear hcut hu
        have y1 : (j1 : Int) < (n : Int) := by omega
        by_cases hgt : j1 < i1
        · have z1 : (j1 : Int) < (i1 : Int) := by omega
          have HF := Lib.hid (show r = (j1, true, swp dk j1 a) by rw [HD.out, if_pos hgt])
          clear HD
          obtain ⟨x, hx⟩ : ∃ x, x = dk[j1]! := ⟨_, rfl⟩
          have c1 : wc.cell? ⟨g, j1, none⟩ = some (.int .u64 (x : Nat)) := by rw [hx]; exact HU.out.cell (j1) (by omega)
          have f1 := HU.out.fz (j1)
          have HX := Lib.hid hx
          clear hx
          obtain ⟨y, hy⟩ : ∃ x, x = dk[a]! := ⟨_, rfl⟩
          have c2 : wc.cell? ⟨g, a, none⟩ = some (.int .u64 (y : Nat)) := by rw [hy]; exact HU.out.cell (a) (by omega)
          have f2 := HU.out.fz (a)
          have HY := Lib.hid hy
          clear hy
          by_cases hne : j1 = a
          · subst hne
            obtain rfl : x = y := by rw [HX.out, HY.out]
            go_wp2
            go_region
            all_goals go_wp2
            go_ret2
            exact ⟨by rw [HF.out]; rfl, by rw [HF.out]; exact HU.out.swpD (by omega) (by omega) HX.out HX.out⟩
          · have hne2 : a ≠ j1 := fun e => hne e.symm
            go_wp2
            go_region
            all_goals go_wp2
            go_ret2
            exact ⟨by rw [HF.out]; rfl, by rw [HF.out]; exact HU.out.swpD (by omega) (by omega) HX.out HY.out⟩
        · have hlt : i1 < j1 := by
            have := scans_ne (fun x => ltN x dk[a]!) (fun x => !ltN x dk[a]!) (fun x => rfl) dk (a + 1) B (by omega)
            rw [← HI1.out, ← HJ1.out] at this
            exact this hgt
          have z1 : ¬ (j1 : Int) < (i1 : Int) := by omega
          obtain ⟨J, rfl⟩ : ∃ J, j1 = J + 1 := ⟨j1 - 1, by omega⟩
          obtain ⟨R, hR⟩ : ∃ R, R = partLoop ltN a (i1 + 1) J (swp dk i1 (J + 1)) := ⟨_, rfl⟩
          have HF := Lib.hid (show r = (R.1, false, swp R.2 R.1 a) by rw [HD.out, if_neg hgt, hR]; rfl)
          have HR0 := Lib.hid hR
          clear HD hR
          have z2 : (i1 : Int) < (n : Int) := by omega
          have z3 : (J : Int) + 1 < (n : Int) := by omega
          have z4 : (0 : Int) ≤ (J : Int) + 1 := by omega
          have hne : i1 ≠ J + 1 := by omega
          have hwJ := IntWalk.i64_in (J : Int) (by omega)
          obtain ⟨x, hx⟩ : ∃ x, x = dk[i1]! := ⟨_, rfl⟩
          have c1 : wc.cell? ⟨g, i1, none⟩ = some (.int .u64 (x : Nat)) := by rw [hx]; exact HU.out.cell (i1) (by omega)
          have f1 := HU.out.fz (i1)
          have HX := Lib.hid hx
          clear hx
          obtain ⟨y, hy⟩ : ∃ x, x = dk[J + 1]! := ⟨_, rfl⟩
          have c2 : wc.cell? ⟨g, J + 1, none⟩ = some (.int .u64 (y : Nat)) := by rw [hy]; exact HU.out.cell (J + 1) (by omega)
          have f2 := HU.out.fz (J + 1)
          have HY := Lib.hid hy
          clear hy
          go_wp2
          go_region
          all_goals go_wp2
          have U1 := Lib.hid (HU.out.swpD (i := i1) (j := J + 1) (by omega) (by omega) HX.out HY.out)
          generalize World.drew _ = X at U1 ⊢
          clear c1 c2 f1 f2
          go_loopw [10, 11] (fun u v wr => ∃ (i j : Nat) (dk : Array Nat), u = .int .i64 (i : Nat) ∧ v = .int .i64 (j : Nat) ∧ a < i ∧ i ≤ j + 1 ∧ j ≤ B ∧ Hid (UR w g cap n dk wr ∧ partLoop ltN a i j dk = R)) (fun u v _ => (intOf v + 1 - intOf u).toNat)
          case atStart => exact ⟨i1 + 1, J, _, by go_num, by go_num, by omega, by omega, by omega, Lib.hid ⟨U1.out, HR0.out.symm⟩⟩
          case round =>
            clear HI1 HJ1 HU HX HY HDK U1 HR0
            obtain ⟨i, j, dk, rfl, rfl, hai, hij, hjB, HR⟩ := hrel
            have HU := Lib.hid HR.out.1
            go_upto_block 6 with (fail)
            go_cut [10] from 99 to 152 (fun v wc => Hid (UpD w g cap n dk (fun x => ltN x dk[a]!) j i v wc))
            case first =>
              go_wp2
              go_loopw [10] (fun v wr => ∃ ii, v = .int .i64 (ii : Nat) ∧ i ≤ ii ∧ ii ≤ j + 1 ∧ Hid (UR w g cap n dk wr ∧ scanUp (fun x => ltN x dk[a]!) dk j ii = scanUp (fun x => ltN x dk[a]!) dk j i)) (fun v _ => j + 1 - (intOf v).toNat)
              case atStart => exact ⟨i, rfl, by omega, by omega, Lib.hid ⟨HU.out, rfl⟩⟩
              case round =>
                obtain ⟨ii, rfl, hi1, hi2, HI⟩ := hrel
                by_cases hle : ii ≤ j
                · have z1 : (ii : Int) ≤ (j : Int) := by omega
                  have z2 : (ii : Int) < (n : Int) := by omega
                  have z3 : (a : Int) < (n : Int) := by omega
                  obtain ⟨x, hx⟩ : ∃ x, x = dk[ii]! := ⟨_, rfl⟩
                  have c1 : wr.cell? ⟨g, ii, none⟩ = some (.int .u64 (x : Nat)) := by rw [hx]; exact HI.out.1.cell (ii) (by omega)
                  have f1 := HI.out.1.fz (ii)
                  have HX := Lib.hid hx
                  clear hx
                  obtain ⟨p, hp⟩ : ∃ x, x = dk[a]! := ⟨_, rfl⟩
                  have c2 : wr.cell? ⟨g, a, none⟩ = some (.int .u64 (p : Nat)) := by rw [hp]; exact HI.out.1.cell (a) (by omega)
                  have f2 := HI.out.1.fz (a)
                  have HP := Lib.hid hp
                  clear hp
                  cases hl : ltN x p with
                  | true =>
                    have HL := Lib.hid hl
                    go_wp2
                    go_quiet (first | (go_at_call 44; refine Calls.quiet_of_same (less_of _ _ _)))
                    go_wp2
                    go_roundw
                    case rel => exact ⟨ii + 1, by go_num, by omega, by omega, Lib.hid ⟨HI.out.1.drewN _, by rw [← HI.out.2, su_go (fun x => ltN x dk[a]!) dk j ii hle (by have h := HL.out; rw [HX.out, HP.out] at h; exact h)]⟩⟩
                    case measure => simp [intOf]; omega
                  | false =>
                    have HL := Lib.hid hl
                    go_wp2
                    go_quiet (first | (go_at_call 44; refine Calls.quiet_of_same (less_of _ _ _)))
                    go_wp2
                    go_meet
                    case rel => exact Lib.hid ⟨by rw [← HI.out.2, su_stop (fun x => ltN x dk[a]!) dk j ii (.inr (by have h := HL.out; rw [HX.out, HP.out] at h; exact h))], HI.out.1.drewN _⟩
                · have z1 : ¬ (ii : Int) ≤ (j : Int) := by omega
                  have z2 : decide ((ii : Int) ≤ (j : Int)) = false := decide_eq_false z1
                  go_wp2
                  go_quiet (first | (go_at_call 44; refine Calls.quiet_of_same (less_of _ _ _)))
                  go_wp2
                  go_meet
                  case rel => exact Lib.hid ⟨by rw [← HI.out.2, su_stop (fun x => ltN x dk[a]!) dk j ii (.inl (by omega))], HI.out.1.drewN _⟩
            case rest =>
              obtain ⟨i2, hi2⟩ : ∃ i2, i2 = scanUp (fun x => ltN x dk[a]!) dk j i := ⟨_, rfl⟩
              have hb1 := scanUp_ge (fun x => ltN x dk[a]!) dk j i
              have hb2 := (scanUp_spec (fun x => ltN x dk[a]!) dk j _ i rfl).2.1 hij
              obtain ⟨hv, hu⟩ := hcut.out
              rw [← hi2] at hv hb1 hb2
              subst hv
              have HI2 := Lib.hid hi2
              replace HU := Lib.hid hu
              clear hcut hu hi2
              go_upto_block 8 with (fail)
              go_cut [11] from 115 to 152 (fun v wc => Hid (DnD w g cap n dk (fun x => !ltN x dk[a]!) i2 j v wc))
              case first =>
                go_wp2
                go_loopw [11] (fun v wr => ∃ jj, v = .int .i64 (jj : Nat) ∧ i2 ≤ jj + 1 ∧ jj ≤ j ∧ Hid (UR w g cap n dk wr ∧ scanDown (fun x => !ltN x dk[a]!) dk i2 jj = scanDown (fun x => !ltN x dk[a]!) dk i2 j)) (fun v _ => (intOf v).toNat)
                case atStart => exact ⟨j, rfl, by omega, by omega, Lib.hid ⟨HU.out, rfl⟩⟩
                case round =>
                  obtain ⟨jj, rfl, hi1, hi2, HI⟩ := hrel
                  by_cases hle : i2 ≤ jj
                  · obtain ⟨j', rfl⟩ : ∃ j', jj = j' + 1 := ⟨jj - 1, by omega⟩
                    have z1 : (i2 : Int) ≤ (j' : Int) + 1 := by omega
                    have z2 : (j' : Int) + 1 < (n : Int) := by omega
                    have z3 : (a : Int) < (n : Int) := by omega
                    have z4 : (0 : Int) ≤ (j' : Int) + 1 := by omega
                    have hwj := IntWalk.i64_in (j' : Int) (by omega)
                    obtain ⟨x, hx⟩ : ∃ x, x = dk[j' + 1]! := ⟨_, rfl⟩
                    have c1 : wr.cell? ⟨g, j' + 1, none⟩ = some (.int .u64 (x : Nat)) := by rw [hx]; exact HI.out.1.cell (j' + 1) (by omega)
                    have f1 := HI.out.1.fz (j' + 1)
                    have HX := Lib.hid hx
                    clear hx
                    obtain ⟨p, hp⟩ : ∃ x, x = dk[a]! := ⟨_, rfl⟩
                    have c2 : wr.cell? ⟨g, a, none⟩ = some (.int .u64 (p : Nat)) := by rw [hp]; exact HI.out.1.cell (a) (by omega)
                    have f2 := HI.out.1.fz (a)
                    have HP := Lib.hid hp
                    clear hp
                    cases hl : ltN x p with
                    | false =>
                      have HL := Lib.hid hl
                      go_wp2
                      go_quiet (first | (go_at_call 44; refine Calls.quiet_of_same (less_of _ _ _)))
                      go_wp2
                      go_roundw
                      case rel => exact ⟨j', by go_num, by omega, by omega, Lib.hid ⟨HI.out.1.drewN _, by rw [← HI.out.2, sn_go (fun x => !ltN x dk[a]!) dk i2 j' hle (by have h := HL.out; rw [HX.out, HP.out] at h; exact (congrArg not h))]⟩⟩
                      case measure => simp [intOf]; try omega
                    | true =>
                      have HL := Lib.hid hl
                      go_wp2
                      go_quiet (first | (go_at_call 44; refine Calls.quiet_of_same (less_of _ _ _)))
                      go_wp2
                      go_meet
                      case rel => exact Lib.hid ⟨by rw [← HI.out.2, sn_stop (fun x => !ltN x dk[a]!) dk i2 (j' + 1) (.inr (by have h := HL.out; rw [HX.out, HP.out] at h; exact (congrArg not h))) (by omega)]; try rfl, HI.out.1.drewN _⟩
                  · have z1 : ¬ (i2 : Int) ≤ (jj : Int) := by omega
                    have z2 : decide ((i2 : Int) ≤ (jj : Int)) = false := decide_eq_false z1
                    go_wp2
                    go_quiet (first | (go_at_call 44; refine Calls.quiet_of_same (less_of _ _ _)))
                    go_wp2
                    go_meet
                    case rel => exact Lib.hid ⟨by rw [← HI.out.2, sn_stop (fun x => !ltN x dk[a]!) dk i2 jj (.inl (by omega)) (by omega)], HI.out.1.drewN _⟩
              case rest =>
                obtain ⟨j2, hj2⟩ : ∃ j2, j2 = scanDown (fun x => !ltN x dk[a]!) dk i2 j := ⟨_, rfl⟩
                have hb3 := scanDown_le (fun x => !ltN x dk[a]!) dk i2 j
                have hb4 := (scanDown_spec (fun x => !ltN x dk[a]!) dk i2 j).2.1 hb2
                obtain ⟨hv, hu⟩ := hcut.out
                rw [← hj2] at hv hb3 hb4
                subst hv
                have HJ2 := Lib.hid hj2
                replace HU := Lib.hid hu
                clear hcut hu hj2
                have y1 : (j2 : Int) < (n : Int) := by omega
                by_cases hgt : j2 < i2
                · have z1 : (j2 : Int) < (i2 : Int) := by omega
                  have fin : R = (j2, dk) := by rw [← HR.out.2, partLoop_eq, ← HI2.out, ← HJ2.out, if_pos hgt]
                  have FIN := Lib.hid (show r = (j2, false, swp dk j2 a) by rw [HF.out, fin])
                  clear fin
                  obtain ⟨x, hx⟩ : ∃ x, x = dk[j2]! := ⟨_, rfl⟩
                  have c1 : wc.cell? ⟨g, j2, none⟩ = some (.int .u64 (x : Nat)) := by rw [hx]; exact HU.out.cell (j2) (by omega)
                  have f1 := HU.out.fz (j2)
                  have HX := Lib.hid hx
                  clear hx
                  obtain ⟨y, hy⟩ : ∃ x, x = dk[a]! := ⟨_, rfl⟩
                  have c2 : wc.cell? ⟨g, a, none⟩ = some (.int .u64 (y : Nat)) := by rw [hy]; exact HU.out.cell (a) (by omega)
                  have f2 := HU.out.fz (a)
                  have HY := Lib.hid hy
                  clear hy
                  by_cases hne : j2 = a
                  · subst hne
                    obtain rfl : x = y := by rw [HX.out, HY.out]
                    go_wp2
                    go_region
                    all_goals go_wp2
                    go_ret2
                    exact ⟨by rw [FIN.out]; rfl, by rw [FIN.out]; exact HU.out.swpD (by omega) (by omega) HX.out HX.out⟩
                  · have hne2 : a ≠ j2 := fun e => hne e.symm
                    go_wp2
                    go_region
                    all_goals go_wp2
                    go_ret2
                    exact ⟨by rw [FIN.out]; rfl, by rw [FIN.out]; exact HU.out.swpD (by omega) (by omega) HX.out HY.out⟩
                · have hlt : i2 < j2 := by
                    have := scans_ne (fun x => ltN x dk[a]!) (fun x => !ltN x dk[a]!) (fun x => rfl) dk i j (by omega)
                    rw [← HI2.out, ← HJ2.out] at this
                    exact this hgt
                  have fin : partLoop ltN a i j dk = partLoop ltN a (i2 + 1) (j2 - 1) (swp dk i2 j2) := by rw [partLoop_eq, ← HI2.out, ← HJ2.out, if_neg hgt]
                  have FIN := Lib.hid fin
                  have z1 : ¬ (j2 : Int) < (i2 : Int) := by omega
                  obtain ⟨J, rfl⟩ : ∃ J, j2 = J + 1 := ⟨j2 - 1, by omega⟩
                  have z2 : (i2 : Int) < (n : Int) := by omega
                  have z3 : (J : Int) + 1 < (n : Int) := by omega
                  have z4 : (0 : Int) ≤ (J : Int) + 1 := by omega
                  have hne : i2 ≠ J + 1 := by omega
                  have hwJ := IntWalk.i64_in (J : Int) (by omega)
                  obtain ⟨x, hx⟩ : ∃ x, x = dk[i2]! := ⟨_, rfl⟩
                  have c1 : wc.cell? ⟨g, i2, none⟩ = some (.int .u64 (x : Nat)) := by rw [hx]; exact HU.out.cell (i2) (by omega)
                  have f1 := HU.out.fz (i2)
                  have HX := Lib.hid hx
                  clear hx
                  obtain ⟨y, hy⟩ : ∃ x, x = dk[J + 1]! := ⟨_, rfl⟩
                  have c2 : wc.cell? ⟨g, J + 1, none⟩ = some (.int .u64 (y : Nat)) := by rw [hy]; exact HU.out.cell (J + 1) (by omega)
                  have f2 := HU.out.fz (J + 1)
                  have HY := Lib.hid hy
                  clear hy
                  clear fin
                  go_wp2
                  go_region
                  all_goals go_wp2
                  go_roundw
                  case rel => exact ⟨i2 + 1, J, _, by go_num, by go_num, by omega, by omega, by omega, Lib.hid ⟨HU.out.swpD (by omega) (by omega) HX.out HY.out, by rw [← HR.out.2, FIN.out]; rfl⟩⟩
                  case measure => simp [intOf]; omega
end Go.Proofs.Ytpihlchocjdpmaa
