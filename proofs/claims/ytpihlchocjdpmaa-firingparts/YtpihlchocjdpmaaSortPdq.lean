/-
  slices.pdqsortOrdered at uint64 (rows of fewer than 256): what it leaves is a permutation of the range, and rises.
-/
import Derived.Test.YtpihlchocjdpmaaSortIns
import Derived.Test.YtpihlchocjdpmaaSortHeap
import Derived.Test.YtpihlchocjdpmaaSortPart
import Derived.Test.YtpihlchocjdpmaaSortPins
import Derived.Test.YtpihlchocjdpmaaSortRev
import Derived.Test.YtpihlchocjdpmaaSortPiv
import Derived.Test.YtpihlchocjdpmaaSortBrk
import Derived.Sort.LotD3
namespace Go.Proofs.Ytpihlchocjdpmaa
open Go.RowKit Go.Sort Verge
set_option linter.unusedVariables false
set_option linter.unusedSimpArgs false
/-- at the head of the loop: what is left to sort, and that it is all that is left -/
structure PdIn (w : World) (g cap n : Nat) (d : Array Nat) (a b a' b' : Nat) (dk : Array Nat) (W : World) : Prop where
  u : UR w g cap n dk W
  bl : Sort.Below ltN a' b' dk
  fin : ∀ R, PermIn a' b' dk R → SortedIn ltN a' b' R → PermIn a b d R ∧ SortedIn ltN a b R
theorem PdIn.perm {w W W' : World} {g cap n a b a' b' : Nat} {d dk d1 : Array Nat} (h : PdIn w g cap n d a b a' b' dk W) (u : UR w g cap n d1 W') (hb : b' ≤ n) (p : PermIn a' b' dk d1) : PdIn w g cap n d a b a' b' d1 W' :=
  ⟨u, h.bl.perm (by rw [h.u.n]; exact hb) p, fun R h1 h2 => h.fin R (permIn_trans _ _ _ _ _ p h1) h2⟩
/-- what pdqsort answers, of ranges of no more than M -/
def PdqC (M : Nat) : Prop := ∀ (w : World) (g cap n : Nat) (d : Array Nat) (a b lim : Nat), b - a ≤ M → UR w g cap n d w → a ≤ b → b ≤ n → n < 256 → lim ≤ 100 → Sort.Below ltN a b d →
  Calls Try.prog 35 #[.slice (some ⟨g, 0, none⟩) n cap, .int .i64 (a : Nat), .int .i64 (b : Nat), .int .i64 (lim : Nat)] w fun e w' => e = .returned (.tuple #[]) ∧ ∃ d', PermIn a b d d' ∧ SortedIn ltN a b d' ∧ UR w g cap n d' w'

set_option maxRecDepth 100000 in
set_option maxHeartbeats 8000000 in
theorem pdq_step (M : Nat) (IH : ∀ m, m < M → PdqC m) : PdqC M := by
  intro w g cap n d a b lim hM h hab hb hn hlim hbl
  have IHH := Lib.hid IH
  have H0 : Hid (PdIn w g cap n d a b a b d w) := Lib.hid ⟨h, hbl, fun R h1 h2 => ⟨h1, h2⟩⟩
  clear IH h hbl
  go_enter Try.func35, Try.ntmps35
  go_wp2
  go_loopw [1, 2, 3, 8, 9] (fun va vb vl vwb vwp wr => ∃ (a' b' l' : Nat) (wb wp : Bool) (dk : Array Nat), va = .int .i64 (a' : Nat) ∧ vb = .int .i64 (b' : Nat) ∧ vl = .int .i64 (l' : Nat) ∧ vwb = .bool wb ∧ vwp = .bool wp ∧ a' ≤ b' ∧ b' ≤ n ∧ b' - a' ≤ M ∧ l' ≤ 100 ∧ Hid (PdIn w g cap n d a b a' b' dk wr)) (fun va vb _ _ _ _ => (intOf vb - intOf va).toNat)
  case atStart => exact ⟨a, b, lim, true, true, d, rfl, rfl, rfl, rfl, rfl, hab, hb, hM, hlim, H0⟩
  case round =>
    clear hab hb hM hlim H0
    obtain ⟨a', b', l', wb, wp, dk, rfl, rfl, rfl, rfl, rfl, hab, hb, hM, hlim, HP⟩ := hrel
    obtain ⟨L, hL⟩ : ∃ L, b' = a' + L := ⟨b' - a', by omega⟩
    have e0 : (b' : Int) - (a' : Int) = (L : Int) := by omega
    have l0 := IntWalk.i64_in (L : Int) (by omega)
    have HL := Lib.hid hL
    clear hL
    by_cases h12 : L ≤ 12
    · have z1 : (L : Int) ≤ 12 := by omega
      go_wp2_with fail
      refine (insSort_of HP.out.u.start a' b' hab hb (by omega)).mono ?_
      rintro e w1 ⟨rfl, u1⟩
      have U1 := Lib.hid (HP.out.u.back u1)
      clear u1
      go_wp2
      refine bodyPost_ret (results_none rfl _ _ _) rfl ?_
      obtain ⟨p1, p2⟩ := insertionSort_holds swo_ltN dk a' b' hab (by rw [HP.out.u.n]; exact hb)
      obtain ⟨q1, q2⟩ := HP.out.fin _ p1 p2
      exact ⟨rfl, _, q1, q2, U1.out⟩
    · have z1 : ¬ (L : Int) ≤ 12 := by omega
      have hlt : a' < b' := by have := HL.out; omega
      rcases Nat.eq_zero_or_pos l' with rfl | hlp
      · rw [show ((0 : Nat) : Int) = 0 from rfl]
        go_wp2_with fail
        refine (heap_of HP.out.u.start a' b' hlt hb (by omega)).mono ?_
        rintro e w1 ⟨rfl, u1⟩
        have U1 := Lib.hid (HP.out.u.back u1)
        clear u1
        go_wp2
        refine bodyPost_ret (results_none rfl _ _ _) rfl ?_
        obtain ⟨p1, p2⟩ := heapSort_holds swo_ltN dk a' b' hab (by rw [HP.out.u.n]; exact hb)
        obtain ⟨q1, q2⟩ := HP.out.fin _ p1 p2
        exact ⟨rfl, _, q1, q2, U1.out⟩
      · obtain ⟨l1, hl1⟩ : ∃ l1, l' = l1 + 1 := ⟨l' - 1, by omega⟩
        have e1 : (l' : Int) - 1 = (l1 : Int) := by omega
        have z2 : (l' : Int) ≠ 0 := by omega
        have z2b : ((l' : Int) == 0) = false := beq_eq_false_iff_ne.2 z2
        have l2 := IntWalk.i64_in (l1 : Int) (by omega)
        have hl1l : l1 ≤ 100 := by omega
        clear hl1
        go_upto_if 35 with (fail)
        go_cut [3] from 36 to 133 (fun v wc => Hid (∃ (l2 : Nat) (d1 : Array Nat), v = .int .i64 (l2 : Nat) ∧ l2 ≤ 100 ∧ PdIn w g cap n d a b a' b' d1 wc))
        case first =>
          cases wb with
          | true =>
            go_wp2
            go_meet
            case rel => exact Lib.hid ⟨l', dk, rfl, hlim, HP.out⟩
          | false =>
            go_wp2_with fail
            refine (brk_of HP.out.u.start a' b' hlt hb hn).mono ?_
            rintro e w1 ⟨rfl, d1, p1, u1⟩
            have U1 := Lib.hid (HP.out.perm (HP.out.u.back u1) hb p1)
            clear p1 u1
            go_wp2
            go_meet
            case rel => exact Lib.hid ⟨l1, d1, rfl, hl1l, U1.out⟩
        case rest =>
          obtain ⟨l2', d1, rfl, hl2, hp1⟩ := hcut.out
          have HP1 := Lib.hid hp1
          clear hcut hp1 HP e1 z2 z2b l2 hl1l hlim hlp
          go_wp2_with fail
          refine (piv_of HP1.out.u.start a' b' hlt hb (by omega)).mono ?_
          rintro e w1 ⟨x, hint, rfl, hx1, hx2, u1⟩
          have HP2 := Lib.hid (HP1.out.perm (HP1.out.u.back u1) hb (permIn_refl _ _ _))
          obtain ⟨p2, hp2⟩ : ∃ p, p = (b' - 1) - (x - a') := ⟨_, rfl⟩
          have e3 : (b' : Int) - 1 - ((x : Int) - (a' : Int)) = (p2 : Int) := by omega
          have l3 := IntWalk.i64_in ((b' : Int) - 1) (by omega)
          have l4 := IntWalk.i64_in ((x : Int) - (a' : Int)) (by omega)
          have l5 := IntWalk.i64_in (p2 : Int) (by omega)
          have hp2b : a' ≤ p2 ∧ p2 < b' := by omega
          clear u1 HP1 hp2
          go_upto_if 50 with (fail)
          go_cut [11, 12] from 51 to 133 (fun v v2 wc => Hid (∃ (p : Nat) (hint : Int) (d2 : Array Nat), v = .int .i64 (p : Nat) ∧ v2 = .int .i64 hint ∧ a' ≤ p ∧ p < b' ∧ PdIn w g cap n d a b a' b' d2 wc))
          case first =>
            by_cases hh : hint = 2
            · subst hh
              go_wp2_with fail
              refine (rev_of HP2.out.u.start a' b' hlt hb (by omega)).mono ?_
              rintro e w2 ⟨rfl, u2⟩
              have HP3 := Lib.hid (HP2.out.perm (HP2.out.u.back u2) hb (reverseRange_holds d1 a' b' hab (by rw [HP2.out.u.n]; exact hb)))
              clear u2
              go_wp2
              go_meet
              case rel => exact Lib.hid ⟨p2, 1, _, rfl, rfl, hp2b.1, hp2b.2, HP3.out⟩
            · have hhb : (hint == 2) = false := beq_eq_false_iff_ne.2 hh
              go_wp2
              go_meet
              case rel => exact Lib.hid ⟨x, hint, _, rfl, rfl, hx1, hx2, HP2.out⟩
          case rest =>
            obtain ⟨p, hint, d2, rfl, rfl, hp1, hp2, hpd⟩ := hcut.out
            have HP3 := Lib.hid hpd
            clear hcut hpd HP2 e3 l3 l4 l5 hp2b hx1 hx2
            go_upto_region 15 with (fail)
            go_cut [68] from 61 to 133 (fun v wc => ∃ f : Bool, v = .bool f ∧ Hid (PdIn w g cap n d a b a' b' d2 wc))
            case first =>
              cases wb with
              | false =>
                go_wp2
                go_meet
                case rel => exact ⟨_, rfl, HP3⟩
              | true =>
                cases wp with
                | false =>
                  go_wp2
                  go_meet
                  case rel => exact ⟨_, rfl, HP3⟩
                | true =>
                  by_cases hh : hint = 1
                  · subst hh
                    go_wp2
                    go_meet
                    case rel => exact ⟨_, rfl, HP3⟩
                  · have hhb : (hint == 1) = false := beq_eq_false_iff_ne.2 hh
                    go_wp2
                    go_meet
                    case rel => exact ⟨_, rfl, HP3⟩
            case rest =>
              obtain ⟨f, rfl, HP4⟩ := hcut
              clear HP3
              go_upto_if 68 with (fail)
              go_cut [72] from 69 to 133 (fun _ wc => Hid (∃ (d3 : Array Nat), PdIn w g cap n d a b a' b' d3 wc))
              case first =>
                cases f with
                | false =>
                  go_wp2
                  go_meet
                  case rel => exact Lib.hid ⟨_, HP4.out⟩
                | true =>
                  obtain ⟨r1, r2⟩ := partialInsertionSort_holds swo_ltN d2 a' b' hlt (by rw [HP4.out.u.n]; exact hb) HP4.out.bl
                  have PI := Lib.hid (pins_of HP4.out.u.start a' b' hlt hb (by omega))
                  have R1 := Lib.hid r1
                  have R2 := Lib.hid r2
                  clear r1 r2
                  obtain ⟨d3, hd3⟩ : ∃ x, x = partialInsertionSort ltN d2 a' b' := ⟨_, rfl⟩
                  rw [← hd3] at PI R1 R2
                  obtain ⟨d3, fl⟩ := d3
                  clear hd3
                  go_wp2_with fail
                  refine PI.out.mono ?_
                  rintro e w3 ⟨rfl, u3⟩
                  have U3 := Lib.hid (HP4.out.u.back u3)
                  clear u3 PI
                  cases fl with
                  | true =>
                    go_wp2
                    refine bodyPost_ret (results_none rfl _ _ _) rfl ?_
                    obtain ⟨q1, q2⟩ := HP4.out.fin _ R1.out (R2.out (by trivial))
                    exact ⟨rfl, _, q1, q2, U3.out⟩
                  | false =>
                    have HP5 := Lib.hid (HP4.out.perm U3.out hb R1.out)
                    go_wp2
                    go_meet
                    case rel => exact Lib.hid ⟨_, HP5.out⟩
              case rest =>
                obtain ⟨d3, hp3⟩ := hcut.out
                have HP5 := Lib.hid hp3
                clear hcut hp3 HP4
                have y3 : (p : Int) < (n : Int) := by omega
                go_upto_region 17 with (fail)
                go_cut [87] from 73 to 133 (fun v wc => ∃ f : Bool, v = .bool f ∧ Hid (PdIn w g cap n d a b a' b' d3 wc ∧ (f = true → 0 < a' ∧ ltN d3[a' - 1]! d3[p]! = false)))
                case first =>
                  rcases Nat.eq_zero_or_pos a' with ha0 | hpos
                  · have y1 : ¬ (0 : Int) < (a' : Int) := by omega
                    have y1n : ¬ 0 < a' := by omega
                    have y1d : decide (0 < a') = false := decide_eq_false y1n
                    have y1e : decide ((0 : Int) < (a' : Int)) = false := decide_eq_false y1
                    have OUT := Lib.hid (fun q => HP5.out.perm (HP5.out.u.drewN q) hb (permIn_refl _ _ _))
                    clear ha0
                    go_wp2
                    go_quiet (first | (go_at_call 44; refine Calls.quiet_of_same (less_of _ _ _)))
                    go_wp2
                    go_meet
                    case rel => exact ⟨false, rfl, Lib.hid ⟨OUT.out _, fun h => by cases h⟩⟩
                  · obtain ⟨A, hA⟩ : ∃ A, a' = A + 1 := ⟨a' - 1, by omega⟩
                    have e4 : (a' : Int) - 1 = (A : Int) := by omega
                    have hA2 := Lib.hid (show a' - 1 = A by omega)
                    have y1 : (0 : Int) < (a' : Int) := by omega
                    have y1d : decide (0 < a') = true := decide_eq_true hpos
                    have y2 : (A : Int) < (n : Int) := by omega
                    have lA := IntWalk.i64_in (A : Int) (by omega)
                    have OUT := Lib.hid (fun q => HP5.out.perm (HP5.out.u.drewN q) hb (permIn_refl _ _ _))
                    clear hA
                    obtain ⟨x, hx⟩ : ∃ x, x = d3[A]! := ⟨_, rfl⟩
                    have c1 : wc.cell? ⟨g, A, none⟩ = some (.int .u64 (x : Nat)) := by rw [hx]; exact HP5.out.u.cell (A) (by omega)
                    have f1 := HP5.out.u.fz (A)
                    have HX := Lib.hid hx
                    clear hx
                    obtain ⟨y, hy⟩ : ∃ x, x = d3[p]! := ⟨_, rfl⟩
                    have c2 : wc.cell? ⟨g, p, none⟩ = some (.int .u64 (y : Nat)) := by rw [hy]; exact HP5.out.u.cell (p) (by omega)
                    have f2 := HP5.out.u.fz (p)
                    have HY := Lib.hid hy
                    clear hy
                    cases hl : ltN x y with
                    | true =>
                      go_wp2
                      go_quiet (first | (go_at_call 44; refine Calls.quiet_of_same (less_of _ _ _)))
                      go_wp2
                      go_meet
                      case rel => exact ⟨false, rfl, Lib.hid ⟨OUT.out _, fun h => by cases h⟩⟩
                    | false =>
                      have HL5 := Lib.hid hl
                      go_wp2
                      go_quiet (first | (go_at_call 44; refine Calls.quiet_of_same (less_of _ _ _)))
                      go_wp2
                      go_meet
                      case rel => exact ⟨true, rfl, Lib.hid ⟨OUT.out _, fun _ => ⟨hpos, by rw [hA2.out, ← HX.out, ← HY.out]; exact HL5.out⟩⟩⟩
                case rest =>
                  obtain ⟨f, rfl, hf⟩ := hcut
                  have HP6 := Lib.hid hf.out.1
                  have HLE := Lib.hid hf.out.2
                  clear HP5 hf
                  cases f with
                  | true =>
                    obtain ⟨hle1, hle2⟩ := HLE.out rfl
                    obtain ⟨mid, d4, hx⟩ : ∃ mid d4, partitionEqual ltN d3 a' b' p = (mid, d4) := ⟨_, _, rfl⟩
                    obtain ⟨m1, m2, m3, m4, m5⟩ := round_eq swo_ltN (partitionEqual_holds ltN) hle1 hp1 hp2 (by rw [HP6.out.u.n]; exact hb) HP6.out.bl hle2 hx
                    have PE := partEq_of HP6.out.u.start a' b' p hp1 hp2 hb (by omega)
                    rw [hx] at PE
                    have PE := Lib.hid PE
                    have NX := Lib.hid (show ∀ W, UR w g cap n d4 W → PdIn w g cap n d a b mid b' d4 W from fun W u => ⟨u, m4, fun R h1 h2 => by
                      obtain ⟨q1, q2⟩ := m5 R h1 h2
                      exact HP6.out.fin R q1 q2⟩)
                    have hmm : b' - mid ≤ M := by omega
                    clear hle1 hle2 m3 m4 m5 hx HLE
                    go_wp2_with fail
                    refine PE.out.mono ?_
                    rintro e w6 ⟨rfl, u6⟩
                    have HP7 := Lib.hid (NX.out _ (HP6.out.u.back u6))
                    clear u6 PE NX HP6
                    go_wp2
                    go_roundw
                    case rel => exact ⟨mid, b', l2', wb, wp, d4, rfl, rfl, rfl, rfl, rfl, m2, hb, hmm, hl2, HP7⟩
                    case measure => simp [intOf]; omega
                  | false =>
                    obtain ⟨mid, ap, d4, hx⟩ : ∃ mid ap d4, partition ltN d3 a' b' p = (mid, ap, d4) := ⟨_, _, _, rfl⟩
                    obtain ⟨m1, m2, m3, m4, m5, m6, m7⟩ := round_part swo_ltN (partition_holds ltN) hp1 hp2 (by rw [HP6.out.u.n]; exact hb) HP6.out.bl hx
                    have PE := part_of HP6.out.u.start a' b' p hp1 hp2 hb (by omega)
                    rw [hx] at PE
                    have PE := Lib.hid PE
                    have BL := Lib.hid m4
                    have BR := Lib.hid m5
                    have NL := Lib.hid (show ∀ W L, PermIn a' mid d4 L → SortedIn ltN a' mid L → UR w g cap n L W → PdIn w g cap n d a b (mid + 1) b' L W from fun W L p1 p2 u => by
                      obtain ⟨q1, q2⟩ := m6 L p1 p2
                      exact ⟨u, q1, fun R h1 h2 => by
                        obtain ⟨r1, r2⟩ := q2 R h1 h2
                        exact HP6.out.fin R r1 r2⟩)
                    have NR := Lib.hid (show ∀ W L, PermIn (mid + 1) b' d4 L → SortedIn ltN (mid + 1) b' L → UR w g cap n L W → PdIn w g cap n d a b a' mid L W from fun W L p1 p2 u => by
                      obtain ⟨q1, q2⟩ := m7 L p1 p2
                      exact ⟨u, q1, fun R h1 h2 => by
                        obtain ⟨r1, r2⟩ := q2 R h1 h2
                        exact HP6.out.fin R r1 r2⟩)
                    clear m3 m4 m5 m6 m7 hx HLE
                    go_wp2_with fail
                    refine PE.out.mono ?_
                    rintro e w6 ⟨rfl, u6⟩
                    have U6 := Lib.hid (HP6.out.u.back u6)
                    clear u6 PE HP6
                    obtain ⟨T, hT⟩ : ∃ T, T = L / 8 := ⟨_, rfl⟩
                    have e8 : (L : Int).tdiv 8 = (T : Int) := by rw [Int.tdiv_eq_ediv_of_nonneg (by omega)]; omega
                    have e9 : (L : Int) / 8 = (T : Int) := by omega
                    have hTL : T ≤ L := by omega
                    obtain ⟨X, hX⟩ : ∃ X, mid = a' + X := ⟨mid - a', by omega⟩
                    obtain ⟨Y, hY⟩ : ∃ Y, b' = mid + Y := ⟨b' - mid, by omega⟩
                    have e10 : (mid : Int) - (a' : Int) = (X : Int) := by omega
                    have e11 : (b' : Int) - (mid : Int) = (Y : Int) := by omega
                    have lX := IntWalk.i64_in (X : Int) (by omega)
                    have lY := IntWalk.i64_in (Y : Int) (by omega)
                    have lT := IntWalk.i64_in (T : Int) (by omega)
                    have lm := IntWalk.i64_in ((mid : Int) + 1) (by omega)
                    have hXY := Lib.hid (show mid = a' + X ∧ b' = mid + Y from ⟨hX, hY⟩)
                    obtain ⟨mid1, hmid1⟩ : ∃ m, m = mid + 1 := ⟨_, rfl⟩
                    have e12 : (mid : Int) + 1 = (mid1 : Int) := by omega
                    rw [← hmid1] at BR NL NR
                    have hm1b : mid1 ≤ b' := by omega
                    have hmm : mid < mid1 := by omega
                    have lm1 := IntWalk.i64_in (mid1 : Int) (by omega)
                    have hmM : mid - a' < M := by omega
                    have hmM2 : b' - mid1 < M := by omega
                    have ham1 : a' < mid1 := by omega
                    clear hX hY hT hmid1
                    by_cases hXY2 : X < Y
                    · have y4 : (X : Int) < (Y : Int) := by omega
                      go_wp2_with fail
                      refine (IHH.out _ hmM w6 g cap n d4 a' mid l2' (Nat.le_refl _) U6.out.start m1 (by omega) hn hl2 BL.out).mono ?_
                      rintro e w7 ⟨rfl, d5, p1, p2, u7⟩
                      have HP7 := Lib.hid (NL.out _ _ p1 p2 (U6.out.back u7))
                      clear u7 p1 p2 NL NR U6
                      go_wp2
                      go_roundw
                      case rel => exact ⟨mid1, b', l2', _, ap, d5, rfl, rfl, rfl, rfl, rfl, hm1b, hb, by omega, hl2, HP7⟩
                      case measure => simp [intOf]; omega
                    · have y4 : ¬ (X : Int) < (Y : Int) := by omega
                      go_wp2_with fail
                      refine (IHH.out _ hmM2 w6 g cap n d4 mid1 b' l2' (Nat.le_refl _) U6.out.start hm1b hb hn hl2 BR.out).mono ?_
                      rintro e w7 ⟨rfl, d5, p1, p2, u7⟩
                      have HP7 := Lib.hid (NR.out _ _ p1 p2 (U6.out.back u7))
                      clear u7 p1 p2 NL NR U6
                      go_wp2
                      go_roundw
                      case rel => exact ⟨a', mid, l2', _, ap, d5, rfl, rfl, rfl, rfl, rfl, m1, by omega, by omega, hl2, HP7⟩
                      case measure => simp [intOf]; omega
/-- pdqsort's contract, of ranges of any size -/
theorem pdq_of (M : Nat) : PdqC M := Nat.strongRecOn M (fun M ih => pdq_step M ih)
end Go.Proofs.Ytpihlchocjdpmaa
