/-
  Contract of word.Next, at every number, event and way: it returns what nxW says; and the document's example (alive).
-/
import Derived.Test.YtkialefhjfoniaaGreatWordWalks2
namespace Go.Proofs.YtkialefhjfoniaaGreat
open Go.RowKit Verge
attribute [local go_sem] Oper.semAt_some
set_option linter.unusedVariables false

def nxZ (n : Nat) (ev : Int) (per : Bool) : Nat × Nat := if ev < 0 then nxW n 0 per else nxW n ev.toNat per

theorem nxZ_nat (n ev : Nat) (per : Bool) : nxZ n (ev : Nat) per = nxW n ev per := by
  unfold nxZ; rw [if_neg (by omega), Int.toNat_natCast]

theorem ret_pair {k k' : IntKind} {a a' : Int} {p : Nat × Nat} (h : a = (p.1 : Nat)) (h' : a' = (p.2 : Nat)) :
    Ending.returned (.tuple #[.int k a, .int k' a']) = .returned (.tuple #[.int k (p.1 : Nat), .int k' (p.2 : Nat)]) := by rw [h, h']

theorem nx_form {n : Nat} {ev : Int} {per : Bool} (h : okW n = false) : nxZ n ev per = (n, 5) := by
  unfold nxZ nxW; simp [h]
theorem nx_inv {n : Nat} {ev : Int} {per : Bool} (h : okW n = true) (he : ev < 1 ∨ 10 < ev) : nxZ n ev per = (n, 1) := by
  unfold nxZ nxW
  by_cases h0 : ev < 0
  · rw [if_pos h0, if_neg (by simp [h]), if_pos (by omega)]
  · rw [if_neg h0, if_neg (by simp [h]), if_pos (by omega)]
theorem nx_state {n ev : Nat} {per : Bool} (h : okW n = true) (he : 1 ≤ ev ∧ ev ≤ 10) (hm : mayF ev (n % 8) (per && !lsW n) = false) : nxZ n (ev : Nat) per = (n, 7) := by
  rw [nxZ_nat]; unfold nxW
  rw [if_neg (by simp [h]), if_neg (by omega), if_pos hm]
theorem nx_over {n ev : Nat} {per : Bool} (h : okW n = true) (he : 1 ≤ ev ∧ ev ≤ 10) (hm : mayF ev (n % 8) (per && !lsW n) = true)
    (hg : 4294967295 < n / 256 + (if growsF ev (n % 8) = true then 1 else 0)) : nxZ n (ev : Nat) per = (n, 9) := by
  rw [nxZ_nat]; unfold nxW
  rw [if_neg (by simp [h]), if_neg (by omega), if_neg (by simp [hm]), if_pos hg]
theorem nx_go {n ev : Nat} {per : Bool} (h : okW n = true) (he : 1 ≤ ev ∧ ev ≤ 10) (hm : mayF ev (n % 8) (per && !lsW n) = true)
    (hg : ¬ 4294967295 < n / 256 + (if growsF ev (n % 8) = true then 1 else 0)) :
    nxZ n (ev : Nat) per = (mkW (behF ev (n % 8)) (n / 256 + (if growsF ev (n % 8) = true then 1 else 0)) (lastF ev (lsW n)), 0) := by
  rw [nxZ_nat]; unfold nxW
  rw [if_neg (by simp [h]), if_neg (by omega), if_neg (by simp [hm]), if_neg hg]

set_option maxHeartbeats 4000000 in
set_option maxRecDepth 100000 in
theorem next_ok (n ev : Nat) (per : Bool) (hn : n < 18446744073709551616) (hok : okW n = true) (he : 1 ≤ ev ∧ ev ≤ 10) (w : World) :
    Calls Tryz.prog 80 #[.int .u64 n, .int .i64 ev, .bool per] w fun e w' =>
      e = .returned (.tuple #[.int .u64 ((nxZ n ev per).1 : Nat), .int .i64 ((nxZ n ev per).2 : Nat)]) ∧ w = w' := by
  have HO := Lib.hid hok
  have hgl : n / 256 ≤ 4294967295 := (okW_true.1 hok).2.2
  have hs6 : n % 8 ≤ 6 := (okW_true.1 hok).1
  clear hok
  have HS6 := Lib.hid hs6
  clear hs6
  obtain ⟨s, hs⟩ : ∃ s, n % 8 = s := ⟨_, rfl⟩
  obtain ⟨g, hg⟩ : ∃ g, n / 256 = g := ⟨_, rfl⟩
  obtain ⟨l, hl⟩ : ∃ l, lsW n = l := ⟨_, rfl⟩
  obtain ⟨m, hm⟩ : ∃ m, mayF ev (n % 8) (per && !lsW n) = m := ⟨_, rfl⟩
  obtain ⟨q, hq⟩ : ∃ q, growsF ev (n % 8) = q := ⟨_, rfl⟩
  rw [hg] at hgl
  obtain ⟨z, hz⟩ : ∃ z : Int, (g : Int) = z := ⟨_, rfl⟩
  have hz0 : 0 ≤ z := by omega
  have hz1 : z ≤ 4294967295 := by omega
  have HZ := Lib.hid hz
  have HGL := Lib.hid hgl
  clear hz hgl
  have HS := Lib.hid hs
  have HG := Lib.hid hg
  have HL := Lib.hid hl
  have HM := Lib.hid hm
  have HQ := Lib.hid hq
  have HE := Lib.hid he
  rw [hs, hl] at hm
  rw [hs] at hq
  have hev1 : 1 ≤ ev := he.1
  have hev2 : ev ≤ 10 := he.2
  clear hs hg hl he
  have HQ2 := Lib.hid hq
  clear hq
  cases per <;> cases l
  all_goals
    simp only [Bool.not_false, Bool.not_true, Bool.and_true, Bool.and_false] at hm
    have HM2 := Lib.hid hm
    clear hm
    go_enter Tryz.func80, Tryz.ntmps80
    go_wp2_with fail
    refine (ok_any n hn _).mono ?_
    rintro e w1 ⟨rfl, rfl⟩
    rw [HO.out]
    go_wp2_with fail
    refine (state_any n hn _).mono ?_
    rintro e w1 ⟨rfl, rfl⟩
    rw [HO.out, if_pos rfl, HS.out]
    go_wp2_with fail
    refine (gen_any n hn _).mono ?_
    rintro e w1 ⟨rfl, rfl⟩
    rw [HO.out, if_pos rfl, HG.out, HZ.out]
    go_wp2_with fail
    refine (last_any n hn _).mono ?_
    rintro e w1 ⟨rfl, rfl⟩
    rw [HO.out, Bool.true_and, HL.out]
    go_wp2_with fail
    refine (may_any ev s _ HE.out _).mono ?_
    rintro e w1 ⟨rfl, rfl⟩
    cases m
    · rw [HM2.out]
      go_wp2
      go_ret2
      rw [nx_state HO.out HE.out HM.out]
      exact ⟨rfl, rfl⟩
    · rw [HM2.out]
      go_wp2_with fail
      refine (grows_any ev s HE.out _).mono ?_
      rintro e w1 ⟨rfl, rfl⟩
      rw [HQ2.out]
      cases q
      · have HN := Lib.hid (nx_go HO.out HE.out HM.out (by rw [HQ.out, HG.out]; simp; have := HGL.out; omega))
        have hb6 := Lib.hid (behF_le ev (n % 8) HS6.out)
        go_wp2_with fail
        refine (behind_any ev s HE.out _).mono ?_
        rintro e w1 ⟨rfl, rfl⟩
        go_wp2_with fail
        refine (lastb_any ev _ HE.out _).mono ?_
        rintro e w1 ⟨rfl, rfl⟩
        go_wp2_with fail
        rw [← HZ.out]
        refine (pack_any _ g _ (by have := HGL.out; omega) _).mono ?_
        rintro e w1 ⟨rfl, rfl⟩
        rw [if_pos ⟨by omega, by have := hb6.out; rw [HS.out] at this; omega, HGL.out⟩]
        go_wp2
        go_ret2
        rw [HN.out]
        refine ⟨ret2 ?_ rfl, rfl⟩
        rw [HQ.out, HG.out, HS.out, HL.out]; rfl
      · by_cases ho : (4294967295 : Int) < z + 1
        · have HN := Lib.hid (nx_over HO.out HE.out HM.out (by rw [HQ.out, HG.out, if_pos rfl]; have := HZ.out; omega))
          go_wp2
          go_ret2
          rw [HN.out]
          exact ⟨rfl, rfl⟩
        · have HN := Lib.hid (nx_go HO.out HE.out HM.out (by rw [HQ.out, HG.out, if_pos rfl]; have := HZ.out; omega))
          have hb6 := Lib.hid (behF_le ev (n % 8) HS6.out)
          have hg1 : g + 1 ≤ 4294967295 := by have := HZ.out; omega
          have HG1 := Lib.hid hg1
          clear hg1
          go_wp2_with fail
          refine (behind_any ev s HE.out _).mono ?_
          rintro e w1 ⟨rfl, rfl⟩
          go_wp2_with fail
          refine (lastb_any ev _ HE.out _).mono ?_
          rintro e w1 ⟨rfl, rfl⟩
          go_wp2_with fail
          rw [show z + 1 = ((g + 1 : Nat) : Int) by have := HZ.out; omega]
          refine (pack_any _ (g + 1) _ (by have := HG1.out; omega) _).mono ?_
          rintro e w1 ⟨rfl, rfl⟩
          rw [if_pos ⟨by omega, by have := hb6.out; rw [HS.out] at this; omega, HG1.out⟩]
          go_wp2
          go_ret2
          rw [HN.out]
          refine ⟨ret2 ?_ rfl, rfl⟩
          rw [HQ.out, HG.out, HS.out, HL.out]; rfl

theorem next_any (n : Nat) (ev : Int) (per : Bool) (hn : n < 18446744073709551616) (w : World) :
    Calls Tryz.prog 80 #[.int .u64 n, .int .i64 ev, .bool per] w fun e w' =>
      e = .returned (.tuple #[.int .u64 ((nxZ n ev per).1 : Nat), .int .i64 ((nxZ n ev per).2 : Nat)]) ∧ w = w' := by
  cases hok : okW n
  · have HO := Lib.hid hok
    rw [nx_form hok]
    clear hok
    go_enter Tryz.func80, Tryz.ntmps80
    go_wp2_with fail
    refine (ok_any n hn _).mono ?_
    rintro e w1 ⟨rfl, rfl⟩
    rw [HO.out]
    go_wp2
    go_ret2
    exact ⟨rfl, rfl⟩
  · by_cases he : ev < 1 ∨ 10 < ev
    · rw [nx_inv hok he]
      have HO := Lib.hid hok
      clear hok
      rcases he with he | he
      all_goals
        go_enter Tryz.func80, Tryz.ntmps80
        go_wp2_with fail
        refine (ok_any n hn _).mono ?_
        rintro e w1 ⟨rfl, rfl⟩
        rw [HO.out]
        go_wp2
        go_ret2
        exact ⟨rfl, rfl⟩
    · obtain ⟨k, rfl⟩ := Int.eq_ofNat_of_zero_le (show 0 ≤ ev by omega)
      exact next_ok n k per hn hok (by omega) w
end Go.Proofs.YtkialefhjfoniaaGreat
