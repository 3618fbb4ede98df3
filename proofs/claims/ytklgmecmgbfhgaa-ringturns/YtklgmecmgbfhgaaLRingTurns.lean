/-
  Proved: for every n and many the statement RingTurns returns true: a ring goes on however often it was gone round: what is put, as long as there is room, by tickets that work alone, is popped in its order; and nothing that was there is changed. Conditions: none.
-/
import Derived.Test.YtklgmecmgbfhgaaRingAlive
import Derived.Test.YtklgmecmgbfhgaaIsRow
import Derived.ProofKit
import Derived.OpenShut
import Derived.ChangeOld
import Derived.Below
namespace Go.Proofs.Ytklgmecmgbfhgaa
open Go.ChangeShapes Go.WideShapes Go.ChangeAt Go.RowKit Verge RI
set_option linter.unusedVariables false
set_option linter.unusedSimpArgs false
attribute [local go_sem] Oper.semAt_some

/-- what the loops keep -/
structure TurnsIn (w wr : World) (b sb m lim nx fi : Nat) (V : Nat → Int) : Prop where
  r : IsRing wr b sb m nx fi (pubTo nx) V
  v : ∀ p, p < nx → V p = p
  le : fi ≤ nx
  room : nx ≤ fi + m
  few : nx ≤ lim
  ch : Ch Nil w wr
/-- a ticket that works alone, behind s steps -/
def soloT (nx s : Nat) : TSt := if s = 0 then ⟨0, 0, 0, false⟩ else if s = 1 then ⟨1, 0, nx, false⟩ else if s = 2 then ⟨2, 0, nx, false⟩ else ⟨2, 2, nx, false⟩
def soloN (nx s : Nat) : Nat := if s < 3 then nx else nx + 1
structure SoloIn (w wr : World) (t b sb m nx fi s : Nat) (V : Nat → Int) : Prop where
  r : IsRing wr b sb m (soloN nx s) fi (pubTo nx) V
  t : IsT wr t b (soloT nx s).st (soloT nx s).su (soloT nx s).pos (soloT nx s).fl
  ch : Ch Nil w wr
theorem solo_step (m nx fi s : Nat) (hs : s < 3) (h1 : ¬ fi + m ≤ nx) (h2 : fi ≤ nx) : tickStep m (soloN nx s) fi (pubTo nx) (soloT nx s) = (soloN nx (s + 1), soloT nx (s + 1)) := by
  obtain rfl | rfl | rfl : s = 0 ∨ s = 1 ∨ s = 2 := by omega
  · exact tick_choose _ _ _ _ _
  · exact tick_go m nx fi (pubTo nx) h1 (by omega) (pubTo_no (Nat.le_refl _))
  · exact tick_take _ _ _ _
theorem solo_ok (nx s : Nat) (hs : s < 3) (hx : nx ≤ 900000) : (soloT nx s).pos ≤ 1000000 ∧ ((soloT nx s).st = 0 ∨ (soloT nx s).st = 1 ∨ (soloT nx s).st = 2) := by
  obtain rfl | rfl | rfl : s = 0 ∨ s = 1 ∨ s = 2 := by omega
  · simp [soloT]
  · simp [soloT]; omega
  · simp [soloT]; omega

set_option maxHeartbeats 16000000 in
set_option maxRecDepth 100000 in
theorem RingTurns_walk (n : Int) (a1 : Option Addr) (len cap : Nat) (zs : List Int) (wa : (Lit.int .u8 n).wf = true) (w : World) (hr : IsRow .u8 w a1 len cap zs) :
    Calls Try.prog 7 #[.int .u8 n, .slice a1 len cap] w fun e w' => e = .returned (.bool true) ∧ Below w.heap.size w w' := by
  obtain ⟨ha, ha'⟩ := bounds_u8 wa
  obtain ⟨m, hm⟩ : ∃ m : Nat, 1 + n % 64 = (m : Int) := ⟨(1 + n % 64).toNat, by omega⟩
  have m0 : 0 < m := by omega
  have m1 : m ≤ 64 := by omega
  have HM := Lib.hid hm
  clear wa hm
  have HR := Lib.hid hr
  have hsm := hr.small
  clear hr
  by_cases h2 : 100 < (len : Int)
  · go_enter Try.func7, Try.ntmps7
    go_wp2_with fail
    refine (alive_any _).mono ?_
    rintro e w1 ⟨rfl, c1⟩
    go_wp2
    go_ret
    exact ⟨rfl, c1.below (Nat.le_refl _) (fun _ _ h => h.elim)⟩
  · go_enter Try.func7, Try.ntmps7
    go_wp2_with fail
    refine (alive_any _).mono ?_
    rintro e w1 ⟨rfl, c1⟩
    go_wp2_with fail
    rw [HM.out]
    refine (new_of m _ m0 m1).mono ?_
    rintro e w2 ⟨b, sb, rfl, hb, hs, h2', c2⟩
    have hbw : w.heap.size ≤ b := by have := c1.size; omega
    have hsw : w.heap.size ≤ sb := by have := c1.size; omega
    rw [← pubTo_zero] at h2'
    have A0 : Hid (TurnsIn w w2 b sb m 0 0 0 (fun _ => 0)) := ⟨h2', by omega, by omega, by omega, by omega, c1.trans c2⟩
    clear h2' c1 c2
    go_wp2
    go_loopw [8, 9, 10] (fun put got i wr => ∃ (k nx fi : Nat) (V : Nat → Int), k ≤ len ∧ put = .int .i64 nx ∧ got = .int .i64 fi ∧ i = .int .i64 k ∧ TurnsIn w wr b sb m (70 * k) nx fi V) (fun _ _ i _ => len - (intOf i).toNat)
    case atStart => exact ⟨0, 0, 0, _, Nat.zero_le _, rfl, rfl, rfl, A0.out⟩
    case round =>
      obtain ⟨k, nx, fi, V, hk, rfl, rfl, rfl, hA⟩ := hrel
      have A := Lib.hid hA
      clear hA A0
      by_cases hlt : k < len
      · obtain ⟨x, rfl, hc, hwf⟩ := HR.out.item hlt
        have HC := Lib.hid hc
        clear hc
        obtain ⟨z, hz⟩ : ∃ z, zs.getD k 0 = z := ⟨_, rfl⟩
        rw [hz] at HC hwf
        clear hz
        obtain ⟨hz0, hz1⟩ := bounds_u8 hwf
        clear hwf
        go_wp2
        go_loopw [8, 11] (fun put i wr' => ∃ (j nx' : Nat) (V' : Nat → Int), (j : Int) ≤ z % 70 ∧ put = .int .i64 nx' ∧ i = .int .i64 j ∧ TurnsIn w wr' b sb m (70 * k + j) nx' fi V') (fun _ i _ => 70 - (intOf i).toNat)
        case atStart => exact ⟨0, nx, V, by omega, rfl, rfl, A.out⟩
        case round =>
          clear A
          obtain ⟨j, nx, V, hj, rfl, rfl, hA⟩ := hrel
          have A := Lib.hid hA
          have hle := hA.le
          have hroom := hA.room
          have hfew := hA.few
          clear hA
          have hc := A.out.ch.keeps HC.out (fun e => e)
          by_cases hgo : (j : Int) < z % 70 ∧ (nx : Int) - fi < m
          · obtain ⟨g1, g2⟩ := hgo
            go_wp2_with fail
            clear hc
            refine (begin_of A.out.r).mono ?_
            rintro e w3 ⟨t, rfl, ht, htb, hts, k3, h3, c3⟩
            have S3 : Hid (SoloIn w w3 t b sb m nx fi 0 V) := ⟨h3, k3, A.out.ch.trans c3⟩
            have hwt : w.heap.size ≤ t := by have := A.out.ch.size; omega
            clear h3 k3 c3
            go_wp2
            go_loopw [13] (fun i wr' => ∃ (s : Nat), s ≤ 3 ∧ i = .int .i64 s ∧ SoloIn w wr' t b sb m nx fi s V) (fun i _ => 3 - (intOf i).toNat)
            case atStart => exact ⟨0, by omega, rfl, S3.out⟩
            case round =>
              obtain ⟨s, hs3, rfl, hS⟩ := hrel
              clear S3
              have S := Lib.hid hS
              clear hS
              by_cases hsl : s < 3
              · go_wp2_with fail
                obtain ⟨o1, o2⟩ := solo_ok nx s hsl (by omega)
                refine (step_to (soloT nx s) (soloT nx (s + 1)) (soloN nx (s + 1)) S.out.r S.out.t htb hts o1 o2 (solo_step m nx fi s hsl (by omega) hle)).mono ?_
                rintro e w4 ⟨rfl, h4, k4, c4⟩
                have S4 : Hid (SoloIn w w4 t b sb m nx fi (s + 1) V) := ⟨h4, k4, Ch_upTri S.out.ch c4 hwt hbw hsw⟩
                clear h4 k4 c4
                go_wp2
                go_roundw
                case rel => exact ⟨s + 1, by omega, by go_num, S4.out⟩
                case measure => simp [intOf]; omega
              · obtain rfl : s = 3 := by omega
                go_wp2_with fail
                refine (fill_ok t b sb m (nx + 1) fi _ V 2 nx _ _ S.out.r S.out.t htb hts (by omega) (by omega)).mono ?_
                rw [pubTo_fill]
                rintro e w4 ⟨rfl, h4, k4, c4⟩
                have A4 : Hid (TurnsIn w w4 b sb m (70 * k + (j + 1)) (nx + 1) fi (upd V nx (nx : Int))) := by
                  refine ⟨h4, ?_, by omega, by omega, by omega, Ch_upTri S.out.ch c4 hwt hbw hsw⟩
                  intro p hp
                  by_cases e : p = nx
                  · subst e; exact upd_same _ _ _
                  · rw [upd_other _ _ _ _ e]; exact A.out.v p (by omega)
                clear h4 k4 c4
                go_wp2
                go_roundw
                case rel => exact ⟨j + 1, nx + 1, _, by omega, by go_num, by go_num, A4.out⟩
                case measure => simp [intOf]; omega
          · have D : decide ((j : Int) < z % 70) = false ∨ (decide ((j : Int) < z % 70) = true ∧ decide ((nx : Int) - fi < m) = false) := by
              by_cases g1 : (j : Int) < z % 70
              · right; exact ⟨by simpa using g1, by rw [decide_eq_false_iff_not]; exact fun h => hgo ⟨g1, h⟩⟩
              · left; simpa using g1
            rcases D with g1 | ⟨g1, g2⟩
            · clear hgo
              go_wp2
              clear hc
              go_loopw [9, 14] (fun got i wr' => ∃ (j fi' : Nat), (j : Int) ≤ z / 4 % 70 ∧ got = .int .i64 fi' ∧ i = .int .i64 j ∧ TurnsIn w wr' b sb m (70 * k + 70) nx fi' V) (fun _ i _ => 70 - (intOf i).toNat)
              case atStart => exact ⟨0, fi, by omega, rfl, rfl, A.out.r, A.out.v, hle, hroom, by omega, A.out.ch⟩
              case round =>
                clear A hle hroom hfew
                obtain ⟨j, fi, hj, rfl, rfl, hA⟩ := hrel
                have A := Lib.hid hA
                have hle := hA.le
                have hroom := hA.room
                have hfew := hA.few
                clear hA
                have hc := A.out.ch.keeps HC.out (fun e => e)
                by_cases hgo : (j : Int) < z / 4 % 70 ∧ fi < nx
                · obtain ⟨g1, g2⟩ := hgo
                  go_wp2_with fail
                  clear hc
                  refine (pop_ok b sb m nx fi _ V _ A.out.r (by omega) (pubTo_yes g2) (pubTo_no hroom)).mono ?_
                  rw [A.out.v fi g2]
                  rintro e w3 ⟨rfl, h3, c3⟩
                  have A3 : Hid (TurnsIn w w3 b sb m (70 * k + 70) nx (fi + 1) V) := ⟨h3, A.out.v, by omega, by omega, hfew, Ch_upTwo A.out.ch c3 hbw hsw⟩
                  clear h3 c3
                  have e0 : ((fi : Int) != (fi : Int)) = false := by simp
                  go_wp2
                  go_roundw
                  case rel => exact ⟨j + 1, fi + 1, by omega, by go_num, by go_num, A3.out⟩
                  case measure => simp [intOf]; omega
                · obtain ⟨d, hd⟩ : ∃ d, nx = fi + d := ⟨nx - fi, by omega⟩
                  have e0 : ((d : Int) != (nx : Int) - (fi : Int)) = false := by rw [bne_eq_false_iff_eq]; omega
                  have HD := Lib.hid hd
                  clear hd
                  have D : decide ((j : Int) < z / 4 % 70) = false ∨ (decide ((j : Int) < z / 4 % 70) = true ∧ decide (fi < nx) = false ∧ ¬ fi < nx) := by
                    by_cases g1 : (j : Int) < z / 4 % 70
                    · right; exact ⟨by simpa using g1, by rw [decide_eq_false_iff_not]; exact fun h => hgo ⟨g1, h⟩, fun h => hgo ⟨g1, h⟩⟩
                    · left; simpa using g1
                  clear hgo
                  rcases D with g1 | ⟨g1, g2, g3⟩
                  · go_wp2_with fail
                    clear hc
                    refine (len_of A.out.r d HD (by omega)).mono ?_
                    rintro e w3 ⟨rfl, h3, c3⟩
                    have A3 : Hid (TurnsIn w w3 b sb m (70 * (k + 1)) nx fi V) := ⟨h3, A.out.v, hle, hroom, by omega, Ch_upTwo A.out.ch c3 hbw hsw⟩
                    clear h3 c3
                    go_wp2
                    go_roundw
                    case rel => exact ⟨k + 1, nx, fi, V, by omega, rfl, rfl, by go_num, A3.out⟩
                    case measure => simp [intOf]; omega
                  · go_wp2_with fail
                    clear hc
                    refine (len_of A.out.r d HD (by omega)).mono ?_
                    rintro e w3 ⟨rfl, h3, c3⟩
                    have A3 : Hid (TurnsIn w w3 b sb m (70 * (k + 1)) nx fi V) := ⟨h3, A.out.v, hle, hroom, by omega, Ch_upTwo A.out.ch c3 hbw hsw⟩
                    clear h3 c3
                    go_wp2
                    go_roundw
                    case rel => exact ⟨k + 1, nx, fi, V, by omega, rfl, rfl, by go_num, A3.out⟩
                    case measure => simp [intOf]; omega
            · clear hgo
              go_wp2
              clear hc
              go_loopw [9, 14] (fun got i wr' => ∃ (j fi' : Nat), (j : Int) ≤ z / 4 % 70 ∧ got = .int .i64 fi' ∧ i = .int .i64 j ∧ TurnsIn w wr' b sb m (70 * k + 70) nx fi' V) (fun _ i _ => 70 - (intOf i).toNat)
              case atStart => exact ⟨0, fi, by omega, rfl, rfl, A.out.r, A.out.v, hle, hroom, by omega, A.out.ch⟩
              case round =>
                clear A hle hroom hfew
                obtain ⟨j, fi, hj, rfl, rfl, hA⟩ := hrel
                have A := Lib.hid hA
                have hle := hA.le
                have hroom := hA.room
                have hfew := hA.few
                clear hA
                have hc := A.out.ch.keeps HC.out (fun e => e)
                by_cases hgo : (j : Int) < z / 4 % 70 ∧ fi < nx
                · obtain ⟨g1, g2⟩ := hgo
                  go_wp2_with fail
                  clear hc
                  refine (pop_ok b sb m nx fi _ V _ A.out.r (by omega) (pubTo_yes g2) (pubTo_no hroom)).mono ?_
                  rw [A.out.v fi g2]
                  rintro e w3 ⟨rfl, h3, c3⟩
                  have A3 : Hid (TurnsIn w w3 b sb m (70 * k + 70) nx (fi + 1) V) := ⟨h3, A.out.v, by omega, by omega, hfew, Ch_upTwo A.out.ch c3 hbw hsw⟩
                  clear h3 c3
                  have e0 : ((fi : Int) != (fi : Int)) = false := by simp
                  go_wp2
                  go_roundw
                  case rel => exact ⟨j + 1, fi + 1, by omega, by go_num, by go_num, A3.out⟩
                  case measure => simp [intOf]; omega
                · obtain ⟨d, hd⟩ : ∃ d, nx = fi + d := ⟨nx - fi, by omega⟩
                  have e0 : ((d : Int) != (nx : Int) - (fi : Int)) = false := by rw [bne_eq_false_iff_eq]; omega
                  have HD := Lib.hid hd
                  clear hd
                  have D : decide ((j : Int) < z / 4 % 70) = false ∨ (decide ((j : Int) < z / 4 % 70) = true ∧ decide (fi < nx) = false ∧ ¬ fi < nx) := by
                    by_cases g1 : (j : Int) < z / 4 % 70
                    · right; exact ⟨by simpa using g1, by rw [decide_eq_false_iff_not]; exact fun h => hgo ⟨g1, h⟩, fun h => hgo ⟨g1, h⟩⟩
                    · left; simpa using g1
                  clear hgo
                  rcases D with g1 | ⟨g1, g2, g3⟩
                  · go_wp2_with fail
                    clear hc
                    refine (len_of A.out.r d HD (by omega)).mono ?_
                    rintro e w3 ⟨rfl, h3, c3⟩
                    have A3 : Hid (TurnsIn w w3 b sb m (70 * (k + 1)) nx fi V) := ⟨h3, A.out.v, hle, hroom, by omega, Ch_upTwo A.out.ch c3 hbw hsw⟩
                    clear h3 c3
                    go_wp2
                    go_roundw
                    case rel => exact ⟨k + 1, nx, fi, V, by omega, rfl, rfl, by go_num, A3.out⟩
                    case measure => simp [intOf]; omega
                  · go_wp2_with fail
                    clear hc
                    refine (len_of A.out.r d HD (by omega)).mono ?_
                    rintro e w3 ⟨rfl, h3, c3⟩
                    have A3 : Hid (TurnsIn w w3 b sb m (70 * (k + 1)) nx fi V) := ⟨h3, A.out.v, hle, hroom, by omega, Ch_upTwo A.out.ch c3 hbw hsw⟩
                    clear h3 c3
                    go_wp2
                    go_roundw
                    case rel => exact ⟨k + 1, nx, fi, V, by omega, rfl, rfl, by go_num, A3.out⟩
                    case measure => simp [intOf]; omega
      · obtain rfl : k = len := by omega
        clear hlt
        go_wp2
        go_ret
        exact ⟨rfl, A.out.ch.below (Nat.le_refl _) (fun _ _ h => h.elim)⟩

theorem RingTurns_own : ownKnob Try.prog.godebug = none := by kernel_rfl
theorem RingTurns_laidOut : laidOutB Try.prog = true := by kernel_rfl

set_option maxRecDepth 100000 in
theorem RingTurns_lifted (os : Os) (started : os.Started) (H : Type) (enc : TypeId × Value → H) :
    ReturnsInHanded {} Try.checked os 7 .any (Rows.ringTurnsSpec.pre6 enc Try.prog Try.f7 Rows.ringTurnsRow.domain false) (Rows.ringTurnsSpec.post enc Try.prog Try.f7 false true false false) := by
  refine returnsInHanded_of_change (C := Try.checked) RingTurns_own started (by kernel_rfl) Try.func7
    (ChangeSpec.witness6 (enc := enc) (C := Try.checked) false ⟨#[], #[.int .u8 0, .slice none 0 0], []⟩ 8 (by kernel_rfl) (by kernel_rfl) (by kernel_rfl) (by kernel_rfl)) ?_
  intro W base args ds gs before hval0 hW hcnd _
  have hval : ∀ (j : Nat) t v, Try.f7.params[j]? = some t → args[j]? = some v → Value.okWide Try.prog W .any base t v := hval0
  have hW' := hW
  obtain ⟨p, q, hA0, hV, rfl, hfz, hnd⟩ := hW
  have hA : DataW.TrodAll enc Try.prog W 0 (fun _ => true) true Try.f7.params.toList args.toList ds p := hA0
  rw [Try.params7] at hA hval
  obtain ⟨v0, vs0, d0, ds0, p0, q0, hargs, rfl, rfl, h0, r0⟩ := trodAll_cons hA
  obtain ⟨v1, vs1, d1, ds1, p1, q1, rfl, rfl, rfl, h1, r1⟩ := trodAll_cons r0
  obtain ⟨rfl, rfl, rfl⟩ := trodAll_nil r1
  obtain rfl : args = #[v0, v1] := by cases args; simp_all
  obtain ⟨rfl, rfl⟩ := trodVars_none hV
  obtain ⟨a0, rfl, rfl, rfl, w0⟩ := open_int Try.underlying5 (hval 0 5 v0 rfl rfl) h0
  obtain ⟨a1, len1, cap1, rfl⟩ := okWide_slice Try.underlying52 (hval 1 52 v1 rfl rfl)
  have k1 := h1
  have lt1 : ∀ x ∈ p1, x.block < W.heap.size := by obtain ⟨m, hm⟩ := k1; exact DataW.trod_lt m _ _ _ hm
  obtain ⟨z1, w1⟩ : ∃ zs, IsRow .u8 W a1 len1 cap1 zs := by
    obtain ⟨fuel, hf⟩ := h1
    rcases open_ints Try.underlying52 Try.underlying5 (by kernel_rfl) hf with ⟨hcs, _⟩ | ⟨x, l, c, zs, hcs, _, hl, hm, hz, _, hcell, hwz⟩
    · simp [Value.cells] at hcs
      obtain ⟨rfl, rfl, rfl⟩ := hcs
      exact ⟨[], .inl ⟨rfl, rfl, rfl, rfl⟩⟩
    · simp [Value.cells] at hcs
      obtain ⟨rfl, rfl, rfl⟩ := hcs
      exact ⟨zs, .inr ⟨_, rfl, hl, hm, by simpa using hz, hcell, hwz⟩⟩
  clear hA0 hval0
  refine (RingTurns_walk a0 a1 len1 cap1 z1 w0 W w1).mono fun e W' ⟨he, bel⟩ => ?_
  subst he
  exact ⟨_, rfl, _, _, _, [], _, [], hW', trodAll_mk1 (shut_bool Try.underlying4 _), (trodAll_cons_mk (shut_int Try.underlying5 w0) (trodAll_cons_mk (Below.trod RingTurns_laidOut (by kernel_rfl) (of_decide_eq_true (by kernel_rfl)) k1 bel lt1) trodAll_mk0)), rfl, bel.frame _, fun h => by cases h⟩

theorem ringTurns_holds : Rows.RingTurnsSaid :=
  OpenClaim.holds_of_wide 7 Try.f7 rfl rfl rfl rfl rfl rfl rfl ⟨rfl, rfl, rfl, rfl, rfl⟩ rfl rfl rfl rfl rfl (by kernel_rfl) Try.func7 (by kernel_rfl)
    (of_decide_eq_true (by kernel_rfl)) (by unfold Func.isWrapper; rw [if_neg (of_decide_eq_false (by kernel_rfl))]; exact ⟨rfl, rfl⟩)
    (fun os started H enc _ => RingTurns_lifted os started H enc)
end Go.Proofs.Ytklgmecmgbfhgaa
