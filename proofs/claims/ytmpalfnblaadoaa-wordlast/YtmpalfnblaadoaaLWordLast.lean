/-
  Proved: for every n, events and periodic the statement WordLast returns true: a word becomes the last one by a stop alone, of a periodic one, and stays so till it is free, and nothing that was there is changed. Conditions: none.
-/
import Derived.Test.YtmpalfnblaadoaaWordWalks4
import Derived.Test.YtmpalfnblaadoaaWordProps
import Derived.Test.YtmpalfnblaadoaaIsRow
import Derived.ProofKit
import Derived.OpenShut
import Derived.ChangeOld
import Derived.Below
namespace Go.Proofs.Ytmpalfnblaadoaa
open Go.ChangeShapes Go.WideShapes Go.ChangeAt Go.RowKit Verge
set_option linter.unusedVariables false

set_option maxHeartbeats 4000000 in
set_option maxRecDepth 100000 in
theorem WordLast_walk (a0 : Int) (a1 : Option Addr) (len cap : Nat) (zs : List Int) (per : Bool) (wa : (Lit.int .u64 a0).wf = true) (w : World) (hr : IsRow .u8 w a1 len cap zs) :
    Calls Try.prog 8 #[.int .u64 a0, .slice a1 len cap, .bool per] w fun e w' => e = .returned (.bool true) ∧ Below w.heap.size w w' := by
  obtain ⟨ha, ha'⟩ := bounds_u64 wa
  obtain ⟨n0, rfl⟩ := Int.eq_ofNat_of_zero_le ha
  have hn0 : n0 < 18446744073709551616 := by omega
  clear wa ha ha'
  have HR := Lib.hid hr
  have hsm := hr.small
  clear hr
  by_cases h2 : 200 < (len : Int)
  · go_enter Try.func8, Try.ntmps8
    go_wp2_with fail
    refine (alive_any _).mono ?_
    rintro e w1 ⟨rfl, rfl⟩
    go_wp2
    go_ret
    exact ⟨rfl, Below.refl _ _⟩
  · go_enter Try.func8, Try.ntmps8
    go_wp2_with fail
    refine (alive_any _).mono ?_
    rintro e w1 ⟨rfl, rfl⟩
    go_wp2
    go_loopw [7, 8] (fun v i wr => ∃ k n : Nat, k ≤ len ∧ i = .int .i64 k ∧ v = .int .u64 n ∧ n < 18446744073709551616 ∧ wr = w) (fun _ i _ => len - (intOf i).toNat)
    case atStart => exact ⟨0, n0, by omega, rfl, rfl, hn0, rfl⟩
    case round =>
      obtain ⟨k, n, hk, rfl, rfl, hnlt, rfl⟩ := hrel
      clear hn0
      by_cases hlt : k < len
      · obtain ⟨x, rfl, hc, hwf⟩ := HR.out.item hlt
        obtain ⟨b, hb⟩ : ∃ b, zs.getD k 0 = b := ⟨_, rfl⟩
        rw [hb] at hc hwf
        clear hb
        obtain ⟨hb0, hb1⟩ := bounds_u8 hwf
        clear hwf
        cases hok : okW n
        · have HN := Lib.hid hok
          clear hok
          go_wp2_with fail
          refine (ok_any n hnlt _).mono ?_
          rintro e w1 ⟨rfl, rfl⟩
          rw [HN.out]
          go_wp2
          go_ret
          exact ⟨rfl, Below.refl _ _⟩
        · have HN := Lib.hid hok
          clear hok
          obtain ⟨ev, hev⟩ : ∃ ev : Nat, 1 + b % 10 = (ev : Int) := ⟨(1 + b % 10).toNat, by omega⟩
          have HEV := Lib.hid hev
          have hev1 : 1 ≤ ev := by omega
          have hev2 : ev ≤ 10 := by omega
          clear hev
          obtain ⟨l, hl⟩ : ∃ l, lsW n = l := ⟨_, rfl⟩
          have HLN := Lib.hid hl
          obtain ⟨p, hp⟩ : ∃ p, nxW n ev per = p := ⟨_, rfl⟩
          have hwh := nx_whole n ev per HN.out
          rw [hp, hl] at hwh
          clear hl
          obtain ⟨y, er⟩ := p
          dsimp only at hwh
          have HP := Lib.hid ((nxZ_nat n ev per).trans hp)
          clear hp
          rcases hwh with ⟨hyn, her⟩ | ⟨rfl, hoy, -, -, hmay, -, hyl, -⟩
          · have hyn := hyn.symm
            subst hyn
            have her2 : ((er : Int) == 0) = false := by rw [beq_eq_false_iff_ne]; omega
            clear her
            go_wp2_with fail
            refine (ok_any n hnlt _).mono ?_
            rintro e w1 ⟨rfl, rfl⟩
            rw [HN.out]
            go_wp2_with fail
            rw [HEV.out]
            refine (next_any n _ _ hnlt _).mono ?_
            rintro e w1 ⟨rfl, rfl⟩
            rw [HP.out]
            go_wp2
            exact ⟨⟨k + 1, n, by omega, rfl, rfl, hnlt, trivial⟩, by simp [intOf]; omega⟩
          · have hylt : y < 18446744073709551616 := by have := okW_lt y hoy; omega
            have HY := Lib.hid hoy
            clear hoy
            obtain ⟨ly, hly⟩ : ∃ ly, lastF ev l = ly := ⟨_, rfl⟩
            have HLY : Hid (lsW y = ly) := hyl.trans hly
            clear hyl
            cases ly <;> cases l
            · clear hly hmay
              go_wp2_with fail
              refine (ok_any n hnlt _).mono ?_
              rintro e w1 ⟨rfl, rfl⟩
              rw [HN.out]
              go_wp2_with fail
              rw [HEV.out]
              refine (next_any n _ _ hnlt _).mono ?_
              rintro e w1 ⟨rfl, rfl⟩
              rw [HP.out]
              go_wp2_with fail
              refine (last_any y hylt _).mono ?_
              rintro e w1 ⟨rfl, rfl⟩
              rw [HY.out, Bool.true_and, HLY.out]
              go_wp2_with fail
              refine (last_any n hnlt _).mono ?_
              rintro e w1 ⟨rfl, rfl⟩
              rw [HN.out, Bool.true_and, HLN.out]
              go_wp2
              exact ⟨⟨k + 1, y, by omega, rfl, rfl, hylt, trivial⟩, by simp [intOf]; omega⟩
            · rcases last_gone rfl hly with rfl | rfl
              all_goals
                clear hly hmay
                go_wp2_with fail
                refine (ok_any n hnlt _).mono ?_
                rintro e w1 ⟨rfl, rfl⟩
                rw [HN.out]
                go_wp2_with fail
                rw [HEV.out]
                refine (next_any n _ _ hnlt _).mono ?_
                rintro e w1 ⟨rfl, rfl⟩
                rw [HP.out]
                go_wp2_with fail
                refine (last_any y hylt _).mono ?_
                rintro e w1 ⟨rfl, rfl⟩
                rw [HY.out, Bool.true_and, HLY.out]
                go_wp2_with fail
                refine (last_any n hnlt _).mono ?_
                rintro e w1 ⟨rfl, rfl⟩
                rw [HN.out, Bool.true_and, HLN.out]
                go_wp2_with fail
                refine (last_any y hylt _).mono ?_
                rintro e w1 ⟨rfl, rfl⟩
                rw [HY.out, Bool.true_and, HLY.out]
                go_wp2
                exact ⟨⟨k + 1, y, by omega, rfl, rfl, hylt, trivial⟩, by simp [intOf]; omega⟩
            · obtain ⟨rfl, hag⟩ := last_may hmay rfl hly
              have hper : per = true := by cases per <;> simp_all
              subst hper
              clear hly hmay hag
              go_wp2_with fail
              refine (ok_any n hnlt _).mono ?_
              rintro e w1 ⟨rfl, rfl⟩
              rw [HN.out]
              go_wp2_with fail
              rw [HEV.out]
              refine (next_any n _ _ hnlt _).mono ?_
              rintro e w1 ⟨rfl, rfl⟩
              rw [HP.out]
              go_wp2_with fail
              refine (last_any y hylt _).mono ?_
              rintro e w1 ⟨rfl, rfl⟩
              rw [HY.out, Bool.true_and, HLY.out]
              go_wp2_with fail
              refine (last_any n hnlt _).mono ?_
              rintro e w1 ⟨rfl, rfl⟩
              rw [HN.out, Bool.true_and, HLN.out]
              go_wp2_with fail
              refine (last_any n hnlt _).mono ?_
              rintro e w1 ⟨rfl, rfl⟩
              rw [HN.out, Bool.true_and, HLN.out]
              go_wp2
              exact ⟨⟨k + 1, y, by omega, rfl, rfl, hylt, trivial⟩, by simp [intOf]; omega⟩
            · clear hly hmay
              go_wp2_with fail
              refine (ok_any n hnlt _).mono ?_
              rintro e w1 ⟨rfl, rfl⟩
              rw [HN.out]
              go_wp2_with fail
              rw [HEV.out]
              refine (next_any n _ _ hnlt _).mono ?_
              rintro e w1 ⟨rfl, rfl⟩
              rw [HP.out]
              go_wp2_with fail
              refine (last_any y hylt _).mono ?_
              rintro e w1 ⟨rfl, rfl⟩
              rw [HY.out, Bool.true_and, HLY.out]
              go_wp2_with fail
              refine (last_any n hnlt _).mono ?_
              rintro e w1 ⟨rfl, rfl⟩
              rw [HN.out, Bool.true_and, HLN.out]
              go_wp2_with fail
              refine (last_any n hnlt _).mono ?_
              rintro e w1 ⟨rfl, rfl⟩
              rw [HN.out, Bool.true_and, HLN.out]
              go_wp2_with fail
              refine (last_any y hylt _).mono ?_
              rintro e w1 ⟨rfl, rfl⟩
              rw [HY.out, Bool.true_and, HLY.out]
              go_wp2
              exact ⟨⟨k + 1, y, by omega, rfl, rfl, hylt, trivial⟩, by simp [intOf]; omega⟩
      · obtain rfl : k = len := by omega
        go_wp2
        go_ret
        exact ⟨rfl, Below.refl _ _⟩

theorem WordLast_own : ownKnob Try.prog.godebug = none := by kernel_rfl
theorem WordLast_laidOut : laidOutB Try.prog = true := by kernel_rfl

set_option maxRecDepth 100000 in
theorem WordLast_lifted (os : Os) (started : os.Started) (H : Type) (enc : TypeId × Value → H) :
    ReturnsInHanded {} Try.checked os 8 .any (Rows.wordLastSpec.pre6 enc Try.prog Try.f8 Rows.wordLastRow.domain false) (Rows.wordLastSpec.post enc Try.prog Try.f8 false true false false) := by
  refine returnsInHanded_of_change (C := Try.checked) WordLast_own started (by kernel_rfl) Try.func8
    (ChangeSpec.witness6 (enc := enc) (C := Try.checked) false ⟨#[], #[.int .u64 0, .slice none 0 0, .bool false], []⟩ 8 (by kernel_rfl) (by kernel_rfl) (by kernel_rfl) (by kernel_rfl)) ?_
  intro W base args ds gs before hval0 hW hcnd _
  have hval : ∀ (j : Nat) t v, Try.f8.params[j]? = some t → args[j]? = some v → Value.okWide Try.prog W .any base t v := hval0
  have hW' := hW
  obtain ⟨p, q, hA0, hV, rfl, hfz, hnd⟩ := hW
  have hA : DataW.TrodAll enc Try.prog W 0 (fun _ => true) true Try.f8.params.toList args.toList ds p := hA0
  rw [Try.params8] at hA hval
  obtain ⟨v0, vs0, d0, ds0, p0, q0, hargs, rfl, rfl, h0, r0⟩ := trodAll_cons hA
  obtain ⟨v1, vs1, d1, ds1, p1, q1, rfl, rfl, rfl, h1, r1⟩ := trodAll_cons r0
  obtain ⟨v2, vs2, d2, ds2, p2, q2, rfl, rfl, rfl, h2, r2⟩ := trodAll_cons r1
  obtain ⟨rfl, rfl, rfl⟩ := trodAll_nil r2
  obtain rfl : args = #[v0, v1, v2] := by cases args; simp_all
  obtain ⟨rfl, rfl⟩ := trodVars_none hV
  obtain ⟨a0, rfl, rfl, rfl, w0⟩ := open_int Try.underlying22 (hval 0 22 v0 rfl rfl) h0
  obtain ⟨a1, len1, cap1, rfl⟩ := okWide_slice Try.underlying41 (hval 1 41 v1 rfl rfl)
  have k1 := h1
  have lt1 : ∀ x ∈ p1, x.block < W.heap.size := by obtain ⟨m, hm⟩ := k1; exact DataW.trod_lt m _ _ _ hm
  obtain ⟨z1, w1⟩ : ∃ zs, IsRow .u8 W a1 len1 cap1 zs := by
    obtain ⟨fuel, hf⟩ := h1
    rcases open_ints Try.underlying41 Try.underlying5 (by kernel_rfl) hf with ⟨hcs, _⟩ | ⟨x, l, c, zs, hcs, _, hl, hm, hz, _, hcell, hwz⟩
    · simp [Value.cells] at hcs
      obtain ⟨rfl, rfl, rfl⟩ := hcs
      exact ⟨[], .inl ⟨rfl, rfl, rfl, rfl⟩⟩
    · simp [Value.cells] at hcs
      obtain ⟨rfl, rfl, rfl⟩ := hcs
      exact ⟨zs, .inr ⟨_, rfl, hl, hm, by simpa using hz, hcell, hwz⟩⟩
  obtain ⟨a2, rfl, rfl, rfl⟩ := open_bool Try.underlying4 (hval 2 4 v2 rfl rfl) h2
  clear hA0 hval0
  refine (WordLast_walk a0 a1 len1 cap1 z1 a2 w0 W w1).mono fun e W' ⟨he, bel⟩ => ?_
  subst he
  exact ⟨_, rfl, _, _, _, [], _, [], hW', trodAll_mk1 (shut_bool Try.underlying4 _), (trodAll_cons_mk (shut_int Try.underlying22 w0) (trodAll_cons_mk (Below.trod WordLast_laidOut (by kernel_rfl) (of_decide_eq_true (by kernel_rfl)) k1 bel lt1) (trodAll_cons_mk (shut_bool Try.underlying4 _) trodAll_mk0))), rfl, bel.frame _, fun h => by cases h⟩

theorem wordLast_holds : Rows.WordLastSaid :=
  OpenClaim.holds_of_wide 8 Try.f8 rfl rfl rfl rfl rfl rfl rfl ⟨rfl, rfl, rfl, rfl, rfl⟩ rfl rfl rfl rfl rfl (by kernel_rfl) Try.func8 (by kernel_rfl)
    (of_decide_eq_true (by kernel_rfl)) (by unfold Func.isWrapper; rw [if_neg (of_decide_eq_false (by kernel_rfl))]; exact ⟨rfl, rfl⟩)
    (fun os started H enc _ => WordLast_lifted os started H enc)
end Go.Proofs.Ytmpalfnblaadoaa
