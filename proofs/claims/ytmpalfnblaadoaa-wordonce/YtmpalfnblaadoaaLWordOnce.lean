/-
  Proved: for every gen, last, periodic and event the statement WordOnce returns true: of a word that is claimed nothing but a rearming, a reset or a cancel leads on, with a greater generation, unless it is finished or stopped, and nothing that was there is changed. Conditions: none.
-/
import Derived.Test.YtmpalfnblaadoaaWordWalks4
import Derived.Test.YtmpalfnblaadoaaWordProps
import Derived.ProofKit
import Derived.OpenShut
import Derived.ChangeOld
import Derived.Below
namespace Go.Proofs.Ytmpalfnblaadoaa
open Go.ChangeShapes Go.WideShapes Go.ChangeAt Go.RowKit Verge
set_option linter.unusedVariables false

theorem claimed_may {k : Nat} {ag : Bool} (h : mayF k 4 ag = true) : k = 9 ∨ (ag = true ∧ (k = 5 ∨ k = 6 ∨ k = 7 ∨ k = 8)) := by
  by_cases h9 : k = 9
  · exact .inl h9
  · right
    unfold mayF at h
    repeat' split at h
    all_goals simp_all
    all_goals omega

set_option maxHeartbeats 4000000 in
theorem WordOnce_walk (g0 : Int) (l per : Bool) (e0 : Int) (wg : (Lit.int .u32 g0).wf = true) (we : (Lit.int .u8 e0).wf = true) (w : World) :
    Calls Try.prog 7 #[.int .u32 g0, .bool l, .bool per, .int .u8 e0] w fun e w' => e = .returned (.bool true) ∧ Below w.heap.size w w' := by
  obtain ⟨ha, ha'⟩ := bounds_u32 wg
  obtain ⟨he0, he0'⟩ := bounds_u8 we
  obtain ⟨g, rfl⟩ := Int.eq_ofNat_of_zero_le ha
  have hg : g ≤ 4294967295 := by omega
  clear wg we ha
  obtain ⟨k, hk⟩ : ∃ k : Nat, 1 + e0 % 10 = (k : Int) := ⟨(1 + e0 % 10).toNat, by omega⟩
  have hk1 : 1 ≤ k := by omega
  have hk2 : k ≤ 10 := by omega
  have HK := Lib.hid hk
  clear hk
  have HS := Lib.hid (mkW_st 4 g l (by decide))
  have HG := Lib.hid (mkW_gn 4 g l (by decide))
  have HL := Lib.hid (mkW_ls 4 g l (by decide))
  have HO := Lib.hid (mkW_ok 4 g l (by decide) hg)
  have hm := mkW_lt 4 g l (by decide) hg
  obtain ⟨m, em⟩ : ∃ m, mkW 4 g l = m := ⟨_, rfl⟩
  have HM := Lib.hid em
  rw [em] at hm HS HG HL HO
  clear em
  obtain ⟨p, hp⟩ : ∃ p, nxW m k per = p := ⟨_, rfl⟩
  have hwh := nx_whole m k per HO.out
  rw [hp, HS.out, HL.out, HG.out] at hwh
  obtain ⟨x, er⟩ := p
  dsimp only at hwh
  have HP := Lib.hid ((nxZ_nat m k per).trans hp)
  clear hp
  rcases hwh with ⟨rfl, her⟩ | ⟨rfl, hox, -, -, hmay, hxs, hxl, hxg⟩
  · have her' : ((er : Int) != 0) = true := by rw [bne_iff_ne]; omega
    clear her
    go_enter Try.func7, Try.ntmps7
    go_wp2_with fail
    refine (alive_any _).mono ?_
    rintro e w1 ⟨rfl, rfl⟩
    go_wp2_with fail
    refine (pack_any 4 g l (by omega) _).mono ?_
    rintro e w1 ⟨rfl, rfl⟩
    rw [if_pos ⟨by decide, by decide, hg⟩, show ((4 : Int).toNat) = 4 from rfl, HM.out]
    go_wp2_with fail
    rw [HK.out]
    refine (next_any x k per (by omega) _).mono ?_
    rintro e w1 ⟨rfl, rfl⟩
    rw [HP.out]
    go_wp2
    go_ret
    exact ⟨rfl, Below.refl _ _⟩
  · have hx : x < 18446744073709551616 := by have := okW_lt x hox; omega
    have HOX := Lib.hid hox
    clear hox
    rcases claimed_may hmay with rfl | ⟨hag, hk⟩
    · have HXS : Hid (x % 8 = 6) := hxs
      have HXG : Hid (x / 256 = g) := by
        rcases hxg with ⟨h, -⟩ | ⟨-, h⟩
        · cases h
        · exact h
      clear hxs hxg hxl hmay
      cases per
      all_goals
        go_enter Try.func7, Try.ntmps7
        go_wp2_with fail
        refine (alive_any _).mono ?_
        rintro e w1 ⟨rfl, rfl⟩
        go_wp2_with fail
        refine (pack_any 4 g _ (by omega) _).mono ?_
        rintro e w1 ⟨rfl, rfl⟩
        rw [if_pos ⟨by decide, by decide, hg⟩, show ((4 : Int).toNat) = 4 from rfl, HM.out]
        go_wp2_with fail
        rw [HK.out]
        refine (next_any m _ _ (by omega) _).mono ?_
        rintro e w1 ⟨rfl, rfl⟩
        rw [HP.out]
        go_wp2_with fail
        refine (state_any x hx _).mono ?_
        rintro e w1 ⟨rfl, rfl⟩
        rw [HOX.out, if_pos rfl, HXS.out]
        go_wp2_with fail
        refine (gen_any x hx _).mono ?_
        rintro e w1 ⟨rfl, rfl⟩
        rw [HOX.out, if_pos rfl, HXG.out]
        go_wp2
        go_ret
        exact ⟨rfl, Below.refl _ _⟩
    · have hper : per = true := by cases per <;> simp_all
      have hl : l = false := by cases l <;> simp_all
      subst hper
      subst hl
      rcases hk with rfl | rfl | rfl | rfl
      · have HXS : Hid (x % 8 = 3) := hxs
        have HXG : Hid (x / 256 = g + 1) := by
          rcases hxg with ⟨h, h2⟩ | ⟨h, h2⟩
          · first | exact h2 | cases h
          · first | exact h2 | cases h
        have HXL : Hid (lsW x = false) := hxl
        clear hxs hxg hxl hmay hag
        go_enter Try.func7, Try.ntmps7
        go_wp2_with fail
        refine (alive_any _).mono ?_
        rintro e w1 ⟨rfl, rfl⟩
        go_wp2_with fail
        refine (pack_any 4 g _ (by omega) _).mono ?_
        rintro e w1 ⟨rfl, rfl⟩
        rw [if_pos ⟨by decide, by decide, hg⟩, show ((4 : Int).toNat) = 4 from rfl, HM.out]
        go_wp2_with fail
        rw [HK.out]
        refine (next_any m _ _ (by omega) _).mono ?_
        rintro e w1 ⟨rfl, rfl⟩
        rw [HP.out]
        go_wp2_with fail
        refine (state_any x hx _).mono ?_
        rintro e w1 ⟨rfl, rfl⟩
        rw [HOX.out, if_pos rfl, HXS.out]
        go_wp2_with fail
        refine (gen_any x hx _).mono ?_
        rintro e w1 ⟨rfl, rfl⟩
        rw [HOX.out, if_pos rfl, HXG.out]
        go_wp2
        go_ret
        exact ⟨rfl, Below.refl _ _⟩
      · have HXS : Hid (x % 8 = 5) := hxs
        have HXG : Hid (x / 256 = g + 1) := by
          rcases hxg with ⟨h, h2⟩ | ⟨h, h2⟩
          · first | exact h2 | cases h
          · first | exact h2 | cases h
        have HXL : Hid (lsW x = false) := hxl
        clear hxs hxg hxl hmay hag
        go_enter Try.func7, Try.ntmps7
        go_wp2_with fail
        refine (alive_any _).mono ?_
        rintro e w1 ⟨rfl, rfl⟩
        go_wp2_with fail
        refine (pack_any 4 g _ (by omega) _).mono ?_
        rintro e w1 ⟨rfl, rfl⟩
        rw [if_pos ⟨by decide, by decide, hg⟩, show ((4 : Int).toNat) = 4 from rfl, HM.out]
        go_wp2_with fail
        rw [HK.out]
        refine (next_any m _ _ (by omega) _).mono ?_
        rintro e w1 ⟨rfl, rfl⟩
        rw [HP.out]
        go_wp2_with fail
        refine (state_any x hx _).mono ?_
        rintro e w1 ⟨rfl, rfl⟩
        rw [HOX.out, if_pos rfl, HXS.out]
        go_wp2_with fail
        refine (gen_any x hx _).mono ?_
        rintro e w1 ⟨rfl, rfl⟩
        rw [HOX.out, if_pos rfl, HXG.out]
        go_wp2
        go_ret
        exact ⟨rfl, Below.refl _ _⟩
      · have HXS : Hid (x % 8 = 4) := hxs
        have HXG : Hid (x / 256 = g) := by
          rcases hxg with ⟨h, h2⟩ | ⟨h, h2⟩
          · first | exact h2 | cases h
          · first | exact h2 | cases h
        have HXL : Hid (lsW x = true) := hxl
        clear hxs hxg hxl hmay hag
        go_enter Try.func7, Try.ntmps7
        go_wp2_with fail
        refine (alive_any _).mono ?_
        rintro e w1 ⟨rfl, rfl⟩
        go_wp2_with fail
        refine (pack_any 4 g _ (by omega) _).mono ?_
        rintro e w1 ⟨rfl, rfl⟩
        rw [if_pos ⟨by decide, by decide, hg⟩, show ((4 : Int).toNat) = 4 from rfl, HM.out]
        go_wp2_with fail
        rw [HK.out]
        refine (next_any m _ _ (by omega) _).mono ?_
        rintro e w1 ⟨rfl, rfl⟩
        rw [HP.out]
        go_wp2_with fail
        refine (state_any x hx _).mono ?_
        rintro e w1 ⟨rfl, rfl⟩
        rw [HOX.out, if_pos rfl, HXS.out]
        go_wp2_with fail
        refine (last_any x hx _).mono ?_
        rintro e w1 ⟨rfl, rfl⟩
        rw [HOX.out, Bool.true_and, HXL.out]
        go_wp2_with fail
        refine (gen_any x hx _).mono ?_
        rintro e w1 ⟨rfl, rfl⟩
        rw [HOX.out, if_pos rfl, HXG.out]
        go_wp2
        go_ret
        exact ⟨rfl, Below.refl _ _⟩
      · have HXS : Hid (x % 8 = 2) := hxs
        have HXG : Hid (x / 256 = g + 1) := by
          rcases hxg with ⟨h, h2⟩ | ⟨h, h2⟩
          · first | exact h2 | cases h
          · first | exact h2 | cases h
        have HXL : Hid (lsW x = false) := hxl
        clear hxs hxg hxl hmay hag
        go_enter Try.func7, Try.ntmps7
        go_wp2_with fail
        refine (alive_any _).mono ?_
        rintro e w1 ⟨rfl, rfl⟩
        go_wp2_with fail
        refine (pack_any 4 g _ (by omega) _).mono ?_
        rintro e w1 ⟨rfl, rfl⟩
        rw [if_pos ⟨by decide, by decide, hg⟩, show ((4 : Int).toNat) = 4 from rfl, HM.out]
        go_wp2_with fail
        rw [HK.out]
        refine (next_any m _ _ (by omega) _).mono ?_
        rintro e w1 ⟨rfl, rfl⟩
        rw [HP.out]
        go_wp2_with fail
        refine (state_any x hx _).mono ?_
        rintro e w1 ⟨rfl, rfl⟩
        rw [HOX.out, if_pos rfl, HXS.out]
        go_wp2_with fail
        refine (gen_any x hx _).mono ?_
        rintro e w1 ⟨rfl, rfl⟩
        rw [HOX.out, if_pos rfl, HXG.out]
        go_wp2
        go_ret
        exact ⟨rfl, Below.refl _ _⟩

theorem WordOnce_own : ownKnob Try.prog.godebug = none := by kernel_rfl

set_option maxRecDepth 100000 in
theorem WordOnce_lifted (os : Os) (started : os.Started) (H : Type) (enc : TypeId × Value → H) :
    ReturnsInHanded {} Try.checked os 7 .any (Rows.wordOnceSpec.pre6 enc Try.prog Try.f7 Rows.wordOnceRow.domain false) (Rows.wordOnceSpec.post enc Try.prog Try.f7 false true false false) := by
  refine returnsInHanded_of_change (C := Try.checked) WordOnce_own started (by kernel_rfl) Try.func7
    (ChangeSpec.witness6 (enc := enc) (C := Try.checked) false ⟨#[], #[.int .u32 0, .bool false, .bool false, .int .u8 0], []⟩ 8 (by kernel_rfl) (by kernel_rfl) (by kernel_rfl) (by kernel_rfl)) ?_
  intro W base args ds gs before hval0 hW hcnd _
  have hval : ∀ (j : Nat) t v, Try.f7.params[j]? = some t → args[j]? = some v → Value.okWide Try.prog W .any base t v := hval0
  have hW' := hW
  obtain ⟨p, q, hA0, hV, rfl, hfz, hnd⟩ := hW
  have hA : DataW.TrodAll enc Try.prog W 0 (fun _ => true) true Try.f7.params.toList args.toList ds p := hA0
  rw [Try.params7] at hA hval
  obtain ⟨v0, vs0, d0, ds0, p0, q0, hargs, rfl, rfl, h0, r0⟩ := trodAll_cons hA
  obtain ⟨v1, vs1, d1, ds1, p1, q1, rfl, rfl, rfl, h1, r1⟩ := trodAll_cons r0
  obtain ⟨v2, vs2, d2, ds2, p2, q2, rfl, rfl, rfl, h2, r2⟩ := trodAll_cons r1
  obtain ⟨v3, vs3, d3, ds3, p3, q3, rfl, rfl, rfl, h3, r3⟩ := trodAll_cons r2
  obtain ⟨rfl, rfl, rfl⟩ := trodAll_nil r3
  obtain rfl : args = #[v0, v1, v2, v3] := by cases args; simp_all
  obtain ⟨rfl, rfl⟩ := trodVars_none hV
  obtain ⟨a0, rfl, rfl, rfl, w0⟩ := open_int Try.underlying43 (hval 0 43 v0 rfl rfl) h0
  obtain ⟨a1, rfl, rfl, rfl⟩ := open_bool Try.underlying4 (hval 1 4 v1 rfl rfl) h1
  obtain ⟨a2, rfl, rfl, rfl⟩ := open_bool Try.underlying4 (hval 2 4 v2 rfl rfl) h2
  obtain ⟨a3, rfl, rfl, rfl, w3⟩ := open_int Try.underlying5 (hval 3 5 v3 rfl rfl) h3
  clear hA0 hval0
  simp only [List.append_nil] at hW'
  refine (WordOnce_walk a0 a1 a2 a3 w0 w3 W).mono fun e W' ⟨he, bel⟩ => ?_
  subst he
  exact ⟨_, rfl, _, _, _, [], _, [], hW', trodAll_mk1 (shut_bool Try.underlying4 _), (trodAll_cons_mk (shut_int Try.underlying43 w0) (trodAll_cons_mk (shut_bool Try.underlying4 _) (trodAll_cons_mk (shut_bool Try.underlying4 _) (trodAll_cons_mk (shut_int Try.underlying5 w3) trodAll_mk0)))), rfl, bel.frame _, fun h => by cases h⟩

theorem wordOnce_holds : Rows.WordOnceSaid :=
  OpenClaim.holds_of_wide 7 Try.f7 rfl rfl rfl rfl rfl rfl rfl ⟨rfl, rfl, rfl, rfl, rfl⟩ rfl rfl rfl rfl rfl (by kernel_rfl) Try.func7 (by kernel_rfl)
    (of_decide_eq_true (by kernel_rfl)) (by unfold Func.isWrapper; rw [if_neg (of_decide_eq_false (by kernel_rfl))]; exact ⟨rfl, rfl⟩)
    (fun os started H enc _ => WordOnce_lifted os started H enc)
end Go.Proofs.Ytmpalfnblaadoaa
