/-
  WheelShift: for every input the statement 'a wheel whose now and deadlines all are more by as many spans of its four levels tells the same' returns true, and its arguments read as before. (The table of math/bits reads as the program's text lays it: tied by the card.)
-/
import Derived.Test.YtkdkkgbjfabifaaDoorWsEnd
import Derived.Test.YtkdkkgbjfabifaaDoorTie
import Derived.Test.YtkdkkgbjfabifaaDoorCards
import Derived.SevenTiedAt
import Derived.ChangeOld
import Derived.Below
namespace Go.Proofs.YtkdkkgbjfabifaaDoor
open Go.ChangeShapes Go.WideShapes Go.ChangeAt Go.RowKit Verge LP
set_option linter.unusedVariables false
attribute [local go_sem] Oper.semAt_some

set_option maxHeartbeats 4000000 in
set_option maxRecDepth 100000 in
theorem WheelShift_walk (n0 : Int) (ad : Option Addr) (len cap : Nat) (zs : List Int) (sp ti l s : Int) (wn : (Lit.int .u32 n0).wf = true) (wsp : (Lit.int .u16 sp).wf = true) (wt : (Lit.int .u8 ti).wf = true) (wl : (Lit.int .u8 l).wf = true) (ws : (Lit.int .u8 s).wf = true) (w : World) (hv : IsRow .u16 w ad len cap zs) (T : Tab w) :
    Calls Tryd.prog 8 #[.int .u32 n0, .slice ad len cap, .int .u16 sp, .int .u8 ti, .int .u8 l, .int .u8 s] w fun e w' => e = .returned (.bool true) ∧ Below w.heap.size w w' := by
  obtain ⟨n1, n2⟩ := bounds_u32 wn
  obtain ⟨p1, p2⟩ := bounds_u16 wsp
  obtain ⟨t1, t2⟩ := bounds_u8 wt
  obtain ⟨l1, l2⟩ := bounds_u8 wl
  obtain ⟨s1, s2⟩ := bounds_u8 ws
  obtain ⟨n0, rfl⟩ := Int.eq_ofNat_of_zero_le n1
  obtain ⟨sp, rfl⟩ := Int.eq_ofNat_of_zero_le p1
  obtain ⟨ti, rfl⟩ := Int.eq_ofNat_of_zero_le t1
  obtain ⟨l, rfl⟩ := Int.eq_ofNat_of_zero_le l1
  obtain ⟨s, rfl⟩ := Int.eq_ofNat_of_zero_le s1
  have HV := Lib.hid hv
  have TB := Lib.hid T
  have hsm := hv.small
  clear wn wsp wt wl ws hv T
  go_enter Tryd.func8, Tryd.ntmps8
  go_wp2_with fail
  refine (alive_any _).mono ?_
  rintro e w1 ⟨rfl, c1⟩
  have C1 := Lib.hid c1
  clear c1
  by_cases h60 : 60 < len
  · have hz : (60 : Int) < (len : Int) := by omega
    go_wp2
    go_ret
    exact ⟨rfl, C1.out.below (Nat.le_refl _) (fun _ _ e => e.elim)⟩
  · have hz : (len : Int) ≤ 60 := by omega
    have hb1 : (n0 : Int) + (sp : Int) * 16777216 ≤ 18446744073709551615 := by omega
    go_wp2_with fail
    refine (Drv.new (w0 := w) n0 (by omega) C1.out).mono ?_
    rintro e w2 ⟨ga, rfl, ha2, d2, c2⟩
    have D2 := Lib.hid d2
    have HA := Lib.hid (fun k hk => d2.lt (k := k) hk)
    clear d2 c2 ha2
    go_wp2_with fail
    have NW := Drv.new (w0 := w) (w := w2) (n0 + sp * 16777216) (by omega) D2.out.c
    rw [show ((n0 + sp * 16777216 : Nat) : Int) = (n0 : Int) + (sp : Int) * 16777216 by omega] at NW
    refine NW.mono ?_
    clear NW
    rintro e w3 ⟨gb, rfl, hb3, d3, c3⟩
    have ST : Hid (Both w ga gb 0 sp n0 [] [] [] [] w3) := Lib.hid ⟨D2.out.quiet c3, d3, fun k h1 h2 => by have := HA.out k h1; have := hb3 k h2; omega, Shf.nil _, by simp⟩
    clear d3 c3 hb3 D2 HA
    go_wp2
    refine wp_mono (wsA_loop w ga gb ad n0 sp ti l s len cap zs HV.out (by omega) (by omega) (by omega) (by omega) _ _ (by omega) ⟨_, _, _, _, rfl, rfl, rfl, rfl, rfl, rfl, rfl, rfl, rfl, rfl, rfl, ST.out⟩) ?_
    rename_i K hK
    intro e a' w' hp
    obtain ⟨rfl, H⟩ := Qx_inv hp
    exact hK _ _ (ws_mid w ga gb ad n0 sp ti l s len cap zs HV.out (by omega) (by omega) (by omega) (by omega) TB.out (by omega) (by omega) a' w' H)


theorem WheelShift_own : ownKnob Tryd.prog.godebug = none := by kernel_rfl
theorem WheelShift_laidOut : laidOutB Tryd.prog = true := by kernel_rfl

set_option maxRecDepth 100000 in
theorem WheelShift_lifted (os : Os) (started : os.Started) (H : Type) (enc : TypeId × Value → H) :
    ReturnsInHanded {} Tryd.checked os 8 .any (fun w args => (Rows.wheelShiftSpec.pre enc Tryd.prog Tryd.f8 [] false w args ∧ laidMetH Tryd.prog laidTab w) ∧ sizedMet enc Tryd.prog Tryd.f8 (OpenSpec.ofChange Rows.wheelShiftSpec) false w args) (Rows.wheelShiftSpec.post enc Tryd.prog Tryd.f8 false true false false) := by
  refine returnsInHanded_of_change_and (C := Tryd.checked) (X := fun w _ => laidMetH Tryd.prog laidTab w) (fun _ _ _ hh h => h.of_heap hh) WheelShift_own started (by kernel_rfl) Tryd.func8
    (ChangeSpec.witness_shaped (enc := enc) (C := Tryd.checked) (os := os) (X := fun w _ => laidMetH Tryd.prog laidTab w) false (World.doorLaid Tryd.prog doorSteps os) #[.int .u32 0, .slice none 0 0, .int .u16 0, .int .u8 0, .int .u8 0, .int .u8 0] 8 rfl (World.shaped_of_RefB (by kernel_rfl) (by kernel_rfl)) (by kernel_rfl) (by kernel_rfl) (by kernel_rfl) (door_met os _)) ?_
  intro W base args ds gs before hval0 hW _ _ hL _
  have TB := tab_of_laid hL
  have hval : ∀ (j : Nat) t v, Tryd.f8.params[j]? = some t → args[j]? = some v → Value.okWide Tryd.prog W .any base t v := hval0
  have hW' := hW
  obtain ⟨p, q, hA0, hV, rfl, hfz, hnd⟩ := hW
  have hA : DataW.TrodAll enc Tryd.prog W 0 (fun _ => true) true Tryd.f8.params.toList args.toList ds p := hA0
  rw [Tryd.params8] at hA hval
  obtain ⟨v0, vs0, d0, ds0, p0, q0, hargs, rfl, rfl, h0, r0⟩ := trodAll_cons hA
  obtain ⟨v1, vs1, d1, ds1, p1, q1, rfl, rfl, rfl, h1, r1⟩ := trodAll_cons r0
  obtain ⟨v2, vs2, d2, ds2, p2, q2, rfl, rfl, rfl, h2, r2⟩ := trodAll_cons r1
  obtain ⟨v3, vs3, d3, ds3, p3, q3, rfl, rfl, rfl, h3, r3⟩ := trodAll_cons r2
  obtain ⟨v4, vs4, d4, ds4, p4, q4, rfl, rfl, rfl, h4, r4⟩ := trodAll_cons r3
  obtain ⟨v5, vs5, d5, ds5, p5, q5, rfl, rfl, rfl, h5, r5⟩ := trodAll_cons r4
  obtain ⟨rfl, rfl, rfl⟩ := trodAll_nil r5
  obtain rfl : args = #[v0, v1, v2, v3, v4, v5] := by cases args; simp_all
  obtain ⟨rfl, rfl⟩ := trodVars_none hV
  obtain ⟨a0, rfl, rfl, rfl, w0⟩ := open_int Tryd.underlying83 (hval 0 83 v0 rfl rfl) h0
  obtain ⟨a1, len1, cap1, rfl⟩ := okWide_slice Tryd.underlying55 (hval 1 55 v1 rfl rfl)
  have k1 := h1
  have lt1 : ∀ x ∈ p1, x.block < W.heap.size := by obtain ⟨m, hm⟩ := k1; exact DataW.trod_lt m _ _ _ hm
  obtain ⟨z1, w1⟩ : ∃ zs, IsRow .u16 W a1 len1 cap1 zs := by
    obtain ⟨fuel, hf⟩ := h1
    rcases open_ints Tryd.underlying55 Tryd.underlying57 (by kernel_rfl) hf with ⟨hcs, _⟩ | ⟨x, l, c, zs, hcs, _, hl, hm, hz, _, hcell, hwz⟩
    · simp [Value.cells] at hcs
      obtain ⟨rfl, rfl, rfl⟩ := hcs
      exact ⟨[], .inl ⟨rfl, rfl, rfl, rfl⟩⟩
    · simp [Value.cells] at hcs
      obtain ⟨rfl, rfl, rfl⟩ := hcs
      exact ⟨zs, .inr ⟨_, rfl, hl, hm, by simpa using hz, hcell, hwz⟩⟩
  obtain ⟨a2, rfl, rfl, rfl, w2⟩ := open_int Tryd.underlying57 (hval 2 57 v2 rfl rfl) h2
  obtain ⟨a3, rfl, rfl, rfl, w3⟩ := open_int Tryd.underlying5 (hval 3 5 v3 rfl rfl) h3
  obtain ⟨a4, rfl, rfl, rfl, w4⟩ := open_int Tryd.underlying5 (hval 4 5 v4 rfl rfl) h4
  obtain ⟨a5, rfl, rfl, rfl, w5⟩ := open_int Tryd.underlying5 (hval 5 5 v5 rfl rfl) h5
  clear hA0 hval0
  refine (WheelShift_walk a0 a1 len1 cap1 z1 a2 a3 a4 a5 w0 w2 w3 w4 w5 W w1 TB).mono fun e W' ⟨he, bel⟩ => ?_
  subst he
  exact ⟨_, rfl, _, _, _, [], _, [], hW', trodAll_mk1 (shut_bool Tryd.underlying4 _), (trodAll_cons_mk (shut_int Tryd.underlying83 w0) (trodAll_cons_mk (Below.trod WheelShift_laidOut (by kernel_rfl) (of_decide_eq_true (by kernel_rfl)) k1 bel lt1) (trodAll_cons_mk (shut_int Tryd.underlying57 w2) (trodAll_cons_mk (shut_int Tryd.underlying5 w3) (trodAll_cons_mk (shut_int Tryd.underlying5 w4) (trodAll_cons_mk (shut_int Tryd.underlying5 w5) trodAll_mk0)))))), rfl, bel.frame _, fun h => by cases h⟩

theorem wheelShift_holds : Rows.WheelShiftSaid :=
  OpenClaim.holds_of_wide 8 Tryd.f8 rfl rfl rfl rfl rfl rfl rfl ⟨rfl, rfl, rfl, rfl, rfl⟩ rfl rfl rfl rfl rfl (by kernel_rfl) Tryd.func8 (by kernel_rfl)
    (of_decide_eq_true (by kernel_rfl)) (by unfold Func.isWrapper; rw [if_neg (of_decide_eq_false (by kernel_rfl))]; exact ⟨rfl, rfl⟩)
    (fun os started H enc _ => WheelShift_lifted os started H enc)

theorem wheelShift_card_holds : Rows.WheelShiftCardSaid :=
  Claim7.holds_tied_plain_at .later [] [.data] true (true, "b951392705a90429bab016e206d898cc169665650f4d29c034dd940c73b12514") false
    wheelShift_holds (fun _ h => by cases h) (by kernel_rfl) (fun _ h => by cases h) wheelShift_row_tie rfl ⟨rfl, rfl⟩ (by kernel_rfl) rfl
    (fun f fn hf hfn => by
      obtain rfl : f = 8 := Option.some.inj ((show Tryd.prog.funcNamed Rows.wheelShiftRow.func = some 8 by kernel_rfl).symm.trans hf) |>.symm
      obtain rfl : fn = Tryd.f8 := (Option.some.inj (Tryd.func8.symm.trans hfn)).symm
      exact ⟨by kernel_rfl, fun j t ht => by
        rw [Tryd.params8] at ht
        have hm : t ∈ [83, 55, 57, 5] := by have := Array.mem_of_getElem? ht; simp at this; simp [this]
        have hall : ([83, 55, 57, 5].all fun u => !Tryd.prog.wantsStandIn u) = true := by kernel_rfl
        exact (show Tryd.prog.wantsStandIn t = false by simpa using List.all_eq_true.1 hall t hm)⟩)
    (by kernel_rfl)
end Go.Proofs.YtkdkkgbjfabifaaDoor
