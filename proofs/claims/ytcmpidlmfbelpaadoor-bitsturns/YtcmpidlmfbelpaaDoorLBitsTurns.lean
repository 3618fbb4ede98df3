/-
  BitsTurns: for every map and every two numbers the statement 'a map with a slot has it, one without hasn't, all others stay, and no slot changes nothing' returns true, and its arguments read as before. (The table of math/bits reads as the program's text lays it: tied by the card.)
-/
import Derived.Test.YtcmpidlmfbelpaaDoorBitsAlive
import Derived.Test.YtcmpidlmfbelpaaDoorTie
import Derived.Test.YtcmpidlmfbelpaaDoorCards
import Derived.SevenTiedAt
import Derived.ChangeOld
import Derived.Below
namespace Go.Proofs.YtcmpidlmfbelpaaDoor
open Go.ChangeShapes Go.WideShapes Go.ChangeAt Go.RowKit Verge
set_option linter.unusedVariables false

theorem with_no (m : Nat) (s : Int) (h : ¬ (0 ≤ s ∧ s < 64)) : withN m s = m := by unfold withN; rw [bitN_no s h]; simp
theorem wo_no (m : Nat) (s : Int) (h : ¬ (0 ≤ s ∧ s < 64)) (hm : m < 18446744073709551616) : woN m s = m := by
  refine eq_of_test _ _ (woN_lt m s hm) hm fun i hi => ?_
  rw [woN_test m s i hi]; simp [h]
theorem has_no (m : Nat) (s : Int) (h : ¬ (0 ≤ s ∧ s < 64)) : hasN m s = false := by unfold hasN; simp [h]
theorem has_with (m : Nat) (s : Int) (h : 0 ≤ s ∧ s < 64) : hasN (withN m s) s = true := by unfold hasN; rw [withN_test]; simp [h]
theorem has_wo (m : Nat) (s : Int) (h : 0 ≤ s ∧ s < 64) : hasN (woN m s) s = false := by unfold hasN; rw [woN_test _ _ _ (by omega)]; simp [h]
theorem wo_with (m : Nat) (s : Int) (hm : m < 18446744073709551616) : woN (withN m s) s = woN m s := by
  refine eq_of_test _ _ (woN_lt _ s (withN_lt m s hm)) (woN_lt m s hm) fun i hi => ?_
  rw [woN_test _ s i hi, woN_test m s i hi, withN_test]
  generalize (decide (0 ≤ s ∧ s < 64) && decide (s.toNat = i)) = b
  cases m.testBit i <;> cases b <;> rfl
theorem with_wo (m : Nat) (s : Int) (hm : m < 18446744073709551616) : withN (woN m s) s = withN m s := by
  refine eq_of_test _ _ (withN_lt _ s (woN_lt m s hm)) (withN_lt m s hm) fun i hi => ?_
  rw [withN_test, withN_test, woN_test m s i hi]
  generalize (decide (0 ≤ s ∧ s < 64) && decide (s.toNat = i)) = b
  cases m.testBit i <;> cases b <;> rfl
theorem has_with_other (m : Nat) (s o : Int) (h : o ≠ s) : hasN (withN m s) o = hasN m o := by
  unfold hasN
  by_cases ho : 0 ≤ o ∧ o < 64
  · rw [withN_test]
    by_cases hs : 0 ≤ s ∧ s < 64
    · have : ¬ s.toNat = o.toNat := by omega
      simp [this]
    · simp [hs]
  · simp [ho]
theorem has_wo_other (m : Nat) (s o : Int) (h : o ≠ s) : hasN (woN m s) o = hasN m o := by
  unfold hasN
  by_cases ho : 0 ≤ o ∧ o < 64
  · rw [woN_test _ _ _ (by omega)]
    by_cases hs : 0 ≤ s ∧ s < 64
    · have : ¬ s.toNat = o.toNat := by omega
      simp [this]
    · simp [hs]
  · simp [ho]

set_option maxHeartbeats 2000000 in
set_option maxRecDepth 1000000 in
theorem BitsTurns_walk (m slot other : Int) (wm : (Lit.int .u64 m).wf = true) (ws : (Lit.int .i64 slot).wf = true) (wo : (Lit.int .i64 other).wf = true) (w : World) (T : Tab w) :
    Calls Tryd.prog 5 #[.int .u64 m, .int .i64 slot, .int .i64 other] w fun e w' => e = .returned (.bool true) ∧ Below w.heap.size w w' := by
  obtain ⟨hm0, hm1⟩ := bounds_u64 wm
  obtain ⟨x, rfl⟩ := Int.eq_ofNat_of_zero_le hm0
  have hx : x < 18446744073709551616 := by omega
  clear wm ws wo hm0 hm1
  have hw1 := withN_lt x slot hx
  have hw2 := woN_lt x slot hx
  go_enter Tryd.func5, Tryd.ntmps5
  go_wp2_with fail
  refine (alive_any _ T).mono ?_
  rintro e w1 ⟨rfl, hc⟩
  have HC := Lib.hid hc
  clear hc T
  go_wp2_with fail
  refine (with_any x slot hx _).mono ?_
  rintro e w2 ⟨rfl, rfl⟩
  go_wp2_with fail
  refine (without_any x slot hx _).mono ?_
  rintro e w2 ⟨rfl, rfl⟩
  by_cases h : 0 ≤ slot ∧ slot < 64
  · obtain ⟨h0, h1⟩ := h
    have f1 := has_with x slot ⟨h0, h1⟩
    have f2 := has_wo x slot ⟨h0, h1⟩
    have f3 := wo_with x slot hx
    have f4 := with_wo x slot hx
    have F1 := Lib.hid f1; have F2 := Lib.hid f2; have F3 := Lib.hid f3; have F4 := Lib.hid f4
    clear f1 f2 f3 f4
    have d1 : decide (slot < 0) = false := by simp; omega
    have d2 : decide (63 < slot) = false := by simp; omega
    have F5 := Lib.hid (has_with_other x slot other)
    have F6 := Lib.hid (has_wo_other x slot other)
    generalize hA : withN x slot = a at *
    generalize hB : woN x slot = b at *
    clear hA hB
    go_wp2_with fail
    refine (has_any a slot hw1 _).mono ?_
    rw [F1.out]
    rintro e w2 ⟨rfl, rfl⟩
    go_wp2_with fail
    refine (has_any b slot hw2 _).mono ?_
    rw [F2.out]
    rintro e w2 ⟨rfl, rfl⟩
    go_wp2_with fail
    refine (without_any a slot hw1 _).mono ?_
    rw [F3.out]
    rintro e w2 ⟨rfl, rfl⟩
    go_wp2_with fail
    refine (with_any b slot hw2 _).mono ?_
    rw [F4.out]
    rintro e w2 ⟨rfl, rfl⟩
    by_cases ho : other = slot
    · subst ho
      go_wp2
      go_ret
      exact ⟨rfl, HC.out.below (Nat.le_refl _) (fun _ _ e => e.elim)⟩
    · have b1 : (other == slot) = false := by simpa using ho
      have G5 := F5.out ho
      have G6 := F6.out ho
      have K5 := Lib.hid G5
      have K6 := Lib.hid G6
      clear G5 G6 ho
      go_wp2_with fail
      refine (has_any a other hw1 _).mono ?_
      rw [K5.out]
      rintro e w2 ⟨rfl, rfl⟩
      go_wp2_with fail
      refine (has_any x other hx _).mono ?_
      rintro e w2 ⟨rfl, rfl⟩
      go_wp2_with fail
      refine (has_any b other hw2 _).mono ?_
      rw [K6.out]
      rintro e w2 ⟨rfl, rfl⟩
      go_wp2_with fail
      refine (has_any x other hx _).mono ?_
      rintro e w2 ⟨rfl, rfl⟩
      go_wp2
      go_ret
      exact ⟨rfl, HC.out.below (Nat.le_refl _) (fun _ _ e => e.elim)⟩
  · have g1 := with_no x slot h
    have g2 := wo_no x slot h hx
    have g3 := has_no x slot h
    have G3 := Lib.hid g3
    rw [g1, g2]
    rw [g1] at hw1
    rw [g2] at hw2
    clear g1 g2 g3
    by_cases h0 : slot < 0
    · go_wp2_with fail
      refine (has_any x slot hx _).mono ?_
      rw [G3.out]
      rintro e w2 ⟨rfl, rfl⟩
      go_wp2
      go_ret
      exact ⟨rfl, HC.out.below (Nat.le_refl _) (fun _ _ e => e.elim)⟩
    · have h1 : 63 < slot := by omega
      have h0' : 0 ≤ slot := by omega
      clear h h0
      go_wp2_with fail
      refine (has_any x slot hx _).mono ?_
      rw [G3.out]
      rintro e w2 ⟨rfl, rfl⟩
      go_wp2
      go_ret
      exact ⟨rfl, HC.out.below (Nat.le_refl _) (fun _ _ e => e.elim)⟩

theorem BitsTurns_own : ownKnob Tryd.prog.godebug = none := by kernel_rfl

set_option maxRecDepth 100000 in
theorem BitsTurns_lifted (os : Os) (started : os.Started) (H : Type) (enc : TypeId × Value → H) :
    ReturnsInHanded {} Tryd.checked os 5 .any (fun w args => (Rows.bitsTurnsSpec.pre enc Tryd.prog Tryd.f5 [] false w args ∧ laidMetH Tryd.prog laidTab w) ∧ sizedMet enc Tryd.prog Tryd.f5 (OpenSpec.ofChange Rows.bitsTurnsSpec) false w args) (Rows.bitsTurnsSpec.post enc Tryd.prog Tryd.f5 false true false false) := by
  refine returnsInHanded_of_change_and (C := Tryd.checked) (X := fun w _ => laidMetH Tryd.prog laidTab w) (fun _ _ _ hh h => h.of_heap hh) BitsTurns_own started (by kernel_rfl) Tryd.func5
    (ChangeSpec.witness_shaped (enc := enc) (C := Tryd.checked) (os := os) (X := fun w _ => laidMetH Tryd.prog laidTab w) false (World.doorLaid Tryd.prog doorSteps os) #[.int .u64 0, .int .i64 0, .int .i64 0] 8 rfl (World.shaped_of_RefB (by kernel_rfl) (by kernel_rfl)) (by kernel_rfl) (by kernel_rfl) (by kernel_rfl) (door_met os _)) ?_
  intro W base args ds gs before hval0 hW _ _ hL _
  have TB := tab_of_laid hL
  have hval : ∀ (j : Nat) t v, Tryd.f5.params[j]? = some t → args[j]? = some v → Value.okWide Tryd.prog W .any base t v := hval0
  have hW' := hW
  obtain ⟨p, q, hA0, hV, rfl, hfz, hnd⟩ := hW
  have hA : DataW.TrodAll enc Tryd.prog W 0 (fun _ => true) true Tryd.f5.params.toList args.toList ds p := hA0
  rw [Tryd.params5] at hA hval
  obtain ⟨v0, vs0, d0, ds0, p0, q0, hargs, rfl, rfl, h0, r0⟩ := trodAll_cons hA
  obtain ⟨v1, vs1, d1, ds1, p1, q1, rfl, rfl, rfl, h1, r1⟩ := trodAll_cons r0
  obtain ⟨v2, vs2, d2, ds2, p2, q2, rfl, rfl, rfl, h2, r2⟩ := trodAll_cons r1
  obtain ⟨rfl, rfl, rfl⟩ := trodAll_nil r2
  obtain rfl : args = #[v0, v1, v2] := by cases args; simp_all
  obtain ⟨rfl, rfl⟩ := trodVars_none hV
  obtain ⟨a0, rfl, rfl, rfl, w0⟩ := open_int Tryd.underlying22 (hval 0 22 v0 rfl rfl) h0
  obtain ⟨a1, rfl, rfl, rfl, w1⟩ := open_int Tryd.underlying3 (hval 1 3 v1 rfl rfl) h1
  obtain ⟨a2, rfl, rfl, rfl, w2⟩ := open_int Tryd.underlying3 (hval 2 3 v2 rfl rfl) h2
  clear hA0 hval0
  simp only [List.append_nil] at hW'
  refine (BitsTurns_walk a0 a1 a2 w0 w1 w2 W TB).mono fun e W' ⟨he, bel⟩ => ?_
  subst he
  exact ⟨_, rfl, _, _, _, [], _, [], hW', trodAll_mk1 (shut_bool Tryd.underlying4 _), (trodAll_cons_mk (shut_int Tryd.underlying22 w0) (trodAll_cons_mk (shut_int Tryd.underlying3 w1) (trodAll_cons_mk (shut_int Tryd.underlying3 w2) trodAll_mk0))), rfl, bel.frame _, fun h => by cases h⟩

theorem bitsTurns_holds : Rows.BitsTurnsSaid :=
  OpenClaim.holds_of_wide 5 Tryd.f5 rfl rfl rfl rfl rfl rfl rfl ⟨rfl, rfl, rfl, rfl, rfl⟩ rfl rfl rfl rfl rfl (by kernel_rfl) Tryd.func5 (by kernel_rfl)
    (of_decide_eq_true (by kernel_rfl)) (by unfold Func.isWrapper; rw [if_neg (of_decide_eq_false (by kernel_rfl))]; exact ⟨rfl, rfl⟩)
    (fun os started H enc _ => BitsTurns_lifted os started H enc)

theorem bitsTurns_card_holds : Rows.BitsTurnsCardSaid :=
  Claim7.holds_tied_plain_at .later [] [.data] true (true, "8b9362e19d0a6f861012771419a9cf678e1bc17006d07ff604b0e7574640ef7a") false
    bitsTurns_holds (fun _ h => by cases h) (by kernel_rfl) (fun _ h => by cases h) bitsTurns_row_tie rfl ⟨rfl, rfl⟩ (by kernel_rfl) rfl
    (fun f fn hf hfn => by
      obtain rfl : f = 5 := Option.some.inj ((show Tryd.prog.funcNamed Rows.bitsTurnsRow.func = some 5 by kernel_rfl).symm.trans hf) |>.symm
      obtain rfl : fn = Tryd.f5 := (Option.some.inj (Tryd.func5.symm.trans hfn)).symm
      exact ⟨by kernel_rfl, fun j t ht => by
        rw [Tryd.params5] at ht
        have hm : t ∈ [22, 3] := by have := Array.mem_of_getElem? ht; simp at this; simp [this]
        have hall : ([22, 3].all fun u => !Tryd.prog.wantsStandIn u) = true := by kernel_rfl
        exact (show Tryd.prog.wantsStandIn t = false by simpa using List.all_eq_true.1 hall t hm)⟩)
    (by kernel_rfl)
end Go.Proofs.YtcmpidlmfbelpaaDoor
