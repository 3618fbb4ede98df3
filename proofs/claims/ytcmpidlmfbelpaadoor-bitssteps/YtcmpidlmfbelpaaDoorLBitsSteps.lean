/-
  BitsSteps: for every map the statement 'who goes from slot to slot, each time from the next one on, meets just the slots of the map, and round the end the first one again' returns true, and its argument reads as before. (The table of math/bits reads as the program's text lays it: tied by the card.)
-/
import Derived.Test.YtcmpidlmfbelpaaDoorBitsAlive
import Derived.Test.YtcmpidlmfbelpaaDoorBitsStep
import Derived.Test.YtcmpidlmfbelpaaDoorHeld
import Derived.Test.YtcmpidlmfbelpaaDoorTie
import Derived.Test.YtcmpidlmfbelpaaDoorCards
import Derived.SevenTiedAt
import Derived.ChangeOld
import Derived.Below
import Derived.Deep.QuietTactic
import Derived.BigQuiet
namespace Go.Proofs.YtcmpidlmfbelpaaDoor
open Go.ChangeShapes Go.WideShapes Go.ChangeAt Go.RowKit Verge
set_option linter.unusedVariables false

set_option maxHeartbeats 2000000 in
set_option maxRecDepth 1000000 in
theorem BitsSteps_walk (m : Int) (wm : (Lit.int .u64 m).wf = true) (w : World) (T : Tab w) :
    Calls Tryd.prog 7 #[.int .u64 m] w fun e w' => e = .returned (.bool true) ∧ Below w.heap.size w w' := by
  obtain ⟨hm0, hm1⟩ := bounds_u64 wm
  obtain ⟨x, rfl⟩ := Int.eq_ofNat_of_zero_le hm0
  have hx : x < 18446744073709551616 := by omega
  clear wm hm0 hm1
  have hl := slots_le x
  go_enter Tryd.func7, Tryd.ntmps7
  go_wp2_with fail
  refine (alive_any _ T).mono ?_
  rintro e w1 ⟨rfl, hc⟩
  have C1 := Lib.hid hc
  have T1 := Lib.hid (T.keeps hc (fun e => e))
  clear hc T
  go_wp2_with fail
  refine (all_any x hx _ T1.out).mono ?_
  rintro e w2 ⟨a, cap, rfl, row, hg, hc⟩
  have C2 := Lib.hid (C1.out.trans hc)
  have T2 := Lib.hid (T1.out.keeps hc (fun e => e))
  have R2 := Lib.hid row
  have lc := row.len_cap
  clear hc row hg
  go_wp2_with fail
  refine (from_any x 0 hx _ T2.out).mono ?_
  rw [from_zero]
  rintro e w3 ⟨rfl, hc⟩
  have C3 := Lib.hid (C2.out.trans hc)
  have T3 := Lib.hid (T2.out.keeps hc (fun e => e))
  have R3 := Lib.hid (R2.out.kept hc (fun _ _ e => e))
  clear hc
  go_wp2
  go_loopw [5, 6] (fun at_ i wr => ∃ k : Nat, k ≤ (slots x).length ∧ i = .int .i64 k ∧ at_ = .int .i64 (atV x k) ∧ Tab wr ∧ Row wr 3 1 a (slots x).length cap (slotV x) ∧ Ch Nil w wr) (fun _ i _ => (slots x).length - (intOf i).toNat)
  case atStart => exact ⟨0, by omega, rfl, rfl, T3.out, R3.out, C3.out⟩
  case round =>
    obtain ⟨k, hk, rfl, rfl, ht, row, hc⟩ := hrel
    have HT := Lib.hid ht
    have HR := Lib.hid row
    have HC := Lib.hid hc
    clear ht row hc T1 T2 T3 R2 R3 C1 C2 C3
    by_cases hlt : k < (slots x).length
    · obtain ⟨g, rfl, -⟩ := HR.out.form (by omega)
      have q : wr.cell? ⟨g, k, none⟩ = some (.int .i64 (slotAt x k : Nat)) := HR.out.cell k (by omega)
      have hkz : (k : Int) < ((slots x).length : Int) := by omega
      have hkz0 : (0 : Int) ≤ (k : Int) := by omega
      have hs := slotAt_lt x k hlt
      have E1 := Lib.hid (has_slot x k hlt)
      have E2 := Lib.hid (round_same x k hlt)
      have E3 := Lib.hid (from_next x k hlt)
      have q0 : Hid (∀ w', Row w' 3 1 (some ⟨g, 0, none⟩) (slots x).length cap (slotV x) → w'.cell? ⟨g, 0, none⟩ = some (.int .i64 (slotAt x 0 : Nat))) := fun w' h => h.cell 0 (by omega)
      rw [atV_yes x k hlt]
      by_cases hl2 : k + 1 < (slots x).length
      · have V := Lib.hid (atV_yes x (k + 1) hl2)
        generalize (slots x).length = n at *
        go_wp2_with fail
        refine (has_any x _ hx _).mono ?_
        rw [E1.out]
        rintro e w4 ⟨rfl, rfl⟩
        clear q
        go_wp2_with fail
        refine (round_any x _ hx _ HT.out).mono ?_
        rw [E2.out]
        rintro e w4 ⟨rfl, c4⟩
        have T4 := Lib.hid (HT.out.keeps c4 (fun e => e))
        have R4 := Lib.hid (HR.out.kept c4 (fun _ _ e => e))
        have C4 := Lib.hid (HC.out.trans c4)
        clear c4
        go_wp2_with fail
        refine (from_any x _ hx _ T4.out).mono ?_
        rw [E3.out, V.out]
        rintro e w5 ⟨rfl, c5⟩
        have T5 := Lib.hid (T4.out.keeps c5 (fun e => e))
        have R5 := Lib.hid (R4.out.kept c5 (fun _ _ e => e))
        have C5 := Lib.hid (C4.out.trans c5)
        clear c5
        have d : decide ((slotAt x (k + 1) : Int) < 0) = false := by simp
        generalize hy : slotAt x (k + 1) = y at *
        clear hy
        go_wp2
        go_quiet (fail)
        go_wp2
        go_roundw
        case rel => exact ⟨k + 1, by omega, by go_num, by rw [V.out], T5.out.keeps (S := Nil) ((Ch.refl _ _).drewN _) (fun e => e), R5.out.kept (S := Nil) ((Ch.refl _ _).drewN _) (fun _ _ e => e), C5.out.drewN _⟩
        case measure => simp [intOf]; omega
      · have hl3 : k + 1 = (slots x).length := by omega
        have V := Lib.hid (show atV x (k + 1) = -1 by rw [hl3]; exact atV_no x)
        have E4 := Lib.hid (round_last x k hl3)
        have hn0 : 0 < (slots x).length := by omega
        clear hl3 hl2
        generalize (slots x).length = n at *
        go_wp2_with fail
        refine (has_any x _ hx _).mono ?_
        rw [E1.out]
        rintro e w4 ⟨rfl, rfl⟩
        clear q
        go_wp2_with fail
        refine (round_any x _ hx _ HT.out).mono ?_
        rw [E2.out]
        rintro e w4 ⟨rfl, c4⟩
        have T4 := Lib.hid (HT.out.keeps c4 (fun e => e))
        have R4 := Lib.hid (HR.out.kept c4 (fun _ _ e => e))
        have C4 := Lib.hid (HC.out.trans c4)
        clear c4
        go_wp2_with fail
        refine (from_any x _ hx _ T4.out).mono ?_
        rw [E3.out, V.out]
        rintro e w5 ⟨rfl, c5⟩
        have T5 := Lib.hid (T4.out.keeps c5 (fun e => e))
        have R5 := Lib.hid (R4.out.kept c5 (fun _ _ e => e))
        have C5 := Lib.hid (C4.out.trans c5)
        clear c5
        generalize hy : slotAt x k = y at *
        clear hy
        generalize hy : slotAt x 0 = y0 at *
        clear hy
        go_wp2
        have iw : IntKind.i64.wrap ((y : Int) + 1) = (y : Int) + 1 := IntWalk.i64_in _ (by omega)
        refine wp_region_held_drew (S := fun w' => w'.cell? ⟨g, 0, none⟩ = some (.int .i64 (y0 : Nat))) (by kernel_rfl) (q0.out _ R5.out) (fun hHeld => ?_)
        have T6 := Lib.hid (T5.out.keeps (S := Nil) (w' := w5.drew) ((Ch.refl _ _).drew) (fun e => e))
        have R6 := Lib.hid (R5.out.kept (S := Nil) (w' := w5.drew) ((Ch.refl _ _).drew) (fun _ _ e => e))
        have C6 := Lib.hid C5.out.drew
        generalize w5.drew = w6 at *
        refine take_at (v := ?_) 0 (some 44) rfl (by kernel_rfl) (by kernel_rfl) (by kernel_rfl) (by kernel_rfl) (fun _ _ _ h => h) (Or.inl ⟨by rfl, ?_⟩) (by assumption) ?_
        rotate_left
        · intro w hSw; (try dsimp only at hSw); go_simp; try (with_reducible rfl)
        (try simp only [Act.put, List.setIfInBounds_toArray, List.set_cons_zero, List.set_cons_succ])
        refine take_at (v := ?_) 1 (some 45) rfl (by kernel_rfl) (by kernel_rfl) (by kernel_rfl) (by kernel_rfl) (fun _ _ _ h => h) (Or.inl ⟨by rfl, ?_⟩) (by assumption) ?_
        rotate_left
        · intro w hSw; (try dsimp only at hSw); go_simp; try (with_reducible rfl)
        (try simp only [Act.put, List.setIfInBounds_toArray, List.set_cons_zero, List.set_cons_succ])
        refine take_at (v := ?_) 2 (some 46) rfl (by kernel_rfl) (by kernel_rfl) (by kernel_rfl) (by kernel_rfl) (fun _ _ _ h => h) (Or.inl ⟨by rfl, ?_⟩) (by assumption) ?_
        rotate_left
        · intro w hSw; (try dsimp only at hSw); go_simp; try (with_reducible rfl)
        (try simp only [Act.put, List.setIfInBounds_toArray, List.set_cons_zero, List.set_cons_succ])
        refine take_at (v := ?_) 3 (some 47) rfl (by kernel_rfl) (by kernel_rfl) (by kernel_rfl) (by kernel_rfl) (fun _ _ _ h => h) (Or.inl ⟨by rfl, ?_⟩) (by assumption) ?_
        rotate_left
        · intro w hSw; (try dsimp only at hSw); go_simp; try (with_reducible rfl)
        (try simp only [Act.put, List.setIfInBounds_toArray, List.set_cons_zero, List.set_cons_succ])
        refine take_at (v := ?_) 4 (some 48) rfl (by kernel_rfl) (by kernel_rfl) (by kernel_rfl) (by kernel_rfl) (fun _ _ _ h => h) (Or.inl ⟨by rfl, ?_⟩) (by assumption) ?_
        rotate_left
        · intro w hSw; (try dsimp only at hSw); go_simp; try (with_reducible rfl)
        (try simp only [Act.put, List.setIfInBounds_toArray, List.set_cons_zero, List.set_cons_succ])
        refine take_at (v := ?_) 5 (some 49) rfl (by kernel_rfl) (by kernel_rfl) (by kernel_rfl) (by kernel_rfl) (fun _ _ _ h => h) (Or.inl ⟨by rfl, ?_⟩) (by assumption) ?_
        rotate_left
        · intro w hSw; (try dsimp only at hSw); go_simp; try (with_reducible rfl)
        (try simp only [Act.put, List.setIfInBounds_toArray, List.set_cons_zero, List.set_cons_succ])
        refine take_at (v := ?_) 7 (some 51) rfl (by kernel_rfl) (by kernel_rfl) (by kernel_rfl) (by kernel_rfl) (fun _ _ _ h => h) (Or.inl ⟨by rfl, ?_⟩) (by assumption) ?_
        rotate_left
        · intro w hSw; (try dsimp only at hSw); go_simp; try (with_reducible rfl)
        (try simp only [Act.put, List.setIfInBounds_toArray, List.set_cons_zero, List.set_cons_succ])
        refine take_at (v := ?_) 8 (some 52) rfl (by kernel_rfl) (by kernel_rfl) (by kernel_rfl) (by kernel_rfl) (fun _ _ _ h => h) (Or.inl ⟨by rfl, ?_⟩) (by assumption) ?_
        rotate_left
        · intro w hSw; (try dsimp only at hSw); go_simp; try (with_reducible rfl)
        (try simp only [Act.put, List.setIfInBounds_toArray, List.set_cons_zero, List.set_cons_succ])
        refine take_at (v := ?_) 9 (some 53) rfl (by kernel_rfl) (by kernel_rfl) (by kernel_rfl) (by kernel_rfl) (fun _ _ _ h => h) (Or.inl ⟨by rfl, ?_⟩) (by assumption) ?_
        rotate_left
        · intro w hSw; (try dsimp only at hSw); go_simp; try (with_reducible rfl)
        (try simp only [Act.put, List.setIfInBounds_toArray, List.set_cons_zero, List.set_cons_succ])
        refine wpAnyH_ready (rs := [6]) (by kernel_rfl) (by simp) ?_
        refine AllReadyH.cons rfl (fun K' hK => ?_) AllReadyH.nil
        go_simp
        refine (round_any x _ hx _ T6.out).mono ?_
        rw [E4.out]
        rintro e w7 ⟨rfl, c7⟩
        have T7 := Lib.hid (T6.out.keeps c7 (fun e => e))
        have R7 := Lib.hid (R6.out.kept c7 (fun _ _ e => e))
        have C7 := Lib.hid (C6.out.trans c7)
        clear hHeld c7
        refine hK.out _ _ (q0.out _ R7.out) (fun hHeld => ?_)
        clear hK K'
        (try simp only [Act.put, List.setIfInBounds_toArray, List.set_cons_zero, List.set_cons_succ])
        refine take_at (v := ?_) 10 (some 54) rfl (by kernel_rfl) (by kernel_rfl) (by kernel_rfl) (by kernel_rfl) (fun _ _ _ h => h) (Or.inl ⟨by rfl, ?_⟩) (by assumption) ?_
        rotate_left
        · intro w hSw; (try dsimp only at hSw); go_simp; try (with_reducible rfl)
        (try simp only [Act.put, List.setIfInBounds_toArray, List.set_cons_zero, List.set_cons_succ])
        refine take_at (v := ?_) 11 (some 55) rfl (by kernel_rfl) (by kernel_rfl) (by kernel_rfl) (by kernel_rfl) (fun _ _ _ h => h) (Or.inl ⟨by rfl, ?_⟩) (by assumption) ?_
        rotate_left
        · intro w hSw; (try dsimp only at hSw); go_simp; try (with_reducible rfl)
        (try simp only [Act.put, List.setIfInBounds_toArray, List.set_cons_zero, List.set_cons_succ])
        refine wpAnyH_done (by kernel_rfl) ?_ _
        go_wp2
        go_roundw
        case rel => exact ⟨k + 1, by omega, by go_num, by rw [V.out], T7.out, R7.out, C7.out⟩
        case measure => simp [intOf]; omega
    · obtain rfl : k = (slots x).length := by omega
      rw [atV_no]
      generalize (slots x).length = n at *
      go_wp2
      go_ret
      exact ⟨rfl, HC.out.below (Nat.le_refl _) (fun _ _ e => e.elim)⟩

theorem BitsSteps_own : ownKnob Tryd.prog.godebug = none := by kernel_rfl

set_option maxRecDepth 100000 in
theorem BitsSteps_lifted (os : Os) (started : os.Started) (H : Type) (enc : TypeId × Value → H) :
    ReturnsInHanded {} Tryd.checked os 7 .any (fun w args => (Rows.bitsStepsSpec.pre enc Tryd.prog Tryd.f7 [] false w args ∧ laidMetH Tryd.prog laidTab w) ∧ sizedMet enc Tryd.prog Tryd.f7 (OpenSpec.ofChange Rows.bitsStepsSpec) false w args) (Rows.bitsStepsSpec.post enc Tryd.prog Tryd.f7 false true false false) := by
  refine returnsInHanded_of_change_and (C := Tryd.checked) (X := fun w _ => laidMetH Tryd.prog laidTab w) (fun _ _ _ hh h => h.of_heap hh) BitsSteps_own started (by kernel_rfl) Tryd.func7
    (ChangeSpec.witness_shaped (enc := enc) (C := Tryd.checked) (os := os) (X := fun w _ => laidMetH Tryd.prog laidTab w) false (World.doorLaid Tryd.prog doorSteps os) #[.int .u64 0] 8 rfl (World.shaped_of_RefB (by kernel_rfl) (by kernel_rfl)) (by kernel_rfl) (by kernel_rfl) (by kernel_rfl) (door_met os _)) ?_
  intro W base args ds gs before hval0 hW _ _ hL _
  have TB := tab_of_laid hL
  have hval : ∀ (j : Nat) t v, Tryd.f7.params[j]? = some t → args[j]? = some v → Value.okWide Tryd.prog W .any base t v := hval0
  have hW' := hW
  obtain ⟨p, q, hA0, hV, rfl, hfz, hnd⟩ := hW
  have hA : DataW.TrodAll enc Tryd.prog W 0 (fun _ => true) true Tryd.f7.params.toList args.toList ds p := hA0
  rw [Tryd.params7] at hA hval
  obtain ⟨v0, vs0, d0, ds0, p0, q0, hargs, rfl, rfl, h0, r0⟩ := trodAll_cons hA
  obtain ⟨rfl, rfl, rfl⟩ := trodAll_nil r0
  obtain rfl : args = #[v0] := by cases args; simp_all
  obtain ⟨rfl, rfl⟩ := trodVars_none hV
  obtain ⟨a0, rfl, rfl, rfl, w0⟩ := open_int Tryd.underlying22 (hval 0 22 v0 rfl rfl) h0
  clear hA0 hval0
  simp only [List.append_nil] at hW'
  refine (BitsSteps_walk a0 w0 W TB).mono fun e W' ⟨he, bel⟩ => ?_
  subst he
  exact ⟨_, rfl, _, _, _, [], _, [], hW', trodAll_mk1 (shut_bool Tryd.underlying4 _), (trodAll_cons_mk (shut_int Tryd.underlying22 w0) trodAll_mk0), rfl, bel.frame _, fun h => by cases h⟩

theorem bitsSteps_holds : Rows.BitsStepsSaid :=
  OpenClaim.holds_of_wide 7 Tryd.f7 rfl rfl rfl rfl rfl rfl rfl ⟨rfl, rfl, rfl, rfl, rfl⟩ rfl rfl rfl rfl rfl (by kernel_rfl) Tryd.func7 (by kernel_rfl)
    (of_decide_eq_true (by kernel_rfl)) (by unfold Func.isWrapper; rw [if_neg (of_decide_eq_false (by kernel_rfl))]; exact ⟨rfl, rfl⟩)
    (fun os started H enc _ => BitsSteps_lifted os started H enc)

theorem bitsSteps_card_holds : Rows.BitsStepsCardSaid :=
  Claim7.holds_tied_plain_at .later [] [.data] true (true, "8b9362e19d0a6f861012771419a9cf678e1bc17006d07ff604b0e7574640ef7a") false
    bitsSteps_holds (fun _ h => by cases h) (by kernel_rfl) (fun _ h => by cases h) bitsSteps_row_tie rfl ⟨rfl, rfl⟩ (by kernel_rfl) rfl
    (fun f fn hf hfn => by
      obtain rfl : f = 7 := Option.some.inj ((show Tryd.prog.funcNamed Rows.bitsStepsRow.func = some 7 by kernel_rfl).symm.trans hf) |>.symm
      obtain rfl : fn = Tryd.f7 := (Option.some.inj (Tryd.func7.symm.trans hfn)).symm
      exact ⟨by kernel_rfl, fun j t ht => by
        rw [Tryd.params7] at ht
        have hm : t ∈ [22] := by have := Array.mem_of_getElem? ht; simp at this; simp [this]
        have hall : ([22].all fun u => !Tryd.prog.wantsStandIn u) = true := by kernel_rfl
        exact (show Tryd.prog.wantsStandIn t = false by simpa using List.all_eq_true.1 hall t hm)⟩)
    (by kernel_rfl)
end Go.Proofs.YtcmpidlmfbelpaaDoor
