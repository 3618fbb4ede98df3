/-
  LevelNone: for every number the statement 'no level has nothing, and a nil node is refused' returns true, and its argument reads as before. (The table of math/bits reads as the program's text lays it: tied by the card.)
-/
import Derived.Test.YtgaakhiapgmnbaaDoorLevelAlive
import Derived.Test.YtgaakhiapgmnbaaDoorTie
import Derived.Test.YtgaakhiapgmnbaaDoorCards
import Derived.SevenTiedAt
import Derived.ChangeOld
import Derived.Below
namespace Go.Proofs.YtgaakhiapgmnbaaDoor
open Go.ChangeShapes Go.WideShapes Go.ChangeAt Go.RowKit Verge LI
set_option linter.unusedVariables false
attribute [local go_sem] Oper.semAt_some

set_option maxHeartbeats 2000000 in
set_option maxRecDepth 100000 in
theorem LevelNone_walk (s : Int) (ws : (Lit.int .i64 s).wf = true) (w : World) (T : Tab w) :
    Calls Tryd.prog 6 #[.int .i64 s] w fun e w' => e = .returned (.bool true) ∧ Below w.heap.size w w' := by
  clear ws
  have HT := Lib.hid T
  clear T
  have t0 := HT.out.lt
  go_enter Tryd.func6, Tryd.ntmps6
  go_wp2_with fail
  refine (alive_any _ HT.out).mono ?_
  rintro e w1 ⟨rfl, c1⟩
  have C1 := Lib.hid c1
  clear c1
  go_wp2_with fail
  refine (newv_of _ (fun _ => 0)).mono ?_
  rintro e w2 ⟨vb, hd, rfl, h2, g2, c2⟩
  have hw := C1.out.size
  have H2 := Lib.hid (h2.kept (S := Nil) ((Ch.refl _ _).alloc (.cells #[.int .i64 0, .pointer none, .pointer none, .pointer none] 30)) (fun _ _ e => e))
  have hvb : w.heap.size ≤ vb := Nat.le_trans hw (g2 _ (.inl rfl))
  have C2 := Lib.hid ((C1.out.trans c2).alloc (.cells #[.int .i64 0, .pointer none, .pointer none, .pointer none] 30))
  clear h2 g2 c2
  by_cases hr : 0 ≤ s ∧ s < 64
  · obtain ⟨h0, h1⟩ := hr
    obtain ⟨k, rfl⟩ := Int.eq_ofNat_of_zero_le h0
    go_wp2_with fail
    refine (vput_nonode (s := k) H2.out (by omega)).mono ?_
    rintro e w3 ⟨rfl, h3, c3⟩
    have H3 := Lib.hid h3
    have C3 := Lib.hid (C2.out.up c3 (fun i e => e ▸ hvb))
    clear h3 c3
    go_wp2_with fail
    refine (vrem_nonode (s := k) H3.out (by omega)).mono ?_
    rintro e w4 ⟨rfl, h4, c4⟩
    have C4 := Lib.hid (C3.out.up c4 (fun i e => e ▸ hvb))
    have T4 := Lib.hid (HT.out.keeps C4.out (fun e => e))
    clear h4 c4
    go_wp2_with fail
    refine (vput_nil _ _ _).mono ?_
    rintro e w5 ⟨rfl, rfl⟩
    go_wp2_with fail
    refine (vrem_nil _ _ _).mono ?_
    rintro e w5 ⟨rfl, rfl⟩
    go_wp2_with fail
    refine (vtake_nil _ _).mono ?_
    rintro e w5 ⟨rfl, rfl⟩
    go_wp2_with fail
    refine (vat_nil _ _).mono ?_
    rintro e w5 ⟨rfl, rfl⟩
    go_wp2_with fail
    refine (vlen_nil _ T4.out).mono ?_
    rintro e w5 ⟨rfl, c5⟩
    have C5 := Lib.hid (C4.out.trans c5)
    clear c5
    go_wp2_with fail
    refine (map_nil _).mono ?_
    rintro e w6 ⟨rfl, rfl⟩
    go_wp2
    go_ret
    exact ⟨rfl, C5.out.below (Nat.le_refl _) (fun _ _ e => e.elim)⟩
  · have hz : s < 0 ∨ 64 ≤ s := by omega
    go_wp2_with fail
    refine (vput_range vb s hz _ _).mono ?_
    rintro e w3 ⟨rfl, rfl⟩
    go_wp2_with fail
    refine (vrem_range vb s hz _ _).mono ?_
    rintro e w3 ⟨rfl, rfl⟩
    obtain ⟨w4, hw4⟩ : ∃ w4, w4 = w2.alloc (.cells #[.int .i64 0, .pointer none, .pointer none, .pointer none] 30) := ⟨_, rfl⟩
    have C4 : Hid (Ch Nil w w4) := by rw [hw4]; exact C2
    rw [← hw4]
    have T4 := Lib.hid (HT.out.keeps C4.out (fun e => e))
    clear hw4 H2 C2
    rcases hz with hz | hz
    all_goals
      go_wp2_with fail
      refine (vput_nil _ _ _).mono ?_
      rintro e w5 ⟨rfl, rfl⟩
      go_wp2_with fail
      refine (vrem_nil _ _ _).mono ?_
      rintro e w5 ⟨rfl, rfl⟩
      go_wp2_with fail
      refine (vtake_nil _ _).mono ?_
      rintro e w5 ⟨rfl, rfl⟩
      go_wp2_with fail
      refine (vat_nil _ _).mono ?_
      rintro e w5 ⟨rfl, rfl⟩
      go_wp2_with fail
      refine (vlen_nil _ T4.out).mono ?_
      rintro e w5 ⟨rfl, c5⟩
      have C5 := Lib.hid (C4.out.trans c5)
      clear c5
      go_wp2_with fail
      refine (map_nil _).mono ?_
      rintro e w6 ⟨rfl, rfl⟩
      go_wp2
      go_ret
      exact ⟨rfl, C5.out.below (Nat.le_refl _) (fun _ _ e => e.elim)⟩

theorem LevelNone_own : ownKnob Tryd.prog.godebug = none := by kernel_rfl

set_option maxRecDepth 100000 in
theorem LevelNone_lifted (os : Os) (started : os.Started) (H : Type) (enc : TypeId × Value → H) :
    ReturnsInHanded {} Tryd.checked os 6 .any (fun w args => (Rows.levelNoneSpec.pre enc Tryd.prog Tryd.f6 [] false w args ∧ laidMetH Tryd.prog laidTab w) ∧ sizedMet enc Tryd.prog Tryd.f6 (OpenSpec.ofChange Rows.levelNoneSpec) false w args) (Rows.levelNoneSpec.post enc Tryd.prog Tryd.f6 false true false false) := by
  refine returnsInHanded_of_change_and (C := Tryd.checked) (X := fun w _ => laidMetH Tryd.prog laidTab w) (fun _ _ _ hh h => h.of_heap hh) LevelNone_own started (by kernel_rfl) Tryd.func6
    (ChangeSpec.witness_shaped (enc := enc) (C := Tryd.checked) (os := os) (X := fun w _ => laidMetH Tryd.prog laidTab w) false (World.doorLaid Tryd.prog doorSteps os) #[.int .i64 0] 8 rfl (World.shaped_of_RefB (by kernel_rfl) (by kernel_rfl)) (by kernel_rfl) (by kernel_rfl) (by kernel_rfl) (door_met os _)) ?_
  intro W base args ds gs before hval0 hW _ _ hL _
  have TB := tab_of_laid hL
  have hval : ∀ (j : Nat) t v, Tryd.f6.params[j]? = some t → args[j]? = some v → Value.okWide Tryd.prog W .any base t v := hval0
  have hW' := hW
  obtain ⟨p, q, hA0, hV, rfl, hfz, hnd⟩ := hW
  have hA : DataW.TrodAll enc Tryd.prog W 0 (fun _ => true) true Tryd.f6.params.toList args.toList ds p := hA0
  rw [Tryd.params6] at hA hval
  obtain ⟨v0, vs0, d0, ds0, p0, q0, hargs, rfl, rfl, h0, r0⟩ := trodAll_cons hA
  obtain ⟨rfl, rfl, rfl⟩ := trodAll_nil r0
  obtain rfl : args = #[v0] := by cases args; simp_all
  obtain ⟨rfl, rfl⟩ := trodVars_none hV
  obtain ⟨a0, rfl, rfl, rfl, w0⟩ := open_int Tryd.underlying3 (hval 0 3 v0 rfl rfl) h0
  clear hA0 hval0
  simp only [List.append_nil] at hW'
  refine (LevelNone_walk a0 w0 W TB).mono fun e W' ⟨he, bel⟩ => ?_
  subst he
  exact ⟨_, rfl, _, _, _, [], _, [], hW', trodAll_mk1 (shut_bool Tryd.underlying4 _), (trodAll_cons_mk (shut_int Tryd.underlying3 w0) trodAll_mk0), rfl, bel.frame _, fun h => by cases h⟩

theorem levelNone_holds : Rows.LevelNoneSaid :=
  OpenClaim.holds_of_wide 6 Tryd.f6 rfl rfl rfl rfl rfl rfl rfl ⟨rfl, rfl, rfl, rfl, rfl⟩ rfl rfl rfl rfl rfl (by kernel_rfl) Tryd.func6 (by kernel_rfl)
    (of_decide_eq_true (by kernel_rfl)) (by unfold Func.isWrapper; rw [if_neg (of_decide_eq_false (by kernel_rfl))]; exact ⟨rfl, rfl⟩)
    (fun os started H enc _ => LevelNone_lifted os started H enc)

theorem levelNone_card_holds : Rows.LevelNoneCardSaid :=
  Claim7.holds_tied_plain_at .later [] [.data] true (true, "a12f025456261448af86dfd14c67baf3c7b44116e69f89940250fcbef63c66f8") false
    levelNone_holds (fun _ h => by cases h) (by kernel_rfl) (fun _ h => by cases h) levelNone_row_tie rfl ⟨rfl, rfl⟩ (by kernel_rfl) rfl
    (fun f fn hf hfn => by
      obtain rfl : f = 6 := Option.some.inj ((show Tryd.prog.funcNamed Rows.levelNoneRow.func = some 6 by kernel_rfl).symm.trans hf) |>.symm
      obtain rfl : fn = Tryd.f6 := (Option.some.inj (Tryd.func6.symm.trans hfn)).symm
      exact ⟨by kernel_rfl, fun j t ht => by
        rw [Tryd.params6] at ht
        have hm : t ∈ [3] := by have := Array.mem_of_getElem? ht; simp at this; simp [this]
        have hall : ([3].all fun u => !Tryd.prog.wantsStandIn u) = true := by kernel_rfl
        exact (show Tryd.prog.wantsStandIn t = false by simpa using List.all_eq_true.1 hall t hm)⟩)
    (by kernel_rfl)
end Go.Proofs.YtgaakhiapgmnbaaDoor
