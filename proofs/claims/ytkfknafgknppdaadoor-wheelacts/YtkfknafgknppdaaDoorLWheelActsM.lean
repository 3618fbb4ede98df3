/-
  WheelActs: for every input the statement 'whatever is inserted, removed and ticked, all that a wheel tells is what the document tells' returns true, and its arguments read as before. (The table of math/bits reads as the program's text lays it: tied by the card.)
-/
import Derived.Test.YtkfknafgknppdaaDoorWcAll
import Derived.Test.YtkfknafgknppdaaDoorWheelAlive
import Derived.Test.YtkfknafgknppdaaDoorTie
import Derived.Test.YtkfknafgknppdaaDoorCards
import Derived.SevenTiedAt
import Derived.ChangeOld
import Derived.Below
namespace Go.Proofs.YtkfknafgknppdaaDoor
open Go.ChangeShapes Go.WideShapes Go.ChangeAt Go.RowKit Verge LP
set_option linter.unusedVariables false
attribute [local go_sem] Oper.semAt_some

set_option maxHeartbeats 4000000 in
set_option maxRecDepth 100000 in
theorem WheelActs_walk (n0 : Int) (ad : Option Addr) (len cap : Nat) (lev slot : Int) (wn : (Lit.int .u64 n0).wf = true) (wl : (Lit.int .i64 lev).wf = true) (ws : (Lit.int .i64 slot).wf = true) (w : World) (hv : IsTab [.i .i64, .i .i64, .i .u64] w ad len cap) (T : Tab w) :
    Calls Tryd.prog 3 #[.int .u64 n0, .slice ad len cap, .int .i64 lev, .int .i64 slot] w fun e w' => e = .returned (.bool true) ∧ Below w.heap.size w w' := by
  obtain ⟨n1, n2⟩ := bounds_u64 wn
  obtain ⟨n0, rfl⟩ := Int.eq_ofNat_of_zero_le n1
  have HV := Lib.hid hv
  have TB := Lib.hid T
  have hsm := hv.small
  clear wn wl ws hv T n1
  go_enter Tryd.func3, Tryd.ntmps3
  go_wp2_with fail
  refine (alive_any _).mono ?_
  rintro e w1 ⟨rfl, c1⟩
  have C1 := Lib.hid c1
  clear c1
  by_cases h60 : 60 < len
  · have hz : (60 : Int) < (len : Int) := by omega
    go_wp2
    go_ret
    exact ⟨rfl, C1.out.below (Nat.le_refl _) (fun _ _ e => e.elim)⟩
  · have hz : (len : Int) ≤ 60 := by omega
    go_wp2_with fail
    refine (Drv.new (w0 := w) n0 (by omega) C1.out).mono ?_
    rintro e w2 ⟨g, rfl, -, d2, -⟩
    have cA : Ch Nil w2 (w2.alloc (.cells #[.int .u64 (n0 : Nat), .slice none 0 0] 30)) := (Ch.refl _ _).alloc _
    have RWN : RefW (w2.alloc (.cells #[.int .u64 (n0 : Nat), .slice none 0 0] 30)) w2.heap.size n0 [] none 0 := ⟨by simp [go_sem], by simp [go_sem], Blk.new _ _ _, Row.nil _ _ _ _, fun e => by simp [OwnS] at e⟩
    have ST : Hid (AcR w (w2.alloc (.cells #[.int .u64 (n0 : Nat), .slice none 0 0] 30)) g n0 [] [] w2.heap.size [] none 0 none 0 0) := Lib.hid
      ⟨⟨d2.quiet cA, RWN, RQ.nil _, fun k hk e => by
          rcases hk with hk | hk
          · subst hk; have := d2.lt e; omega
          · simp [OwnS] at hk, fun k hk => by
          rcases hk with hk | hk
          · subst hk; exact d2.c.size
          · simp [OwnS] at hk⟩, Row.nil _ _ _ _, fun i x hx => by simp at hx, fun k hk => by simp [OwnS] at hk, Nat.le_refl _, Nat.le_refl _⟩
    clear d2 cA RWN
    go_wp2
    refine wp_mono (wcO_loop w g w2.heap.size ad len cap lev slot HV.out TB.out (by omega) _ _ (by omega) ?hI) ?_
    case hI => exact ⟨_, _, _, _, _, _, _, _, rfl, rfl, rfl, rfl, rfl, rfl, rfl, rfl, rfl, ST.out⟩
    rename_i K hK
    intro e a' w' hp
    obtain ⟨rfl, H⟩ := Qx_inv hp
    exact hK _ _ (wc_end w g w2.heap.size ad len cap lev slot HV.out TB.out (by omega) a' w' H)

theorem WheelActs_own : ownKnob Tryd.prog.godebug = none := by kernel_rfl
theorem WheelActs_laidOut : laidOutB Tryd.prog = true := by kernel_rfl

set_option maxRecDepth 100000 in
theorem WheelActs_lifted (os : Os) (started : os.Started) (H : Type) (enc : TypeId × Value → H) :
    ReturnsInHanded {} Tryd.checked os 3 .any (fun w args => (Rows.wheelActsSpec.pre enc Tryd.prog Tryd.f3 [] false w args ∧ laidMetH Tryd.prog laidTab w) ∧ sizedMet enc Tryd.prog Tryd.f3 (OpenSpec.ofChange Rows.wheelActsSpec) false w args) (Rows.wheelActsSpec.post enc Tryd.prog Tryd.f3 false true false false) := by
  refine returnsInHanded_of_change_and (C := Tryd.checked) (X := fun w _ => laidMetH Tryd.prog laidTab w) (fun _ _ _ hh h => h.of_heap hh) WheelActs_own started (by kernel_rfl) Tryd.func3
    (ChangeSpec.witness_shaped (enc := enc) (C := Tryd.checked) (os := os) (X := fun w _ => laidMetH Tryd.prog laidTab w) false (World.doorLaid Tryd.prog doorSteps os) #[.int .u64 0, .slice none 0 0, .int .i64 0, .int .i64 0] 8 rfl (World.shaped_of_RefB (by kernel_rfl) (by kernel_rfl)) (by kernel_rfl) (by kernel_rfl) (by kernel_rfl) (door_met os _)) ?_
  intro W base args ds gs before hval0 hW _ _ hL _
  have TB := tab_of_laid hL
  have hval : ∀ (j : Nat) t v, Tryd.f3.params[j]? = some t → args[j]? = some v → Value.okWide Tryd.prog W .any base t v := hval0
  have hW' := hW
  obtain ⟨p, q, hA0, hV, rfl, hfz, hnd⟩ := hW
  have hA : DataW.TrodAll enc Tryd.prog W 0 (fun _ => true) true Tryd.f3.params.toList args.toList ds p := hA0
  rw [Tryd.params3] at hA hval
  obtain ⟨v0, vs0, d0, ds0, p0, q0, hargs, rfl, rfl, h0, r0⟩ := trodAll_cons hA
  obtain ⟨v1, vs1, d1, ds1, p1, q1, rfl, rfl, rfl, h1, r1⟩ := trodAll_cons r0
  obtain ⟨v2, vs2, d2, ds2, p2, q2, rfl, rfl, rfl, h2, r2⟩ := trodAll_cons r1
  obtain ⟨v3, vs3, d3, ds3, p3, q3, rfl, rfl, rfl, h3, r3⟩ := trodAll_cons r2
  obtain ⟨rfl, rfl, rfl⟩ := trodAll_nil r3
  obtain rfl : args = #[v0, v1, v2, v3] := by cases args; simp_all
  obtain ⟨rfl, rfl⟩ := trodVars_none hV
  obtain ⟨a0, rfl, rfl, rfl, w0⟩ := open_int Tryd.underlying22 (hval 0 22 v0 rfl rfl) h0
  obtain ⟨a1, len1, cap1, rfl⟩ := okWide_slice Tryd.underlying23 (hval 1 23 v1 rfl rfl)
  have k1 := h1
  have lt1 : ∀ x ∈ p1, x.block < W.heap.size := by obtain ⟨m, hm⟩ := k1; exact DataW.trod_lt m _ _ _ hm
  have w1 : IsTab [.i .i64, .i .i64, .i .u64] W a1 len1 cap1 := by
    obtain ⟨fuel, hf⟩ := h1
    exact open_tab _ Tryd.underlying23 Tryd.underlying33 (by kernel_rfl) (by kernel_rfl) hf
  obtain ⟨a2, rfl, rfl, rfl, w2⟩ := open_int Tryd.underlying3 (hval 2 3 v2 rfl rfl) h2
  obtain ⟨a3, rfl, rfl, rfl, w3⟩ := open_int Tryd.underlying3 (hval 3 3 v3 rfl rfl) h3
  clear hA0 hval0
  refine (WheelActs_walk a0 a1 len1 cap1 a2 a3 w0 w2 w3 W w1 TB).mono fun e W' ⟨he, bel⟩ => ?_
  subst he
  exact ⟨_, rfl, _, _, _, [], _, [], hW', trodAll_mk1 (shut_bool Tryd.underlying4 _), (trodAll_cons_mk (shut_int Tryd.underlying22 w0) (trodAll_cons_mk (Below.trod WheelActs_laidOut (by kernel_rfl) (of_decide_eq_true (by kernel_rfl)) k1 bel lt1) (trodAll_cons_mk (shut_int Tryd.underlying3 w2) (trodAll_cons_mk (shut_int Tryd.underlying3 w3) trodAll_mk0)))), rfl, bel.frame _, fun h => by cases h⟩

theorem wheelActs_holds : Rows.WheelActsSaid :=
  OpenClaim.holds_of_wide 3 Tryd.f3 rfl rfl rfl rfl rfl rfl rfl ⟨rfl, rfl, rfl, rfl, rfl⟩ rfl rfl rfl rfl rfl (by kernel_rfl) Tryd.func3 (by kernel_rfl)
    (of_decide_eq_true (by kernel_rfl)) (by unfold Func.isWrapper; rw [if_neg (of_decide_eq_false (by kernel_rfl))]; exact ⟨rfl, rfl⟩)
    (fun os started H enc _ => WheelActs_lifted os started H enc)

theorem wheelActs_card_holds : Rows.WheelActsCardSaid :=
  Claim7.holds_tied_plain_at .later [] [.data] true (true, "404c26de2f29f2bf658e18594235e70c821aec3c24cfa791180a0cdb02a4ad7c") false
    wheelActs_holds (fun _ h => by cases h) (by kernel_rfl) (fun _ h => by cases h) wheelActs_row_tie rfl ⟨rfl, rfl⟩ (by kernel_rfl) rfl
    (fun f fn hf hfn => by
      obtain rfl : f = 3 := Option.some.inj ((show Tryd.prog.funcNamed Rows.wheelActsRow.func = some 3 by kernel_rfl).symm.trans hf) |>.symm
      obtain rfl : fn = Tryd.f3 := (Option.some.inj (Tryd.func3.symm.trans hfn)).symm
      exact ⟨by kernel_rfl, fun j t ht => by
        rw [Tryd.params3] at ht
        have hm : t ∈ [22, 23, 3] := by have := Array.mem_of_getElem? ht; simp at this; simp [this]
        have hall : ([22, 23, 3].all fun u => !Tryd.prog.wantsStandIn u) = true := by kernel_rfl
        exact (show Tryd.prog.wantsStandIn t = false by simpa using List.all_eq_true.1 hall t hm)⟩)
    (by kernel_rfl)
end Go.Proofs.YtkfknafgknppdaaDoor
