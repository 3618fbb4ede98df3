import Derived.Test.YtldnmpiaofppgaaDoorK15
import Derived.Test.YtldnmpiaofppgaaDoorCTaskArg
import Derived.Test.YtldnmpiaofppgaaDoorK02
import Derived.Test.YtldnmpiaofppgaaDoorTie
import Derived.Test.YtldnmpiaofppgaaDoorCards
import Derived.SevenTiedAt
import Derived.ChangeOld
import Derived.Below
/-
  ShardNone: for every task the statement 'no shard has nothing' returns true, and its argument reads as before. (The table of math/bits reads as the program's text lays it: tied by the card.)
-/
namespace Go.Proofs.YtldnmpiaofppgaaDoor
open Go.ChangeShapes Go.WideShapes Go.ChangeAt Go.RowKit Verge Go.Proofs.YtldnmpiaofppgaaDoor.LT
set_option linter.unusedVariables false
set_option linter.unusedSimpArgs false
attribute [local go_sem] Oper.semAt_some

set_option maxHeartbeats 4000000 in
set_option maxRecDepth 100000 in
theorem ShardNone_go (u : Tk) (w : World) :
    Calls Tryd.prog 6 #[.agg #[.int .u64 (u.i : Nat), .int .i64 u.s, .int .u64 (u.g : Nat), .int .u64 (u.d : Nat), .int .u64 (u.p : Nat)]] w fun e w' => e = .returned (.bool true) ∧ Ch Nil w w' := by
  have cA : Ch Nil w (w.alloc (Obj.cells #[.int .u64 (u.i : Nat), .int .i64 u.s, .int .u64 (u.g : Nat), .int .u64 (u.d : Nat), .int .u64 (u.p : Nat)] 37)) := (Ch.refl _ _).alloc _
  have BX := IsTk.new w 37 u
  have CA := Lib.hid cA
  clear cA
  go_enter Tryd.func6, Tryd.ntmps6
  go_upto_region 1 with (fail)
  generalize w.alloc (Obj.cells #[.int .u64 (u.i : Nat), .int .i64 u.s, .int .u64 (u.g : Nat), .int .u64 (u.d : Nat), .int .u64 (u.p : Nat)] 37) = wa at BX CA ⊢
  generalize w.heap.size = B at BX ⊢
  have BX0 := Lib.hid BX
  clear BX
  go_wp2_with fail
  refine (alive_any _).mono ?_
  rintro e w1 ⟨rfl, c1⟩
  have B1 := Lib.hid (BX0.out.kept c1 (fun e => e))
  have C1 := Lib.hid (CA.out.trans c1)
  clear c1 BX0 CA
  go_wp2_with fail
  refine (sPop_nil _).mono ?_
  unfold tkA tk0
  rintro e w2 ⟨rfl, c2⟩
  have B2 := Lib.hid (B1.out.kept c2 (fun e => e))
  have C2 := Lib.hid (C1.out.trans c2)
  clear c2 B1 C1
  obtain ⟨x0, x1, x2, x3, x4⟩ := B2.out.cells0
  go_upto_region 5 with (fail)
  clear x0 x1 x2 x3 x4
  have cX : Ch Nil w2 (w2.alloc (Obj.cells #[.int .u64 ((0 : Nat) : Int), .int .i64 0, .int .u64 ((0 : Nat) : Int), .int .u64 ((0 : Nat) : Int), .int .u64 ((0 : Nat) : Int)] 37)) := (Ch.refl _ _).alloc _
  have X2 : IsTk (w2.alloc (Obj.cells #[.int .u64 ((0 : Nat) : Int), .int .i64 0, .int .u64 ((0 : Nat) : Int), .int .u64 ((0 : Nat) : Int), .int .u64 ((0 : Nat) : Int)] 37)) w2.heap.size 0 tk0 := IsTk.new w2 37 tk0
  have B3 := Lib.hid (B2.out.kept cX (fun e => e))
  have C3 := Lib.hid (C2.out.trans cX)
  clear B2 C2 cX
  generalize w2.alloc (Obj.cells #[.int .u64 ((0 : Nat) : Int), .int .i64 0, .int .u64 ((0 : Nat) : Int), .int .u64 ((0 : Nat) : Int), .int .u64 ((0 : Nat) : Int)] 37) = w3 at X2 B3 C3 ⊢
  generalize w2.heap.size = BX2 at X2 ⊢
  have X3 := Lib.hid X2
  clear X2
  obtain ⟨x0, x1, x2, x3, x4⟩ := B3.out.cells0
  go_wp2_with fail
  clear x0 x1 x2 x3 x4
  refine (sArm_nil u _).mono ?_
  rintro e w4 ⟨rfl, c4⟩
  have X4 := Lib.hid (X3.out.kept c4 (fun e => e))
  have C4 := Lib.hid (C3.out.trans c4)
  clear c4 X3 C3 B3
  go_wp2_with fail
  refine (sTurn_nil _).mono ?_
  rintro e w5 ⟨a, cap, rfl, c5⟩
  have X5 := Lib.hid (X4.out.kept c5 (fun e => e))
  have C5 := Lib.hid (C4.out.trans c5)
  clear c5 X4 C4
  go_wp2_with fail
  refine (sNext_nil _).mono ?_
  rintro e w6 ⟨rfl, c6⟩
  have X6 := Lib.hid (X5.out.kept c6 (fun e => e))
  have C6 := Lib.hid (C5.out.trans c6)
  clear c6 X5 C5
  go_wp2_with fail
  refine (sLock_nil _).mono ?_
  rintro e w7 ⟨rfl, c7⟩
  have X7 := Lib.hid (X6.out.kept c7 (fun e => e))
  have C7 := Lib.hid (C6.out.trans c7)
  clear c7 X6 C6
  go_wp2_with fail
  refine (sBegin_nil _).mono ?_
  rintro e w8 ⟨rfl, c8⟩
  have X8 := Lib.hid (X7.out.kept c8 (fun e => e))
  have C8 := Lib.hid (C7.out.trans c8)
  clear c8 X7 C7
  go_wp2_with fail
  refine (sWaiting_nil _).mono ?_
  rintro e w9 ⟨rfl, c9⟩
  have X9 := Lib.hid (X8.out.kept c9 (fun e => e))
  have C9 := Lib.hid (C8.out.trans c9)
  clear c9 X8 C8
  go_wp2_with fail
  refine (sArmed_nil _).mono ?_
  rintro e w10 ⟨rfl, c10⟩
  have X10 := Lib.hid (X9.out.kept c10 (fun e => e))
  have C10 := Lib.hid (C9.out.trans c10)
  clear c10 X9 C9
  go_wp2_with fail
  refine (sReady_nil _).mono ?_
  rintro e w11 ⟨rfl, c11⟩
  have C11 := Lib.hid (C10.out.trans c11)
  obtain ⟨x0, x1, x2, x3, x4⟩ := (X10.out.kept c11 (fun e => e)).cells0
  have heq : ∀ w, (Op.equalIn 10000 37 (.agg #[.int .u64 0, .int .i64 0, .int .u64 0, .int .u64 0, .int .u64 0]) (.agg #[.int .u64 0, .int .i64 0, .int .u64 0, .int .u64 0, .int .u64 0])).run Tryd.prog w = .ok true w := fun w => (eqT tk0 tk0 w).trans (by rw [decide_eq_true rfl])
  simp only [tk0, Int.natCast_zero, Int.cast_ofNat_Int] at x0 x1 x2 x3 x4
  clear c11 X10 C10
  go_wp2_with fail
  refine (sNow_nil _).mono ?_
  rintro e w12 ⟨rfl, c12⟩
  have C12 := Lib.hid (C11.out.trans c12)
  clear c12 C11 x0 x1 x2 x3 x4
  go_wp2
  go_ret
  exact ⟨rfl, C12.out⟩

theorem ShardNone_walk (a0 a1 a2 a3 a4 : Int) (w0 : (Lit.int .u64 a0).wf = true) (w1 : (Lit.int .i64 a1).wf = true) (w2 : (Lit.int .u64 a2).wf = true) (w3 : (Lit.int .u64 a3).wf = true) (w4 : (Lit.int .u64 a4).wf = true) (w : World) (T : Tab w) :
    Calls Tryd.prog 6 #[.agg #[.int .u64 a0, .int .i64 a1, .int .u64 a2, .int .u64 a3, .int .u64 a4]] w fun e w' => e = .returned (.bool true) ∧ Below w.heap.size w w' := by
  obtain ⟨h0, -⟩ := bounds_u64 w0
  obtain ⟨h2, -⟩ := bounds_u64 w2
  obtain ⟨h3, -⟩ := bounds_u64 w3
  obtain ⟨h4, -⟩ := bounds_u64 w4
  obtain ⟨b0, rfl⟩ := Int.eq_ofNat_of_zero_le h0
  obtain ⟨b2, rfl⟩ := Int.eq_ofNat_of_zero_le h2
  obtain ⟨b3, rfl⟩ := Int.eq_ofNat_of_zero_le h3
  obtain ⟨b4, rfl⟩ := Int.eq_ofNat_of_zero_le h4
  exact (ShardNone_go ⟨b0, a1, b2, b3, b4⟩ w).mono fun e w' ⟨he, c⟩ => ⟨he, c.below (Nat.le_refl _) (fun _ _ e => e.elim)⟩

theorem ShardNone_own : ownKnob Tryd.prog.godebug = none := by kernel_rfl

set_option maxRecDepth 100000 in
theorem ShardNone_lifted (os : Os) (started : os.Started) (H : Type) (enc : TypeId × Value → H) :
    ReturnsInHanded {} Tryd.checked os 6 .any (fun w args => (Rows.shardNoneSpec.pre enc Tryd.prog Tryd.f6 [] false w args ∧ laidMetH Tryd.prog laidTab w) ∧ sizedMet enc Tryd.prog Tryd.f6 (OpenSpec.ofChange Rows.shardNoneSpec) false w args) (Rows.shardNoneSpec.post enc Tryd.prog Tryd.f6 false true false false) := by
  refine returnsInHanded_of_change_and (C := Tryd.checked) (X := fun w _ => laidMetH Tryd.prog laidTab w) (fun _ _ _ hh h => h.of_heap hh) ShardNone_own started (by kernel_rfl) Tryd.func6
    (ChangeSpec.witness_shaped (enc := enc) (C := Tryd.checked) (os := os) (X := fun w _ => laidMetH Tryd.prog laidTab w) false (World.doorLaid Tryd.prog doorSteps os) #[.agg #[.int .u64 0, .int .i64 0, .int .u64 0, .int .u64 0, .int .u64 0]] 8 rfl (World.shaped_of_RefB (by kernel_rfl) (by kernel_rfl)) (by kernel_rfl) (by kernel_rfl) (by kernel_rfl) (door_met os _)) ?_
  intro W base args ds gs before hval0 hW _ _ hL _
  have TB := tab_of_laid hL
  have hval : ∀ (j : Nat) t v, Tryd.f6.params[j]? = some t → args[j]? = some v → Value.okWide Tryd.prog W .any base t v := hval0
  have hW' := hW
  obtain ⟨p, q, hA0, hV, rfl, hfz, hnd⟩ := hW
  have hA : DataW.TrodAll enc Tryd.prog W 0 (fun _ => true) true Tryd.f6.params.toList args.toList ds p := hA0
  rw [Tryd.params6] at hA hval
  obtain ⟨v0, vs0, d0, ds0, p0, q0, hargs, rfl, rfl, h0, r0⟩ := trodAll_cons hA
  obtain ⟨rfl, rfl, rfl⟩ := trodAll_nil r0
  obtain rfl : args = #[v0] := by cases args; simp_all
  obtain ⟨rfl, rfl⟩ := trodVars_none hV
  obtain ⟨a00, a01, a02, a03, a04, rfl, rfl, rfl, w00, w01, w02, w03, w04⟩ := open_five task_five (hval 0 37 v0 rfl rfl) h0
  clear hA0 hval0
  simp only [List.nil_append, List.append_nil] at hW'
  refine (ShardNone_walk a00 a01 a02 a03 a04 w00 w01 w02 w03 w04 W TB).mono fun e W' ⟨he, bel⟩ => ?_
  subst he
  exact ⟨_, rfl, _, _, _, [], _, [], hW', trodAll_mk1 (shut_bool Tryd.underlying4 _), (trodAll_cons_mk (shut_five task_five w00 w01 w02 w03 w04) trodAll_mk0), rfl, bel.frame _, fun h => by cases h⟩

theorem shardNone_holds : Rows.ShardNoneSaid :=
  OpenClaim.holds_of_wide 6 Tryd.f6 rfl rfl rfl rfl rfl rfl rfl ⟨rfl, rfl, rfl, rfl, rfl⟩ rfl rfl rfl rfl rfl (by kernel_rfl) Tryd.func6 (by kernel_rfl)
    (of_decide_eq_true (by kernel_rfl)) (by unfold Func.isWrapper; rw [if_neg (of_decide_eq_false (by kernel_rfl))]; exact ⟨rfl, rfl⟩)
    (fun os started H enc _ => ShardNone_lifted os started H enc)

theorem shardNone_card_holds : Rows.ShardNoneCardSaid :=
  Claim7.holds_tied_plain_at .later [] [.data] true (true, "9500c4eaca1413c0429e1361efcb95e9e0e1828844ee51861c2cff77d4b9e238") false
    shardNone_holds (fun _ h => by cases h) (by kernel_rfl) (fun _ h => by cases h) shardNone_row_tie rfl ⟨rfl, rfl⟩ (by kernel_rfl) rfl
    (fun f fn hf hfn => by
      obtain rfl : f = 6 := Option.some.inj ((show Tryd.prog.funcNamed Rows.shardNoneRow.func = some 6 by kernel_rfl).symm.trans hf) |>.symm
      obtain rfl : fn = Tryd.f6 := (Option.some.inj (Tryd.func6.symm.trans hfn)).symm
      exact ⟨by kernel_rfl, fun j t ht => by
        rw [Tryd.params6] at ht
        have hm : t ∈ [37] := by have := Array.mem_of_getElem? ht; simp at this; simp [this]
        have hall : ([37].all fun u => !Tryd.prog.wantsStandIn u) = true := by kernel_rfl
        exact (show Tryd.prog.wantsStandIn t = false by simpa using List.all_eq_true.1 hall t hm)⟩)
    (by kernel_rfl)
end Go.Proofs.YtldnmpiaofppgaaDoor
