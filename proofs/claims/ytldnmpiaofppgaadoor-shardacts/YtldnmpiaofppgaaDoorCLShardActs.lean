import Derived.Test.YtldnmpiaofppgaaDoorCSyA
import Derived.Test.YtldnmpiaofppgaaDoorK02
import Derived.Test.YtldnmpiaofppgaaDoorTie
import Derived.Test.YtldnmpiaofppgaaDoorCards
import Derived.SevenTiedAt
import Derived.ChangeOld
import Derived.Below
/-
  ShardActs: for every room and row of acts the statement 'whatever is armed, and however the wheel turns, each deadline, or the error, and what is due, in order, are the document's all along' returns true, and its arguments read as before. (The table of math/bits reads as the program's text lays it: tied by the card.)
-/
namespace Go.Proofs.YtldnmpiaofppgaaDoor
open Go.ChangeShapes Go.WideShapes Go.ChangeAt Go.RowKit Verge Go.Proofs.YtldnmpiaofppgaaDoor.LT
set_option linter.unusedVariables false
attribute [local go_sem] Oper.semAt_some

/-- the document's shard, new -/
theorem R13.new (W : World) (t : TypeId) : R13 (W.alloc (.cells #[.int .u64 0, .slice none 0 0, .slice none 0 0] t)) W.heap.size 0 [] [] none 0 none 0 :=
  ⟨⟨by rw [cell_fresh]; rfl, by rw [cell_fresh]; rfl, Blk.new _ _ _, Row.nil _ _ _ _, fun e => (by cases e), by rw [cell_fresh]; rfl⟩, Row.nil _ _ _ _, fun e => (by cases e), fun k hk => (by cases hk)⟩
theorem RS13.new {rb k : Nat} (h : RS13 rb none none k) : k = rb := by
  rcases h with (h | h) | h
  · exact h
  · cases h
  · cases h

set_option maxHeartbeats 4000000 in
set_option maxRecDepth 100000 in
theorem ShardActs_walk (n : Int) (ad : Option Addr) (len cap : Nat) (wn : (Lit.int .i64 n).wf = true) (w : World) (hv : IsActs w ad len cap) (T : Tab w) :
    Calls Tryd.prog 3 #[.int .i64 n, .slice ad len cap] w fun e w' => e = .returned (.bool true) ∧ Below w.heap.size w w' := by
  obtain ⟨A, hA, hs, ok, hc⟩ := hv
  have HS := Lib.hid hs
  have OK := Lib.hid ok
  have TB := Lib.hid T
  have hcl : (len : Int) ≤ 9223372036854775807 := by have := hc.1; have := hc.2; simp only [maxLen] at this; omega
  clear hs ok T wn
  go_enter Tryd.func3, Tryd.ntmps3
  go_wp2_with fail
  refine (alive_any _).mono ?_
  rintro e w1 ⟨rfl, c1⟩
  have C1 := Lib.hid c1
  clear c1
  by_cases h60 : 60 < len
  · have hz : (60 : Int) < (len : Int) := by omega
    go_wp2
    go_ret
    exact ⟨rfl, C1.out.below (Nat.le_refl _) (fun _ _ e => e.elim)⟩
  · have hz : (len : Int) ≤ 60 := by omega
    by_cases hr1 : n < 1
    · have NR := Lib.hid (sNew_out n w1 (Lib.hid (.inl hr1)))
      go_wp2_with fail
      refine NR.out.mono ?_
      rintro e w2 ⟨rfl, rfl⟩
      clear NR
      go_wp2
      go_ret
      exact ⟨rfl, C1.out.below (Nat.le_refl _) (fun _ _ e => e.elim)⟩
    · by_cases hr2 : 64 < n
      · have NR := Lib.hid (sNew_out n w1 (Lib.hid (.inr hr2)))
        go_wp2_with fail
        refine NR.out.mono ?_
        rintro e w2 ⟨rfl, rfl⟩
        clear NR
        go_wp2
        go_ret
        exact ⟨rfl, C1.out.below (Nat.le_refl _) (fun _ _ e => e.elim)⟩
      · obtain ⟨n, rfl⟩ := Int.eq_ofNat_of_zero_le (show 0 ≤ n by omega)
        have b1 : 1 ≤ n := by omega
        have b2 : n ≤ 64 := by omega
        have NW := Lib.hid (Sh.new (w0 := w) n (by omega) b2 C1.out)
        go_wp2_with fail
        refine NW.out.mono ?_
        rintro e w2 ⟨s, g, rfl, d2, -, -, -⟩
        have cA : Ch Nil w2 (w2.alloc (.cells #[.int .u64 0, .slice none 0 0, .slice none 0 0] 35)) := (Ch.refl _ _).alloc _
        have ST : Hid (AcS w (w2.alloc (.cells #[.int .u64 0, .slice none 0 0, .slice none 0 0] 35)) s g 0 [] [] w2.heap.size [] [] none 0 none 0) := Lib.hid ⟨d2.quiet cA, R13.new w2 _, RQ.nil _ _, fun x hx => (by cases hx), fun k hk => by
          have e := RS13.new hk
          subst e
          exact ⟨d2.d.c.size, fun e => by have := d2.lt e; omega⟩, Nat.le_refl _⟩
        clear d2 C1 cA NW
        go_wp2
        refine wp_mono (syA_loop w s g w2.heap.size ad len cap A HS.out hA OK.out (by omega) hc TB.out _ _ (by omega) ?hI) ?_
        case hI => exact ⟨0, [], [], [], [], none, 0, none, 0, rfl, rfl, rfl, rfl, rfl, rfl, ⟨ST.out, Nat.zero_le _, Nat.zero_le _⟩⟩
        rename_i K hK
        intro e a' w' hp
        obtain ⟨rfl, H⟩ := Qx_inv hp
        exact hK _ _ (sy_end w s g w2.heap.size ad len cap A HS.out hA OK.out (by omega) hc TB.out a' w' H)

theorem ShardActs_own : ownKnob Tryd.prog.godebug = none := by kernel_rfl
theorem ShardActs_laidOut : laidOutB Tryd.prog = true := by kernel_rfl

set_option maxRecDepth 100000 in
theorem ShardActs_lifted (os : Os) (started : os.Started) (H : Type) (enc : TypeId × Value → H) :
    ReturnsInHanded {} Tryd.checked os 3 .any (fun w args => (Rows.shardActsSpec.pre enc Tryd.prog Tryd.f3 [] false w args ∧ laidMetH Tryd.prog laidTab w) ∧ sizedMet enc Tryd.prog Tryd.f3 (OpenSpec.ofChange Rows.shardActsSpec) false w args) (Rows.shardActsSpec.post enc Tryd.prog Tryd.f3 false true false false) := by
  refine returnsInHanded_of_change_and (C := Tryd.checked) (X := fun w _ => laidMetH Tryd.prog laidTab w) (fun _ _ _ hh h => h.of_heap hh) ShardActs_own started (by kernel_rfl) Tryd.func3
    (ChangeSpec.witness_shaped (enc := enc) (C := Tryd.checked) (os := os) (X := fun w _ => laidMetH Tryd.prog laidTab w) false (World.doorLaid Tryd.prog doorSteps os) #[.int .i64 0, .slice none 0 0] 8 rfl (World.shaped_of_RefB (by kernel_rfl) (by kernel_rfl)) (by kernel_rfl) (by kernel_rfl) (by kernel_rfl) (door_met os _)) ?_
  intro W base args ds gs before hval0 hW _ _ hL _
  have TB := tab_of_laid hL
  have hval : ∀ (j : Nat) t v, Tryd.f3.params[j]? = some t → args[j]? = some v → Value.okWide Tryd.prog W .any base t v := hval0
  have hW' := hW
  obtain ⟨p, q, hA0, hV, rfl, hfz, hnd⟩ := hW
  have hA : DataW.TrodAll enc Tryd.prog W 0 (fun _ => true) true Tryd.f3.params.toList args.toList ds p := hA0
  rw [Tryd.params3] at hA hval
  obtain ⟨v0, vs0, d0, ds0, p0, q0, hargs, rfl, rfl, h0, r0⟩ := trodAll_cons hA
  obtain ⟨v1, vs1, d1, ds1, p1, q1, rfl, rfl, rfl, h1, r1⟩ := trodAll_cons r0
  obtain ⟨rfl, rfl, rfl⟩ := trodAll_nil r1
  obtain rfl : args = #[v0, v1] := by cases args; simp_all
  obtain ⟨rfl, rfl⟩ := trodVars_none hV
  obtain ⟨a0, rfl, rfl, rfl, w0⟩ := open_int Tryd.underlying3 (hval 0 3 v0 rfl rfl) h0
  obtain ⟨a1, len1, cap1, rfl⟩ := okWide_slice Tryd.underlying22 (hval 1 22 v1 rfl rfl)
  have k1 := h1
  have lt1 : ∀ x ∈ p1, x.block < W.heap.size := by obtain ⟨m, hm⟩ := k1; exact DataW.trod_lt m _ _ _ hm
  have w1 : IsActs W a1 len1 cap1 := by
    obtain ⟨fuel, hf⟩ := h1
    exact open_acts Tryd.underlying22 act_fields hf
  clear hA0 hval0
  refine (ShardActs_walk a0 a1 len1 cap1 w0 W w1 TB).mono fun e W' ⟨he, bel⟩ => ?_
  subst he
  exact ⟨_, rfl, _, _, _, [], _, [], hW', trodAll_mk1 (shut_bool Tryd.underlying4 _), (trodAll_cons_mk (shut_int Tryd.underlying3 w0) (trodAll_cons_mk (Below.trod ShardActs_laidOut (by kernel_rfl) (of_decide_eq_true (by kernel_rfl)) k1 bel lt1) trodAll_mk0)), rfl, bel.frame _, fun h => by cases h⟩

theorem shardActs_holds : Rows.ShardActsSaid :=
  OpenClaim.holds_of_wide 3 Tryd.f3 rfl rfl rfl rfl rfl rfl rfl ⟨rfl, rfl, rfl, rfl, rfl⟩ rfl rfl rfl rfl rfl (by kernel_rfl) Tryd.func3 (by kernel_rfl)
    (of_decide_eq_true (by kernel_rfl)) (by unfold Func.isWrapper; rw [if_neg (of_decide_eq_false (by kernel_rfl))]; exact ⟨rfl, rfl⟩)
    (fun os started H enc _ => ShardActs_lifted os started H enc)

theorem shardActs_card_holds : Rows.ShardActsCardSaid :=
  Claim7.holds_tied_plain_at .later [] [.data] true (true, "9500c4eaca1413c0429e1361efcb95e9e0e1828844ee51861c2cff77d4b9e238") false
    shardActs_holds (fun _ h => by cases h) (by kernel_rfl) (fun _ h => by cases h) shardActs_row_tie rfl ⟨rfl, rfl⟩ (by kernel_rfl) rfl
    (fun f fn hf hfn => by
      obtain rfl : f = 3 := Option.some.inj ((show Tryd.prog.funcNamed Rows.shardActsRow.func = some 3 by kernel_rfl).symm.trans hf) |>.symm
      obtain rfl : fn = Tryd.f3 := (Option.some.inj (Tryd.func3.symm.trans hfn)).symm
      exact ⟨by kernel_rfl, fun j t ht => by
        rw [Tryd.params3] at ht
        have hm : t ∈ [3, 22] := by have := Array.mem_of_getElem? ht; simp at this; first | (simp [this]; done) | (rcases this with h | h <;> simp [h])
        have hall : ([3, 22].all fun u => !Tryd.prog.wantsStandIn u) = true := by kernel_rfl
        exact (show Tryd.prog.wantsStandIn t = false by simpa using List.all_eq_true.1 hall t hm)⟩)
    (by kernel_rfl)
end Go.Proofs.YtldnmpiaofppgaaDoor
