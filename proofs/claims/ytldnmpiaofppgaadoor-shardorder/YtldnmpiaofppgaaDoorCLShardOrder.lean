import Derived.Test.YtldnmpiaofppgaaDoorCOoA
import Derived.Test.YtldnmpiaofppgaaDoorK02
import Derived.Test.YtldnmpiaofppgaaDoorTie
import Derived.Test.YtldnmpiaofppgaaDoorCards
import Derived.SevenTiedAt
import Derived.ChangeOld
import Derived.Below
/-
  ShardOrder: for every row of acts the statement 'tasks that are armed, at whatever time, are due just when now is the deadline that was told, each once, in the order of their deadlines' returns true, and its argument reads as before. (The table of math/bits reads as the program's text lays it: tied by the card.)
-/
namespace Go.Proofs.YtldnmpiaofppgaaDoor
open Go.ChangeShapes Go.WideShapes Go.ChangeAt Go.RowKit Verge Go.Proofs.YtldnmpiaofppgaaDoor.LT
set_option linter.unusedVariables false
attribute [local go_sem] Oper.semAt_some

set_option maxHeartbeats 4000000 in
set_option maxRecDepth 100000 in
theorem ShardOrder_walk (ad : Option Addr) (len cap : Nat) (w : World) (hv : IsActs w ad len cap) (T : Tab w) :
    Calls Tryd.prog 4 #[.slice ad len cap] w fun e w' => e = .returned (.bool true) ∧ Below w.heap.size w w' := by
  have hmm : ∀ (t : TypeId) (w : World), (Instr.makeMap t none).run Tryd.prog w = .ok (.map (some w.heap.size)) (w.alloc (.map #[] 0)) := fun _ _ => rfl
  obtain ⟨A, hA, hs, ok, hc⟩ := hv
  have HS := Lib.hid hs
  have OK := Lib.hid ok
  have TB := Lib.hid T
  have hcl : (len : Int) ≤ 9223372036854775807 := by have := hc.1; have := hc.2; simp only [maxLen] at this; omega
  clear hs ok T
  go_enter Tryd.func4, Tryd.ntmps4
  go_wp2_with fail
  refine (alive_any _).mono ?_
  rintro e w1 ⟨rfl, c1⟩
  have C1 := Lib.hid c1
  clear c1
  by_cases h60 : 60 < len
  · have hz : (60 : Int) < (len : Int) := by omega
    go_wp2
    go_ret
    exact ⟨rfl, C1.out.below (Nat.le_refl _) (fun _ _ e => e.elim)⟩
  · have hz : (len : Int) ≤ 60 := by omega
    go_wp2_with fail
    refine (Sh.new (w0 := w) 1 (by omega) (by omega) C1.out).mono ?_
    rintro e w2 ⟨s, g, rfl, d2, -, -, -⟩
    have cA : Ch Nil w2 (w2.alloc (.map #[] 0)) := (Ch.refl _ _).alloc _
    have ST : Hid (OrS w (w2.alloc (.map #[] 0)) s g w2.heap.size 0 [] [] (fun _ => none) 0 0 0) := Lib.hid ⟨d2.quiet cA, MapO.new w2, fun k d => by simp, fun x hx => (by cases hx), fun x y hx => (by cases hx), ⟨d2.d.c.size, fun e => by have := d2.lt e; omega⟩, Nat.le_refl _, Nat.le_refl _, Nat.le_refl _⟩
    clear d2 C1 cA
    go_wp2
    refine wp_mono (ooA_loop w s g w2.heap.size ad len cap A HS.out hA OK.out (by omega) hc TB.out _ _ (by omega) ?hI) ?_
    case hI => exact ⟨0, [], [], _, 0, 0, 0, rfl, rfl, rfl, rfl, rfl, rfl, rfl, rfl, ⟨ST.out, Nat.zero_le _, Nat.le_refl _⟩⟩
    rename_i K hK
    intro e a' w' hp
    obtain ⟨rfl, H⟩ := Qx_inv hp
    exact hK _ _ (oo_end w s g w2.heap.size ad len cap A HS.out hA OK.out (by omega) hc TB.out a' w' H)

theorem ShardOrder_own : ownKnob Tryd.prog.godebug = none := by kernel_rfl
theorem ShardOrder_laidOut : laidOutB Tryd.prog = true := by kernel_rfl

set_option maxRecDepth 100000 in
theorem ShardOrder_lifted (os : Os) (started : os.Started) (H : Type) (enc : TypeId × Value → H) :
    ReturnsInHanded {} Tryd.checked os 4 .any (fun w args => (Rows.shardOrderSpec.pre enc Tryd.prog Tryd.f4 [] false w args ∧ laidMetH Tryd.prog laidTab w) ∧ sizedMet enc Tryd.prog Tryd.f4 (OpenSpec.ofChange Rows.shardOrderSpec) false w args) (Rows.shardOrderSpec.post enc Tryd.prog Tryd.f4 false true false false) := by
  refine returnsInHanded_of_change_and (C := Tryd.checked) (X := fun w _ => laidMetH Tryd.prog laidTab w) (fun _ _ _ hh h => h.of_heap hh) ShardOrder_own started (by kernel_rfl) Tryd.func4
    (ChangeSpec.witness_shaped (enc := enc) (C := Tryd.checked) (os := os) (X := fun w _ => laidMetH Tryd.prog laidTab w) false (World.doorLaid Tryd.prog doorSteps os) #[.slice none 0 0] 8 rfl (World.shaped_of_RefB (by kernel_rfl) (by kernel_rfl)) (by kernel_rfl) (by kernel_rfl) (by kernel_rfl) (door_met os _)) ?_
  intro W base args ds gs before hval0 hW _ _ hL _
  have TB := tab_of_laid hL
  have hval : ∀ (j : Nat) t v, Tryd.f4.params[j]? = some t → args[j]? = some v → Value.okWide Tryd.prog W .any base t v := hval0
  have hW' := hW
  obtain ⟨p, q, hA0, hV, rfl, hfz, hnd⟩ := hW
  have hA : DataW.TrodAll enc Tryd.prog W 0 (fun _ => true) true Tryd.f4.params.toList args.toList ds p := hA0
  rw [Tryd.params4] at hA hval
  obtain ⟨v0, vs0, d0, ds0, p0, q0, hargs, rfl, rfl, h0, r0⟩ := trodAll_cons hA
  obtain ⟨rfl, rfl, rfl⟩ := trodAll_nil r0
  obtain rfl : args = #[v0] := by cases args; simp_all
  obtain ⟨rfl, rfl⟩ := trodVars_none hV
  obtain ⟨a0, len0, cap0, rfl⟩ := okWide_slice Tryd.underlying22 (hval 0 22 v0 rfl rfl)
  have k0 := h0
  have lt0 : ∀ x ∈ p0, x.block < W.heap.size := by obtain ⟨m, hm⟩ := k0; exact DataW.trod_lt m _ _ _ hm
  have w0 : IsActs W a0 len0 cap0 := by
    obtain ⟨fuel, hf⟩ := h0
    exact open_acts Tryd.underlying22 act_fields hf
  clear hA0 hval0
  refine (ShardOrder_walk a0 len0 cap0 W w0 TB).mono fun e W' ⟨he, bel⟩ => ?_
  subst he
  exact ⟨_, rfl, _, _, _, [], _, [], hW', trodAll_mk1 (shut_bool Tryd.underlying4 _), (trodAll_cons_mk (Below.trod ShardOrder_laidOut (by kernel_rfl) (of_decide_eq_true (by kernel_rfl)) k0 bel lt0) trodAll_mk0), rfl, bel.frame _, fun h => by cases h⟩

theorem shardOrder_holds : Rows.ShardOrderSaid :=
  OpenClaim.holds_of_wide 4 Tryd.f4 rfl rfl rfl rfl rfl rfl rfl ⟨rfl, rfl, rfl, rfl, rfl⟩ rfl rfl rfl rfl rfl (by kernel_rfl) Tryd.func4 (by kernel_rfl)
    (of_decide_eq_true (by kernel_rfl)) (by unfold Func.isWrapper; rw [if_neg (of_decide_eq_false (by kernel_rfl))]; exact ⟨rfl, rfl⟩)
    (fun os started H enc _ => ShardOrder_lifted os started H enc)

theorem shardOrder_card_holds : Rows.ShardOrderCardSaid :=
  Claim7.holds_tied_plain_at .later [] [.data] true (true, "9500c4eaca1413c0429e1361efcb95e9e0e1828844ee51861c2cff77d4b9e238") false
    shardOrder_holds (fun _ h => by cases h) (by kernel_rfl) (fun _ h => by cases h) shardOrder_row_tie rfl ⟨rfl, rfl⟩ (by kernel_rfl) rfl
    (fun f fn hf hfn => by
      obtain rfl : f = 4 := Option.some.inj ((show Tryd.prog.funcNamed Rows.shardOrderRow.func = some 4 by kernel_rfl).symm.trans hf) |>.symm
      obtain rfl : fn = Tryd.f4 := (Option.some.inj (Tryd.func4.symm.trans hfn)).symm
      exact ⟨by kernel_rfl, fun j t ht => by
        rw [Tryd.params4] at ht
        have hm : t ∈ [22] := by have := Array.mem_of_getElem? ht; simp at this; first | (simp [this]; done) | (rcases this with h <;> simp [h])
        have hall : ([22].all fun u => !Tryd.prog.wantsStandIn u) = true := by kernel_rfl
        exact (show Tryd.prog.wantsStandIn t = false by simpa using List.all_eq_true.1 hall t hm)⟩)
    (by kernel_rfl)
end Go.Proofs.YtldnmpiaofppgaaDoor
