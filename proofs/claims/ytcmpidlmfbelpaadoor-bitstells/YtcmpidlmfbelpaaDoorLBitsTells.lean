/-
  BitsTells: for every map and every number the statement 'whether a map has a slot, all its slots, and how many, are the document's' returns true, and its arguments read as before. (The table of math/bits reads as the program's text lays it: tied by the card.)
-/
import Derived.Test.YtcmpidlmfbelpaaDoorBitsRef
import Derived.Test.YtcmpidlmfbelpaaDoorTie
import Derived.Test.YtcmpidlmfbelpaaDoorCards
import Derived.SevenTiedAt
import Derived.ChangeOld
import Derived.Below
namespace Go.Proofs.YtcmpidlmfbelpaaDoor
open Go.ChangeShapes Go.WideShapes Go.ChangeAt Go.RowKit Verge
set_option linter.unusedVariables false

set_option maxHeartbeats 2000000 in
set_option maxRecDepth 1000000 in
theorem BitsTells_walk (m slot : Int) (wm : (Lit.int .u64 m).wf = true) (ws : (Lit.int .i64 slot).wf = true) (w : World) (T : Tab w) :
    Calls Tryd.prog 3 #[.int .u64 m, .int .i64 slot] w fun e w' => e = .returned (.bool true) ∧ Below w.heap.size w w' := by
  obtain ⟨hm0, hm1⟩ := bounds_u64 wm
  obtain ⟨x, rfl⟩ := Int.eq_ofNat_of_zero_le hm0
  have hx : x < 18446744073709551616 := by omega
  clear wm ws hm0 hm1
  have hl := slots_le x
  go_enter Tryd.func3, Tryd.ntmps3
  go_wp2_with fail
  refine (alive_any _ T).mono ?_
  rintro e w1 ⟨rfl, hc⟩
  have C1 := Lib.hid hc
  have T1 := Lib.hid (T.keeps hc (fun e => e))
  clear hc T
  go_wp2_with fail
  refine (refAll_any x hx _).mono ?_
  rintro e w2 ⟨a, cap, rfl, row, hg, hc⟩
  have C2 := Lib.hid hc
  have T2 := Lib.hid (T1.out.keeps hc (fun e => e))
  have R2 := Lib.hid row
  clear hc row hg
  go_wp2_with fail
  refine (has_any x slot hx _).mono ?_
  rintro e w3 ⟨rfl, rfl⟩
  go_wp2_with fail
  refine (refHas_any x slot hx _).mono ?_
  rintro e w3 ⟨rfl, rfl⟩
  generalize hasN x slot = b at *
  go_wp2_with fail
  refine (all_any x hx _ T2.out).mono ?_
  rintro e w3 ⟨a', cap', rfl, row, hg, hc⟩
  have C3 := Lib.hid hc
  have R3 := Lib.hid row
  have R2' := Lib.hid (R2.out.kept hc (fun _ _ e => e))
  clear hc row hg
  go_wp2_with fail
  refine (ints_same (F := fun i => (slotAt x i : Nat)) R3.out R2'.out (by omega)).mono ?_
  rintro e w4 ⟨rfl, hc⟩
  have C4 := Lib.hid hc
  clear hc
  go_wp2_with fail
  refine (len_any x hx _).mono ?_
  rintro e w5 ⟨rfl, rfl⟩
  generalize (slots x).length = n at *
  go_wp2
  go_ret
  exact ⟨rfl, (((C1.out.trans C2.out).trans C3.out).trans C4.out).below (Nat.le_refl _) (fun _ _ e => e.elim)⟩

theorem BitsTells_own : ownKnob Tryd.prog.godebug = none := by kernel_rfl

set_option maxRecDepth 100000 in
theorem BitsTells_lifted (os : Os) (started : os.Started) (H : Type) (enc : TypeId × Value → H) :
    ReturnsInHanded {} Tryd.checked os 3 .any (fun w args => (Rows.bitsTellsSpec.pre enc Tryd.prog Tryd.f3 [] false w args ∧ laidMetH Tryd.prog laidTab w) ∧ sizedMet enc Tryd.prog Tryd.f3 (OpenSpec.ofChange Rows.bitsTellsSpec) false w args) (Rows.bitsTellsSpec.post enc Tryd.prog Tryd.f3 false true false false) := by
  refine returnsInHanded_of_change_and (C := Tryd.checked) (X := fun w _ => laidMetH Tryd.prog laidTab w) (fun _ _ _ hh h => h.of_heap hh) BitsTells_own started (by kernel_rfl) Tryd.func3
    (ChangeSpec.witness_shaped (enc := enc) (C := Tryd.checked) (os := os) (X := fun w _ => laidMetH Tryd.prog laidTab w) false (World.doorLaid Tryd.prog doorSteps os) #[.int .u64 0, .int .i64 0] 8 rfl (World.shaped_of_RefB (by kernel_rfl) (by kernel_rfl)) (by kernel_rfl) (by kernel_rfl) (by kernel_rfl) (door_met os _)) ?_
  intro W base args ds gs before hval0 hW _ _ hL _
  have TB := tab_of_laid hL
  have hval : ∀ (j : Nat) t v, Tryd.f3.params[j]? = some t → args[j]? = some v → Value.okWide Tryd.prog W .any base t v := hval0
  have hW' := hW
  obtain ⟨p, q, hA0, hV, rfl, hfz, hnd⟩ := hW
  have hA : DataW.TrodAll enc Tryd.prog W 0 (fun _ => true) true Tryd.f3.params.toList args.toList ds p := hA0
  rw [Tryd.params3] at hA hval
  obtain ⟨v0, vs0, d0, ds0, p0, q0, hargs, rfl, rfl, h0, r0⟩ := trodAll_cons hA
  obtain ⟨v1, vs1, d1, ds1, p1, q1, rfl, rfl, rfl, h1, r1⟩ := trodAll_cons r0
  obtain ⟨rfl, rfl, rfl⟩ := trodAll_nil r1
  obtain rfl : args = #[v0, v1] := by cases args; simp_all
  obtain ⟨rfl, rfl⟩ := trodVars_none hV
  obtain ⟨a0, rfl, rfl, rfl, w0⟩ := open_int Tryd.underlying22 (hval 0 22 v0 rfl rfl) h0
  obtain ⟨a1, rfl, rfl, rfl, w1⟩ := open_int Tryd.underlying3 (hval 1 3 v1 rfl rfl) h1
  clear hA0 hval0
  simp only [List.append_nil] at hW'
  refine (BitsTells_walk a0 a1 w0 w1 W TB).mono fun e W' ⟨he, bel⟩ => ?_
  subst he
  exact ⟨_, rfl, _, _, _, [], _, [], hW', trodAll_mk1 (shut_bool Tryd.underlying4 _), (trodAll_cons_mk (shut_int Tryd.underlying22 w0) (trodAll_cons_mk (shut_int Tryd.underlying3 w1) trodAll_mk0)), rfl, bel.frame _, fun h => by cases h⟩

theorem bitsTells_holds : Rows.BitsTellsSaid :=
  OpenClaim.holds_of_wide 3 Tryd.f3 rfl rfl rfl rfl rfl rfl rfl ⟨rfl, rfl, rfl, rfl, rfl⟩ rfl rfl rfl rfl rfl (by kernel_rfl) Tryd.func3 (by kernel_rfl)
    (of_decide_eq_true (by kernel_rfl)) (by unfold Func.isWrapper; rw [if_neg (of_decide_eq_false (by kernel_rfl))]; exact ⟨rfl, rfl⟩)
    (fun os started H enc _ => BitsTells_lifted os started H enc)

theorem bitsTells_card_holds : Rows.BitsTellsCardSaid :=
  Claim7.holds_tied_plain_at .later [] [.data] true (true, "8b9362e19d0a6f861012771419a9cf678e1bc17006d07ff604b0e7574640ef7a") false
    bitsTells_holds (fun _ h => by cases h) (by kernel_rfl) (fun _ h => by cases h) bitsTells_row_tie rfl ⟨rfl, rfl⟩ (by kernel_rfl) rfl
    (fun f fn hf hfn => by
      obtain rfl : f = 3 := Option.some.inj ((show Tryd.prog.funcNamed Rows.bitsTellsRow.func = some 3 by kernel_rfl).symm.trans hf) |>.symm
      obtain rfl : fn = Tryd.f3 := (Option.some.inj (Tryd.func3.symm.trans hfn)).symm
      exact ⟨by kernel_rfl, fun j t ht => by
        rw [Tryd.params3] at ht
        have hm : t ∈ [22, 3] := by have := Array.mem_of_getElem? ht; simp at this; simp [this]
        have hall : ([22, 3].all fun u => !Tryd.prog.wantsStandIn u) = true := by kernel_rfl
        exact (show Tryd.prog.wantsStandIn t = false by simpa using List.all_eq_true.1 hall t hm)⟩)
    (by kernel_rfl)
end Go.Proofs.YtcmpidlmfbelpaaDoor
