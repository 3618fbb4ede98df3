/-
  WheelNext: for every input the statement 'nothing is due ahead of the least deadline, and something then, as long as all stay' returns true, and its arguments read as before. (The table of math/bits reads as the program's text lays it: tied by the card.)
-/
import Derived.Test.YtkdkkgbjfabifaaDoorWnTick
import Derived.Test.YtkdkkgbjfabifaaDoorTie
import Derived.Test.YtkdkkgbjfabifaaDoorCards
import Derived.SevenTiedAt
import Derived.ChangeOld
import Derived.Below
namespace Go.Proofs.YtkdkkgbjfabifaaDoor
open Go.ChangeShapes Go.WideShapes Go.ChangeAt Go.RowKit Verge LP
set_option linter.unusedVariables false
attribute [local go_sem] Oper.semAt_some

set_option maxHeartbeats 4000000 in
set_option maxRecDepth 100000 in
theorem WheelNext_walk (n0 : Int) (ad : Option Addr) (len cap : Nat) (zs : List Int) (wn : (Lit.int .u64 n0).wf = true) (w : World) (hv : IsRow .u16 w ad len cap zs) (T : Tab w) :
    Calls Tryd.prog 6 #[.int .u64 n0, .slice ad len cap] w fun e w' => e = .returned (.bool true) ∧ Below w.heap.size w w' := by
  obtain ⟨n1, n2⟩ := bounds_u64 wn
  obtain ⟨n0, rfl⟩ := Int.eq_ofNat_of_zero_le n1
  have HV := Lib.hid hv
  have TB := Lib.hid T
  have hsm := hv.small
  clear wn hv T n1
  go_enter Tryd.func6, Tryd.ntmps6
  go_wp2_with fail
  refine (alive_any _).mono ?_
  rintro e w1 ⟨rfl, c1⟩
  have C1 := Lib.hid c1
  clear c1
  by_cases h60 : 60 < len
  · have hz : (60 : Int) < (len : Int) := by omega
    go_wp2
    go_ret
    exact ⟨rfl, C1.out.below (Nat.le_refl _) (fun _ _ e => e.elim)⟩
  · have hz : (len : Int) ≤ 60 := by omega
    by_cases h0 : len = 0
    · subst h0
      go_wp2
      go_ret
      exact ⟨rfl, C1.out.below (Nat.le_refl _) (fun _ _ e => e.elim)⟩
    · have hnz : ((len : Int) == 0) = false := by rw [beq_eq_false_iff_ne]; omega
      have hnz2 : ¬ (len : Int) = 0 := by omega
      have hpos : (0 : Int) < (len : Int) := by omega
      by_cases hg : 18446744073709351615 < n0
      · have hgz : (18446744073709351615 : Int) < (n0 : Int) := by omega
        go_wp2
        go_ret
        exact ⟨rfl, C1.out.below (Nat.le_refl _) (fun _ _ e => e.elim)⟩
      · have hgz : (n0 : Int) ≤ 18446744073709351615 := by omega
        obtain ⟨x, hx, hc, hwf⟩ := HV.out.item (i := 0) (by omega)
        subst hx
        obtain ⟨z1, z2⟩ := bounds_u16 hwf
        obtain ⟨d0, hd0⟩ := Int.eq_ofNat_of_zero_le z1
        have hdz : d0 = dzN zs 0 := by unfold dzN; rw [hd0]; rfl
        rw [hd0] at hc z2
        have HC := Lib.hid hc
        have DZ := Lib.hid hdz
        clear hc hwf z1 hd0 hdz
        go_wp2_with fail
        refine (Drv.new (w0 := w) n0 (by omega) C1.out).mono ?_
        rintro e w2 ⟨g, rfl, -, d2, -⟩
        have q0 := d2.c.keeps HC.out (fun e => e)
        have hx0 : x.add 0 = x := by obtain ⟨b, o, sp⟩ := x; cases sp <;> simp [Addr.add]
        rw [hx0] at q0
        clear hx0
        have ST : Hid (NxA w g n0 len 0 zs [] [] d0 w2) := Lib.hid ⟨d2, by simp, ⟨0, by omega, DZ.out⟩, fun j hj => by omega, fun j hj => by omega, fun x hx => (by cases hx), by omega⟩
        clear d2
        go_wp2
        refine wp_mono (wnA_loop w g (some x) n0 len cap zs HV.out TB.out (by omega) (by omega) _ _ (by omega) ?hI) ?_
        case hI => exact ⟨[], [], d0, rfl, rfl, rfl, rfl, rfl, rfl, rfl, ST.out⟩
        rename_i K hK
        intro e a' w' hp
        obtain ⟨rfl, H⟩ := Qx_inv hp
        exact hK _ _ (wn_mid w g (some x) n0 len cap zs HV.out TB.out (by omega) (by omega) a' w' H)

theorem WheelNext_own : ownKnob Tryd.prog.godebug = none := by kernel_rfl
theorem WheelNext_laidOut : laidOutB Tryd.prog = true := by kernel_rfl

set_option maxRecDepth 100000 in
theorem WheelNext_lifted (os : Os) (started : os.Started) (H : Type) (enc : TypeId × Value → H) :
    ReturnsInHanded {} Tryd.checked os 6 .any (fun w args => (Rows.wheelNextSpec.pre enc Tryd.prog Tryd.f6 [] false w args ∧ laidMetH Tryd.prog laidTab w) ∧ sizedMet enc Tryd.prog Tryd.f6 (OpenSpec.ofChange Rows.wheelNextSpec) false w args) (Rows.wheelNextSpec.post enc Tryd.prog Tryd.f6 false true false false) := by
  refine returnsInHanded_of_change_and (C := Tryd.checked) (X := fun w _ => laidMetH Tryd.prog laidTab w) (fun _ _ _ hh h => h.of_heap hh) WheelNext_own started (by kernel_rfl) Tryd.func6
    (ChangeSpec.witness_shaped (enc := enc) (C := Tryd.checked) (os := os) (X := fun w _ => laidMetH Tryd.prog laidTab w) false (World.doorLaid Tryd.prog doorSteps os) #[.int .u64 0, .slice none 0 0] 8 rfl (World.shaped_of_RefB (by kernel_rfl) (by kernel_rfl)) (by kernel_rfl) (by kernel_rfl) (by kernel_rfl) (door_met os _)) ?_
  intro W base args ds gs before hval0 hW _ _ hL _
  have TB := tab_of_laid hL
  have hval : ∀ (j : Nat) t v, Tryd.f6.params[j]? = some t → args[j]? = some v → Value.okWide Tryd.prog W .any base t v := hval0
  have hW' := hW
  obtain ⟨p, q, hA0, hV, rfl, hfz, hnd⟩ := hW
  have hA : DataW.TrodAll enc Tryd.prog W 0 (fun _ => true) true Tryd.f6.params.toList args.toList ds p := hA0
  rw [Tryd.params6] at hA hval
  obtain ⟨v0, vs0, d0, ds0, p0, q0, hargs, rfl, rfl, h0, r0⟩ := trodAll_cons hA
  obtain ⟨v1, vs1, d1, ds1, p1, q1, rfl, rfl, rfl, h1, r1⟩ := trodAll_cons r0
  obtain ⟨rfl, rfl, rfl⟩ := trodAll_nil r1
  obtain rfl : args = #[v0, v1] := by cases args; simp_all
  obtain ⟨rfl, rfl⟩ := trodVars_none hV
  obtain ⟨a0, rfl, rfl, rfl, w0⟩ := open_int Tryd.underlying22 (hval 0 22 v0 rfl rfl) h0
  obtain ⟨a1, len1, cap1, rfl⟩ := okWide_slice Tryd.underlying55 (hval 1 55 v1 rfl rfl)
  have k1 := h1
  have lt1 : ∀ x ∈ p1, x.block < W.heap.size := by obtain ⟨m, hm⟩ := k1; exact DataW.trod_lt m _ _ _ hm
  obtain ⟨z1, w1⟩ : ∃ zs, IsRow .u16 W a1 len1 cap1 zs := by
    obtain ⟨fuel, hf⟩ := h1
    rcases open_ints Tryd.underlying55 Tryd.underlying57 (by kernel_rfl) hf with ⟨hcs, _⟩ | ⟨x, l, c, zs, hcs, _, hl, hm, hz, _, hcell, hwz⟩
    · simp [Value.cells] at hcs
      obtain ⟨rfl, rfl, rfl⟩ := hcs
      exact ⟨[], .inl ⟨rfl, rfl, rfl, rfl⟩⟩
    · simp [Value.cells] at hcs
      obtain ⟨rfl, rfl, rfl⟩ := hcs
      exact ⟨zs, .inr ⟨_, rfl, hl, hm, by simpa using hz, hcell, hwz⟩⟩
  clear hA0 hval0
  refine (WheelNext_walk a0 a1 len1 cap1 z1 w0 W w1 TB).mono fun e W' ⟨he, bel⟩ => ?_
  subst he
  exact ⟨_, rfl, _, _, _, [], _, [], hW', trodAll_mk1 (shut_bool Tryd.underlying4 _), (trodAll_cons_mk (shut_int Tryd.underlying22 w0) (trodAll_cons_mk (Below.trod WheelNext_laidOut (by kernel_rfl) (of_decide_eq_true (by kernel_rfl)) k1 bel lt1) trodAll_mk0)), rfl, bel.frame _, fun h => by cases h⟩

theorem wheelNext_holds : Rows.WheelNextSaid :=
  OpenClaim.holds_of_wide 6 Tryd.f6 rfl rfl rfl rfl rfl rfl rfl ⟨rfl, rfl, rfl, rfl, rfl⟩ rfl rfl rfl rfl rfl (by kernel_rfl) Tryd.func6 (by kernel_rfl)
    (of_decide_eq_true (by kernel_rfl)) (by unfold Func.isWrapper; rw [if_neg (of_decide_eq_false (by kernel_rfl))]; exact ⟨rfl, rfl⟩)
    (fun os started H enc _ => WheelNext_lifted os started H enc)

theorem wheelNext_card_holds : Rows.WheelNextCardSaid :=
  Claim7.holds_tied_plain_at .later [] [.data] true (true, "b951392705a90429bab016e206d898cc169665650f4d29c034dd940c73b12514") false
    wheelNext_holds (fun _ h => by cases h) (by kernel_rfl) (fun _ h => by cases h) wheelNext_row_tie rfl ⟨rfl, rfl⟩ (by kernel_rfl) rfl
    (fun f fn hf hfn => by
      obtain rfl : f = 6 := Option.some.inj ((show Tryd.prog.funcNamed Rows.wheelNextRow.func = some 6 by kernel_rfl).symm.trans hf) |>.symm
      obtain rfl : fn = Tryd.f6 := (Option.some.inj (Tryd.func6.symm.trans hfn)).symm
      exact ⟨by kernel_rfl, fun j t ht => by
        rw [Tryd.params6] at ht
        have hm : t ∈ [22, 55] := by have := Array.mem_of_getElem? ht; simp at this; simp [this]
        have hall : ([22, 55].all fun u => !Tryd.prog.wantsStandIn u) = true := by kernel_rfl
        exact (show Tryd.prog.wantsStandIn t = false by simpa using List.all_eq_true.1 hall t hm)⟩)
    (by kernel_rfl)
end Go.Proofs.YtkdkkgbjfabifaaDoor
