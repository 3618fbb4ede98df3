/-
  WheelExact: for every input the statement 'entries of any deadlines, from any time on, are due just when now is their deadline, once, unless they were removed' returns true, and its arguments read as before. (The table of math/bits reads as the program's text lays it: tied by the card.)
-/
import Derived.Test.YtkdkkgbjfabifaaDoorWxE
import Derived.Test.YtkdkkgbjfabifaaDoorTie
import Derived.Test.YtkdkkgbjfabifaaDoorCards
import Derived.SevenTiedAt
import Derived.ChangeOld
import Derived.Below
namespace Go.Proofs.YtkdkkgbjfabifaaDoor
open Go.ChangeShapes Go.WideShapes Go.ChangeAt Go.RowKit Verge LP
set_option linter.unusedVariables false
attribute [local go_sem] Oper.semAt_some

set_option maxHeartbeats 4000000 in
set_option maxRecDepth 100000 in
theorem WheelExact_walk (n0 : Int) (ad : Option Addr) (len cap : Nat) (zs : List Int) (bd : Option Addr) (blen bcap : Nat) (ys : List Int) (ti : Int) (wn : (Lit.int .u64 n0).wf = true) (wt : (Lit.int .u16 ti).wf = true) (w : World) (hv : IsRow .u16 w ad len cap zs) (hu : IsRow .u8 w bd blen bcap ys) (T : Tab w) :
    Calls Tryd.prog 4 #[.int .u64 n0, .slice ad len cap, .slice bd blen bcap, .int .u16 ti] w fun e w' => e = .returned (.bool true) ∧ Below w.heap.size w w' := by
  obtain ⟨n1, n2⟩ := bounds_u64 wn
  obtain ⟨t1, t2⟩ := bounds_u16 wt
  obtain ⟨n0, rfl⟩ := Int.eq_ofNat_of_zero_le n1
  obtain ⟨ti, rfl⟩ := Int.eq_ofNat_of_zero_le t1
  have HV := Lib.hid hv
  have HU := Lib.hid hu
  have TB := Lib.hid T
  have hsm := hv.small
  have hsm2 := hu.small
  clear wn hv hu T n1 wt t1
  have hmm : ∀ (t : TypeId) (w : World), (Instr.makeMap t none).run Tryd.prog w = .ok (.map (some w.heap.size)) (w.alloc (.map #[] 0)) := fun _ _ => rfl
  go_enter Tryd.func4, Tryd.ntmps4
  go_wp2_with fail
  refine (alive_any _).mono ?_
  rintro e w1 ⟨rfl, c1⟩
  have C1 := Lib.hid c1
  clear c1
  by_cases h60 : 60 < len
  · have hz : (60 : Int) < (len : Int) := by omega
    go_wp2
    go_ret
    exact ⟨rfl, C1.out.below (Nat.le_refl _) (fun _ _ e => e.elim)⟩
  · have hz : (len : Int) ≤ 60 := by omega
    by_cases hb60 : 60 < blen
    · have hbz : (60 : Int) < (blen : Int) := by omega
      go_wp2
      go_ret
      exact ⟨rfl, C1.out.below (Nat.le_refl _) (fun _ _ e => e.elim)⟩
    · have hbz : (blen : Int) ≤ 60 := by omega
      by_cases hg : 18446744073709351615 < n0
      · have hgz : (18446744073709351615 : Int) < (n0 : Int) := by omega
        go_wp2
        go_ret
        exact ⟨rfl, C1.out.below (Nat.le_refl _) (fun _ _ e => e.elim)⟩
      · have hgz : (n0 : Int) ≤ 18446744073709351615 := by omega
        go_wp2_with fail
        refine (Drv.new (w0 := w) n0 (by omega) C1.out).mono ?_
        rintro e w2 ⟨g, rfl, -, d2, -⟩
        have sz := d2.c.size
        have ST : Hid (Ex w g w2.heap.size n0 zs 0 0 n0 [] [] (fun _ => 0) none 0 (w2.alloc (.map #[] 0))) := Lib.hid ⟨d2.quiet ((Ch.refl _ _).alloc _), Row.nil _ _ _ _, MapZ.new w2, rfl, fun i x h => (by simp at h), rfl, fun k hk => (by cases hk), sz, fun e => by have := d2.lt e; omega⟩
        obtain ⟨mb, hmb⟩ : ∃ mb, mb = w2.heap.size := ⟨_, rfl⟩
        have HMB := Lib.hid hmb
        rw [← hmb] at ST
        clear d2 hmb
        go_wp2
        rw [← HMB.out]
        clear HMB
        refine wp_mono (wxA_loop w g ad bd n0 ti len cap blen bcap mb zs ys HV.out HU.out TB.out (by omega) (by omega) (by omega) (by omega) _ _ (by omega) ?hI) ?_
        case hI => exact ⟨_, _, _, _, rfl, rfl, rfl, rfl, rfl, rfl, rfl, rfl, rfl, rfl, ST.out⟩
        rename_i K hK
        intro e a' w' hp
        obtain ⟨rfl, H⟩ := Qx_inv hp
        exact hK _ _ (wx_mid1 w g ad bd n0 ti len cap blen bcap mb zs ys HV.out HU.out TB.out (by omega) (by omega) (by omega) (by omega) a' w' H)

theorem WheelExact_own : ownKnob Tryd.prog.godebug = none := by kernel_rfl
theorem WheelExact_laidOut : laidOutB Tryd.prog = true := by kernel_rfl

set_option maxRecDepth 100000 in
theorem WheelExact_lifted (os : Os) (started : os.Started) (H : Type) (enc : TypeId × Value → H) :
    ReturnsInHanded {} Tryd.checked os 4 .any (fun w args => (Rows.wheelExactSpec.pre enc Tryd.prog Tryd.f4 [] false w args ∧ laidMetH Tryd.prog laidTab w) ∧ sizedMet enc Tryd.prog Tryd.f4 (OpenSpec.ofChange Rows.wheelExactSpec) false w args) (Rows.wheelExactSpec.post enc Tryd.prog Tryd.f4 false true false false) := by
  refine returnsInHanded_of_change_and (C := Tryd.checked) (X := fun w _ => laidMetH Tryd.prog laidTab w) (fun _ _ _ hh h => h.of_heap hh) WheelExact_own started (by kernel_rfl) Tryd.func4
    (ChangeSpec.witness_shaped (enc := enc) (C := Tryd.checked) (os := os) (X := fun w _ => laidMetH Tryd.prog laidTab w) false (World.doorLaid Tryd.prog doorSteps os) #[.int .u64 0, .slice none 0 0, .slice none 0 0, .int .u16 0] 8 rfl (World.shaped_of_RefB (by kernel_rfl) (by kernel_rfl)) (by kernel_rfl) (by kernel_rfl) (by kernel_rfl) (door_met os _)) ?_
  intro W base args ds gs before hval0 hW _ _ hL _
  have TB := tab_of_laid hL
  have hval : ∀ (j : Nat) t v, Tryd.f4.params[j]? = some t → args[j]? = some v → Value.okWide Tryd.prog W .any base t v := hval0
  have hW' := hW
  obtain ⟨p, q, hA0, hV, rfl, hfz, hnd⟩ := hW
  have hA : DataW.TrodAll enc Tryd.prog W 0 (fun _ => true) true Tryd.f4.params.toList args.toList ds p := hA0
  rw [Tryd.params4] at hA hval
  obtain ⟨v0, vs0, d0, ds0, p0, q0, hargs, rfl, rfl, h0, r0⟩ := trodAll_cons hA
  obtain ⟨v1, vs1, d1, ds1, p1, q1, rfl, rfl, rfl, h1, r1⟩ := trodAll_cons r0
  obtain ⟨v2, vs2, d2, ds2, p2, q2, rfl, rfl, rfl, h2, r2⟩ := trodAll_cons r1
  obtain ⟨v3, vs3, d3, ds3, p3, q3, rfl, rfl, rfl, h3, r3⟩ := trodAll_cons r2
  obtain ⟨rfl, rfl, rfl⟩ := trodAll_nil r3
  obtain rfl : args = #[v0, v1, v2, v3] := by cases args; simp_all
  obtain ⟨rfl, rfl⟩ := trodVars_none hV
  obtain ⟨a0, rfl, rfl, rfl, w0⟩ := open_int Tryd.underlying22 (hval 0 22 v0 rfl rfl) h0
  obtain ⟨a1, len1, cap1, rfl⟩ := okWide_slice Tryd.underlying55 (hval 1 55 v1 rfl rfl)
  have k1 := h1
  have lt1 : ∀ x ∈ p1, x.block < W.heap.size := by obtain ⟨m, hm⟩ := k1; exact DataW.trod_lt m _ _ _ hm
  obtain ⟨z1, w1⟩ : ∃ zs, IsRow .u16 W a1 len1 cap1 zs := by
    obtain ⟨fuel, hf⟩ := h1
    rcases open_ints Tryd.underlying55 Tryd.underlying57 (by kernel_rfl) hf with ⟨hcs, _⟩ | ⟨x, l, c, zs, hcs, _, hl, hm, hz, _, hcell, hwz⟩
    · simp [Value.cells] at hcs
      obtain ⟨rfl, rfl, rfl⟩ := hcs
      exact ⟨[], .inl ⟨rfl, rfl, rfl, rfl⟩⟩
    · simp [Value.cells] at hcs
      obtain ⟨rfl, rfl, rfl⟩ := hcs
      exact ⟨zs, .inr ⟨_, rfl, hl, hm, by simpa using hz, hcell, hwz⟩⟩
  obtain ⟨a2, len2, cap2, rfl⟩ := okWide_slice Tryd.underlying56 (hval 2 56 v2 rfl rfl)
  have k2 := h2
  have lt2 : ∀ x ∈ p2, x.block < W.heap.size := by obtain ⟨m, hm⟩ := k2; exact DataW.trod_lt m _ _ _ hm
  obtain ⟨z2, w2⟩ : ∃ zs, IsRow .u8 W a2 len2 cap2 zs := by
    obtain ⟨fuel, hf⟩ := h2
    rcases open_ints Tryd.underlying56 Tryd.underlying5 (by kernel_rfl) hf with ⟨hcs, _⟩ | ⟨x, l, c, zs, hcs, _, hl, hm, hz, _, hcell, hwz⟩
    · simp [Value.cells] at hcs
      obtain ⟨rfl, rfl, rfl⟩ := hcs
      exact ⟨[], .inl ⟨rfl, rfl, rfl, rfl⟩⟩
    · simp [Value.cells] at hcs
      obtain ⟨rfl, rfl, rfl⟩ := hcs
      exact ⟨zs, .inr ⟨_, rfl, hl, hm, by simpa using hz, hcell, hwz⟩⟩
  obtain ⟨a3, rfl, rfl, rfl, w3⟩ := open_int Tryd.underlying57 (hval 3 57 v3 rfl rfl) h3
  clear hA0 hval0
  refine (WheelExact_walk a0 a1 len1 cap1 z1 a2 len2 cap2 z2 a3 w0 w3 W w1 w2 TB).mono fun e W' ⟨he, bel⟩ => ?_
  subst he
  exact ⟨_, rfl, _, _, _, [], _, [], hW', trodAll_mk1 (shut_bool Tryd.underlying4 _), (trodAll_cons_mk (shut_int Tryd.underlying22 w0) (trodAll_cons_mk (Below.trod WheelExact_laidOut (by kernel_rfl) (of_decide_eq_true (by kernel_rfl)) k1 bel lt1) (trodAll_cons_mk (Below.trod WheelExact_laidOut (by kernel_rfl) (of_decide_eq_true (by kernel_rfl)) k2 bel lt2) (trodAll_cons_mk (shut_int Tryd.underlying57 w3) trodAll_mk0)))), rfl, bel.frame _, fun h => by cases h⟩

theorem wheelExact_holds : Rows.WheelExactSaid :=
  OpenClaim.holds_of_wide 4 Tryd.f4 rfl rfl rfl rfl rfl rfl rfl ⟨rfl, rfl, rfl, rfl, rfl⟩ rfl rfl rfl rfl rfl (by kernel_rfl) Tryd.func4 (by kernel_rfl)
    (of_decide_eq_true (by kernel_rfl)) (by unfold Func.isWrapper; rw [if_neg (of_decide_eq_false (by kernel_rfl))]; exact ⟨rfl, rfl⟩)
    (fun os started H enc _ => WheelExact_lifted os started H enc)

theorem wheelExact_card_holds : Rows.WheelExactCardSaid :=
  Claim7.holds_tied_plain_at .later [] [.data] true (true, "b951392705a90429bab016e206d898cc169665650f4d29c034dd940c73b12514") false
    wheelExact_holds (fun _ h => by cases h) (by kernel_rfl) (fun _ h => by cases h) wheelExact_row_tie rfl ⟨rfl, rfl⟩ (by kernel_rfl) rfl
    (fun f fn hf hfn => by
      obtain rfl : f = 4 := Option.some.inj ((show Tryd.prog.funcNamed Rows.wheelExactRow.func = some 4 by kernel_rfl).symm.trans hf) |>.symm
      obtain rfl : fn = Tryd.f4 := (Option.some.inj (Tryd.func4.symm.trans hfn)).symm
      exact ⟨by kernel_rfl, fun j t ht => by
        rw [Tryd.params4] at ht
        have hm : t ∈ [22, 55, 56, 57] := by have := Array.mem_of_getElem? ht; simp at this; simp [this]
        have hall : ([22, 55, 56, 57].all fun u => !Tryd.prog.wantsStandIn u) = true := by kernel_rfl
        exact (show Tryd.prog.wantsStandIn t = false by simpa using List.all_eq_true.1 hall t hm)⟩)
    (by kernel_rfl)
end Go.Proofs.YtkdkkgbjfabifaaDoor
