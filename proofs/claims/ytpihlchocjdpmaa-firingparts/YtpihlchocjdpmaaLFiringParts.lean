/-
  Proved: for every a the statement FiringParts returns true: the firings of all timers together are all, those of a timer alone have faults only where all have, and what a log told isn't changed by what is done to it; and nothing that was there is changed. Conditions: none.
-/
import Derived.Test.YtpihlchocjdpmaaFirAlive
import Derived.Test.YtpihlchocjdpmaaFirIds
import Derived.Test.YtpihlchocjdpmaaFirPartsP
import Derived.Test.YtpihlchocjdpmaaFirTab
import Derived.ProofKit
import Derived.OpenShut
import Derived.ChangeOld
import Derived.Below
namespace Go.Proofs.Ytpihlchocjdpmaa
open Go.ChangeShapes Go.WideShapes Go.ChangeAt Go.RowKit Verge
set_option linter.unusedVariables false
set_option linter.unusedSimpArgs false
attribute [local go_sem] Oper.semAt_some

theorem SrcC.keptNew {S : Nat → Prop} {w w' : World} {a : Option Addr} {n : Nat} {V : Nat → Value} (h : SrcC w a n V) (c : Ch S w w') (hS : ∀ k, k < w.heap.size → ¬ S k) : SrcC w' a n V := by
  rcases h with h | ⟨b, o, rfl, h⟩
  · exact .inl h
  · by_cases hn : n = 0
    · exact .inl hn
    · have hl : b < w.heap.size := lt_of_cell (h 0 (by omega))
      exact .inr ⟨b, o, rfl, fun i hi => c.keeps (h i hi) (hS b hl)⟩
/-- between two timers -/
structure PtIn (w : World) (L : List Fr) (lb : Nat) (a : Option Addr) (cap : Nat) (Q : List Nat) (iq : Option Addr) (k n v : Nat) (W : World) : Prop where
  log : IsLog W lb a cap L
  ids : SrcC W iq Q.length (fu Q)
  n : n = cntIn L Fr.i Q k
  v : v + cntIn (faultsTo L L.length) (idOf L) Q k = (faultsTo L L.length).length
  c : Ch Nil w W
theorem PtIn.kept {w W W' : World} {L : List Fr} {lb cap k n v : Nat} {a iq : Option Addr} {Q : List Nat} {S : Nat → Prop} (h : PtIn w L lb a cap Q iq k n v W) (c : Ch S W W') (hS : ∀ k, k < W.heap.size → ¬ S k) : PtIn w L lb a cap Q iq k n v W' :=
  ⟨h.log.kept c (fun k hk => hS k (h.log.lt k hk)), h.ids.keptNew c hS, h.n, h.v, h.c.then c (fun i hi e => hS i (Nat.lt_of_lt_of_le hi h.c.size) e)⟩
theorem PtIn.nil {w W W' : World} {L : List Fr} {lb cap k n v : Nat} {a iq : Option Addr} {Q : List Nat} (h : PtIn w L lb a cap Q iq k n v W) (c : Ch Nil W W') : PtIn w L lb a cap Q iq k n v W' := h.kept c (fun _ _ e => e)

set_option maxRecDepth 100000 in
set_option maxHeartbeats 4000000 in
theorem FiringParts_walk (ad : Option Addr) (len cap : Nat) (w : World) (hv : IsTab [.i .u64, .i .u64, .i .u64, .i .u64] w ad len cap) :
    Calls Try.prog 5 #[.slice ad len cap] w fun e w' => e = .returned (.bool true) ∧ Below w.heap.size w w' := by
  obtain ⟨L, hlen, src, oks, hc0, hlc, hcm⟩ := Src.of_tab hv
  have HS := Lib.hid src
  have HO := Lib.hid oks
  have HL := Lib.hid hlen.symm
  have HC0 := Lib.hid hc0
  clear hv src oks hlen hc0
  go_enter Try.func5, Try.ntmps5
  go_wp2_with fail
  refine (alive_any _).mono ?_
  rintro e w1 ⟨rfl, c1⟩
  have C1 := Lib.hid c1
  clear c1
  by_cases h200 : 100 < len
  · have hz : (100 : Int) < (len : Int) := by omega
    go_wp2
    go_ret
    exact ⟨rfl, C1.out.below (Nat.le_refl _) (fun _ _ e => e.elim)⟩
  · have hz : (len : Int) ≤ 100 := by omega
    have hl100 : L.length ≤ 100 := by have := HL.out; omega
    have HNL := Lib.hid (show L.length ≤ 1000000 by omega)
    have HNL2 := Lib.hid (show L.length < 256 by omega)
    have HNL3 := Lib.hid (show L.length ≤ 100000 by omega)
    have S1 := Lib.hid (HS.out.kept C1.out (fun _ _ e => e))
    go_wp2_with fail
    refine (new_of w1).mono ?_
    rintro e w2 ⟨rfl, l2, c2⟩
    have L2 := Lib.hid l2
    have S2 := Lib.hid (S1.out.kept c2 (fun _ _ e => e))
    have C2 := Lib.hid (C1.out.trans c2)
    have HLB := Lib.hid C1.out.size
    generalize w1.heap.size = lb at *
    have hput := put_of L2.out S2.out HC0.out (by simp) HNL.out
    rw [← HL.out] at hput
    have PP := Lib.hid hput
    clear l2 c2 C1 S1 hput
    go_wp2_with fail
    refine PP.out.mono ?_
    rintro e w3 ⟨a3, cap3, rfl, l3, c3, own3⟩
    have L3 : Hid (IsLog w3 lb a3 cap3 L) := Lib.hid l3
    have C3 := Lib.hid (C2.out.then c3 (fun i hi e => by
      rcases e with h | h
      · have := HLB.out; omega
      · cases h))
    clear l3 c3 own3 PP L2 C2 S2 HLB
    have HID := Lib.hid (ids_of L3.out.at_ (fun k hk => L3.out.lt k (.inr hk)) HNL2.out)
    go_wp2_with fail
    refine HID.out.mono ?_
    rintro e w4 ⟨Q, iq, icap, rfl, hQ, s4, c4⟩
    have L4 := Lib.hid (L3.out.kept c4 (fun _ _ e => e))
    have C4 := Lib.hid (C3.out.trans c4)
    have HQ := Lib.hid hQ
    have I4 := Lib.hid s4
    have SA4 := Lib.hid (HS.out.kept C4.out (fun _ _ e => e))
    have hQl : Q.length ≤ 100 := by have := hQ.len; omega
    obtain ⟨ni, hni⟩ : ∃ n, n = Q.length := ⟨_, rfl⟩
    rw [← hni] at hQl ⊢
    have HNI := Lib.hid hni
    have FA := faults_of (c1 := cap) SA4.out HO.out HNL3.out
    rw [← HL.out] at FA
    have HFA := Lib.hid FA
    clear FA s4 c4 hQ hni HID L3 C3
    go_wp2_with fail
    refine HFA.out.mono ?_
    rintro e w5 ⟨fa, fcap, rfl, -, -, c5⟩
    obtain ⟨fl, hfl⟩ : ∃ n, n = (faultsTo L L.length).length := ⟨_, rfl⟩
    have hfl2 : fl ≤ 100 := by rw [hfl]; have := faultsTo_le L L.length; omega
    have START : Hid (PtIn w L lb a3 cap3 Q iq 0 0 fl w5) := Lib.hid ⟨L4.out.kept c5 (fun _ _ e => e), I4.out.kept c5 (fun _ _ e => e), (cntIn_zero _ _ _).symm, by rw [cntIn_zero, hfl]; rfl, C4.out.trans c5⟩
    rw [HL.out, ← hfl]
    have HFL := Lib.hid hfl
    clear c5 hfl HFA L4 C4 I4 SA4
    rw [← HL.out]
    go_wp2_with fail
    go_loopw [7, 4, 6] (fun i m v wr => ∃ (k n u : Nat), k ≤ ni ∧ i = .int .i64 (k : Nat) ∧ m = .int .i64 (n : Nat) ∧ v = .int .i64 (u : Nat) ∧ Hid (PtIn w L lb a3 cap3 Q iq k n u wr)) (fun i _ _ _ => ni - (intOf i).toNat)
    case atStart => exact ⟨0, 0, fl, by omega, rfl, rfl, rfl, START⟩
    case round =>
      obtain ⟨k, n, u, hk, rfl, rfl, rfl, HP⟩ := hrel
      by_cases hlt : k < ni
      · obtain ⟨b1, o1, rfl, ci⟩ := HP.out.ids.form (by rw [← HNI.out]; omega)
        obtain ⟨x, hx⟩ : ∃ x, Q[k]? = some x := ⟨_, List.getElem?_eq_getElem (by rw [← HNI.out]; exact hlt)⟩
        have cx : wr.cell? ⟨b1, o1 + k, none⟩ = some (.int .u64 (x : Nat)) := by
          rw [ci k (by rw [← HNI.out]; exact hlt)]
          unfold fu
          rw [List.getD_eq_getElem?_getD, hx]; rfl
        have HX := Lib.hid hx
        have hkz : (k : Int) < (ni : Int) := by omega
        have hkz0 : (0 : Int) ≤ (k : Int) := by omega
        have HC1 := Lib.hid (cntIn_succ L Fr.i HQ.out.1 hx)
        have HC2 := Lib.hid (cntIn_succ (faultsTo L L.length) (idOf L) HQ.out.1 hx)
        have OF := of_of x HP.out.log.at_ (fun k hk => HP.out.log.lt k (.inr hk)) HNL.out
        obtain ⟨O, hO⟩ : ∃ O, O = L.filter (fun f => f.i == x) := ⟨_, rfl⟩
        rw [← hO] at OF
        obtain ⟨no, hno⟩ : ∃ n, n = O.length := ⟨_, rfl⟩
        rw [← hno] at OF
        have HOF := Lib.hid OF
        have HOO := Lib.hid hO
        have HNO := Lib.hid hno
        have hnol : no ≤ 100 := by rw [hno, hO]; exact Nat.le_trans (List.length_filter_le _ _) (by omega)
        have hnn : n + no ≤ 100 := by
          have h1 := HP.out.n
          have h2 := HC1.out
          have h3 := cntIn_le L Fr.i Q (k + 1)
          rw [← hO, ← hno] at h2
          omega
        have hnz : (n : Int) + (no : Int) ≤ 100 := by omega
        have hnz0 : (0 : Int) ≤ (n : Int) + (no : Int) := by omega
        have lnn := IntWalk.i64_in ((n : Int) + (no : Int)) (by omega)
        clear ci hx OF hO hno
        go_wp2_with fail
        refine HOF.out.mono ?_
        rintro e w6 ⟨oa, ocap, rfl, r6, own6, c6⟩
        have P6 := Lib.hid (HP.out.nil c6)
        have R6 := Lib.hid r6
        have O6 := Lib.hid own6
        have SZ := Lib.hid (show ∀ g, OwnS oa g → wr.heap.size ≤ g from own6)
        have WR := Lib.hid (show ∀ k, k < wr.heap.size → k < w6.heap.size from fun k hk => Nat.lt_of_lt_of_le hk c6.size)
        have FO := faults_of (c1 := ocap) (FRow.src R6.out) (by rw [HOO.out]; exact HO.out.filter _) (by rw [← HNO.out]; omega)
        rw [← HNO.out] at FO
        have HFO := Lib.hid FO
        have P6b := Lib.hid (show IsLog wr lb a3 cap3 L ∧ SrcC wr (some ⟨b1, o1, none⟩) Q.length (fu Q) ∧ Ch Nil w wr from ⟨HP.out.log, HP.out.ids, HP.out.c⟩)
        have CC6 := Lib.hid c6
        clear r6 own6 c6 cx HOF FO
        go_wp2_with fail
        refine HFO.out.mono ?_
        rintro e w7 ⟨fa2, fcap2, rfl, -, -, c7⟩
        have CC := Lib.hid (CC6.out.trans c7)
        have R7 := Lib.hid (Row.kept R6.out c7 (fun _ _ e => e))
        obtain ⟨fo, hfo⟩ : ∃ n, n = (faultsTo O no).length := ⟨_, rfl⟩
        rw [← hfo]
        have hfo2 : fo = ((faultsTo L L.length).filter fun j => idOf L j == x).length := by
          rw [hfo, HNO.out, HOO.out]; exact faults_of_timer L x
        have hou : fo ≤ u := by
          have h1 := P6.out.v
          have h2 := HC2.out
          have h3 := cntIn_le (faultsTo L L.length) (idOf L) Q (k + 1)
          rw [← hfo2] at h2
          omega
        obtain ⟨u2, hu2⟩ : ∃ u2, u = u2 + fo := ⟨u - fo, by omega⟩
        have eu : (u : Int) - (fo : Int) = (u2 : Int) := by omega
        have hub : u ≤ 100 := by have h1 := P6.out.v; have := faultsTo_le L L.length; omega
        have lu := IntWalk.i64_in (u2 : Int) (by omega)
        have NXT := Lib.hid (show ∀ (W : World) (S : Nat → Prop), Ch S w7 W → (∀ k, k < wr.heap.size → ¬ S k) → PtIn w L lb a3 cap3 Q (some ⟨b1, o1, none⟩) (k + 1) (n + no) u2 W from fun W S c hS => by
          have c67 : Ch S wr W := (CC.out.mono (fun _ _ e => e.elim)).trans c
          refine ⟨P6b.out.1.kept c67 (fun k hk => hS k (P6b.out.1.lt k hk)), P6b.out.2.1.keptNew c67 hS, ?_, ?_, P6b.out.2.2.then c67 (fun i hi e => hS i (Nat.lt_of_lt_of_le hi P6b.out.2.2.size) e)⟩
          · have h1 := P6.out.n
            have h2 := HC1.out
            rw [← HOO.out, ← HNO.out] at h2
            omega
          · have h1 := P6.out.v
            have h2 := HC2.out
            rw [← hfo2] at h2
            omega)
        have RX : Hid (Row w7 43 4 oa no ocap (fc O)) := Lib.hid (by rw [HNO.out]; exact R7.out)
        have FX := Lib.hid (show ∀ i, i < no * 4 → ∃ y : Nat, fc O i = .int .u64 (y : Nat) from fun i hi => by
          obtain ⟨f, hf⟩ : ∃ f, O[i / 4]? = some f := ⟨_, List.getElem?_eq_getElem (by rw [← HNO.out]; omega)⟩
          unfold fc
          rw [hf]
          have : i % 4 = 0 ∨ i % 4 = 1 ∨ i % 4 = 2 ∨ i % 4 = 3 := by omega
          rcases this with e | e | e | e <;> (rw [e]; exact ⟨_, rfl⟩))
        have HXR := Lib.hid (show ∀ m, m + 1 = k → ∃ y : Nat, Q[m]? = some y ∧ y < x from fun m hm => by
          obtain ⟨h1l, h1e⟩ := List.getElem?_eq_some_iff.1 HX.out
          refine ⟨Q[m]'(by omega), List.getElem?_eq_getElem (by omega), ?_⟩
          have := List.pairwise_iff_getElem.1 HQ.out.1 m k (by omega) h1l (by omega)
          rw [h1e] at this
          exact this)
        clear hfo hfo2 hou hu2 hub c7 R7 R6 O6 P6 P6b WR HFO START HP CC CC6 HC1 HC2
        go_wp2_with fail
        go_loopw [9] (fun v wz => ∃ (j : Nat) (F : Nat → Value), v = .int .i64 (j : Nat) ∧ j ≤ no ∧ Hid (Row wz 43 4 oa no ocap F ∧ (∀ i, i < no * 4 → ∃ y : Nat, F i = .int .u64 (y : Nat)) ∧ Ch (OwnS oa) w7 wz)) (fun v _ => no - (intOf v).toNat)
        case atStart => exact ⟨0, fc O, rfl, by omega, Lib.hid ⟨RX.out, FX.out, Ch.refl _ _⟩⟩
        case round =>
          obtain ⟨j, F, rfl, hj, HF⟩ := hrel
          by_cases hlj : j < no
          · obtain ⟨g, rfl, -⟩ := Row.form HF.out.1 (by omega)
            obtain ⟨y, hy⟩ := HF.out.2.1 (j * 4) (by omega)
            have cy := Row.cell HF.out.1 (j * 4) (by omega)
            rw [hy] at cy
            have fy := Row.frozen HF.out.1 (j * 4)
            have hjz : (j : Int) < (no : Int) := by omega
            have hjz0 : (0 : Int) ≤ (j : Int) := by omega
            obtain ⟨z, hz⟩ : ∃ z : Nat, IntKind.u64.wrap ((y : Int) + 1) = (z : Int) := ⟨((y : Int) + 1).toNat % 18446744073709551616, by rw [IntKind.wrap_u64]; omega⟩
            have RN := Lib.hid (Row.set HF.out.1 (j * 4) (by omega) (.int .u64 (z : Nat)) (fun i => if i = j * 4 then .int .u64 (z : Nat) else F i) (by simp) (fun i hi => by simp [hi]))
            clear hy
            go_wp2
            go_roundw
            case rel => exact ⟨j + 1, _, by go_num, by omega, Lib.hid ⟨RN.out, fun i hi => by
              by_cases e : i = j * 4
              · exact ⟨z, by simp [e]⟩
              · obtain ⟨y', hy'⟩ := HF.out.2.1 i hi
                exact ⟨y', by simp [e, hy']⟩, HF.out.2.2.set (p := ⟨g, j * 4, none⟩) (fun _ => rfl) _⟩⟩
            case measure => simp [intOf]; omega
          · obtain rfl : j = no := by omega
            have PN := Lib.hid (NXT.out wr (OwnS oa) HF.out.2.2 (fun k hk e => by have := SZ.out k e; omega))
            have FIN := Lib.hid (fun q => PN.out.nil (Ch.drewN (Ch.refl Nil wr) q))
            clear HF NXT SZ FX RX
            rcases Nat.eq_zero_or_pos k with hk0 | hkp
            · have y1 : ¬ (0 : Int) < (k : Int) := by omega
              have y1n : ¬ 0 < k := by omega
              have y1d : decide (0 < k) = false := decide_eq_false y1n
              have y1e : decide ((0 : Int) < (k : Int)) = false := decide_eq_false y1
              clear hk0
              go_wp2
              go_quiet (fail)
              go_wp2
              go_roundw
              case rel => exact ⟨k + 1, n + j, u2, by omega, by go_num, by go_num, rfl, Lib.hid (FIN.out _)⟩
              case measure => simp [intOf]; omega
            · obtain ⟨m, hm⟩ : ∃ m, m + 1 = k := ⟨k - 1, by omega⟩
              obtain ⟨y, hy, hyx⟩ := HXR.out m hm
              have e1 : (k : Int) - 1 = (m : Int) := by omega
              have lm := IntWalk.i64_in (m : Int) (by omega)
              have y1 : (0 : Int) < (k : Int) := by omega
              have y1d : decide (0 < k) = true := decide_eq_true hkp
              have hmn : (m : Int) < (ni : Int) := by omega
              have hxy : ¬ (x : Int) ≤ (y : Int) := by omega
              obtain ⟨b2, o2, hb2, ci⟩ := PN.out.ids.form (by rw [← HNI.out]; omega)
              cases hb2
              have cx : wr.cell? ⟨b1, o1 + k, none⟩ = some (.int .u64 (x : Nat)) := by
                rw [ci k (by rw [← HNI.out]; exact hlt)]
                unfold fu
                rw [List.getD_eq_getElem?_getD, HX.out]; rfl
              have cy : wr.cell? ⟨b1, o1 + m, none⟩ = some (.int .u64 (y : Nat)) := by
                rw [ci m (by rw [← HNI.out]; omega)]
                unfold fu
                rw [List.getD_eq_getElem?_getD, hy]; rfl
              clear ci hy hm HXR
              go_wp2
              go_quiet (fail)
              go_wp2
              go_roundw
              case rel => exact ⟨k + 1, n + j, u2, by omega, by go_num, by go_num, rfl, Lib.hid (FIN.out _)⟩
              case measure => simp [intOf]; omega
      · obtain rfl : k = ni := by omega
        have hn : n = len := by
          have := HP.out.n
          rw [HNI.out, cntIn_all L Fr.i Q (fun f hf => (HQ.out.2 _).2 ⟨f, hf, rfl⟩)] at this
          rw [this, HL.out]
        have hu : u = 0 := by
          have := HP.out.v
          rw [HNI.out, cntIn_all _ _ Q (idOf_mem HQ.out)] at this
          omega
        subst hn
        subst hu
        have AT := all_of HP.out.log.at_ (fun k hk => HP.out.log.lt k (.inr hk)) HNL.out
        rw [← HL.out] at AT
        have HAT := Lib.hid AT
        clear AT
        rw [show ((0 : Nat) : Int) = 0 from rfl]
        go_wp2_with fail
        refine HAT.out.mono ?_
        rintro e X1 ⟨q1, z1, rfl, r, -, c⟩
        have CX := Lib.hid (HP.out.c.trans c)
        have R := Lib.hid r
        have AT := same_of (c1 := z1) (c2 := cap) (FRow.src R.out) (HS.out.kept CX.out (fun _ _ e => e)) HNL.out HNL.out
        rw [← HL.out, decide_eq_true (rfl : L = L)] at AT
        replace HAT := Lib.hid AT
        clear AT r c
        go_wp2_with fail
        refine HAT.out.mono ?_
        rintro e X2 ⟨rfl, c⟩
        have CY := Lib.hid (CX.out.trans c)
        clear c R CX HAT
        go_wp2
        go_ret
        exact ⟨rfl, CY.out.below (Nat.le_refl _) (fun _ _ e => e.elim)⟩

theorem FiringParts_own : ownKnob Try.prog.godebug = none := by kernel_rfl
theorem FiringParts_laidOut : laidOutB Try.prog = true := by kernel_rfl

set_option maxRecDepth 100000 in
theorem FiringParts_lifted (os : Os) (started : os.Started) (H : Type) (enc : TypeId × Value → H) :
    ReturnsInHanded {} Try.checked os 5 .any (Rows.firingPartsSpec.pre6 enc Try.prog Try.f5 Rows.firingPartsRow.domain false) (Rows.firingPartsSpec.post enc Try.prog Try.f5 false true false false) := by
  refine returnsInHanded_of_change (C := Try.checked) FiringParts_own started (by kernel_rfl) Try.func5
    (ChangeSpec.witness6 (enc := enc) (C := Try.checked) false ⟨#[], #[.slice none 0 0], []⟩ 8 (by kernel_rfl) (by kernel_rfl) (by kernel_rfl) (by kernel_rfl)) ?_
  intro W base args ds gs before hval0 hW hcnd _
  have hval : ∀ (j : Nat) t v, Try.f5.params[j]? = some t → args[j]? = some v → Value.okWide Try.prog W .any base t v := hval0
  have hW' := hW
  obtain ⟨p, q, hA0, hV, rfl, hfz, hnd⟩ := hW
  have hA : DataW.TrodAll enc Try.prog W 0 (fun _ => true) true Try.f5.params.toList args.toList ds p := hA0
  rw [Try.params5] at hA hval
  obtain ⟨v0, vs0, d0, ds0, p0, q0, hargs, rfl, rfl, h0, r0⟩ := trodAll_cons hA
  obtain ⟨rfl, rfl, rfl⟩ := trodAll_nil r0
  obtain rfl : args = #[v0] := by cases args; simp_all
  obtain ⟨rfl, rfl⟩ := trodVars_none hV
  obtain ⟨a0, len0, cap0, rfl⟩ := okWide_slice Try.underlying22 (hval 0 22 v0 rfl rfl)
  have k0 := h0
  have lt0 : ∀ x ∈ p0, x.block < W.heap.size := by obtain ⟨m, hm⟩ := k0; exact DataW.trod_lt m _ _ _ hm
  have w0 : IsTab [.i .u64, .i .u64, .i .u64, .i .u64] W a0 len0 cap0 := by
    obtain ⟨fuel, hf⟩ := h0
    exact open_tab _ Try.underlying22 Try.underlying43 (by kernel_rfl) (by kernel_rfl) hf
  clear hA0 hval0
  refine (FiringParts_walk a0 len0 cap0 W w0).mono fun e W' ⟨he, bel⟩ => ?_
  subst he
  exact ⟨_, rfl, _, _, _, [], _, [], hW', trodAll_mk1 (shut_bool Try.underlying4 _), (trodAll_cons_mk (Below.trod FiringParts_laidOut (by kernel_rfl) (of_decide_eq_true (by kernel_rfl)) k0 bel lt0) trodAll_mk0), rfl, bel.frame _, fun h => by cases h⟩

theorem firingParts_holds : Rows.FiringPartsSaid :=
  OpenClaim.holds_of_wide 5 Try.f5 rfl rfl rfl rfl rfl rfl rfl ⟨rfl, rfl, rfl, rfl, rfl⟩ rfl rfl rfl rfl rfl (by kernel_rfl) Try.func5 (by kernel_rfl)
    (of_decide_eq_true (by kernel_rfl)) (by unfold Func.isWrapper; rw [if_neg (of_decide_eq_false (by kernel_rfl))]; exact ⟨rfl, rfl⟩)
    (fun os started H enc _ => FiringParts_lifted os started H enc)
end Go.Proofs.Ytpihlchocjdpmaa
