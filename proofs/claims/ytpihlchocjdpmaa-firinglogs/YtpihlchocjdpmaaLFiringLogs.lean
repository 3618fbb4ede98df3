/-
  Proved: for every a, b, id and tick the statement FiringLogs returns true: what a log tells of any firings, put in two parts, all, a timer's, a tick's, the timers, and how many, is the document's; and nothing that was there is changed. Conditions: none.
-/
import Derived.Test.YtpihlchocjdpmaaFirAlive
import Derived.Test.YtpihlchocjdpmaaFirIdsRef
import Derived.Test.YtpihlchocjdpmaaFirTab
import Derived.ProofKit
import Derived.OpenShut
import Derived.ChangeOld
import Derived.Below
namespace Go.Proofs.Ytpihlchocjdpmaa
open Go.ChangeShapes Go.WideShapes Go.ChangeAt Go.RowKit Verge
set_option linter.unusedVariables false
set_option linter.unusedSimpArgs false
attribute [local go_sem] Oper.semAt_some
/-- the log and the list of all -/
structure LgIn (w : World) (ALL : List Fr) (lb : Nat) (a : Option Addr) (cap : Nat) (aa : Option Addr) (W : World) : Prop where
  log : IsLog W lb a cap ALL
  all : Src W aa ALL
  c : Ch Nil w W
theorem LgIn.kept {w W W' : World} {ALL : List Fr} {lb cap : Nat} {a aa : Option Addr} (h : LgIn w ALL lb a cap aa W) (c : Ch Nil W W') : LgIn w ALL lb a cap aa W' :=
  ⟨h.log.kept c (fun _ _ e => e), h.all.kept c (fun _ _ e => e), h.c.trans c⟩
theorem LgIn.own {w W : World} {ALL : List Fr} {lb cap : Nat} {a aa : Option Addr} (h : LgIn w ALL lb a cap aa W) : ∀ k, OwnS a k → k < W.heap.size := fun k hk => h.log.lt k (.inr hk)

set_option maxRecDepth 100000 in
set_option maxHeartbeats 4000000 in
theorem FiringLogs_walk (ad : Option Addr) (len cap : Nat) (bd : Option Addr) (lenb capb : Nat) (x t : Int) (wx : (Lit.int .u64 x).wf = true) (wt : (Lit.int .u64 t).wf = true) (w : World) (hv : IsTab [.i .u64, .i .u64, .i .u64, .i .u64] w ad len cap) (hvb : IsTab [.i .u64, .i .u64, .i .u64, .i .u64] w bd lenb capb) :
    Calls Try.prog 3 #[.slice ad len cap, .slice bd lenb capb, .int .u64 x, .int .u64 t] w fun e w' => e = .returned (.bool true) ∧ Below w.heap.size w w' := by
  obtain ⟨A, hlenA, srcA, oksA, hcA, -, -⟩ := Src.of_tab hv
  obtain ⟨B, hlenB, srcB, oksB, hcB, -, -⟩ := Src.of_tab hvb
  obtain ⟨s1, s2⟩ := bounds_u64 wx
  obtain ⟨x, rfl⟩ := Int.eq_ofNat_of_zero_le s1
  obtain ⟨p1, p2⟩ := bounds_u64 wt
  obtain ⟨t, rfl⟩ := Int.eq_ofNat_of_zero_le p1
  have SA := Lib.hid srcA
  have SB := Lib.hid srcB
  have LA := Lib.hid hlenA.symm
  have LB := Lib.hid hlenB.symm
  have CA0 := Lib.hid hcA
  have CB0 := Lib.hid hcB
  clear wx wt s1 s2 p1 p2 hv hvb srcA srcB oksA oksB hlenA hlenB hcA hcB
  go_enter Try.func3, Try.ntmps3
  go_wp2_with fail
  refine (alive_any _).mono ?_
  rintro e w1 ⟨rfl, c1⟩
  have C1 := Lib.hid c1
  clear c1
  by_cases h1 : 100 < len
  · have hz : (100 : Int) < (len : Int) := by omega
    go_wp2
    go_ret
    exact ⟨rfl, C1.out.below (Nat.le_refl _) (fun _ _ e => e.elim)⟩
  · have hz : (len : Int) ≤ 100 := by omega
    by_cases h2 : 100 < lenb
    · have hz2 : (100 : Int) < (lenb : Int) := by omega
      go_wp2
      go_ret
      exact ⟨rfl, C1.out.below (Nat.le_refl _) (fun _ _ e => e.elim)⟩
    · have hz2 : (lenb : Int) ≤ 100 := by omega
      go_wp2_with fail
      refine (new_of w1).mono ?_
      rintro e w2 ⟨rfl, l2, c2⟩
      have L2 := Lib.hid l2
      have C2 := Lib.hid (C1.out.trans c2)
      have HLB := Lib.hid C1.out.size
      generalize w1.heap.size = lb at *
      clear l2 c2 C1
      have hlt2 := lt_of_cell L2.out.c
      have cE : Ch Nil w2 (w2.alloc (.cells #[] 43)) := (Ch.refl _ _).alloc _
      have R0 : Hid (FRow (w2.alloc (.cells #[] 43)) (some ⟨w2.heap.size, 0, none⟩) 0 []) := Lib.hid (World.ownsRow_lit w2 #[] 0 (Nat.zero_le _) (Nat.zero_le _) rfl)
      have SA2 := Lib.hid ((SA.out.kept C2.out (fun _ _ e => e)).kept cE (fun _ _ e => e))
      have hAl : A.length ≤ 1000000 := by have := LA.out; omega
      have hBl : B.length ≤ 1000000 := by have := LB.out; omega
      have HAL := Lib.hid hAl
      have HBL := Lib.hid hBl
      have CE := Lib.hid cE
      clear hAl hBl cE
      go_wp2_with (at_builtin; refine append_frs _ rfl _ _ _ rfl Try.underlying22 (by kernel_rfl) rfl rfl R0.out (Nat.zero_le _) HAL.out len cap rfl LA.out SA2.out CA0.out _ rfl ?_)
      intro a3 cap3 w3 row3 ch3 own3
      have R3 : Hid (FRow w3 a3 cap3 A) := Lib.hid row3
      have C3 := Lib.hid ((C2.out.trans CE.out).then ch3 (fun i hi e => by
        have h1 : w2.heap.size = i := by simpa [OwnS] using e
        have := C2.out.size; omega))
      have L3 := Lib.hid ((L2.out.kept CE.out (fun _ _ e => e)).kept ch3 (fun k hk e => by
        have h1 : w2.heap.size = k := by simpa [OwnS] using e
        rcases hk with rfl | hk
        · have : k < w2.heap.size := hlt2
          omega
        · cases hk))
      have O3 := Lib.hid (show ∀ g, OwnS a3 g → w2.heap.size ≤ g from fun g hg => by
        rcases own3 g hg with h | h
        · have h1 : w2.heap.size = g := by simpa [OwnS] using h
          omega
        · rw [h]; simp)
      have SB3 := Lib.hid (SB.out.kept C3.out (fun _ _ e => e))
      have HS23 := Lib.hid (show w2.heap.size ≤ w3.heap.size by have := ch3.size; simp at this; omega)
      clear row3 ch3 own3 CE R0 SA2
      have hl3 : A.length = 0 + len := by rw [← LA.out, Nat.zero_add]
      have HL3 := Lib.hid hl3.symm
      clear hl3
      go_wp2_with (at_builtin; refine append_frs _ rfl _ _ _ rfl Try.underlying22 (by kernel_rfl) rfl (by first | exact HL3.out | exact LA.out) R3.out HAL.out HBL.out lenb capb rfl LB.out SB3.out CB0.out _ rfl ?_)
      intro a4 cap4 w4 row4 ch4 own4
      obtain ⟨ALL, hALL⟩ : ∃ X, X = A ++ B := ⟨_, rfl⟩
      rw [← hALL] at row4
      have R4 := Lib.hid row4
      have C4 := Lib.hid (C3.out.then ch4 (fun i hi e => by have := O3.out i e; have := C2.out.size; omega))
      have L4 := Lib.hid (L3.out.kept ch4 (fun k hk e => by
        have := O3.out k e
        rcases hk with rfl | hk
        · have : k < w2.heap.size := hlt2
          omega
        · cases hk))
      have O4 := Lib.hid (show ∀ g, OwnS a4 g → w2.heap.size ≤ g from fun g hg => by
        rcases own4 g hg with h | h
        · exact O3.out g h
        · rw [h]; exact HS23.out)
      obtain ⟨N, hN⟩ : ∃ N, N = ALL.length := ⟨_, rfl⟩
      have hlN : len + lenb = N := by rw [hN, hALL, List.length_append, ← LA.out, ← LB.out]
      have HN := Lib.hid hN
      have HALL := Lib.hid hALL
      have SA4 := Lib.hid (SA.out.kept C4.out (fun _ _ e => e))
      have hN2 : N ≤ 200 := by omega
      clear row4 ch4 own4 hN hALL R3 C3 L3 O3 SB3 HL3
      rw [hlN]
      clear hlN
      have P1 := put_of L4.out SA4.out CA0.out (by simp) HAL.out
      rw [← LA.out] at P1
      have PP1 := Lib.hid P1
      clear P1
      go_wp2_with fail
      refine PP1.out.mono ?_
      rintro e w5 ⟨a5, cap5, rfl, l5, c5, own5⟩
      have L5 : Hid (IsLog w5 lb a5 cap5 A) := Lib.hid l5
      have R5 := Lib.hid (Row.kept R4.out c5 (fun k hk e => by
        have := O4.out k hk
        rcases e with rfl | e
        · have : k < w2.heap.size := hlt2
          omega
        · cases e))
      have C5 := Lib.hid (C4.out.then c5 (fun i hi e => by
        have := HLB.out
        rcases e with rfl | e
        · omega
        · cases e))
      have O5 := Lib.hid (show ∀ g, OwnS a5 g → w4.heap.size ≤ g from fun g hg => (own5 g hg).elim (fun h => by cases h) id)
      have O5b := Lib.hid (show ∀ g, OwnS a4 g → g < w4.heap.size from fun g hg => R4.out.lt g hg)
      have HW4 := Lib.hid C4.out.size
      have SB5 := Lib.hid (SB.out.kept C5.out (fun _ _ e => e))
      have P2 := put_of L5.out SB5.out CB0.out HAL.out HBL.out
      rw [← LB.out, ← HALL.out] at P2
      have PP2 := Lib.hid P2
      clear l5 c5 own5 PP1 R4 C4 L4 SA4 P2
      go_wp2_with fail
      refine PP2.out.mono ?_
      rintro e w6 ⟨a6, cap6, rfl, l6, c6, own6⟩
      have D0 : Hid (LgIn w ALL lb a6 cap6 a4 w6) := Lib.hid ⟨l6, FRow.src (Row.kept R5.out c6 (fun k hk e => by
        have h1 := O4.out k hk
        have h2 := O5b.out k hk
        rcases e with rfl | e
        · have : k < w2.heap.size := hlt2
          omega
        · have := O5.out k e; omega)), C5.out.then c6 (fun i hi e => by
        have := HLB.out
        have := HW4.out
        rcases e with rfl | e
        · omega
        · have := O5.out i e; omega)⟩
      have HNL := Lib.hid (show ALL.length ≤ 1000000 by rw [← HN.out]; omega)
      have HNL2 := Lib.hid (show ALL.length < 256 by rw [← HN.out]; omega)
      have HNL3 := Lib.hid (show ALL.length ≤ 100000 by rw [← HN.out]; omega)
      clear l6 c6 own6 PP2 C5 L5 R5 O5 O5b O4 SB5 HW4 HS23 hlt2
      -- all
      have AT := all_of D0.out.log.at_ D0.out.own HNL.out
      rw [← HN.out] at AT
      have HAT := Lib.hid AT
      clear AT
      go_wp2_with fail
      refine HAT.out.mono ?_
      rintro e X1 ⟨q1, z1, rfl, r, -, c⟩
      have D1 := Lib.hid (D0.out.kept c)
      have R := Lib.hid r
      have AT := same_of (c1 := z1) (c2 := cap4) (FRow.src R.out) D1.out.all HNL.out HNL.out
      rw [← HN.out, decide_eq_true (rfl : ALL = ALL)] at AT
      replace HAT := Lib.hid AT
      clear AT r c D0
      go_wp2_with fail
      refine HAT.out.mono ?_
      rintro e X2 ⟨rfl, c⟩
      have D2 := Lib.hid (D1.out.kept c)
      clear R c D1 HAT
      -- a timer's
      have AT := of_of x D2.out.log.at_ D2.out.own HNL.out
      obtain ⟨Q2, hQ⟩ : ∃ Q, Q = ALL.filter (fun g => g.i == x) := ⟨_, rfl⟩
      have HQl := Lib.hid (show Q2.length ≤ 1000000 by rw [hQ]; exact Nat.le_trans (List.length_filter_le _ _) HNL.out)
      rw [← hQ] at AT
      have HQ := Lib.hid hQ
      obtain ⟨n2, hn⟩ : ∃ n, n = Q2.length := ⟨_, rfl⟩
      rw [← hn] at AT
      have HNQ := Lib.hid hn
      have HAT := Lib.hid AT
      clear AT hQ hn
      go_wp2_with fail
      refine HAT.out.mono ?_
      rintro e X3 ⟨q3, z3, rfl, r, -, c⟩
      have D3 := Lib.hid (D2.out.kept c)
      have R3 := Lib.hid r
      have AT := refOf_of x (c1 := cap4) D3.out.all HNL.out
      rw [← HQ.out, ← HN.out, ← HNQ.out] at AT
      replace HAT := Lib.hid AT
      clear AT r c D2
      go_wp2_with fail
      refine HAT.out.mono ?_
      rintro e X4 ⟨q4, z4, rfl, r, -, c⟩
      have D4 := Lib.hid (D3.out.kept c)
      have R4 := Lib.hid r
      have R3' := Lib.hid (Row.kept R3.out c (fun _ _ e => e))
      have AT := same_of (c1 := z3) (c2 := z4) (FRow.src R3'.out) (FRow.src R4.out) HQl.out HQl.out
      rw [← HNQ.out, decide_eq_true (rfl : Q2 = Q2)] at AT
      replace HAT := Lib.hid AT
      clear AT r c D3 R3
      go_wp2_with fail
      refine HAT.out.mono ?_
      rintro e X5 ⟨rfl, c⟩
      have D5 := Lib.hid (D4.out.kept c)
      clear c D4 HAT R3' R4 HNQ HQ HQl
      -- a tick's
      have AT := at_of t D5.out.log.at_ D5.out.own HNL.out
      obtain ⟨Q5, hQ⟩ : ∃ Q, Q = ALL.filter (fun g => g.t == t) := ⟨_, rfl⟩
      have HQl := Lib.hid (show Q5.length ≤ 1000000 by rw [hQ]; exact Nat.le_trans (List.length_filter_le _ _) HNL.out)
      rw [← hQ] at AT
      have HQ := Lib.hid hQ
      obtain ⟨n5, hn⟩ : ∃ n, n = Q5.length := ⟨_, rfl⟩
      rw [← hn] at AT
      have HNQ := Lib.hid hn
      have HAT := Lib.hid AT
      clear AT hQ hn
      go_wp2_with fail
      refine HAT.out.mono ?_
      rintro e X6 ⟨q6, z6, rfl, r, -, c⟩
      have D6 := Lib.hid (D5.out.kept c)
      have R6 := Lib.hid r
      have AT := refAt_of t (c1 := cap4) D6.out.all HNL.out
      rw [← HQ.out, ← HN.out, ← HNQ.out] at AT
      replace HAT := Lib.hid AT
      clear AT r c D5
      go_wp2_with fail
      refine HAT.out.mono ?_
      rintro e X7 ⟨q7, z7, rfl, r, -, c⟩
      have D7 := Lib.hid (D6.out.kept c)
      have R7 := Lib.hid r
      have R6' := Lib.hid (Row.kept R6.out c (fun _ _ e => e))
      have AT := same_of (c1 := z6) (c2 := z7) (FRow.src R6'.out) (FRow.src R7.out) HQl.out HQl.out
      rw [← HNQ.out, decide_eq_true (rfl : Q5 = Q5)] at AT
      replace HAT := Lib.hid AT
      clear AT r c D6 R6
      go_wp2_with fail
      refine HAT.out.mono ?_
      rintro e X8 ⟨rfl, c⟩
      have D8 := Lib.hid (D7.out.kept c)
      clear c D7 HAT R6' R7 HNQ HQ HQl
      -- the timers
      have HAT := Lib.hid (ids_of D8.out.log.at_ D8.out.own HNL2.out)
      go_wp2_with fail
      refine HAT.out.mono ?_
      rintro e X9 ⟨I1, q9, z9, rfl, hI1, s9, c⟩
      have D9 := Lib.hid (D8.out.kept c)
      have I1H := Lib.hid hI1
      have S9 := Lib.hid s9
      obtain ⟨ni, hni⟩ : ∃ n, n = I1.length := ⟨_, rfl⟩
      have HNI := Lib.hid hni
      rw [← hni]
      have AT := refIds_of (c1 := cap4) D9.out.all HNL3.out
      rw [← HN.out] at AT
      replace HAT := Lib.hid AT
      clear AT s9 hI1 c D8 hni
      go_wp2_with fail
      refine HAT.out.mono ?_
      rintro e X10 ⟨I2, q10, z10, rfl, hI2, s10, c⟩
      have D10 := Lib.hid (D9.out.kept c)
      have S9b := Lib.hid (S9.out.kept c (fun _ _ e => e))
      obtain rfl : I1 = I2 := I1H.out.same hI2
      have AT := uints_src (cap := z9) (cap' := z10) S9b.out s10 (by have := I1H.out.len; have := HNL.out; omega)
      rw [← HNI.out] at AT ⊢
      replace HAT := Lib.hid AT
      clear AT s10 hI2 c D9 S9
      go_wp2_with fail
      refine HAT.out.mono ?_
      rintro e X11 ⟨rfl, c⟩
      have D11 := Lib.hid (D10.out.kept c)
      have AT := len_of D11.out.log
      rw [← HN.out] at AT
      replace HAT := Lib.hid AT
      clear AT c D10 S9b
      go_wp2_with fail
      refine HAT.out.mono ?_
      rintro e X12 ⟨rfl, rfl⟩
      go_wp2
      go_ret
      exact ⟨rfl, D11.out.c.below (Nat.le_refl _) (fun _ _ e => e.elim)⟩

theorem FiringLogs_own : ownKnob Try.prog.godebug = none := by kernel_rfl
theorem FiringLogs_laidOut : laidOutB Try.prog = true := by kernel_rfl

set_option maxRecDepth 100000 in
theorem FiringLogs_lifted (os : Os) (started : os.Started) (H : Type) (enc : TypeId × Value → H) :
    ReturnsInHanded {} Try.checked os 3 .any (Rows.firingLogsSpec.pre6 enc Try.prog Try.f3 Rows.firingLogsRow.domain false) (Rows.firingLogsSpec.post enc Try.prog Try.f3 false true false false) := by
  refine returnsInHanded_of_change (C := Try.checked) FiringLogs_own started (by kernel_rfl) Try.func3
    (ChangeSpec.witness6 (enc := enc) (C := Try.checked) false ⟨#[], #[.slice none 0 0, .slice none 0 0, .int .u64 0, .int .u64 0], []⟩ 8 (by kernel_rfl) (by kernel_rfl) (by kernel_rfl) (by kernel_rfl)) ?_
  intro W base args ds gs before hval0 hW hcnd _
  have hval : ∀ (j : Nat) t v, Try.f3.params[j]? = some t → args[j]? = some v → Value.okWide Try.prog W .any base t v := hval0
  have hW' := hW
  obtain ⟨p, q, hA0, hV, rfl, hfz, hnd⟩ := hW
  have hA : DataW.TrodAll enc Try.prog W 0 (fun _ => true) true Try.f3.params.toList args.toList ds p := hA0
  rw [Try.params3] at hA hval
  obtain ⟨v0, vs0, d0, ds0, p0, q0, hargs, rfl, rfl, h0, r0⟩ := trodAll_cons hA
  obtain ⟨v1, vs1, d1, ds1, p1, q1, rfl, rfl, rfl, h1, r1⟩ := trodAll_cons r0
  obtain ⟨v2, vs2, d2, ds2, p2, q2, rfl, rfl, rfl, h2, r2⟩ := trodAll_cons r1
  obtain ⟨v3, vs3, d3, ds3, p3, q3, rfl, rfl, rfl, h3, r3⟩ := trodAll_cons r2
  obtain ⟨rfl, rfl, rfl⟩ := trodAll_nil r3
  obtain rfl : args = #[v0, v1, v2, v3] := by cases args; simp_all
  obtain ⟨rfl, rfl⟩ := trodVars_none hV
  obtain ⟨a0, len0, cap0, rfl⟩ := okWide_slice Try.underlying22 (hval 0 22 v0 rfl rfl)
  have k0 := h0
  have lt0 : ∀ x ∈ p0, x.block < W.heap.size := by obtain ⟨m, hm⟩ := k0; exact DataW.trod_lt m _ _ _ hm
  have w0 : IsTab [.i .u64, .i .u64, .i .u64, .i .u64] W a0 len0 cap0 := by
    obtain ⟨fuel, hf⟩ := h0
    exact open_tab _ Try.underlying22 Try.underlying43 (by kernel_rfl) (by kernel_rfl) hf
  obtain ⟨a1, len1, cap1, rfl⟩ := okWide_slice Try.underlying22 (hval 1 22 v1 rfl rfl)
  have k1 := h1
  have lt1 : ∀ x ∈ p1, x.block < W.heap.size := by obtain ⟨m, hm⟩ := k1; exact DataW.trod_lt m _ _ _ hm
  have w1 : IsTab [.i .u64, .i .u64, .i .u64, .i .u64] W a1 len1 cap1 := by
    obtain ⟨fuel, hf⟩ := h1
    exact open_tab _ Try.underlying22 Try.underlying43 (by kernel_rfl) (by kernel_rfl) hf
  obtain ⟨a2, rfl, rfl, rfl, w2⟩ := open_int Try.underlying23 (hval 2 23 v2 rfl rfl) h2
  obtain ⟨a3, rfl, rfl, rfl, w3⟩ := open_int Try.underlying23 (hval 3 23 v3 rfl rfl) h3
  clear hA0 hval0
  refine (FiringLogs_walk a0 len0 cap0 a1 len1 cap1 a2 a3 w2 w3 W w0 w1).mono fun e W' ⟨he, bel⟩ => ?_
  subst he
  exact ⟨_, rfl, _, _, _, [], _, [], hW', trodAll_mk1 (shut_bool Try.underlying4 _), (trodAll_cons_mk (Below.trod FiringLogs_laidOut (by kernel_rfl) (of_decide_eq_true (by kernel_rfl)) k0 bel lt0) (trodAll_cons_mk (Below.trod FiringLogs_laidOut (by kernel_rfl) (of_decide_eq_true (by kernel_rfl)) k1 bel lt1) (trodAll_cons_mk (shut_int Try.underlying23 w2) (trodAll_cons_mk (shut_int Try.underlying23 w3) trodAll_mk0)))), rfl, bel.frame _, fun h => by cases h⟩

theorem firingLogs_holds : Rows.FiringLogsSaid :=
  OpenClaim.holds_of_wide 3 Try.f3 rfl rfl rfl rfl rfl rfl rfl ⟨rfl, rfl, rfl, rfl, rfl⟩ rfl rfl rfl rfl rfl (by kernel_rfl) Try.func3 (by kernel_rfl)
    (of_decide_eq_true (by kernel_rfl)) (by unfold Func.isWrapper; rw [if_neg (of_decide_eq_false (by kernel_rfl))]; exact ⟨rfl, rfl⟩)
    (fun os started H enc _ => FiringLogs_lifted os started H enc)
end Go.Proofs.Ytpihlchocjdpmaa
