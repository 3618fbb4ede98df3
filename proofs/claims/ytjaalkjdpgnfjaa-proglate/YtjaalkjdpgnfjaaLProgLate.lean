/-
  Proved: for every row of numbers the statement ProgLate returns true: what stands behind Then is asked for just once, behind the last step of what stands ahead, or at once, if that is the end; and nothing that was there is changed. Conditions: none.
-/
import Derived.Test.YtjaalkjdpgnfjaaStgAlive
import Derived.Test.YtjaalkjdpgnfjaaStgRef
import Derived.Test.YtjaalkjdpgnfjaaStgLate
import Derived.ProofKit
import Derived.OpenShut
import Derived.ChangeOld
import Derived.Below
namespace Go.Proofs.Ytjaalkjdpgnfjaa
open Go.ChangeShapes Go.WideShapes Go.ChangeAt Go.RowKit Verge
set_option linter.unusedVariables false
set_option linter.unusedSimpArgs false
attribute [local go_sem] Oper.semAt_some

theorem sts_len (Q : List Int → Own) : ∀ (xs g : List Int), (sts Q g xs).length = xs.length
  | [], g => rfl
  | x :: r, g => by simp only [sts, List.length_cons]; rw [sts_len Q r]
theorem leads_late {A p q : Nat} {st : Int} {F : List Int} {S : Nat → Prop} {w : World} (hl : ∀ k, S k → k < w.heap.size) (hn : F.length ≤ 1000) :
    Leads (Late A p q 0 st F) (Late A p q 1 F.length F) (Stg [Late A p q 1 F.length (F ++ [-7])] (Late A p q 1 F.length F)) S (.func (.func 23) #[] #[.pointer (some ⟨p, 0, none⟩), .pointer (some ⟨A, 0, none⟩), .pointer (some ⟨q, 0, none⟩)]) w := by
  refine ⟨_, _, rfl, enters_late1, hl, fun w' M a hM h => ?_⟩
  obtain ⟨ar, cap, h, hMM⟩ := h
  refine (late1_of h hMM hn).mono ?_
  rintro x w'' ⟨v, S', M', rfl, g1, g2, g3, g4, g5, g6, g7⟩
  exact ⟨v, S', M', rfl, g1, g2, g3, g4, fun k hk => .inr (g5 k hk), g6, g7⟩
/-- the three variables that it lays -/
theorem laidV (w : World) : LateAt w.heap.size (w.heap.size + 1) (w.heap.size + 1 + 1) 0 (-1) [] none 0 (((w.alloc (.cells #[.slice none 0 0] 25)).alloc (.cells #[.int .i64 0] 3)).alloc (.cells #[.int .i64 (-1)] 3)) ∧
    Ch Nil w (((w.alloc (.cells #[.slice none 0 0] 25)).alloc (.cells #[.int .i64 0] 3)).alloc (.cells #[.int .i64 (-1)] 3)) ∧
    (((w.alloc (.cells #[.slice none 0 0] 25)).alloc (.cells #[.int .i64 0] 3)).alloc (.cells #[.int .i64 (-1)] 3)).heap.size = w.heap.size + 3 := by
  have z1 : (w.alloc (.cells #[.slice none 0 0] 25)).heap.size = w.heap.size + 1 := by simp
  have z2 : ((w.alloc (.cells #[.slice none 0 0] 25)).alloc (.cells #[.int .i64 0] 3)).heap.size = w.heap.size + 1 + 1 := by simp
  have c2 : Ch Nil (w.alloc (.cells #[.slice none 0 0] 25)) ((w.alloc (.cells #[.slice none 0 0] 25)).alloc (.cells #[.int .i64 0] 3)) := (Ch.refl _ _).alloc _
  have c3 : Ch Nil ((w.alloc (.cells #[.slice none 0 0] 25)).alloc (.cells #[.int .i64 0] 3)) (((w.alloc (.cells #[.slice none 0 0] 25)).alloc (.cells #[.int .i64 0] 3)).alloc (.cells #[.int .i64 (-1)] 3)) := (Ch.refl _ _).alloc _
  have b1 : Blk (w.alloc (.cells #[.slice none 0 0] 25)) w.heap.size := Blk.new _ _ _
  have b2 : Blk ((w.alloc (.cells #[.slice none 0 0] 25)).alloc (.cells #[.int .i64 0] 3)) (w.heap.size + 1) := by rw [← z1]; exact Blk.new _ _ _
  have b3 : Blk (((w.alloc (.cells #[.slice none 0 0] 25)).alloc (.cells #[.int .i64 0] 3)).alloc (.cells #[.int .i64 (-1)] 3)) (w.heap.size + 1 + 1) := by rw [← z2]; exact Blk.new _ _ _
  refine ⟨⟨⟨(c2.trans c3).keeps (by rw [cell_fresh]; rfl) (fun e => e), b1.kept (c2.trans c3) (fun e => e), Row.nil _ _ _ _, fun e => by cases e⟩, c3.keeps (by rw [← z1, cell_fresh]; rfl) (fun e => e), b2.kept c3 (fun e => e), by rw [← z2, cell_fresh]; rfl, b3, by omega, by omega, by omega, fun e => (by cases e), fun e => (by cases e)⟩, ((Ch.refl _ _).alloc _).trans (c2.trans c3), by simp⟩
set_option maxRecDepth 100000 in
set_option maxHeartbeats 16000000 in
theorem ProgLate_walk (a : Option Addr) (len cap : Nat) (zs : List Int) (w : World) (R : IsRow .i64 w a len cap zs) :
    Calls Try.prog 5 #[.slice a len cap] w fun e w' => e = .returned (.bool true) ∧ Below w.heap.size w w' := by
  have hsm := R.small
  obtain ⟨hS, hxl⟩ := srcB_of R
  generalize zs.take len = xs at hS hxl
  subst hxl
  have HS := Lib.hid hS
  clear hS R
  go_enter Try.func5, Try.ntmps5
  go_wp2_with fail
  refine (alive_any _).mono ?_
  rintro e w1 ⟨rfl, c1⟩
  have C1 := Lib.hid c1
  clear c1
  by_cases hb : 30 < xs.length
  · have hbz : (30 : Int) < (xs.length : Int) := by omega
    go_wp2
    go_ret
    exact ⟨rfl, C1.out.below (Nat.le_refl _) (fun _ _ h => h.elim)⟩
  · have hbz : ¬ (30 : Int) < (xs.length : Int) := by omega
    obtain ⟨lv, cv, zv⟩ := laidV w1
    have LV := Lib.hid lv
    have C2 := Lib.hid (C1.out.trans cv)
    have ZV := Lib.hid zv
    have hw1 := C1.out.size
    clear lv cv zv
    go_wp2_with fail
    generalize ((w1.alloc (.cells #[.slice none 0 0] 25)).alloc (.cells #[.int .i64 0] 3)).alloc (.cells #[.int .i64 (-1)] 3) = w2 at LV C2 ZV ⊢
    refine (lrow_of (cap := cap) (late_holds w1.heap.size (w1.heap.size + 1) (w1.heap.size + 1 + 1) 0 (-1)) (g := []) (HS.out.ag (C2.out.ag (fun _ h => h) (fun _ _ e => e))).srcA (by omega) (by simp; omega)).mono ?_
    rintro e w3 ⟨v3, S3, rfl, st3, c3, s3, l3⟩
    obtain ⟨F, hF⟩ : ∃ F, F = pos xs := ⟨_, rfl⟩
    have hFl : F.length ≤ 30 := by have := pos_len xs; rw [hF]; omega
    rw [← hF] at st3
    have HF := Lib.hid hF
    clear hF
    have hz2 := ZV.out
    have P3 : (Late w1.heap.size (w1.heap.size + 1) (w1.heap.size + 1 + 1) 0 (-1) []).P (LtB w1.heap.size (w1.heap.size + 1) (w1.heap.size + 1 + 1) none) w3 := Own.nil ⟨none, 0, LV.out, fun _ => Iff.rfl⟩ c3
    have TH := Lib.hid (then_of (Late w1.heap.size (w1.heap.size + 1) (w1.heap.size + 1 + 1) 1 F.length F) [Late w1.heap.size (w1.heap.size + 1) (w1.heap.size + 1 + 1) 1 F.length (F ++ [-7])] (sts (Late w1.heap.size (w1.heap.size + 1) (w1.heap.size + 1 + 1) 0 (-1)) [] F) _ v3 S3 w3 _ _ _ st3 (by rw [sts_last, List.nil_append]; exact leads_late l3 (by omega)) P3 (fun k hk e => by
      have := s3 k hk
      rcases e with e | e | e | e
      · omega
      · omega
      · omega
      · cases e) l3)
    have C3 := Lib.hid (C2.out.trans c3)
    have lw3 := c3.size
    clear st3 c3 s3 l3 P3 C2 LV
    generalize w1.heap.size = A at TH hw1 hz2 ZV ⊢
    go_wp2_with fail
    refine TH.out.mono ?_
    rintro e w4 ⟨v4, S4, M4, rfl, q4, st4, c4, sm4, ss4, sa4, sl4⟩
    obtain ⟨m', d', rfl, fm, fd⟩ := st4.shape
    have t1 := fm.store
    have t2 := fd.store
    have E4 := Lib.hid (And.intro q4 (And.intro st4 (And.intro sm4 (And.intro ss4 (And.intro sa4 sl4)))))
    have z3 := C3.out.size
    have C4 := Lib.hid (C3.out.then c4 (fun i hi e => by rcases e with e | e | e | e; omega; omega; omega; cases e))
    have lw4 := c4.size
    clear q4 st4 c4 sm4 ss4 sa4 sl4 TH C3 fm fd
    go_upto_region 9 with (fail)
    have c5 : Ch Nil w4 (w4.alloc (.cells #[m', d'] 31)) := (Ch.refl _ _).alloc _
    have k50 : (w4.alloc (.cells #[m', d'] 31)).cell? ⟨w4.heap.size, 0, none⟩ = some m' := by rw [cell_fresh]; rfl
    have k51 : (w4.alloc (.cells #[m', d'] 31)).cell? ⟨w4.heap.size, 1, none⟩ = some d' := by rw [cell_fresh]; rfl
    generalize w4.alloc (.cells #[m', d'] 31) = w5 at c5 k50 k51 ⊢
    obtain ⟨q4, st4, sm4, ss4, sa4, sl4⟩ := E4.out
    have lw5 := c5.size
    have NW := Lib.hid (pg_new (X := fun k => k < w.heap.size) (st4.ag (c5.ag sl4 (fun _ _ e => e))) (Own.nil q4 c5) sa4 (fun k hk => by have := sl4 k hk; omega) (fun k (hk : k < w.heap.size) => ⟨by omega, fun e => by
      rcases sm4 k e with e | e
      · rcases e with e | e | e | e
        · omega
        · omega
        · omega
        · cases e
      · omega⟩))
    have C5 := Lib.hid (C4.out.trans c5)
    clear q4 st4 sm4 ss4 sa4 sl4 c5 E4 C4
    go_wp2_with fail
    refine NW.out.mono ?_
    rintro e w6 ⟨b, rfl, p6, c6, hb6⟩
    obtain ⟨L, hL⟩ : ∃ L, L = joinQ (Late A (A + 1) (A + 1 + 1) 1 F.length F) [Late A (A + 1) (A + 1 + 1) 1 F.length (F ++ [-7])] (sts (Late A (A + 1) (A + 1 + 1) 0 (-1)) [] F) := ⟨_, rfl⟩
    obtain ⟨Q0, hQ0⟩ : ∃ Q0, Q0 = hdQ (sts (Late A (A + 1) (A + 1 + 1) 0 (-1)) [] F) (Late A (A + 1) (A + 1 + 1) 0 (-1) []) (Late A (A + 1) (A + 1 + 1) 1 F.length F) := ⟨_, rfl⟩
    have hLQ : lastQ L Q0 = Late A (A + 1) (A + 1 + 1) 1 F.length (F ++ [-7]) := by rw [hL, hQ0, lastQ_join]; rfl
    have hLn : L.length = F.length + 1 := by rw [hL, joinQ_len, sts_len]; rfl
    have hQF : F ≠ [] → Q0 = Late A (A + 1) (A + 1 + 1) 0 (-1) [] := fun hne => by
      rw [hQ0]
      cases F with
      | nil => exact absurd rfl hne
      | cons x r => rfl
    rw [← hL, ← hQ0] at p6
    have P6 : Hid (Run (fun k => k < w.heap.size) L Q0 b 0 w6) := Lib.hid (by unfold Run; simpa [lastQ] using p6)
    have C6 := Lib.hid (C5.out.trans c6)
    have HL := Lib.hid hLn
    have HLQ := Lib.hid hLQ
    have HQF := Lib.hid hQF
    have lw6 := c6.size
    clear hL hQ0 p6 c6 C5 NW k50 k51 hLn hLQ hQF
    go_wp2_with fail
    have c7 : Ch Nil w6 (w6.alloc (.cells #[.slice a xs.length cap] 25)) := (Ch.refl _ _).alloc _
    have k7 : (w6.alloc (.cells #[.slice a xs.length cap] 25)).cell? ⟨w6.heap.size, 0, none⟩ = some (.slice a xs.length cap) := by rw [cell_fresh]; rfl
    generalize w6.alloc (.cells #[.slice a xs.length cap] 25) = w7 at c7 k7 ⊢
    have C7 := Lib.hid (C6.out.trans c7)
    have P7 := Lib.hid (Pg.kept P6.out c7)
    have hb7 := HS.out.ag (C7.out.ag (fun _ h => h) (fun _ _ e => e))
    have WR := Lib.hid (rowRef_of (B := w6.heap.size + 1) (w := w7) (a := some ⟨w6.heap.size, 0, none⟩) (cap := 1) (pl := [xs]) (.inr ⟨w6.heap.size, 0, rfl, by omega, fun i l hi => by
      have hl := (List.getElem?_eq_some_iff.1 hi).1
      simp at hl
      subst hl
      cases hi
      exact ⟨a, cap, k7, hb7.imp id (fun ⟨b, o, e, h1, h2⟩ => ⟨b, o, e, by omega, h2⟩)⟩⟩) (by simp) (fun l hl => by simp at hl; subst hl; omega))
    clear c7 k7 hb7 C6 P6
    refine WR.out.mono ?_
    rintro e w8 ⟨aw, cw, rfl, -, c8, -⟩
    rw [show flat [xs] = F by rw [HF.out]; simp [flat]]
    have C8 := Lib.hid (C7.out.trans c8)
    have P8 := Lib.hid (Pg.kept P7.out c8)
    clear c8 C7 P7 WR HF HS
    go_upto_region 11 with (fail)
    have kA : F ≠ [] → w8.cell? ⟨A + 1, 0, none⟩ = some (.int .i64 0) := fun hne => by
      obtain ⟨M, hM, -⟩ := Pg.state P8.out
      rw [List.take_zero, show lastQ [] Q0 = Q0 from rfl, HQF.out hne] at hM
      obtain ⟨ag, cg, h, -⟩ := hM
      exact h.pc
    by_cases hne : F = []
    have hz : ¬ (0 : Int) < (F.length : Int) := by rw [hne]; simp
    clear kA hne
    go_upto_region 13 with (fail)
    rotate_left
    have hz : (0 : Int) < (F.length : Int) := by have := List.length_pos_iff.2 hne; omega
    replace kA := kA hne
    clear hne
    go_upto_region 13 with (fail)
    clear kA
    all_goals
      clear HQF
      go_wp2
      go_loopw [9] (fun i wr => ∃ k : Nat, k ≤ 40 ∧ i = .int .i64 k ∧ Run (fun k => k < w.heap.size) L Q0 b k wr ∧ Ch (fun k => ¬ k < w.heap.size) w8 wr) (fun i _ => 40 - (intOf i).toNat)
      case atStart => exact ⟨0, by omega, rfl, P8.out, Ch.refl _ _⟩
      case round =>
        obtain ⟨k, hk, rfl, hp, hc9⟩ := hrel
        have HP := Lib.hid hp
        have HC := Lib.hid hc9
        clear hp hc9
        by_cases hlt : k < 40
        · have hkz : (k : Int) < (40 : Int) := by omega
          have NX := Lib.hid (Run.next HP.out (by rw [HL.out]; omega))
          go_wp2_with fail
          refine NX.out.mono ?_
          rintro e w9 ⟨rfl, p9, c9⟩
          have P9 := Lib.hid p9
          have C9 := Lib.hid (HC.out.trans c9)
          clear p9 c9 NX HP HC
          go_wp2
          go_roundw
          case rel => exact ⟨k + 1, by omega, by go_num, P9.out, C9.out⟩
          case measure => simp [intOf]; omega
        · obtain rfl : k = 40 := by omega
          have hP := HP.out
          unfold Run at hP
          rw [List.drop_eq_nil_of_le (by rw [HL.out]; omega), List.take_of_length_le (by rw [HL.out]; omega), HLQ.out] at hP
          obtain ⟨M, ⟨ag, cg, hlate, -⟩, -⟩ := Pg.state hP
          have x1 := hlate.pc
          have x2 := hlate.qc
          have D := Lib.hid (Pg.done hP)
          have HG := Lib.hid hlate
          clear hP HP hlate
          go_wp2_with fail
          refine D.out.mono ?_
          rintro e x3 ⟨rfl, d3⟩
          have G3 := HG.out.g.kept d3 (fun e => e) (fun _ _ e => e)
          have gc := G3.c
          rw [List.length_append, List.length_singleton] at gc
          obtain ⟨bg, rfl, -⟩ := G3.r.form (by rw [List.length_append]; simp)
          have gi := G3.r.cell F.length (by rw [List.length_append]; simp)
          rw [num_last] at gi
          have lcg := G3.r.len_cap
          rw [List.length_append, List.length_singleton] at lcg
          have E3 := Lib.hid (HC.out.trans (d3.mono (fun _ _ e => e.elim)))
          clear d3 G3 HG D HC
          have hq1 : ((F.length : Int) == (F.length : Int)) = true := by simp
          have hq2 : (((F.length : Int) + 1) == ((F.length : Int) + 1)) = true := by simp
          have hw : IntKind.i64.wrap ((F.length : Int) + 1) = (F.length : Int) + 1 := IntWalk.i64_in _ (by omega)
          have hlt1 : (F.length : Int) < (F.length : Int) + 1 := by omega
          have hlt0 : (0 : Int) ≤ (F.length : Int) := by omega
          simp only [List.isEmpty_nil]
          go_wp2
          go_ret
          exact ⟨rfl, (C8.out.then E3.out (fun i hi e => e hi)).below (Nat.le_refl _) (fun _ _ h => h.elim)⟩

theorem ProgLate_own : ownKnob Try.prog.godebug = none := by kernel_rfl
theorem ProgLate_laidOut : laidOutB Try.prog = true := by kernel_rfl

set_option maxRecDepth 100000 in
theorem ProgLate_lifted (os : Os) (started : os.Started) (H : Type) (enc : TypeId × Value → H) :
    ReturnsInHanded {} Try.checked os 5 .any (Rows.progLateSpec.pre6 enc Try.prog Try.f5 Rows.progLateRow.domain false) (Rows.progLateSpec.post enc Try.prog Try.f5 false true false false) := by
  refine returnsInHanded_of_change (C := Try.checked) ProgLate_own started (by kernel_rfl) Try.func5
    (ChangeSpec.witness6 (enc := enc) (C := Try.checked) false ⟨#[], #[.slice none 0 0], []⟩ 8 (by kernel_rfl) (by kernel_rfl) (by kernel_rfl) (by kernel_rfl)) ?_
  intro W base args ds gs before hval0 hW hcnd _
  have hval : ∀ (j : Nat) t v, Try.f5.params[j]? = some t → args[j]? = some v → Value.okWide Try.prog W .any base t v := hval0
  have hW' := hW
  obtain ⟨p, q, hA0, hV, rfl, hfz, hnd⟩ := hW
  have hA : DataW.TrodAll enc Try.prog W 0 (fun _ => true) true Try.f5.params.toList args.toList ds p := hA0
  rw [Try.params5] at hA hval
  obtain ⟨v0, vs0, d0, ds0, p0, q0, hargs, rfl, rfl, h0, r0⟩ := trodAll_cons hA
  obtain ⟨rfl, rfl, rfl⟩ := trodAll_nil r0
  obtain rfl : args = #[v0] := by cases args; simp_all
  obtain ⟨rfl, rfl⟩ := trodVars_none hV
  obtain ⟨a0, len0, cap0, rfl⟩ := okWide_slice Try.underlying25 (hval 0 25 v0 rfl rfl)
  have k0 := h0
  have lt0 : ∀ x ∈ p0, x.block < W.heap.size := by obtain ⟨m, hm⟩ := k0; exact DataW.trod_lt m _ _ _ hm
  obtain ⟨z0, w0⟩ : ∃ zs, IsRow .i64 W a0 len0 cap0 zs := by
    obtain ⟨fuel, hf⟩ := h0
    rcases open_ints Try.underlying25 Try.underlying3 (by kernel_rfl) hf with ⟨hcs, _⟩ | ⟨x, l, c, zs, hcs, _, hl, hm, hz, _, hcell, hwz⟩
    · simp [Value.cells] at hcs
      obtain ⟨rfl, rfl, rfl⟩ := hcs
      exact ⟨[], .inl ⟨rfl, rfl, rfl, rfl⟩⟩
    · simp [Value.cells] at hcs
      obtain ⟨rfl, rfl, rfl⟩ := hcs
      exact ⟨zs, .inr ⟨_, rfl, hl, hm, by simpa using hz, hcell, hwz⟩⟩
  clear hA0 hval0
  refine (ProgLate_walk a0 len0 cap0 z0 W w0).mono fun e W' ⟨he, bel⟩ => ?_
  subst he
  exact ⟨_, rfl, _, _, _, [], _, [], hW', trodAll_mk1 (shut_bool Try.underlying4 _), (trodAll_cons_mk (Below.trod ProgLate_laidOut (by kernel_rfl) (of_decide_eq_true (by kernel_rfl)) k0 bel lt0) trodAll_mk0), rfl, bel.frame _, fun h => by cases h⟩

theorem progLate_holds : Rows.ProgLateSaid :=
  OpenClaim.holds_of_wide 5 Try.f5 rfl rfl rfl rfl rfl rfl rfl ⟨rfl, rfl, rfl, rfl, rfl⟩ rfl rfl rfl rfl rfl (by kernel_rfl) Try.func5 (by kernel_rfl)
    (of_decide_eq_true (by kernel_rfl)) (by unfold Func.isWrapper; rw [if_neg (of_decide_eq_false (by kernel_rfl))]; exact ⟨rfl, rfl⟩)
    (fun os started H enc _ => ProgLate_lifted os started H enc)
end Go.Proofs.Ytjaalkjdpgnfjaa
