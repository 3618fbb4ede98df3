import Derived.Test.YtnbdafmjcmmfpaaGreatK24
import Derived.Test.YtnbdafmjcmmfpaaGreatCCaLaw
import Derived.Test.YtnbdafmjcmmfpaaGreatCCaAll3
import Derived.Test.YtnbdafmjcmmfpaaGreatCCaOnce
import Derived.Test.YtnbdafmjcmmfpaaGreatCIsRow
import Derived.Test.YtnbdafmjcmmfpaaGreatK02
import Derived.ProofKit
import Derived.OpenShut
import Derived.ChangeOld
import Derived.Below
/-
  However works step between each other, each number is given to one Schedule or Periodic alone, of Cancels of one number at most one answers Ok, and no more records are used than there are: CallsOnce; no condition.
-/
namespace Go.Proofs.YtnbdafmjcmmfpaaGreat
open Go.ChangeShapes Go.WideShapes Go.ChangeAt Go.RowKit Verge
set_option linter.unusedVariables false
set_option linter.unusedSimpArgs false
attribute [local go_sem] Oper.semAt_some
theorem fld_cl (kd id d p : Nat) (w : World) : (Instr.field 38 (clV kd id d p) 0).run Tryz.prog w = .ok (.int .i64 (kd : Nat)) w := by kernel_rfl
set_option maxRecDepth 100000 in
set_option maxHeartbeats 0 in
theorem CallsOnce_walk (x y : Int) (ad : Option Addr) (len cap : Nat) (pa : Option Addr) (pl pc : Nat) (zs : List Int) (wx : (Lit.int .u8 x).wf = true) (wy : (Lit.int .u8 y).wf = true) (w : World) (hv : IsTab [.i .i64, .i .u64, .i .u64, .i .u64] w ad len cap) (hp : IsRow .u8 w pa pl pc zs) :
    Calls Tryz.prog 3 #[.int .u8 x, .int .u8 y, .slice ad len cap, .slice pa pl pc] w fun e w' => e = .returned (.bool true) ∧ Below w.heap.size w w' := by
  have q1 : 0 ≤ x ∧ x ≤ 255 := by simpa [Lit.wf, IntKind.min, IntKind.max, IntKind.signed, IntKind.bits] using wx
  have q2 : 0 ≤ y ∧ y ≤ 255 := by simpa [Lit.wf, IntKind.min, IntKind.max, IntKind.signed, IntKind.bits] using wy
  clear wx wy
  obtain ⟨x, rfl⟩ : ∃ z : Nat, x = (z : Nat) := ⟨x.toNat, by omega⟩
  obtain ⟨y, rfl⟩ : ∃ z : Nat, y = (z : Nat) := ⟨y.toNat, by omega⟩
  obtain ⟨a, ha, haw⟩ : ∃ a : Nat, (1 ≤ a ∧ a ≤ 8) ∧ wrap64 (1 + (wrap64 (x : Int)).tmod 8) = (a : Int) := ⟨1 + x % 8, by omega, by rw [show wrap64 (x : Int) = (x : Int) by unfold wrap64; omega, Int.tmod_eq_emod_of_nonneg (by omega)]; unfold wrap64; omega⟩
  obtain ⟨b, hb, hbw⟩ : ∃ b : Nat, (1 ≤ b ∧ b ≤ 8) ∧ wrap64 (1 + (wrap64 (y : Int)).tmod 8) = (b : Int) := ⟨1 + y % 8, by omega, by rw [show wrap64 (y : Int) = (y : Int) by unfold wrap64; omega, Int.tmod_eq_emod_of_nonneg (by omega)]; unfold wrap64; omega⟩
  have AB := Lib.hid (And.intro ha hb)
  have AW := Lib.hid haw
  have BW := Lib.hid hbw
  have HV := Lib.hid hv
  have HP := Lib.hid hp
  have hsm := hv.small
  have hsm2 := hp.small
  clear q1 q2 ha hb haw hbw hv hp
  go_enter Tryz.func3, Tryz.ntmps3
  go_wp2_with fail
  refine (alive_any _).mono ?_
  rintro e w2 ⟨rfl, c2⟩
  have C2 := Lib.hid c2
  clear c2
  by_cases h1 : 40 < (len : Int)
  · go_wp2
    go_ret
    exact ⟨rfl, C2.out.below (Nat.le_refl _) (fun _ _ e => e.elim)⟩
  by_cases h2 : 400 < (pl : Int)
  · go_wp2
    go_ret
    exact ⟨rfl, C2.out.below (Nat.le_refl _) (fun _ _ e => e.elim)⟩
  have HL := Lib.hid (show len ≤ 40 ∧ pl ≤ 400 by omega)
  go_wp2_with fail
  rw [AW.out, BW.out]
  refine (plain16 a b _).mono ?_
  rintro e wb ⟨rfl, cb⟩
  have CW := Lib.hid (C2.out.trans cb)
  clear cb C2 BW h1 h2
  go_wp2_with fail
  refine (floorNew16 2 a b 4 1 8 (cf_rr AB.out) _).mono ?_
  rintro e wc ⟨E, rfl, hN, -, hb⟩
  have HN := Lib.hid hN
  have NA := Lib.hid (show E.N.n ≤ 64 ∧ 0 < E.N.n ∧ E.N.m = 2 ∧ E.N.n = a from by have := AB.out; rw [HN.out]; refine ⟨?_, ?_, rfl, rfl⟩ <;> (dsimp only; omega))
  have A0 := Lib.hid (Al.start hb NA.out.1)
  clear hb hN
  go_upto_region 10 with (fail)
  go_wp2
  go_loopw [11, 12, 13] (fun l at_ i wr => ∃ (k t : Nat), k ≤ pl ∧ i = .int .i64 k ∧ t ≤ k ∧ at_ = .int .i64 t ∧ Hid (OnIn E wb wr k l)) (fun _ _ i _ => pl - (intOf i).toNat)
  case atStart => exact ⟨0, 0, by omega, rfl, by omega, rfl, Lib.hid ⟨nilW, [], none, 0, rfl, by simp, fun j e => (by simp [OwnS] at e), Row.nil _ _ _ _, A0.out.withZ (fun j z => z.elim) (Ch.refl _ _) (fun j z => (by simp [OwnS] at z)), fun p hp => (by cases hp)⟩⟩
  case round =>
    obtain ⟨k, t, hk, rfl, ht, rfl, hO⟩ := hrel
    have HK := Lib.hid (And.intro hk ht)
    have OO := Lib.hid (show OnAt E wb wr k (3 * k) _ from hO.out)
    clear A0 hk ht hO
    by_cases hlt : k < pl
    · obtain ⟨px, rfl, hc, hwf⟩ := HP.out.item hlt
      obtain ⟨z0, z1⟩ := bounds_u8 hwf
      obtain ⟨pz, hpz⟩ : ∃ pz : Nat, zs.getD k 0 = (pz : Int) := ⟨(zs.getD k 0).toNat, by omega⟩
      rw [hpz] at hc z0 z1
      have hp8 : pz < 256 := by omega
      have hc' := (CW.out.trans OO.out.ch).keeps hc (fun e => e)
      have HC := Lib.hid hc
      have K4 := Lib.hid (show k ≤ 400 by have := HL.out; omega)
      have hkz : (k : Int) < (pl : Int) := by omega
      have hkz0 : (0 : Int) ≤ (k : Int) := by omega
      clear hwf hpz z0 z1 hc
      by_cases hb : pz < 60 ∧ t < len
      · have h60 : (pz : Int) < 60 := by omega
        have htl : (t : Int) < (len : Int) := by omega
        have ht0 : (0 : Int) ≤ (t : Int) := by omega
        obtain ⟨bz, rfl, c0, c1, c2, c3, m1, m2, m3, hcell⟩ := calls_at HV.out hb.2
        obtain ⟨x0, x1, x2, x3⟩ := hcell wr (CW.out.trans OO.out.ch)
        have MM := Lib.hid (And.intro m1 (And.intro m2 m3))
        have HB := Lib.hid hb
        clear m1 m2 m3 hcell hb
        by_cases hkd : 1 ≤ c0 ∧ c0 ≤ 5
        · obtain ⟨kd, rfl⟩ : ∃ kd : Nat, c0 = (kd : Nat) := ⟨c0.toNat, by omega⟩
          have KD := Lib.hid (show 1 ≤ kd ∧ kd ≤ 5 by omega)
          clear hkd
          obtain ⟨σ, ls, ra, rc, rfl, hll, hra, hrow, hal, hax⟩ := OO.out
          have AL := Lib.hid hal
          have AX := Lib.hid hax
          have RW := Lib.hid hrow
          have RA := Lib.hid (And.intro hll hra)
          clear hal hrow hll hra hax OO
          go_wp2_with fail
          clear x0 x1 x2 x3 hc'
          refine (AL.out.begin (th := 0) (no := t) (id := c1) (d := c2) (pd := c3) KD.out NA.out.2.1 MM.out.1 MM.out.2.1 MM.out.2.2 (by have := HL.out; have := HK.out; omega)).mono ?_
          rintro e wd ⟨X, rfl, h1, hz⟩
          obtain ⟨S, cS, nS⟩ := hz
          have CE := Lib.hid (show Ch Nil wd (wd.alloc (Obj.cells #[ptr X.kb] 33)) from (Ch.refl _ _).alloc _)
          have R3 := Lib.hid ((RW.out.kept cS (fun j hj => nS j hj)).kept CE.out (fun _ _ e => e))
          have AL3 := Lib.hid (h1.quiet CE.out)
          have hls : ls.length ≤ 1000000 := by have := RA.out.1; have := HL.out; have := HK.out; omega
          clear h1 cS nS
          go_wp2_with (at_builtin; refine append_row _ rfl _ _ _ rfl 33 (.pointer none) 1 8 Tryz.underlying32 (by kernel_rfl) rfl (by omega) (by omega) rfl R3.out hls wd.heap.size 1 [ptr X.kb] 33 rfl rfl (heap_alloc_new wd _) (by simp [Value.oneCell']) (wkP (ls ++ [(X, newW kd c1 c2 c3)])) (fun i hi => wkP_old _ _ (by omega)) (by intro j u hu; obtain rfl : j = 0 := (by cases j; rfl; simp at hu); simp at hu; subst hu; rw [Nat.mul_one, Nat.add_zero]; exact wkP_new _ _) _ rfl ?_)
          intro g cap' w' row ch at_ lt
          have hown : ∀ j, OwnS (some ⟨g, 0, none⟩) j → j = g := fun j e => by cases e; rfl
          have hsz : (wd.alloc (Obj.cells #[ptr X.kb] 33)).heap.size = wd.heap.size + 1 := by simp
          have at_ : OwnS ra g ∨ g = wd.heap.size + 1 := at_.imp (fun e => e) (fun e => by rw [e])
          have sz3 := AL3.out.m.c.size
          have AL4 := Lib.hid (AL3.out.withZ (Z' := OwnS (some ⟨g, 0, none⟩)) RA.out.2 ch (fun j z => by
            rw [hown j z]
            exact ⟨lt, at_.elim .inl (fun e => .inr (by omega))⟩))
          have R4 := Lib.hid row
          have G0 := Lib.hid (show wb.heap.size ≤ g from at_.elim (fun e => RA.out.2 g e) (fun e => by omega))
          clear row ch at_ lt hsz sz3 hown hls
          go_wp2
          go_roundw
          case rel =>
            refine ⟨k + 1, t + 1, by have := HK.out; omega, by go_num, by have := HK.out; omega, by go_num, Lib.hid ⟨σ, ls ++ [(X, newW kd c1 c2 c3)], some ⟨g, 0, none⟩, cap', by rw [List.length_append]; rfl, by rw [List.length_append]; have := RA.out.1; show ls.length + 1 ≤ k + 1; omega, fun j e => by cases e; exact G0.out, by rw [List.length_append]; exact R4.out, AL4.out.up (by omega), fun p hp => (List.mem_append.1 hp).elim (AX.out p) (fun e => by rw [List.mem_singleton] at e; subst e; exact ax_new _ _ _ _)⟩⟩
          case measure => simp [intOf]; omega
        · have NO := Lib.hid (show c0 < 1 ∨ 5 < c0 by omega)
          clear hkd
          go_wp2_with fail
          clear x0 x1 x2 x3 hc'
          refine (begin_no NO.out _ _).mono ?_
          rintro e wd ⟨rfl, cd⟩
          have AL4 := Lib.hid (OO.out.quiet cd)
          clear cd
          go_wp2
          go_roundw
          case rel => exact ⟨k + 1, t + 1, by have := HK.out; omega, by go_num, by have := HK.out; omega, by go_num, Lib.hid (AL4.out.up (by omega) (by omega))⟩
          case measure => simp [intOf]; omega
      · obtain ⟨ra, L, rc, rfl, hLk⟩ := OO.out.form
        go_upto_region 13 with (fail)
        go_cut [72] from 55 to 129 (fun c wc => c = .bool false ∧ wc = wr)
        case first =>
          by_cases h60 : (pz : Int) < 60
          · have htl : ¬ (t : Int) < (len : Int) := by omega
            go_wp2
            go_meet
            case rel => exact ⟨rfl, rfl⟩
          · go_wp2
            go_meet
            case rel => exact ⟨rfl, rfl⟩
        case rest =>
          obtain ⟨rfl, rfl⟩ := hcut
          clear hb
          go_upto_if 93 with (fail)
          go_cut [11] from 55 to 129 (fun l' wc2 => l' = .slice ra L rc ∧ Hid (OnAt E wb wc2 k (3 * k + 2) (.slice ra L rc)))
          case first =>
            by_cases h0 : 0 < L
            · obtain ⟨j, hj, hjm⟩ := tmod_nat pz L h0
              obtain ⟨g, b', rfl, hcell, hstep⟩ := OO.out.step (by have := K4.out; omega) hj
              have ST := Lib.hid hstep
              have h0z : (0 : Int) < (L : Int) := by omega
              have h0n : ¬ (L : Int) = 0 := by omega
              have j0 : (0 : Int) ≤ (j : Int) := by omega
              have j1 : (j : Int) < (L : Int) := by omega
              clear hstep
              go_wp2_with fail
              refine ST.out.mono ?_
              rintro e wd ⟨v, rfl, h2⟩
              have H2 := Lib.hid h2
              clear h2 hcell hc' hjm
              go_wp2
              go_meet
              case rel => exact ⟨rfl, H2⟩
            · have h0z : ¬ (0 : Int) < (L : Int) := by omega
              go_wp2
              go_meet
              case rel => exact ⟨rfl, Lib.hid (OO.out.up (Nat.le_refl _) (by omega))⟩
          case rest =>
            obtain ⟨rfl, h2⟩ := hcut
            clear OO hc'
            have hc' := (CW.out.trans h2.out.ch).keeps HC.out (fun e => e)
            go_wp2
            go_loopw [16] (fun q wq => ∃ t2 : Nat, t2 ≤ 2 ∧ q = .int .i64 t2 ∧ Hid (OnAt E wb wq k (3 * k + 2) (.slice ra L rc))) (fun q _ => 2 - (intOf q).toNat)
            case atStart => exact ⟨0, by omega, rfl, h2⟩
            case round =>
              clear h2 hc'
              obtain ⟨t2, ht2, rfl, hO2⟩ := hrel
              have hc' := (CW.out.trans hO2.out.ch).keeps HC.out (fun e => e)
              by_cases h250 : (250 : Int) < (pz : Int)
              · by_cases hq : t2 < 2
                · have hqz : (t2 : Int) < 2 := by omega
                  go_wp2_with fail
                  clear hc'
                  refine (hO2.out.shard t2 (by rw [NA.out.2.2.1]; exact hq)).mono ?_
                  rintro e wd ⟨rfl, h3⟩
                  have H3 := Lib.hid h3
                  clear h3 hO2
                  go_wp2_with fail
                  refine (H3.out.pop (by have := K4.out; omega) t2 (by rw [NA.out.2.2.1]; exact hq)).mono ?_
                  rintro e we ⟨v, rfl, h4⟩
                  have H4 := Lib.hid h4
                  clear h4 H3
                  go_wp2
                  go_roundw
                  case rel => exact ⟨t2 + 1, by omega, by go_num, H4⟩
                  case measure => simp [intOf]; omega
                · have hqz : ¬ (t2 : Int) < 2 := by omega
                  go_wp2_with fail
                  refine hO2.out.slabOf.mono ?_
                  rintro e wd ⟨rfl, h3⟩
                  have H3 := Lib.hid h3
                  clear h3 hO2 hc'
                  go_wp2_with fail
                  refine H3.out.count.mono ?_
                  rintro e we ⟨⟨cc, rfl, hcc⟩, h4⟩
                  have H4 := Lib.hid h4
                  clear h4 H3
                  have hcz : ¬ (a : Int) < (cc : Int) := by have := NA.out.2.2.2; omega
                  go_upto_if 129 with (fail)
                  rw [AW.out]
                  go_wp2
                  go_roundw
                  case rel => exact ⟨k + 1, t, by omega, by go_num, by have := HK.out; omega, rfl, Lib.hid (H4.out.up (by omega) (by omega))⟩
                  case measure => simp [intOf]; omega
              · have hq2 := True.intro
                go_wp2_with fail
                refine hO2.out.slabOf.mono ?_
                rintro e wd ⟨rfl, h3⟩
                have H3 := Lib.hid h3
                clear h3 hO2 hc'
                go_wp2_with fail
                refine H3.out.count.mono ?_
                rintro e we ⟨⟨cc, rfl, hcc⟩, h4⟩
                have H4 := Lib.hid h4
                clear h4 H3
                have hcz : ¬ (a : Int) < (cc : Int) := by have := NA.out.2.2.2; omega
                go_upto_if 129 with (fail)
                rw [AW.out]
                go_wp2
                go_roundw
                case rel => exact ⟨k + 1, t, by omega, by go_num, by have := HK.out; omega, rfl, Lib.hid (H4.out.up (by omega) (by omega))⟩
                case measure => simp [intOf]; omega
    · have hkz : ¬ (k : Int) < (pl : Int) := by omega
      have K4 := Lib.hid (show k ≤ 400 by have := HL.out; have := HK.out; omega)
      obtain ⟨σ0, ls0, ra, rc, L, rfl, hg⟩ := OO.out.maps K4.out
      have G0 := Lib.hid hg
      have L4 := Lib.hid hg.l40
      have hL4 : L ≤ 400 := hg.l40
      clear hg OO hlt
      have hmm := @run_makeMap Tryz.prog
      go_upto_region 27 with (fail)
      clear hmm
      generalize (wr.alloc (.map #[] 0)).alloc (.map #[] 0) = w3 at G0 ⊢
      generalize wr.heap.size = m1 at G0 ⊢
      go_wp2
      go_loopw [19] (fun i wq => ∃ (i0 : Nat) (σ : Wd) (ls : List (Mx × Wk)), i0 ≤ L ∧ i = .int .i64 i0 ∧ Hid (Gs E wb wq σ (3 * k + 160 * i0) ls ra rc L i0 m1 (m1 + 1))) (fun i _ => L - (intOf i).toNat)
      case atStart => exact ⟨0, σ0, ls0, by omega, rfl, G0⟩
      case round =>
        clear G0 σ0 ls0
        obtain ⟨i0, σ, ls, hi0, rfl, hG⟩ := hrel
        by_cases hlt : i0 < L
        · have hz : (i0 : Int) < (L : Int) := by omega
          have hz0 : (0 : Int) ≤ (i0 : Int) := by omega
          obtain ⟨y0, hy0, ht0⟩ := hG.out.start (by have := K4.out; have := L4.out; omega) hlt
          have T0 := Lib.hid ht0
          clear ht0 hG
          go_wp2
          go_loopw [20] (fun q wq => ∃ t y : Nat, t + y ≤ 80 ∧ q = .int .i64 t ∧ Hid (Gt E wb wq (3 * k + 160 * i0 + 2 * t) ra rc L i0 m1 (m1 + 1) y)) (fun q _ => 80 - (intOf q).toNat)
          case atStart => exact ⟨0, y0, by omega, rfl, T0⟩
          case round =>
            clear T0
            obtain ⟨t, y, hty, rfl, hT⟩ := hrel
            have ht3 : (t : Int) < 3000 := by omega
            cases y with
            | succ y =>
              obtain ⟨g, b', rfl, hc, hstep⟩ := hT.out.step (by have := K4.out; have := L4.out; omega) hlt
              have ST := Lib.hid hstep
              clear hstep hT
              go_wp2_with fail
              refine ST.out.mono ?_
              rintro e wd ⟨rfl, h2⟩
              have H2 := Lib.hid h2
              clear h2 hc ST
              go_wp2
              go_roundw
              case rel => exact ⟨t + 1, y, by omega, by go_num, Lib.hid (by rw [show 3 * k + 160 * i0 + 2 * (t + 1) = 3 * k + 160 * i0 + 2 * t + 2 by omega]; exact H2.out)⟩
              case measure => simp [intOf]; omega
            | zero =>
              obtain ⟨g, b', rfl, hc, hstep⟩ := hT.out.done hlt
              have ST := Lib.hid hstep
              clear hstep hT
              go_wp2_with fail
              refine ST.out.mono ?_
              rintro e wd ⟨rfl, σ2, ls2, p, rfl, hp, ho, hg2⟩
              have G2 := Lib.hid (hg2.up (n' := 3 * k + 160 * (i0 + 1)) (by omega))
              have PP := Lib.hid (And.intro hp ho)
              clear hg2 hp ho hc ST
              have hc := G2.out.cellAt PP.out.1
              go_wp2_with fail
              clear hc
              refine (G2.out.answer PP.out.1 PP.out.2).mono ?_
              rintro e we ⟨rfl, hg3, -⟩
              have CL := Lib.hid (show Ch Nil we (we.alloc (Obj.cells #[.int .i64 (p.2.a.e : Nat), .bool p.2.a.ok, .int .u64 (p.2.a.id : Nat), .int .u64 (p.2.a.g : Nat), .slice none 0 0] 51)) from (Ch.refl _ _).alloc _)
              have YB : Hid (IsVs (we.alloc (Obj.cells #[.int .i64 (p.2.a.e : Nat), .bool p.2.a.ok, .int .u64 (p.2.a.id : Nat), .int .u64 (p.2.a.g : Nat), .slice none 0 0] 51)) we.heap.size (anL p.2.a)) := Lib.hid (IsVs.new we (anL p.2.a) 51)
              have H3 := Lib.hid (hg3.quiet CL.out)
              have LTB := Lib.hid hg3.lt
              have IDS := Lib.hid (hg3.id (by have := K4.out; have := L4.out; omega) PP.out.1 PP.out.2)
              clear hg3
              go_upto_region 34 with (fail)
              generalize we.alloc (Obj.cells #[.int .i64 (p.2.a.e : Nat), .bool p.2.a.ok, .int .u64 (p.2.a.id : Nat), .int .u64 (p.2.a.g : Nat), .slice none 0 0] 51) = wm at H3 YB ⊢
              obtain ⟨B, hB⟩ : ∃ B, B = we.heap.size := ⟨_, rfl⟩
              rw [← hB] at YB LTB ⊢
              clear hB CL
              obtain ⟨y0, y1, y2, y3, y4⟩ := YB.out.cells5
              clear G2
              cases hok : p.2.a.ok with
              | false =>
                rw [hok] at y1
                have G4 := Lib.hid (H3.out.next PP.out.1 PP.out.2 (.inl hok))
                clear hok H3
                go_wp2
                go_roundw
                case rel => exact ⟨i0 + 1, σ2, ls2, by omega, by go_num, G4⟩
                case measure => simp [intOf]; omega
              | true =>
                rw [hok] at y1
                rw [IDS.out.2 hok] at y0
                have OK := Lib.hid hok
                clear hok
                have hc := H3.out.cellAt PP.out.1
                go_wp2_with fail
                clear hc y0 y1 y2 y3 y4
                refine (H3.out.call PP.out.1).mono ?_
                rintro e wf ⟨rfl, hg4, c4⟩
                have H4 := Lib.hid hg4
                have Y4 := Lib.hid (YB.out.kept c4 (fun e => e))
                clear hg4 c4 H3 YB
                obtain ⟨y0, y1, y2, y3, y4⟩ := Y4.out.cells5
                rw [OK.out] at y1
                have hc := H4.out.cellAt PP.out.1
                have hfl := fld_cl p.2.kd p.2.id p.2.d p.2.p
                by_cases hk2 : p.2.kd ≤ 2
                · have hkz : (p.2.kd : Int) ≤ 2 := by omega
                  obtain ⟨v, hv, lk, w', up, hg5, c5⟩ := H4.out.put1 (by have := K4.out; have := L4.out; omega) hlt PP.out.1 PP.out.2 hk2 OK.out
                  rw [show ((v + 1 : Nat) : Int) = (v : Int) + 1 by omega] at up
                  have H5 := Lib.hid hg5
                  have Y5 := Lib.hid (Y4.out.kept c5 (fun e => by have e : B = m1 := e; have := LTB.out; omega))
                  clear hg5 c5 H4 Y4 hc
                  have hc := H5.out.cellAt PP.out.1
                  obtain ⟨x0, x1, x2, x3, x4⟩ := Y5.out.cells5
                  rw [OK.out] at x1
                  go_wp2_with fail
                  clear hc y0 y1 y2 y3 y4 x0 x1 x2 x3 x4 lk up
                  refine (H5.out.call PP.out.1).mono ?_
                  rintro e wg ⟨rfl, hg6, c6⟩
                  have H6 := Lib.hid hg6
                  clear hg6 c6 H5
                  have k4 : ((p.2.kd : Int) == 4) = false := by rw [beq_eq_false_iff_ne]; omega
                  go_wp2
                  go_roundw
                  case rel => exact ⟨i0 + 1, σ2, ls2, by omega, by go_num, H6⟩
                  case measure => simp [intOf]; omega
                · have hkz : ¬ (p.2.kd : Int) ≤ 2 := by omega
                  go_wp2_with fail
                  clear hc y0 y1 y2 y3 y4
                  refine (H4.out.call PP.out.1).mono ?_
                  rintro e wg ⟨rfl, hg6, c6⟩
                  have H6 := Lib.hid hg6
                  have Y6 := Lib.hid (Y4.out.kept c6 (fun e => e))
                  clear hg6 c6 H4 Y4
                  by_cases hk4 : p.2.kd = 4
                  · have k4 : ((p.2.kd : Int) == 4) = true := by rw [beq_iff_eq]; omega
                    obtain ⟨v, hv, lk, w', up, hg7, c7⟩ := H6.out.put2 (by have := K4.out; have := L4.out; omega) hlt PP.out.1 PP.out.2 hk4 OK.out
                    rw [show ((v + 1 : Nat) : Int) = (v : Int) + 1 by omega] at up
                    have H7 := Lib.hid hg7
                    clear hg7 c7 H6 hk4 hkz
                    obtain ⟨y0, y1, y2, y3, y4⟩ := Y6.out.cells5
                    go_wp2
                    go_roundw
                    case rel => exact ⟨i0 + 1, σ2, ls2, by omega, by go_num, H7⟩
                    case measure => simp [intOf]; omega
                  · have k4 : ((p.2.kd : Int) == 4) = false := by rw [beq_eq_false_iff_ne]; omega
                    have H7 := Lib.hid (H6.out.next PP.out.1 PP.out.2 (.inr ⟨hk2, hk4⟩))
                    clear H6 hk4 hkz
                    go_wp2
                    go_roundw
                    case rel => exact ⟨i0 + 1, σ2, ls2, by omega, by go_num, H7⟩
                    case measure => simp [intOf]; omega
        · have hz : ¬ (i0 : Int) < (L : Int) := by omega
          have G5 : Hid (Gs E wb wr σ (3 * k + 160 * L) ls ra rc L L m1 (m1 + 1)) := Lib.hid (by have h := hG.out; have e : i0 = L := (by omega); rw [e] at h; exact h)
          clear hG
          go_wp2
          go_loopw [23] (fun j wq => ∃ j0 : Nat, j0 ≤ L ∧ j = .int .i64 j0 ∧ Hid (Gs E wb wq σ (3 * k + 160 * L) ls ra rc L L m1 (m1 + 1))) (fun j _ => L - (intOf j).toNat)
          case atStart => exact ⟨0, by omega, rfl, G5⟩
          case round =>
            clear G5
            obtain ⟨j0, hj0, rfl, hG5⟩ := hrel
            by_cases hj : j0 < L
            · have hjz : (j0 : Int) < (L : Int) := by omega
              have hjz0 : (0 : Int) ≤ (j0 : Int) := by omega
              obtain ⟨g, p, rfl, hp, hc⟩ := hG5.out.at hj
              have PP := Lib.hid (And.intro hp (hG5.out.o j0 p hj hp))
              clear hp
              go_wp2_with fail
              clear hc
              refine (hG5.out.answer PP.out.1 PP.out.2).mono ?_
              rintro e we ⟨rfl, hg3, -⟩
              have CL := Lib.hid (show Ch Nil we (we.alloc (Obj.cells #[.int .i64 (p.2.a.e : Nat), .bool p.2.a.ok, .int .u64 (p.2.a.id : Nat), .int .u64 (p.2.a.g : Nat), .slice none 0 0] 51)) from (Ch.refl _ _).alloc _)
              have YB : Hid (IsVs (we.alloc (Obj.cells #[.int .i64 (p.2.a.e : Nat), .bool p.2.a.ok, .int .u64 (p.2.a.id : Nat), .int .u64 (p.2.a.g : Nat), .slice none 0 0] 51)) we.heap.size (anL p.2.a)) := Lib.hid (IsVs.new we (anL p.2.a) 51)
              have H3 := Lib.hid (hg3.quiet CL.out)
              have LTB := Lib.hid hg3.lt
              have IDS := Lib.hid (hg3.id (by have := K4.out; have := L4.out; omega) PP.out.1 PP.out.2)
              clear hg3
              go_upto_region 44 with (fail)
              generalize we.alloc (Obj.cells #[.int .i64 (p.2.a.e : Nat), .bool p.2.a.ok, .int .u64 (p.2.a.id : Nat), .int .u64 (p.2.a.g : Nat), .slice none 0 0] 51) = wm at H3 YB ⊢
              obtain ⟨B, hB⟩ : ∃ B, B = we.heap.size := ⟨_, rfl⟩
              rw [← hB] at YB LTB ⊢
              clear hB CL
              obtain ⟨y0, y1, y2, y3, y4⟩ := YB.out.cells5
              clear hG5
              obtain ⟨v1, hv1, l1⟩ := H3.out.end1 (by have := K4.out; have := L4.out; omega) p.2.a.id IDS.out.1
              obtain ⟨v2, hv2, l2⟩ := H3.out.end2 (by have := K4.out; have := L4.out; omega) p.2.a.id IDS.out.1
              have d1 : ¬ (1 : Int) < (v1 : Int) := by omega
              have d2 : ¬ (1 : Int) < (v2 : Int) := by omega
              go_wp2
              go_roundw
              case rel => exact ⟨j0 + 1, by omega, by go_num, H3⟩
              case measure => simp [intOf]; omega
            · have hjz : ¬ (j0 : Int) < (L : Int) := by omega
              go_wp2_with fail
              refine hG5.out.inside.mono ?_
              rintro e wd ⟨rfl, c5⟩
              have C5 := Lib.hid (CW.out.trans c5)
              clear c5 hG5
              go_wp2
              go_ret
              exact ⟨rfl, C5.out.below (Nat.le_refl _) (fun _ _ e => e.elim)⟩

theorem CallsOnce_own : ownKnob Tryz.prog.godebug = none := by kernel_rfl
theorem CallsOnce_laidOut : laidOutB Tryz.prog = true := by kernel_rfl

set_option maxRecDepth 100000 in
theorem CallsOnce_lifted (os : Os) (started : os.Started) (H : Type) (enc : TypeId × Value → H) :
    ReturnsInHanded {} Tryz.checked os 3 .any (Rows.callsOnceSpec.pre6 enc Tryz.prog Tryz.f3 Rows.callsOnceRow.domain false) (Rows.callsOnceSpec.post enc Tryz.prog Tryz.f3 false true false false) := by
  refine returnsInHanded_of_change (C := Tryz.checked) CallsOnce_own started (by kernel_rfl) Tryz.func3
    (ChangeSpec.witness6 (enc := enc) (C := Tryz.checked) false ⟨#[], #[.int .u8 0, .int .u8 0, .slice none 0 0, .slice none 0 0], []⟩ 8 (by kernel_rfl) (by kernel_rfl) (by kernel_rfl) (by kernel_rfl)) ?_
  intro W base args ds gs before hval0 hW hcnd _
  have hval : ∀ (j : Nat) t v, Tryz.f3.params[j]? = some t → args[j]? = some v → Value.okWide Tryz.prog W .any base t v := hval0
  have hW' := hW
  obtain ⟨p, q, hA0, hV, rfl, hfz, hnd⟩ := hW
  have hA : DataW.TrodAll enc Tryz.prog W 0 (fun _ => true) true Tryz.f3.params.toList args.toList ds p := hA0
  rw [Tryz.params3] at hA hval
  obtain ⟨v0, vs0, d0, ds0, p0, q0, hargs, rfl, rfl, h0, r0⟩ := trodAll_cons hA
  obtain ⟨v1, vs1, d1, ds1, p1, q1, rfl, rfl, rfl, h1, r1⟩ := trodAll_cons r0
  obtain ⟨v2, vs2, d2, ds2, p2, q2, rfl, rfl, rfl, h2, r2⟩ := trodAll_cons r1
  obtain ⟨v3, vs3, d3, ds3, p3, q3, rfl, rfl, rfl, h3, r3⟩ := trodAll_cons r2
  obtain ⟨rfl, rfl, rfl⟩ := trodAll_nil r3
  obtain rfl : args = #[v0, v1, v2, v3] := by cases args; simp_all
  obtain ⟨rfl, rfl⟩ := trodVars_none hV
  obtain ⟨a0, rfl, rfl, rfl, w0⟩ := open_int Tryz.underlying5 (hval 0 5 v0 rfl rfl) h0
  obtain ⟨a1, rfl, rfl, rfl, w1⟩ := open_int Tryz.underlying5 (hval 1 5 v1 rfl rfl) h1
  obtain ⟨a2, len2, cap2, rfl⟩ := okWide_slice Tryz.underlying22 (hval 2 22 v2 rfl rfl)
  have k2 := h2
  have lt2 : ∀ x ∈ p2, x.block < W.heap.size := by obtain ⟨m, hm⟩ := k2; exact DataW.trod_lt m _ _ _ hm
  have w2 : IsTab [.i .i64, .i .u64, .i .u64, .i .u64] W a2 len2 cap2 := by
    obtain ⟨fuel, hf⟩ := h2
    exact open_tab _ Tryz.underlying22 Tryz.underlying38 (by kernel_rfl) (by kernel_rfl) hf
  obtain ⟨a3, len3, cap3, rfl⟩ := okWide_slice Tryz.underlying23 (hval 3 23 v3 rfl rfl)
  have k3 := h3
  have lt3 : ∀ x ∈ p3, x.block < W.heap.size := by obtain ⟨m, hm⟩ := k3; exact DataW.trod_lt m _ _ _ hm
  obtain ⟨z3, w3⟩ : ∃ zs, IsRow .u8 W a3 len3 cap3 zs := by
    obtain ⟨fuel, hf⟩ := h3
    rcases open_ints Tryz.underlying23 Tryz.underlying5 (by kernel_rfl) hf with ⟨hcs, _⟩ | ⟨x, l, c, zs, hcs, _, hl, hm, hz, _, hcell, hwz⟩
    · simp [Value.cells] at hcs
      obtain ⟨rfl, rfl, rfl⟩ := hcs
      exact ⟨[], .inl ⟨rfl, rfl, rfl, rfl⟩⟩
    · simp [Value.cells] at hcs
      obtain ⟨rfl, rfl, rfl⟩ := hcs
      exact ⟨zs, .inr ⟨_, rfl, hl, hm, by simpa using hz, hcell, hwz⟩⟩
  clear hA0 hval0
  refine (CallsOnce_walk a0 a1 a2 len2 cap2 a3 len3 cap3 z3 w0 w1 W w2 w3).mono fun e W' ⟨he, bel⟩ => ?_
  subst he
  exact ⟨_, rfl, _, _, _, [], _, [], hW', trodAll_mk1 (shut_bool Tryz.underlying4 _), (trodAll_cons_mk (shut_int Tryz.underlying5 w0) (trodAll_cons_mk (shut_int Tryz.underlying5 w1) (trodAll_cons_mk (Below.trod CallsOnce_laidOut (by kernel_rfl) (of_decide_eq_true (by kernel_rfl)) k2 bel lt2) (trodAll_cons_mk (Below.trod CallsOnce_laidOut (by kernel_rfl) (of_decide_eq_true (by kernel_rfl)) k3 bel lt3) trodAll_mk0)))), rfl, bel.frame _, fun h => by cases h⟩

theorem callsOnce_holds : Rows.CallsOnceSaid :=
  OpenClaim.holds_of_wide 3 Tryz.f3 rfl rfl rfl rfl rfl rfl rfl ⟨rfl, rfl, rfl, rfl, rfl⟩ rfl rfl rfl rfl rfl (by kernel_rfl) Tryz.func3 (by kernel_rfl)
    (of_decide_eq_true (by kernel_rfl)) (by unfold Func.isWrapper; rw [if_neg (of_decide_eq_false (by kernel_rfl))]; exact ⟨rfl, rfl⟩)
    (fun os started H enc _ => CallsOnce_lifted os started H enc)
end Go.Proofs.YtnbdafmjcmmfpaaGreat
