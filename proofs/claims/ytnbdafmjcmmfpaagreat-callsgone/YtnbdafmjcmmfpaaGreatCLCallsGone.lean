import Derived.Test.YtnbdafmjcmmfpaaGreatCCaGone
import Derived.Test.YtnbdafmjcmmfpaaGreatCCaSee
import Derived.ProofKit
import Derived.OpenShut
import Derived.ChangeOld
import Derived.Below
/-
  Proved: for every room, ring, deadline and period the statement CallsGone returns true: a timer that is scheduled and cancelled leaves its record free, the count as it was, its task in the ring; who asks for it then is told no. Conditions: none.
-/
namespace Go.Proofs.YtnbdafmjcmmfpaaGreat
open Go.ChangeShapes Go.WideShapes Go.ChangeAt Go.RowKit Verge
set_option linter.unusedVariables false
set_option linter.unusedSimpArgs false
attribute [local go_sem] Oper.semAt_some
/-- what a law's walk leaves -/
abbrev Ends (w : World) (e : Ending) (w' : World) : Prop := e = .returned (.bool true) ∧ Below w.heap.size w w'
theorem cf_ab {a b : Nat} (h : (1 ≤ a ∧ a ≤ 8) ∧ 2 ≤ b ∧ b ≤ 9) : cfOk ⟨2, a, b, 4, 1, 8⟩ := by
  intro i hi
  rcases lt6 hi with rfl | rfl | rfl | rfl | rfl | rfl <;> first | (simp [numC, limC]; done) | (simp [numC, limC]; omega)
set_option maxRecDepth 100000 in
set_option maxHeartbeats 0 in
theorem CallsGone_walk (x y d p : Int) (w1 : (Lit.int .u8 x).wf = true) (w2 : (Lit.int .u8 y).wf = true) (w3 : (Lit.int .u64 d).wf = true) (w4 : (Lit.int .u64 p).wf = true) (w : World) :
    Calls Tryz.prog 7 #[.int .u8 x, .int .u8 y, .int .u64 d, .int .u64 p] w fun e w' => e = .returned (.bool true) ∧ Below w.heap.size w w' := by
  have q1 : 0 ≤ x ∧ x ≤ 255 := by simpa [Lit.wf, IntKind.min, IntKind.max, IntKind.signed, IntKind.bits] using w1
  have q2 : 0 ≤ y ∧ y ≤ 255 := by simpa [Lit.wf, IntKind.min, IntKind.max, IntKind.signed, IntKind.bits] using w2
  have q3 : 0 ≤ d ∧ d ≤ 18446744073709551615 := by simpa [Lit.wf, IntKind.min, IntKind.max, IntKind.signed, IntKind.bits] using w3
  have q4 : 0 ≤ p ∧ p ≤ 18446744073709551615 := by simpa [Lit.wf, IntKind.min, IntKind.max, IntKind.signed, IntKind.bits] using w4
  clear w1 w2 w3 w4
  obtain ⟨x, rfl⟩ : ∃ z : Nat, x = (z : Nat) := ⟨x.toNat, by omega⟩
  obtain ⟨y, rfl⟩ : ∃ z : Nat, y = (z : Nat) := ⟨y.toNat, by omega⟩
  obtain ⟨d, rfl⟩ : ∃ z : Nat, d = (z : Nat) := ⟨d.toNat, by omega⟩
  obtain ⟨p, rfl⟩ : ∃ z : Nat, p = (z : Nat) := ⟨p.toNat, by omega⟩
  have hd : d < 18446744073709551616 := by omega
  have hp : p < 18446744073709551616 := by omega
  obtain ⟨a, ha, haw⟩ : ∃ a : Nat, (1 ≤ a ∧ a ≤ 8) ∧ wrap64 (1 + (wrap64 (x : Int)).tmod 8) = (a : Int) := ⟨1 + x % 8, by omega, by rw [show wrap64 (x : Int) = (x : Int) by unfold wrap64; omega, Int.tmod_eq_emod_of_nonneg (by omega)]; unfold wrap64; omega⟩
  obtain ⟨b, hb, hbw⟩ : ∃ b : Nat, (2 ≤ b ∧ b ≤ 9) ∧ wrap64 (2 + (wrap64 (y : Int)).tmod 8) = (b : Int) := ⟨2 + y % 8, by omega, by rw [show wrap64 (y : Int) = (y : Int) by unfold wrap64; omega, Int.tmod_eq_emod_of_nonneg (by omega)]; unfold wrap64; omega⟩
  have AB := Lib.hid (And.intro ha hb)
  have AW := Lib.hid haw
  have BW := Lib.hid hbw
  clear q1 q2 q3 q4 ha hb haw hbw
  have HD := Lib.hid (And.intro hd hp)
  go_enter Tryz.func7, Tryz.ntmps7
  go_wp2_with fail
  refine (alive_any _).mono ?_
  rintro e wa ⟨rfl, c1⟩
  have C1 := Lib.hid c1
  clear c1
  go_wp2_with fail
  rw [AW.out, BW.out]
  refine (plain16 a b _).mono ?_
  rintro e wb ⟨rfl, c2⟩
  have C2 := Lib.hid (C1.out.trans c2)
  clear c2 C1 AW BW
  go_wp2_with fail
  refine (floorNew16 2 a b 4 1 8 (cf_ab AB.out) _).mono ?_
  rintro e wc ⟨E, rfl, hN, hlo, hb⟩
  have HB := Lib.hid hb
  have HN := Lib.hid hN
  clear hb hN hlo
  by_cases hgood : 0 < p ∧ d + p ≤ 18446744073709551615
  · have hz : (0 : Int) < (p : Int) := by omega
    have hle : (d : Int) ≤ 18446744073709551615 - (p : Int) := by omega
    obtain ⟨k1, hp1, ha1⟩ := path_new (N := ⟨a, b, 2⟩) 2 0 d p (by have := AB.out; show a ≤ 64; omega) (by have := AB.out; show 0 < a; omega) (by have := AB.out; show 0 < b; omega) (by show 0 < 2; omega) (.inr ⟨rfl, by omega, by omega⟩)
    obtain ⟨k2, hp2, ha2⟩ := gone_cancel (N := ⟨a, b, 2⟩) (by have := AB.out; show 0 < a; omega) p ⟨64, 0, 1, d, p⟩
    have P1 := Lib.hid (And.intro hp1 ha1)
    have P2 := Lib.hid (And.intro hp2 ha2)
    have NA := Lib.hid (show E.N.n ≤ 64 ∧ 0 < E.N.n ∧ E.N.m = 2 ∧ E.N.r = b from by have := AB.out; rw [HN.out]; refine ⟨?_, ?_, rfl, rfl⟩ <;> (dsimp only; omega))
    clear hp1 ha1 hp2 ha2
    obtain ⟨S1, s1, s2, s3⟩ := HB.out.re
    have CA := Lib.hid (show Ch Nil wc (wc.alloc (Obj.cells #[.int .i64 (2 : Int), .int .u64 (0 : Int), .int .u64 (d : Nat), .int .u64 (p : Nat)] 38)) from (Ch.refl _ _).alloc _)
    have BC : Hid (IsVs (wc.alloc (Obj.cells #[.int .i64 (2 : Int), .int .u64 (0 : Int), .int .u64 (d : Nat), .int .u64 (p : Nat)] 38)) wc.heap.size [.int .i64 (2 : Int), .int .u64 (0 : Int), .int .u64 (d : Nat), .int .u64 (p : Nat)]) := Lib.hid (IsVs.new wc [.int .i64 (2 : Int), .int .u64 (0 : Int), .int .u64 (d : Nat), .int .u64 (p : Nat)] 38)
    have B4 := Lib.hid (s3 _ CA.out)
    have S1' := Lib.hid (And.intro s1 s2)
    clear s1 s2 s3
    go_upto_region 9 with (fail)
    generalize wc.alloc (Obj.cells #[.int .i64 (2 : Int), .int .u64 (0 : Int), .int .u64 (d : Nat), .int .u64 (p : Nat)] 38) = w4 at BC CA B4 ⊢
    obtain ⟨C, hC⟩ : ∃ C, C = wc.heap.size := ⟨_, rfl⟩
    rw [← hC] at BC ⊢
    have HC := Lib.hid (show ¬ S1 C ∧ C < w4.heap.size from ⟨fun e => by have := S1'.out.1 C e; omega, BC.out.lt⟩)
    clear hC hz hle
    obtain ⟨z0, z1, z2, z3⟩ := BC.out.cells4
    go_wp2_with fail
    clear z0 z1 z2 z3
    have RO := run_of (E := E) (kd := 2) (id := 0) (d := d) (p := p) (m := 13) ⟨by omega, by omega⟩ B4.out (by omega) NA.out.1 NA.out.2.1 (by omega) HD.out.1 HD.out.2 (by rw [HN.out]; exact P1.out.1) (by omega)
    rw [P1.out.2] at RO
    refine RO.mono ?_
    clear RO
    rintro e w5 ⟨rfl, h5⟩
    obtain ⟨S2, t1, t2, t3⟩ := h5.re
    have CB := Lib.hid (show Ch Nil w5 (w5.alloc (Obj.cells #[.int .i64 (0 : Int), .bool true, .int .u64 (64 : Int), .int .u64 (1 : Int), .slice none 0 0] 51)) from (Ch.refl _ _).alloc _)
    have BA : Hid (IsVs (w5.alloc (Obj.cells #[.int .i64 (0 : Int), .bool true, .int .u64 (64 : Int), .int .u64 (1 : Int), .slice none 0 0] 51)) w5.heap.size [.int .i64 (0 : Int), .bool true, .int .u64 (64 : Int), .int .u64 (1 : Int), .slice none 0 0]) := Lib.hid (IsVs.new w5 (anL ⟨0, true, 64, 1⟩) 51)
    have B6 := Lib.hid (t3 _ CB.out)
    have BC6 := Lib.hid ((BC.out.kept h5.c HC.out.1).kept CB.out (fun e => e))
    have S2' := Lib.hid (And.intro t1 t2)
    have H5 := Lib.hid h5
    have HC2 := Lib.hid (show ¬ S2 C ∧ C < w5.heap.size from ⟨fun e => (t2 C e).elim HC.out.1 (fun q => by have := HC.out.2; omega), by have := h5.c.size; have := HC.out.2; omega⟩)
    clear t1 t2 t3 h5 P1
    go_upto_region 10 with (fail)
    generalize w5.alloc (Obj.cells #[.int .i64 (0 : Int), .bool true, .int .u64 (64 : Int), .int .u64 (1 : Int), .slice none 0 0] 51) = w6 at BA CB B6 BC6 ⊢
    obtain ⟨A, hA⟩ : ∃ A, A = w5.heap.size := ⟨_, rfl⟩
    rw [← hA] at BA ⊢
    have HA := Lib.hid (show ¬ S2 A ∧ A < w6.heap.size from ⟨fun e => by have := S2'.out.1 A e; omega, BA.out.lt⟩)
    clear hA
    obtain ⟨z0, z1, z2, z3, z4⟩ := BA.out.cells5
    go_wp2_with fail
    clear z0 z1 z2 z3 z4
    have RO := run_of (E := E) (kd := 4) (id := 64) (d := 0) (p := 0) (m := 6) ⟨by omega, by omega⟩ B6.out (by omega) NA.out.1 NA.out.2.1 (by omega) (by omega) (by omega) (by rw [HN.out]; exact P2.out.1) (by omega)
    rw [P2.out.2] at RO
    refine RO.mono ?_
    clear RO
    rintro e w7 ⟨rfl, h7⟩
    have CD := Lib.hid (show Ch Nil w7 (w7.alloc (Obj.cells #[.int .i64 (0 : Int), .bool true, .int .u64 (64 : Int), .int .u64 (1 : Int), .slice none 0 0] 51)) from (Ch.refl _ _).alloc _)
    have B8 := Lib.hid ((h7.quiet CD.out).up (n' := 133) (by omega))
    have BA8 := Lib.hid ((BA.out.kept h7.c HA.out.1).kept CD.out (fun e => e))
    obtain ⟨z0, z1, z2, z3, z4⟩ := BA8.out.cells5
    obtain ⟨y0, y1, y2, y3, y4⟩ := (IsVs.new w7 (anL ⟨0, true, 64, 1⟩) 51).cells5
    clear h7 P2
    go_upto_region 13 with (fail)
    clear z0 z1 z2 z3 z4 y0 y1 y2 y3 y4 BA8
    generalize w7.alloc (Obj.cells #[.int .i64 (0 : Int), .bool true, .int .u64 (64 : Int), .int .u64 (1 : Int), .slice none 0 0] 51) = w8 at CD B8 ⊢
    go_wp2
    go_loopw [18] (fun i wr => ∃ j : Nat, (3 ≤ j ∧ j ≤ 6) ∧ i = .int .i64 j ∧ Bf E S2 w6 wr (backW p ⟨64, 0, 1, d, p⟩) (100 + 11 * j)) (fun i _ => 6 - (intOf i).toNat)
    case atStart => exact ⟨3, by omega, rfl, B8.out⟩
    case round =>
      obtain ⟨j, hj, rfl, hR⟩ := hrel
      have HR := Lib.hid hR
      have HJ := Lib.hid hj
      clear hR B8 hj
      by_cases hlt : j < 6
      · have hjz : (j : Int) ≤ 5 := by omega
        obtain ⟨m3, k3, hp3, hm3, ha3⟩ := gone_no (N := ⟨a, b, 2⟩) (by have := AB.out; show 0 < a; omega) p ⟨64, 0, 1, d, p⟩ j d (by have := HJ.out; omega)
        have P3 := Lib.hid (And.intro hp3 (And.intro hm3 ha3))
        have HJ := Lib.hid (show 3 ≤ j ∧ j + 1 ≤ 6 from by have := HJ.out; omega)
        clear hp3 hm3 ha3 hlt
        have BAr := Lib.hid (BA.out.kept HR.out.c HA.out.1)
        obtain ⟨z0, z1, z2, z3, z4⟩ := BAr.out.cells5
        go_wp2_with fail
        clear z0 z1 z2 z3 z4
        have RO := run_of (E := E) (kd := j) (id := 64) (d := d) (p := 0) (m := m3) (by have := HJ.out; omega) HR.out (by omega) NA.out.1 NA.out.2.1 (by omega) HD.out.1 (by omega) (by rw [HN.out]; exact P3.out.1) (by have := P3.out.2.1; omega)
        rw [P3.out.2.2] at RO
        refine RO.mono ?_
        clear RO
        rintro e w9 ⟨rfl, h9⟩
        have H9 := Lib.hid h9
        clear h9
        obtain ⟨y0, y1, y2, y3, y4⟩ := (IsVs.new w9 (anL (anNo 0)) 51).cells5
        go_wp2
        go_roundw
        case rel =>
          refine ⟨j + 1, by have := HJ.out; omega, by go_num, ?_⟩
          exact (H9.out.quiet ((Ch.refl _ _).alloc _)).up (by have := P3.out.2.1; omega)
        case measure => simp [intOf]; omega
      · obtain rfl : j = 6 := by have := HJ.out; omega
        clear hlt HJ
        have RG := Lib.hid (backW_ring (r := b) (by have := AB.out; omega) p ⟨64, 0, 1, d, p⟩)
        have BAr := Lib.hid (BA.out.kept HR.out.c HA.out.1)
        have heq : ∀ w, (Op.equalIn 10000 40 (.agg #[.int .u64 64, .int .i64 0, .int .u64 1, .int .u64 (d : Nat), .int .u64 (p : Nat)]) (.agg #[.int .u64 64, .int .i64 0, .int .u64 1, .int .u64 (d : Nat), .int .u64 (p : Nat)])).run Tryz.prog w = .ok true w := fun w => (eqT ⟨64, 0, 1, d, p⟩ ⟨64, 0, 1, d, p⟩ w).trans (by rw [decide_eq_true rfl])
        go_wp2_with fail
        refine (HR.out.slabOf).mono ?_
        rintro e u1 ⟨rfl, h1⟩
        have U1 := Lib.hid h1
        clear h1
        go_wp2_with fail
        have WO := U1.out.word 0 NA.out.2.1
        rw [backW_0] at WO
        refine WO.mono ?_
        clear WO
        rintro e u2 ⟨rfl, h2⟩
        have U2 := Lib.hid h2
        clear h2
        go_wp2_with fail
        refine (U2.out.shard 0 0 rfl (by rw [NA.out.2.2.1]; decide)).mono ?_
        rintro e u3 ⟨rfl, h3⟩
        have U3 := Lib.hid h3
        clear h3
        go_wp2_with fail
        refine (U3.out.popYes (by omega) 0 (by rw [NA.out.2.2.1]; decide) (by rw [RG.out.1]; omega) (by rw [RG.out.1]; exact RG.out.2.2.1) (by rw [RG.out.1, NA.out.2.2.2, Nat.zero_add]; exact RG.out.2.2.2.1) ⟨64, 0, 1, d, p⟩ (by rw [RG.out.1]; exact RG.out.2.2.2.2)).mono ?_
        rintro e u4 ⟨rfl, h4⟩
        obtain ⟨σ4, h4, c4⟩ : ∃ σ4 : Wd, Bf E S2 w6 u4 σ4 (100 + 11 * 6) ∧ σ4.cnt = 0 := ⟨_, h4, rfl⟩
        have CE := Lib.hid (show Ch Nil u4 (u4.alloc (Obj.cells #[.int .u64 (64 : Int), .int .i64 (0 : Int), .int .u64 (1 : Int), .int .u64 (d : Nat), .int .u64 (p : Nat)] 40)) from (Ch.refl _ _).alloc _)
        have BT : Hid (IsVs (u4.alloc (Obj.cells #[.int .u64 (64 : Int), .int .i64 (0 : Int), .int .u64 (1 : Int), .int .u64 (d : Nat), .int .u64 (p : Nat)] 40)) u4.heap.size [.int .u64 (64 : Int), .int .i64 (0 : Int), .int .u64 (1 : Int), .int .u64 (d : Nat), .int .u64 (p : Nat)]) := Lib.hid (IsVs.new u4 [.int .u64 (64 : Int), .int .i64 (0 : Int), .int .u64 (1 : Int), .int .u64 (d : Nat), .int .u64 (p : Nat)] 40)
        obtain ⟨S3, v1, v2, v3⟩ := h4.re
        have U5 := Lib.hid (v3 _ CE.out)
        have A5 := Lib.hid ((BA.out.kept h4.c HA.out.1).kept CE.out (fun e => e))
        have C5 := Lib.hid ((BC6.out.kept h4.c HC2.out.1).kept CE.out (fun e => e))
        have H3 := Lib.hid (show ¬ S3 A ∧ ¬ S3 C from ⟨fun e => (v2 A e).elim HA.out.1 (fun q => by have := HA.out.2; omega), fun e => (v2 C e).elim HC2.out.1 (fun q => by have := HC2.out.2; have := CB.out.size; omega)⟩)
        have U4 := Lib.hid h4
        have S3' := Lib.hid (And.intro v1 v2)
        have C0 := Lib.hid c4
        clear h4 c4 v1 v2 v3 BAr RG U3 U2 U1 HR
        go_upto_region 21 with (fail)
        generalize u4.alloc (Obj.cells #[.int .u64 (64 : Int), .int .i64 (0 : Int), .int .u64 (1 : Int), .int .u64 (d : Nat), .int .u64 (p : Nat)] 40) = u5 at BT CE U5 A5 C5 ⊢
        obtain ⟨T, hT⟩ : ∃ T, T = u4.heap.size := ⟨_, rfl⟩
        rw [← hT] at BT ⊢
        have HT := Lib.hid (show ¬ S3 T from fun e => by have := S3'.out.1 T e; omega)
        clear hT
        go_wp2_with fail
        have ST := state_any (mkW 0 1 false) (by decide) u5
        rw [if_pos (mkW_ok 0 1 false (by omega) (by omega)), mkW_st 0 1 false (by omega)] at ST
        refine ST.mono ?_
        clear ST
        rintro e u6 ⟨rfl, rfl⟩
        go_wp2_with fail
        refine (U5.out.slabOf).mono ?_
        rintro e u7 ⟨rfl, h7⟩
        have U7 := Lib.hid h7
        clear h7
        go_wp2_with fail
        have CO := U7.out.count
        rw [C0.out] at CO
        refine CO.mono ?_
        clear CO
        rintro e u8 ⟨rfl, h8⟩
        have AA := Lib.hid (A5.out.kept h8.c H3.out.1)
        have CC := Lib.hid (C5.out.kept h8.c H3.out.2)
        have TT := Lib.hid (BT.out.kept h8.c HT.out)
        obtain ⟨x0, x1, x2, x3, x4⟩ := AA.out.cells5
        obtain ⟨y0, y1, y2, y3⟩ := CC.out.cells4
        obtain ⟨z0, z1, z2, z3, z4⟩ := TT.out.cells5
        have H8 := Lib.hid h8
        clear h8
        go_wp2
        go_ret
        exact ⟨rfl, bf_under C2.out (HB.out.back S1'.out.2 CA.out (H5.out.back S2'.out.2 CB.out (U4.out.back S3'.out.2 CE.out H8.out)))⟩
  · by_cases p0 : p = 0
    · subst p0
      obtain ⟨k1, hp1, ha1⟩ := path_new (N := ⟨a, b, 2⟩) 1 0 d 0 (by have := AB.out; show a ≤ 64; omega) (by have := AB.out; show 0 < a; omega) (by have := AB.out; show 0 < b; omega) (by show 0 < 2; omega) (.inl rfl)
      obtain ⟨k2, hp2, ha2⟩ := gone_cancel (N := ⟨a, b, 2⟩) (by have := AB.out; show 0 < a; omega) 0 ⟨64, 0, 1, d, 0⟩
      have P1 := Lib.hid (And.intro hp1 ha1)
      have P2 := Lib.hid (And.intro hp2 ha2)
      have NA := Lib.hid (show E.N.n ≤ 64 ∧ 0 < E.N.n ∧ E.N.m = 2 ∧ E.N.r = b from by have := AB.out; rw [HN.out]; refine ⟨?_, ?_, rfl, rfl⟩ <;> (dsimp only; omega))
      clear hp1 ha1 hp2 ha2
      obtain ⟨S1, s1, s2, s3⟩ := HB.out.re
      have CA := Lib.hid (show Ch Nil wc (wc.alloc (Obj.cells #[.int .i64 (1 : Int), .int .u64 (0 : Int), .int .u64 (d : Nat), .int .u64 (0 : Int)] 38)) from (Ch.refl _ _).alloc _)
      have BC : Hid (IsVs (wc.alloc (Obj.cells #[.int .i64 (1 : Int), .int .u64 (0 : Int), .int .u64 (d : Nat), .int .u64 (0 : Int)] 38)) wc.heap.size [.int .i64 (1 : Int), .int .u64 (0 : Int), .int .u64 (d : Nat), .int .u64 (0 : Int)]) := Lib.hid (IsVs.new wc [.int .i64 (1 : Int), .int .u64 (0 : Int), .int .u64 (d : Nat), .int .u64 (0 : Int)] 38)
      have B4 := Lib.hid (s3 _ CA.out)
      have S1' := Lib.hid (And.intro s1 s2)
      clear s1 s2 s3
      go_upto_region 9 with (fail)
      generalize wc.alloc (Obj.cells #[.int .i64 (1 : Int), .int .u64 (0 : Int), .int .u64 (d : Nat), .int .u64 (0 : Int)] 38) = w4 at BC CA B4 ⊢
      obtain ⟨C, hC⟩ : ∃ C, C = wc.heap.size := ⟨_, rfl⟩
      rw [← hC] at BC ⊢
      have HC := Lib.hid (show ¬ S1 C ∧ C < w4.heap.size from ⟨fun e => by have := S1'.out.1 C e; omega, BC.out.lt⟩)
      clear hC
      obtain ⟨z0, z1, z2, z3⟩ := BC.out.cells4
      go_wp2_with fail
      clear z0 z1 z2 z3
      have RO := run_of (E := E) (kd := 1) (id := 0) (d := d) (p := 0) (m := 13) ⟨by omega, by omega⟩ B4.out (by omega) NA.out.1 NA.out.2.1 (by omega) HD.out.1 (by omega) (by rw [HN.out]; exact P1.out.1) (by omega)
      rw [P1.out.2] at RO
      refine RO.mono ?_
      clear RO
      rintro e w5 ⟨rfl, h5⟩
      obtain ⟨S2, t1, t2, t3⟩ := h5.re
      have CB := Lib.hid (show Ch Nil w5 (w5.alloc (Obj.cells #[.int .i64 (0 : Int), .bool true, .int .u64 (64 : Int), .int .u64 (1 : Int), .slice none 0 0] 51)) from (Ch.refl _ _).alloc _)
      have BA : Hid (IsVs (w5.alloc (Obj.cells #[.int .i64 (0 : Int), .bool true, .int .u64 (64 : Int), .int .u64 (1 : Int), .slice none 0 0] 51)) w5.heap.size [.int .i64 (0 : Int), .bool true, .int .u64 (64 : Int), .int .u64 (1 : Int), .slice none 0 0]) := Lib.hid (IsVs.new w5 (anL ⟨0, true, 64, 1⟩) 51)
      have B6 := Lib.hid (t3 _ CB.out)
      have BC6 := Lib.hid ((BC.out.kept h5.c HC.out.1).kept CB.out (fun e => e))
      have S2' := Lib.hid (And.intro t1 t2)
      have H5 := Lib.hid h5
      have HC2 := Lib.hid (show ¬ S2 C ∧ C < w5.heap.size from ⟨fun e => (t2 C e).elim HC.out.1 (fun q => by have := HC.out.2; omega), by have := h5.c.size; have := HC.out.2; omega⟩)
      clear t1 t2 t3 h5 P1
      go_upto_region 10 with (fail)
      generalize w5.alloc (Obj.cells #[.int .i64 (0 : Int), .bool true, .int .u64 (64 : Int), .int .u64 (1 : Int), .slice none 0 0] 51) = w6 at BA CB B6 BC6 ⊢
      obtain ⟨A, hA⟩ : ∃ A, A = w5.heap.size := ⟨_, rfl⟩
      rw [← hA] at BA ⊢
      have HA := Lib.hid (show ¬ S2 A ∧ A < w6.heap.size from ⟨fun e => by have := S2'.out.1 A e; omega, BA.out.lt⟩)
      clear hA
      obtain ⟨z0, z1, z2, z3, z4⟩ := BA.out.cells5
      go_wp2_with fail
      clear z0 z1 z2 z3 z4
      have RO := run_of (E := E) (kd := 4) (id := 64) (d := 0) (p := 0) (m := 6) ⟨by omega, by omega⟩ B6.out (by omega) NA.out.1 NA.out.2.1 (by omega) (by omega) (by omega) (by rw [HN.out]; exact P2.out.1) (by omega)
      rw [P2.out.2] at RO
      refine RO.mono ?_
      clear RO
      rintro e w7 ⟨rfl, h7⟩
      have CD := Lib.hid (show Ch Nil w7 (w7.alloc (Obj.cells #[.int .i64 (0 : Int), .bool true, .int .u64 (64 : Int), .int .u64 (1 : Int), .slice none 0 0] 51)) from (Ch.refl _ _).alloc _)
      have B8 := Lib.hid ((h7.quiet CD.out).up (n' := 133) (by omega))
      have BA8 := Lib.hid ((BA.out.kept h7.c HA.out.1).kept CD.out (fun e => e))
      obtain ⟨z0, z1, z2, z3, z4⟩ := BA8.out.cells5
      obtain ⟨y0, y1, y2, y3, y4⟩ := (IsVs.new w7 (anL ⟨0, true, 64, 1⟩) 51).cells5
      clear h7 P2
      go_upto_region 13 with (fail)
      clear z0 z1 z2 z3 z4 y0 y1 y2 y3 y4 BA8
      generalize w7.alloc (Obj.cells #[.int .i64 (0 : Int), .bool true, .int .u64 (64 : Int), .int .u64 (1 : Int), .slice none 0 0] 51) = w8 at CD B8 ⊢
      go_wp2
      go_loopw [18] (fun i wr => ∃ j : Nat, (3 ≤ j ∧ j ≤ 6) ∧ i = .int .i64 j ∧ Bf E S2 w6 wr (backW 0 ⟨64, 0, 1, d, 0⟩) (100 + 11 * j)) (fun i _ => 6 - (intOf i).toNat)
      case atStart => exact ⟨3, by omega, rfl, B8.out⟩
      case round =>
        obtain ⟨j, hj, rfl, hR⟩ := hrel
        have HR := Lib.hid hR
        have HJ := Lib.hid hj
        clear hR B8 hj
        by_cases hlt : j < 6
        · have hjz : (j : Int) ≤ 5 := by omega
          obtain ⟨m3, k3, hp3, hm3, ha3⟩ := gone_no (N := ⟨a, b, 2⟩) (by have := AB.out; show 0 < a; omega) 0 ⟨64, 0, 1, d, 0⟩ j d (by have := HJ.out; omega)
          have P3 := Lib.hid (And.intro hp3 (And.intro hm3 ha3))
          have HJ := Lib.hid (show 3 ≤ j ∧ j + 1 ≤ 6 from by have := HJ.out; omega)
          clear hp3 hm3 ha3 hlt
          have BAr := Lib.hid (BA.out.kept HR.out.c HA.out.1)
          obtain ⟨z0, z1, z2, z3, z4⟩ := BAr.out.cells5
          go_wp2_with fail
          clear z0 z1 z2 z3 z4
          have RO := run_of (E := E) (kd := j) (id := 64) (d := d) (p := 0) (m := m3) (by have := HJ.out; omega) HR.out (by omega) NA.out.1 NA.out.2.1 (by omega) HD.out.1 (by omega) (by rw [HN.out]; exact P3.out.1) (by have := P3.out.2.1; omega)
          rw [P3.out.2.2] at RO
          refine RO.mono ?_
          clear RO
          rintro e w9 ⟨rfl, h9⟩
          have H9 := Lib.hid h9
          clear h9
          obtain ⟨y0, y1, y2, y3, y4⟩ := (IsVs.new w9 (anL (anNo 0)) 51).cells5
          go_wp2
          go_roundw
          case rel =>
            refine ⟨j + 1, by have := HJ.out; omega, by go_num, ?_⟩
            exact (H9.out.quiet ((Ch.refl _ _).alloc _)).up (by have := P3.out.2.1; omega)
          case measure => simp [intOf]; omega
        · obtain rfl : j = 6 := by have := HJ.out; omega
          clear hlt HJ
          have RG := Lib.hid (backW_ring (r := b) (by have := AB.out; omega) 0 ⟨64, 0, 1, d, 0⟩)
          have BAr := Lib.hid (BA.out.kept HR.out.c HA.out.1)
          have heq : ∀ w, (Op.equalIn 10000 40 (.agg #[.int .u64 64, .int .i64 0, .int .u64 1, .int .u64 (d : Nat), .int .u64 (0 : Int)]) (.agg #[.int .u64 64, .int .i64 0, .int .u64 1, .int .u64 (d : Nat), .int .u64 (0 : Int)])).run Tryz.prog w = .ok true w := fun w => (eqT ⟨64, 0, 1, d, 0⟩ ⟨64, 0, 1, d, 0⟩ w).trans (by rw [decide_eq_true rfl])
          go_wp2_with fail
          refine (HR.out.slabOf).mono ?_
          rintro e u1 ⟨rfl, h1⟩
          have U1 := Lib.hid h1
          clear h1
          go_wp2_with fail
          have WO := U1.out.word 0 NA.out.2.1
          rw [backW_0] at WO
          refine WO.mono ?_
          clear WO
          rintro e u2 ⟨rfl, h2⟩
          have U2 := Lib.hid h2
          clear h2
          go_wp2_with fail
          refine (U2.out.shard 0 0 rfl (by rw [NA.out.2.2.1]; decide)).mono ?_
          rintro e u3 ⟨rfl, h3⟩
          have U3 := Lib.hid h3
          clear h3
          go_wp2_with fail
          refine (U3.out.popYes (by omega) 0 (by rw [NA.out.2.2.1]; decide) (by rw [RG.out.1]; omega) (by rw [RG.out.1]; exact RG.out.2.2.1) (by rw [RG.out.1, NA.out.2.2.2, Nat.zero_add]; exact RG.out.2.2.2.1) ⟨64, 0, 1, d, 0⟩ (by rw [RG.out.1]; exact RG.out.2.2.2.2)).mono ?_
          rintro e u4 ⟨rfl, h4⟩
          obtain ⟨σ4, h4, c4⟩ : ∃ σ4 : Wd, Bf E S2 w6 u4 σ4 (100 + 11 * 6) ∧ σ4.cnt = 0 := ⟨_, h4, rfl⟩
          have CE := Lib.hid (show Ch Nil u4 (u4.alloc (Obj.cells #[.int .u64 (64 : Int), .int .i64 (0 : Int), .int .u64 (1 : Int), .int .u64 (d : Nat), .int .u64 (0 : Int)] 40)) from (Ch.refl _ _).alloc _)
          have BT : Hid (IsVs (u4.alloc (Obj.cells #[.int .u64 (64 : Int), .int .i64 (0 : Int), .int .u64 (1 : Int), .int .u64 (d : Nat), .int .u64 (0 : Int)] 40)) u4.heap.size [.int .u64 (64 : Int), .int .i64 (0 : Int), .int .u64 (1 : Int), .int .u64 (d : Nat), .int .u64 (0 : Int)]) := Lib.hid (IsVs.new u4 [.int .u64 (64 : Int), .int .i64 (0 : Int), .int .u64 (1 : Int), .int .u64 (d : Nat), .int .u64 (0 : Int)] 40)
          obtain ⟨S3, v1, v2, v3⟩ := h4.re
          have U5 := Lib.hid (v3 _ CE.out)
          have A5 := Lib.hid ((BA.out.kept h4.c HA.out.1).kept CE.out (fun e => e))
          have C5 := Lib.hid ((BC6.out.kept h4.c HC2.out.1).kept CE.out (fun e => e))
          have H3 := Lib.hid (show ¬ S3 A ∧ ¬ S3 C from ⟨fun e => (v2 A e).elim HA.out.1 (fun q => by have := HA.out.2; omega), fun e => (v2 C e).elim HC2.out.1 (fun q => by have := HC2.out.2; have := CB.out.size; omega)⟩)
          have U4 := Lib.hid h4
          have S3' := Lib.hid (And.intro v1 v2)
          have C0 := Lib.hid c4
          clear h4 c4 v1 v2 v3 BAr RG U3 U2 U1 HR
          go_upto_region 21 with (fail)
          generalize u4.alloc (Obj.cells #[.int .u64 (64 : Int), .int .i64 (0 : Int), .int .u64 (1 : Int), .int .u64 (d : Nat), .int .u64 (0 : Int)] 40) = u5 at BT CE U5 A5 C5 ⊢
          obtain ⟨T, hT⟩ : ∃ T, T = u4.heap.size := ⟨_, rfl⟩
          rw [← hT] at BT ⊢
          have HT := Lib.hid (show ¬ S3 T from fun e => by have := S3'.out.1 T e; omega)
          clear hT
          go_wp2_with fail
          have ST := state_any (mkW 0 1 false) (by decide) u5
          rw [if_pos (mkW_ok 0 1 false (by omega) (by omega)), mkW_st 0 1 false (by omega)] at ST
          refine ST.mono ?_
          clear ST
          rintro e u6 ⟨rfl, rfl⟩
          go_wp2_with fail
          refine (U5.out.slabOf).mono ?_
          rintro e u7 ⟨rfl, h7⟩
          have U7 := Lib.hid h7
          clear h7
          go_wp2_with fail
          have CO := U7.out.count
          rw [C0.out] at CO
          refine CO.mono ?_
          clear CO
          rintro e u8 ⟨rfl, h8⟩
          have AA := Lib.hid (A5.out.kept h8.c H3.out.1)
          have CC := Lib.hid (C5.out.kept h8.c H3.out.2)
          have TT := Lib.hid (BT.out.kept h8.c HT.out)
          obtain ⟨x0, x1, x2, x3, x4⟩ := AA.out.cells5
          obtain ⟨y0, y1, y2, y3⟩ := CC.out.cells4
          obtain ⟨z0, z1, z2, z3, z4⟩ := TT.out.cells5
          have H8 := Lib.hid h8
          clear h8
          go_wp2
          go_ret
          exact ⟨rfl, bf_under C2.out (HB.out.back S1'.out.2 CA.out (H5.out.back S2'.out.2 CB.out (U4.out.back S3'.out.2 CE.out H8.out)))⟩
    · have hz : (0 : Int) < (p : Int) := by omega
      have hle : ¬ (d : Int) ≤ 18446744073709551615 - (p : Int) := by omega
      obtain ⟨k1, hp1, ha1⟩ := path_new (N := ⟨a, b, 2⟩) 1 0 d 0 (by have := AB.out; show a ≤ 64; omega) (by have := AB.out; show 0 < a; omega) (by have := AB.out; show 0 < b; omega) (by show 0 < 2; omega) (.inl rfl)
      obtain ⟨k2, hp2, ha2⟩ := gone_cancel (N := ⟨a, b, 2⟩) (by have := AB.out; show 0 < a; omega) 0 ⟨64, 0, 1, d, 0⟩
      have P1 := Lib.hid (And.intro hp1 ha1)
      have P2 := Lib.hid (And.intro hp2 ha2)
      have NA := Lib.hid (show E.N.n ≤ 64 ∧ 0 < E.N.n ∧ E.N.m = 2 ∧ E.N.r = b from by have := AB.out; rw [HN.out]; refine ⟨?_, ?_, rfl, rfl⟩ <;> (dsimp only; omega))
      clear hp1 ha1 hp2 ha2
      obtain ⟨S1, s1, s2, s3⟩ := HB.out.re
      have CA := Lib.hid (show Ch Nil wc (wc.alloc (Obj.cells #[.int .i64 (1 : Int), .int .u64 (0 : Int), .int .u64 (d : Nat), .int .u64 (0 : Int)] 38)) from (Ch.refl _ _).alloc _)
      have BC : Hid (IsVs (wc.alloc (Obj.cells #[.int .i64 (1 : Int), .int .u64 (0 : Int), .int .u64 (d : Nat), .int .u64 (0 : Int)] 38)) wc.heap.size [.int .i64 (1 : Int), .int .u64 (0 : Int), .int .u64 (d : Nat), .int .u64 (0 : Int)]) := Lib.hid (IsVs.new wc [.int .i64 (1 : Int), .int .u64 (0 : Int), .int .u64 (d : Nat), .int .u64 (0 : Int)] 38)
      have B4 := Lib.hid (s3 _ CA.out)
      have S1' := Lib.hid (And.intro s1 s2)
      clear s1 s2 s3
      go_upto_region 9 with (fail)
      generalize wc.alloc (Obj.cells #[.int .i64 (1 : Int), .int .u64 (0 : Int), .int .u64 (d : Nat), .int .u64 (0 : Int)] 38) = w4 at BC CA B4 ⊢
      obtain ⟨C, hC⟩ : ∃ C, C = wc.heap.size := ⟨_, rfl⟩
      rw [← hC] at BC ⊢
      have HC := Lib.hid (show ¬ S1 C ∧ C < w4.heap.size from ⟨fun e => by have := S1'.out.1 C e; omega, BC.out.lt⟩)
      clear hC hz hle
      obtain ⟨z0, z1, z2, z3⟩ := BC.out.cells4
      go_wp2_with fail
      clear z0 z1 z2 z3
      have RO := run_of (E := E) (kd := 1) (id := 0) (d := d) (p := 0) (m := 13) ⟨by omega, by omega⟩ B4.out (by omega) NA.out.1 NA.out.2.1 (by omega) HD.out.1 (by omega) (by rw [HN.out]; exact P1.out.1) (by omega)
      rw [P1.out.2] at RO
      refine RO.mono ?_
      clear RO
      rintro e w5 ⟨rfl, h5⟩
      obtain ⟨S2, t1, t2, t3⟩ := h5.re
      have CB := Lib.hid (show Ch Nil w5 (w5.alloc (Obj.cells #[.int .i64 (0 : Int), .bool true, .int .u64 (64 : Int), .int .u64 (1 : Int), .slice none 0 0] 51)) from (Ch.refl _ _).alloc _)
      have BA : Hid (IsVs (w5.alloc (Obj.cells #[.int .i64 (0 : Int), .bool true, .int .u64 (64 : Int), .int .u64 (1 : Int), .slice none 0 0] 51)) w5.heap.size [.int .i64 (0 : Int), .bool true, .int .u64 (64 : Int), .int .u64 (1 : Int), .slice none 0 0]) := Lib.hid (IsVs.new w5 (anL ⟨0, true, 64, 1⟩) 51)
      have B6 := Lib.hid (t3 _ CB.out)
      have BC6 := Lib.hid ((BC.out.kept h5.c HC.out.1).kept CB.out (fun e => e))
      have S2' := Lib.hid (And.intro t1 t2)
      have H5 := Lib.hid h5
      have HC2 := Lib.hid (show ¬ S2 C ∧ C < w5.heap.size from ⟨fun e => (t2 C e).elim HC.out.1 (fun q => by have := HC.out.2; omega), by have := h5.c.size; have := HC.out.2; omega⟩)
      clear t1 t2 t3 h5 P1
      go_upto_region 10 with (fail)
      generalize w5.alloc (Obj.cells #[.int .i64 (0 : Int), .bool true, .int .u64 (64 : Int), .int .u64 (1 : Int), .slice none 0 0] 51) = w6 at BA CB B6 BC6 ⊢
      obtain ⟨A, hA⟩ : ∃ A, A = w5.heap.size := ⟨_, rfl⟩
      rw [← hA] at BA ⊢
      have HA := Lib.hid (show ¬ S2 A ∧ A < w6.heap.size from ⟨fun e => by have := S2'.out.1 A e; omega, BA.out.lt⟩)
      clear hA
      obtain ⟨z0, z1, z2, z3, z4⟩ := BA.out.cells5
      go_wp2_with fail
      clear z0 z1 z2 z3 z4
      have RO := run_of (E := E) (kd := 4) (id := 64) (d := 0) (p := 0) (m := 6) ⟨by omega, by omega⟩ B6.out (by omega) NA.out.1 NA.out.2.1 (by omega) (by omega) (by omega) (by rw [HN.out]; exact P2.out.1) (by omega)
      rw [P2.out.2] at RO
      refine RO.mono ?_
      clear RO
      rintro e w7 ⟨rfl, h7⟩
      have CD := Lib.hid (show Ch Nil w7 (w7.alloc (Obj.cells #[.int .i64 (0 : Int), .bool true, .int .u64 (64 : Int), .int .u64 (1 : Int), .slice none 0 0] 51)) from (Ch.refl _ _).alloc _)
      have B8 := Lib.hid ((h7.quiet CD.out).up (n' := 133) (by omega))
      have BA8 := Lib.hid ((BA.out.kept h7.c HA.out.1).kept CD.out (fun e => e))
      obtain ⟨z0, z1, z2, z3, z4⟩ := BA8.out.cells5
      obtain ⟨y0, y1, y2, y3, y4⟩ := (IsVs.new w7 (anL ⟨0, true, 64, 1⟩) 51).cells5
      clear h7 P2
      go_upto_region 13 with (fail)
      clear z0 z1 z2 z3 z4 y0 y1 y2 y3 y4 BA8
      generalize w7.alloc (Obj.cells #[.int .i64 (0 : Int), .bool true, .int .u64 (64 : Int), .int .u64 (1 : Int), .slice none 0 0] 51) = w8 at CD B8 ⊢
      go_wp2
      go_loopw [18] (fun i wr => ∃ j : Nat, (3 ≤ j ∧ j ≤ 6) ∧ i = .int .i64 j ∧ Bf E S2 w6 wr (backW 0 ⟨64, 0, 1, d, 0⟩) (100 + 11 * j)) (fun i _ => 6 - (intOf i).toNat)
      case atStart => exact ⟨3, by omega, rfl, B8.out⟩
      case round =>
        obtain ⟨j, hj, rfl, hR⟩ := hrel
        have HR := Lib.hid hR
        have HJ := Lib.hid hj
        clear hR B8 hj
        by_cases hlt : j < 6
        · have hjz : (j : Int) ≤ 5 := by omega
          obtain ⟨m3, k3, hp3, hm3, ha3⟩ := gone_no (N := ⟨a, b, 2⟩) (by have := AB.out; show 0 < a; omega) 0 ⟨64, 0, 1, d, 0⟩ j d (by have := HJ.out; omega)
          have P3 := Lib.hid (And.intro hp3 (And.intro hm3 ha3))
          have HJ := Lib.hid (show 3 ≤ j ∧ j + 1 ≤ 6 from by have := HJ.out; omega)
          clear hp3 hm3 ha3 hlt
          have BAr := Lib.hid (BA.out.kept HR.out.c HA.out.1)
          obtain ⟨z0, z1, z2, z3, z4⟩ := BAr.out.cells5
          go_wp2_with fail
          clear z0 z1 z2 z3 z4
          have RO := run_of (E := E) (kd := j) (id := 64) (d := d) (p := 0) (m := m3) (by have := HJ.out; omega) HR.out (by omega) NA.out.1 NA.out.2.1 (by omega) HD.out.1 (by omega) (by rw [HN.out]; exact P3.out.1) (by have := P3.out.2.1; omega)
          rw [P3.out.2.2] at RO
          refine RO.mono ?_
          clear RO
          rintro e w9 ⟨rfl, h9⟩
          have H9 := Lib.hid h9
          clear h9
          obtain ⟨y0, y1, y2, y3, y4⟩ := (IsVs.new w9 (anL (anNo 0)) 51).cells5
          go_wp2
          go_roundw
          case rel =>
            refine ⟨j + 1, by have := HJ.out; omega, by go_num, ?_⟩
            exact (H9.out.quiet ((Ch.refl _ _).alloc _)).up (by have := P3.out.2.1; omega)
          case measure => simp [intOf]; omega
        · obtain rfl : j = 6 := by have := HJ.out; omega
          clear hlt HJ
          have RG := Lib.hid (backW_ring (r := b) (by have := AB.out; omega) 0 ⟨64, 0, 1, d, 0⟩)
          have BAr := Lib.hid (BA.out.kept HR.out.c HA.out.1)
          have heq : ∀ w, (Op.equalIn 10000 40 (.agg #[.int .u64 64, .int .i64 0, .int .u64 1, .int .u64 (d : Nat), .int .u64 (0 : Int)]) (.agg #[.int .u64 64, .int .i64 0, .int .u64 1, .int .u64 (d : Nat), .int .u64 (0 : Int)])).run Tryz.prog w = .ok true w := fun w => (eqT ⟨64, 0, 1, d, 0⟩ ⟨64, 0, 1, d, 0⟩ w).trans (by rw [decide_eq_true rfl])
          go_wp2_with fail
          refine (HR.out.slabOf).mono ?_
          rintro e u1 ⟨rfl, h1⟩
          have U1 := Lib.hid h1
          clear h1
          go_wp2_with fail
          have WO := U1.out.word 0 NA.out.2.1
          rw [backW_0] at WO
          refine WO.mono ?_
          clear WO
          rintro e u2 ⟨rfl, h2⟩
          have U2 := Lib.hid h2
          clear h2
          go_wp2_with fail
          refine (U2.out.shard 0 0 rfl (by rw [NA.out.2.2.1]; decide)).mono ?_
          rintro e u3 ⟨rfl, h3⟩
          have U3 := Lib.hid h3
          clear h3
          go_wp2_with fail
          refine (U3.out.popYes (by omega) 0 (by rw [NA.out.2.2.1]; decide) (by rw [RG.out.1]; omega) (by rw [RG.out.1]; exact RG.out.2.2.1) (by rw [RG.out.1, NA.out.2.2.2, Nat.zero_add]; exact RG.out.2.2.2.1) ⟨64, 0, 1, d, 0⟩ (by rw [RG.out.1]; exact RG.out.2.2.2.2)).mono ?_
          rintro e u4 ⟨rfl, h4⟩
          obtain ⟨σ4, h4, c4⟩ : ∃ σ4 : Wd, Bf E S2 w6 u4 σ4 (100 + 11 * 6) ∧ σ4.cnt = 0 := ⟨_, h4, rfl⟩
          have CE := Lib.hid (show Ch Nil u4 (u4.alloc (Obj.cells #[.int .u64 (64 : Int), .int .i64 (0 : Int), .int .u64 (1 : Int), .int .u64 (d : Nat), .int .u64 (0 : Int)] 40)) from (Ch.refl _ _).alloc _)
          have BT : Hid (IsVs (u4.alloc (Obj.cells #[.int .u64 (64 : Int), .int .i64 (0 : Int), .int .u64 (1 : Int), .int .u64 (d : Nat), .int .u64 (0 : Int)] 40)) u4.heap.size [.int .u64 (64 : Int), .int .i64 (0 : Int), .int .u64 (1 : Int), .int .u64 (d : Nat), .int .u64 (0 : Int)]) := Lib.hid (IsVs.new u4 [.int .u64 (64 : Int), .int .i64 (0 : Int), .int .u64 (1 : Int), .int .u64 (d : Nat), .int .u64 (0 : Int)] 40)
          obtain ⟨S3, v1, v2, v3⟩ := h4.re
          have U5 := Lib.hid (v3 _ CE.out)
          have A5 := Lib.hid ((BA.out.kept h4.c HA.out.1).kept CE.out (fun e => e))
          have C5 := Lib.hid ((BC6.out.kept h4.c HC2.out.1).kept CE.out (fun e => e))
          have H3 := Lib.hid (show ¬ S3 A ∧ ¬ S3 C from ⟨fun e => (v2 A e).elim HA.out.1 (fun q => by have := HA.out.2; omega), fun e => (v2 C e).elim HC2.out.1 (fun q => by have := HC2.out.2; have := CB.out.size; omega)⟩)
          have U4 := Lib.hid h4
          have S3' := Lib.hid (And.intro v1 v2)
          have C0 := Lib.hid c4
          clear h4 c4 v1 v2 v3 BAr RG U3 U2 U1 HR
          go_upto_region 21 with (fail)
          generalize u4.alloc (Obj.cells #[.int .u64 (64 : Int), .int .i64 (0 : Int), .int .u64 (1 : Int), .int .u64 (d : Nat), .int .u64 (0 : Int)] 40) = u5 at BT CE U5 A5 C5 ⊢
          obtain ⟨T, hT⟩ : ∃ T, T = u4.heap.size := ⟨_, rfl⟩
          rw [← hT] at BT ⊢
          have HT := Lib.hid (show ¬ S3 T from fun e => by have := S3'.out.1 T e; omega)
          clear hT
          go_wp2_with fail
          have ST := state_any (mkW 0 1 false) (by decide) u5
          rw [if_pos (mkW_ok 0 1 false (by omega) (by omega)), mkW_st 0 1 false (by omega)] at ST
          refine ST.mono ?_
          clear ST
          rintro e u6 ⟨rfl, rfl⟩
          go_wp2_with fail
          refine (U5.out.slabOf).mono ?_
          rintro e u7 ⟨rfl, h7⟩
          have U7 := Lib.hid h7
          clear h7
          go_wp2_with fail
          have CO := U7.out.count
          rw [C0.out] at CO
          refine CO.mono ?_
          clear CO
          rintro e u8 ⟨rfl, h8⟩
          have AA := Lib.hid (A5.out.kept h8.c H3.out.1)
          have CC := Lib.hid (C5.out.kept h8.c H3.out.2)
          have TT := Lib.hid (BT.out.kept h8.c HT.out)
          obtain ⟨x0, x1, x2, x3, x4⟩ := AA.out.cells5
          obtain ⟨y0, y1, y2, y3⟩ := CC.out.cells4
          obtain ⟨z0, z1, z2, z3, z4⟩ := TT.out.cells5
          have H8 := Lib.hid h8
          clear h8
          go_wp2
          go_ret
          exact ⟨rfl, bf_under C2.out (HB.out.back S1'.out.2 CA.out (H5.out.back S2'.out.2 CB.out (U4.out.back S3'.out.2 CE.out H8.out)))⟩
theorem CallsGone_own : ownKnob Tryz.prog.godebug = none := by kernel_rfl

set_option maxRecDepth 100000 in
theorem CallsGone_lifted (os : Os) (started : os.Started) (H : Type) (enc : TypeId × Value → H) :
    ReturnsInHanded {} Tryz.checked os 7 .any (Rows.callsGoneSpec.pre6 enc Tryz.prog Tryz.f7 Rows.callsGoneRow.domain false) (Rows.callsGoneSpec.post enc Tryz.prog Tryz.f7 false true false false) := by
  refine returnsInHanded_of_change (C := Tryz.checked) CallsGone_own started (by kernel_rfl) Tryz.func7
    (ChangeSpec.witness6 (enc := enc) (C := Tryz.checked) false ⟨#[], #[.int .u8 0, .int .u8 0, .int .u64 0, .int .u64 0], []⟩ 8 (by kernel_rfl) (by kernel_rfl) (by kernel_rfl) (by kernel_rfl)) ?_
  intro W base args ds gs before hval0 hW hcnd _
  have hval : ∀ (j : Nat) t v, Tryz.f7.params[j]? = some t → args[j]? = some v → Value.okWide Tryz.prog W .any base t v := hval0
  have hW' := hW
  obtain ⟨p, q, hA0, hV, rfl, hfz, hnd⟩ := hW
  have hA : DataW.TrodAll enc Tryz.prog W 0 (fun _ => true) true Tryz.f7.params.toList args.toList ds p := hA0
  rw [Tryz.params7] at hA hval
  obtain ⟨v0, vs0, d0, ds0, p0, q0, hargs, rfl, rfl, h0, r0⟩ := trodAll_cons hA
  obtain ⟨v1, vs1, d1, ds1, p1, q1, rfl, rfl, rfl, h1, r1⟩ := trodAll_cons r0
  obtain ⟨v2, vs2, d2, ds2, p2, q2, rfl, rfl, rfl, h2, r2⟩ := trodAll_cons r1
  obtain ⟨v3, vs3, d3, ds3, p3, q3, rfl, rfl, rfl, h3, r3⟩ := trodAll_cons r2
  obtain ⟨rfl, rfl, rfl⟩ := trodAll_nil r3
  obtain rfl : args = #[v0, v1, v2, v3] := by cases args; simp_all
  obtain ⟨rfl, rfl⟩ := trodVars_none hV
  obtain ⟨a0, rfl, rfl, rfl, w0⟩ := open_int Tryz.underlying5 (hval 0 5 v0 rfl rfl) h0
  obtain ⟨a1, rfl, rfl, rfl, w1⟩ := open_int Tryz.underlying5 (hval 1 5 v1 rfl rfl) h1
  obtain ⟨a2, rfl, rfl, rfl, w2⟩ := open_int Tryz.underlying36 (hval 2 36 v2 rfl rfl) h2
  obtain ⟨a3, rfl, rfl, rfl, w3⟩ := open_int Tryz.underlying36 (hval 3 36 v3 rfl rfl) h3
  clear hA0 hval0
  simp only [List.append_nil] at hW'
  refine (CallsGone_walk a0 a1 a2 a3 w0 w1 w2 w3 W).mono fun e W' ⟨he, bel⟩ => ?_
  subst he
  exact ⟨_, rfl, _, _, _, [], _, [], hW', trodAll_mk1 (shut_bool Tryz.underlying4 _), (trodAll_cons_mk (shut_int Tryz.underlying5 w0) (trodAll_cons_mk (shut_int Tryz.underlying5 w1) (trodAll_cons_mk (shut_int Tryz.underlying36 w2) (trodAll_cons_mk (shut_int Tryz.underlying36 w3) trodAll_mk0)))), rfl, bel.frame _, fun h => by cases h⟩

theorem callsGone_holds : Rows.CallsGoneSaid :=
  OpenClaim.holds_of_wide 7 Tryz.f7 rfl rfl rfl rfl rfl rfl rfl ⟨rfl, rfl, rfl, rfl, rfl⟩ rfl rfl rfl rfl rfl (by kernel_rfl) Tryz.func7 (by kernel_rfl)
    (of_decide_eq_true (by kernel_rfl)) (by unfold Func.isWrapper; rw [if_neg (of_decide_eq_false (by kernel_rfl))]; exact ⟨rfl, rfl⟩)
    (fun os started H enc _ => CallsGone_lifted os started H enc)
end Go.Proofs.YtnbdafmjcmmfpaaGreat
