import Derived.Test.YtnbdafmjcmmfpaaGreatK24
import Derived.Test.YtnbdafmjcmmfpaaGreatCCaQuiet
import Derived.Test.YtnbdafmjcmmfpaaGreatCCaFx
import Derived.Test.YtnbdafmjcmmfpaaGreatCCallArg
import Derived.Test.YtnbdafmjcmmfpaaGreatCIsTab
import Derived.ProofKit
import Derived.OpenShut
import Derived.ChangeOld
import Derived.Below
/-
  Proved: for every room, ring, calls, call and shut the statement CallsRefused returns true: a call alone that is refused has changed nothing but a record that was taken and given back; one that isn't has changed just its own slot's word. Conditions: none.
-/
namespace Go.Proofs.YtnbdafmjcmmfpaaGreat
open Go.ChangeShapes Go.WideShapes Go.ChangeAt Go.RowKit Verge
set_option linter.unusedVariables false
set_option linter.unusedSimpArgs false
attribute [local go_sem] Oper.semAt_some
theorem cf_r {a b : Nat} (h : (1 ≤ a ∧ a ≤ 8) ∧ 1 ≤ b ∧ b ≤ 8) : cfOk ⟨2, a, b, 4, 1, 8⟩ := by
  intro i hi
  rcases lt6 hi with rfl | rfl | rfl | rfl | rfl | rfl <;> first | (simp [numC, limC]; done) | (simp [numC, limC]; omega)
/-- a call that lies in a slice -/
theorem call_at {w : World} {ad : Option Addr} {len cap k : Nat} (h : IsTab [.i .i64, .i .u64, .i .u64, .i .u64] w ad len cap) (hk : k < len) :
    ∃ x, ad = some x ∧ ∃ (a0 : Int) (a1 a2 a3 : Nat), a1 < 18446744073709551616 ∧ a2 < 18446744073709551616 ∧ a3 < 18446744073709551616 ∧ ∀ w', Ch Nil w w' → w'.cell? (x.add (k * 4)) = some (.int .i64 a0) ∧ w'.cell? ⟨(x.add (k * 4)).block, (x.add (k * 4)).off + 1, none⟩ = some (.int .u64 (a1 : Nat)) ∧ w'.cell? ⟨(x.add (k * 4)).block, (x.add (k * 4)).off + 2, none⟩ = some (.int .u64 (a2 : Nat)) ∧ w'.cell? ⟨(x.add (k * 4)).block, (x.add (k * 4)).off + 3, none⟩ = some (.int .u64 (a3 : Nat)) := by
  rcases h with ⟨-, h0, -⟩ | ⟨x, rfl, -, -, hx⟩
  · omega
  obtain ⟨_, q0, y0, rfl, -⟩ := hx k hk 0 _ rfl
  obtain ⟨_, q1, y1, rfl, b1⟩ := hx k hk 1 _ rfl
  obtain ⟨_, q2, y2, rfl, b2⟩ := hx k hk 2 _ rfl
  obtain ⟨_, q3, y3, rfl, b3⟩ := hx k hk 3 _ rfl
  have e : ∀ z : Int, (Lit.int .u64 z).wf = true → ∃ n : Nat, z = (n : Int) ∧ n < 18446744073709551616 := fun z hz => by
    have : 0 ≤ z ∧ z ≤ 18446744073709551615 := by simpa [Lit.wf, IntKind.min, IntKind.max, IntKind.signed, IntKind.bits] using hz
    exact ⟨z.toNat, by omega, by omega⟩
  obtain ⟨n1, rfl, m1⟩ := e y1 b1
  obtain ⟨n2, rfl, m2⟩ := e y2 b2
  obtain ⟨n3, rfl, m3⟩ := e y3 b3
  exact ⟨x, rfl, y0, n1, n2, n3, m1, m2, m3, fun w' c => ⟨c.keeps q0 (fun e => e), cell_at (k * 4) 1 (c.keeps q1 (fun e => e)), cell_at (k * 4) 2 (c.keeps q2 (fun e => e)), cell_at (k * 4) 3 (c.keeps q3 (fun e => e))⟩⟩
theorem Qt.shut {N : Nm} {m : Nat} {σ : Wd} (h : Qt N m σ) (c : Bool) : Qt N m { σ with cl := c } := ⟨h.us, h.wd, h.rg⟩
set_option maxRecDepth 100000 in
set_option maxHeartbeats 0 in
theorem CallsRefused_walk (x y : Int) (ad : Option Addr) (len cap : Nat) (a0 a1 a2 a3 : Int) (bs : Bool) (wx : (Lit.int .u8 x).wf = true) (wy : (Lit.int .u8 y).wf = true) (w0 : (Lit.int .i64 a0).wf = true) (w1 : (Lit.int .u64 a1).wf = true) (w2 : (Lit.int .u64 a2).wf = true) (w3 : (Lit.int .u64 a3).wf = true) (w : World) (hv : IsTab [.i .i64, .i .u64, .i .u64, .i .u64] w ad len cap) :
    Calls Tryz.prog 4 #[.int .u8 x, .int .u8 y, .slice ad len cap, .agg #[.int .i64 a0, .int .u64 a1, .int .u64 a2, .int .u64 a3], .bool bs] w fun e w' => e = .returned (.bool true) ∧ Below w.heap.size w w' := by
  have q1 : 0 ≤ x ∧ x ≤ 255 := by simpa [Lit.wf, IntKind.min, IntKind.max, IntKind.signed, IntKind.bits] using wx
  have q2 : 0 ≤ y ∧ y ≤ 255 := by simpa [Lit.wf, IntKind.min, IntKind.max, IntKind.signed, IntKind.bits] using wy
  have q3 : 0 ≤ a1 ∧ a1 ≤ 18446744073709551615 := by simpa [Lit.wf, IntKind.min, IntKind.max, IntKind.signed, IntKind.bits] using w1
  have q4 : 0 ≤ a2 ∧ a2 ≤ 18446744073709551615 := by simpa [Lit.wf, IntKind.min, IntKind.max, IntKind.signed, IntKind.bits] using w2
  have q5 : 0 ≤ a3 ∧ a3 ≤ 18446744073709551615 := by simpa [Lit.wf, IntKind.min, IntKind.max, IntKind.signed, IntKind.bits] using w3
  clear w0 w1 w2 w3 wx wy
  obtain ⟨x, rfl⟩ : ∃ z : Nat, x = (z : Nat) := ⟨x.toNat, by omega⟩
  obtain ⟨y, rfl⟩ : ∃ z : Nat, y = (z : Nat) := ⟨y.toNat, by omega⟩
  obtain ⟨id, rfl⟩ : ∃ z : Nat, a1 = (z : Nat) := ⟨a1.toNat, by omega⟩
  obtain ⟨d, rfl⟩ : ∃ z : Nat, a2 = (z : Nat) := ⟨a2.toNat, by omega⟩
  obtain ⟨p, rfl⟩ : ∃ z : Nat, a3 = (z : Nat) := ⟨a3.toNat, by omega⟩
  have HD := Lib.hid (show id < 18446744073709551616 ∧ d < 18446744073709551616 ∧ p < 18446744073709551616 from by omega)
  obtain ⟨a, ha, haw⟩ : ∃ a : Nat, (1 ≤ a ∧ a ≤ 8) ∧ wrap64 (1 + (wrap64 (x : Int)).tmod 8) = (a : Int) := ⟨1 + x % 8, by omega, by rw [show wrap64 (x : Int) = (x : Int) by unfold wrap64; omega, Int.tmod_eq_emod_of_nonneg (by omega)]; unfold wrap64; omega⟩
  obtain ⟨b, hb, hbw⟩ : ∃ b : Nat, (1 ≤ b ∧ b ≤ 8) ∧ wrap64 (1 + (wrap64 (y : Int)).tmod 8) = (b : Int) := ⟨1 + y % 8, by omega, by rw [show wrap64 (y : Int) = (y : Int) by unfold wrap64; omega, Int.tmod_eq_emod_of_nonneg (by omega)]; unfold wrap64; omega⟩
  have AB := Lib.hid (And.intro ha hb)
  have AW := Lib.hid haw
  have BW := Lib.hid hbw
  have HV := Lib.hid hv
  have hsm := hv.small
  clear q1 q2 q3 q4 q5 ha hb haw hbw hv
  have CA := Lib.hid (show Ch Nil w (w.alloc (Obj.cells #[.int .i64 a0, .int .u64 (id : Nat), .int .u64 (d : Nat), .int .u64 (p : Nat)] 38)) from (Ch.refl _ _).alloc _)
  have BC : Hid (IsVs (w.alloc (Obj.cells #[.int .i64 a0, .int .u64 (id : Nat), .int .u64 (d : Nat), .int .u64 (p : Nat)] 38)) w.heap.size [.int .i64 a0, .int .u64 (id : Nat), .int .u64 (d : Nat), .int .u64 (p : Nat)]) := Lib.hid (IsVs.new w [.int .i64 a0, .int .u64 (id : Nat), .int .u64 (d : Nat), .int .u64 (p : Nat)] 38)
  go_enter Tryz.func4, Tryz.ntmps4
  go_upto_region 1 with (fail)
  generalize w.alloc (Obj.cells #[.int .i64 a0, .int .u64 (id : Nat), .int .u64 (d : Nat), .int .u64 (p : Nat)] 38) = w1 at BC CA ⊢
  obtain ⟨C, hC⟩ : ∃ C, C = w.heap.size := ⟨_, rfl⟩
  rw [← hC] at BC ⊢
  clear hC
  go_wp2_with fail
  refine (alive_any _).mono ?_
  rintro e w2 ⟨rfl, c2⟩
  have C2 := Lib.hid (CA.out.trans c2)
  have B2 := Lib.hid (BC.out.kept c2 (fun e => e))
  clear c2 CA BC
  by_cases hlen : 20 < (len : Int)
  · go_wp2
    go_ret
    exact ⟨rfl, C2.out.below (Nat.le_refl _) (fun _ _ e => e.elim)⟩
  have HL := Lib.hid (show len ≤ 20 by omega)
  go_upto_region 6 with (fail)
  rw [AW.out]
  go_wp2_with fail
  rw [BW.out]
  refine (plain16 a b _).mono ?_
  rintro e wb ⟨rfl, cb⟩
  have CW := Lib.hid (C2.out.trans cb)
  have BX := Lib.hid (B2.out.kept cb (fun e => e))
  clear cb C2 B2 AW BW hlen
  go_wp2_with fail
  refine (floorNew16 2 a b 4 1 8 (cf_r AB.out) _).mono ?_
  rintro e wc ⟨E, rfl, hN, -, hb⟩
  have FX := Lib.hid (Fx.new hb)
  have HN := Lib.hid hN
  have NA := Lib.hid (show E.N.n ≤ 64 ∧ 0 < E.N.n ∧ E.N.m = 2 ∧ E.N.n = a from by have := AB.out; rw [HN.out]; refine ⟨?_, ?_, rfl, rfl⟩ <;> (dsimp only; omega))
  clear hb hN
  go_upto_region 9 with (fail)
  go_wp2
  go_loopw [14] (fun i wr => ∃ (j : Nat) (σ : Wd), j ≤ len ∧ i = .int .i64 j ∧ Fx E wb wr σ (1000 * j) [] ∧ Qt ⟨a, b, 2⟩ j σ ∧ σ.i = 0 ∧ σ.cl = false) (fun i _ => len - (intOf i).toNat)
  case atStart => exact ⟨0, nilW, by omega, rfl, FX.out, Qt.new _, rfl, rfl⟩
  case round =>
    obtain ⟨j, σ, hj, rfl, hR, hQ, hi0, hcl⟩ := hrel
    have HR := Lib.hid hR
    have HQ := Lib.hid (And.intro hQ (And.intro hi0 hcl))
    have HJ := Lib.hid hj
    clear hR hQ hi0 hcl FX hj
    by_cases hlt : j < len
    · obtain ⟨z, rfl, c0, c1, c2, c3, m1, m2, m3, hcell⟩ := call_at HV.out hlt
      have HC := Lib.hid hcell
      have MM := Lib.hid (And.intro m1 (And.intro m2 m3))
      obtain ⟨x0, x1, x2, x3⟩ := hcell wr (CW.out.trans HR.out.c)
      have hkz : (j : Int) < (len : Int) := by omega
      have hkz0 : (0 : Int) ≤ (j : Int) := by omega
      have LT := Lib.hid hlt
      clear hcell m1 m2 m3 hlt
      by_cases hk : 1 ≤ c0 ∧ c0 ≤ 5
      · obtain ⟨kd, rfl⟩ : ∃ kd : Nat, c0 = (kd : Nat) := ⟨c0.toNat, by omega⟩
        obtain ⟨xx, σ', k', hp, hx, ho⟩ := outc (N := ⟨a, b, 2⟩) (id := c1) (d := c2) (p := c3) (by have := AB.out; show a ≤ 64; omega) (by have := AB.out; show 0 < a; omega) rfl (by have := HL.out; have := HJ.out; omega) HQ.out.1 (kd := kd) (by omega)
        have PP := Lib.hid (And.intro hp (And.intro hx ho))
        have HK := Lib.hid (show 1 ≤ kd ∧ kd ≤ 5 by omega)
        clear hp hx ho hk
        go_wp2_with fail
        clear x0 x1 x2 x3
        refine (HR.out.op (fun S1 hb => run_of (E := E) (kd := kd) (id := c1) (d := c2) (p := c3) (m := xx) HK.out hb (by have := HL.out; have := HJ.out; omega) NA.out.1 NA.out.2.1 MM.out.1 MM.out.2.1 MM.out.2.2 (by rw [HN.out]; exact PP.out.1) PP.out.2.1)).mono ?_
        rintro e wd ⟨rfl, h2⟩
        have H2 := Lib.hid h2
        clear h2
        go_wp2
        go_roundw
        case rel =>
          refine ⟨j + 1, σ', LT.out, by go_num, (H2.out.quiet ((Ch.refl _ _).alloc _)).up (by have := PP.out.2.1; omega), PP.out.2.2.q, by rw [PP.out.2.2.i]; exact HQ.out.2.1, by rw [PP.out.2.2.cl]; exact HQ.out.2.2⟩
        case measure => simp [intOf]; omega
      · have hno : c0 < 1 ∨ 5 < c0 := by omega
        have HK := Lib.hid hno
        go_wp2_with fail
        clear x0 x1 x2 x3
        refine (run_no HK.out _ _ _ _ _).mono ?_
        rintro e wd ⟨rfl, cd⟩
        have cq : Ch Nil wr (wd.alloc (Obj.cells #[.int .i64 (0 : Int), .bool false, .int .u64 (0 : Int), .int .u64 (0 : Int), .slice none 0 0] 51)) := cd.alloc _
        have H2 := Lib.hid (HR.out.quiet cq)
        obtain ⟨x0, x1, x2, x3⟩ := HC.out _ (CW.out.trans H2.out.c)
        clear cd cq
        by_cases g1 : 1 ≤ c0
        · have g2 : ¬ c0 ≤ 5 := by omega
          clear hk hno
          go_wp2
          go_roundw
          case rel =>
            exact ⟨j + 1, σ, LT.out, by go_num, H2.out.up (by omega), HQ.out.1.up (by omega), HQ.out.2.1, HQ.out.2.2⟩
          case measure => simp [intOf]; omega
        · clear hk hno
          go_wp2
          go_roundw
          case rel =>
            exact ⟨j + 1, σ, LT.out, by go_num, H2.out.up (by omega), HQ.out.1.up (by omega), HQ.out.2.1, HQ.out.2.2⟩
          case measure => simp [intOf]; omega
    · obtain rfl : j = len := by have := HJ.out; omega
      clear hlt
      cases bs with
      | true =>
        go_wp2_with fail
        refine (HR.out.op (fun S1 hb => hb.shut (Lib.hid HQ.out.2.2))).mono ?_
        rintro e wd ⟨rfl, h1⟩
        obtain ⟨τ, R1, Q1⟩ : ∃ τ, Hid (Fx E wb wd τ (1000 * j) []) ∧ Hid (Qt ⟨a, b, 2⟩ j τ ∧ τ.i = 0 ∧ τ.cl = true) := ⟨_, Lib.hid h1, Lib.hid ⟨Qt.shut HQ.out.1 true, HQ.out.2.1, rfl⟩⟩
        clear h1 HR HQ
        have C1 := Lib.hid (show Ch Nil wd (wd.alloc (Obj.cells #[.int .u64 0, .int .u64 0, .int .u64 0, .int .u64 0, .int .u64 0, .int .u64 0, .int .u64 0, .int .u64 0] 59)) from (Ch.refl _ _).alloc _)
        have F1 : Hid (Fx E wb (wd.alloc (Obj.cells #[.int .u64 0, .int .u64 0, .int .u64 0, .int .u64 0, .int .u64 0, .int .u64 0, .int .u64 0, .int .u64 0] 59)) τ (1000 * j) [(wd.heap.size, [.int .u64 0, .int .u64 0, .int .u64 0, .int .u64 0, .int .u64 0, .int .u64 0, .int .u64 0, .int .u64 0])]) := Lib.hid (R1.out.push C1.out (Nat.le_refl _) (IsVs.new wd [.int .u64 0, .int .u64 0, .int .u64 0, .int .u64 0, .int .u64 0, .int .u64 0, .int .u64 0, .int .u64 0] 59))
        go_upto_region 18 with (fail)
        generalize wd.alloc (Obj.cells #[.int .u64 0, .int .u64 0, .int .u64 0, .int .u64 0, .int .u64 0, .int .u64 0, .int .u64 0, .int .u64 0] 59) = we at F1 ⊢
        obtain ⟨B, hB⟩ : ∃ B, B = wd.heap.size := ⟨_, rfl⟩
        rw [← hB] at F1 ⊢
        clear hB C1 R1
        go_wp2
        go_loopw [19] (fun i wr => ∃ (q : Nat) (vs : List Value), q ≤ a ∧ i = .int .i64 q ∧ Fx E wb wr τ (1000 * j) [(B, vs)] ∧ vs.length = 8 ∧ ∀ t, t < q → vs[t]? = some (.int .u64 ((τ.R t).wd : Nat))) (fun i _ => a - (intOf i).toNat)
        case atStart => exact ⟨0, _, by omega, rfl, F1.out, rfl, fun t h => by omega⟩
        case round =>
          obtain ⟨q, vs, hq, rfl, hF, hl, hvs⟩ := hrel
          have F2 := Lib.hid hF
          have VS := Lib.hid (And.intro hl hvs)
          have HQ2 := Lib.hid hq
          clear hF hl hvs hq F1
          by_cases hlt : q < a
          · have hqz : (q : Int) < (a : Int) := by omega
            have hq8 : (q : Int) < 8 := by have := AB.out; omega
            have hq0 : (0 : Int) ≤ (q : Int) := by omega
            have LT := Lib.hid hlt
            clear hlt
            go_wp2_with fail
            refine (F2.out.op (fun S1 hb => hb.slabOf)).mono ?_
            rintro e wf ⟨rfl, h3⟩
            have F3 := Lib.hid h3
            clear h3
            go_wp2_with fail
            refine (F3.out.op (fun S1 hb => hb.word q (by rw [NA.out.2.2.2]; exact LT.out))).mono ?_
            rintro e wg ⟨rfl, h4⟩
            have F4 := Lib.hid h4
            clear h4
            obtain ⟨v, hv⟩ : ∃ v, vs[q]? = some v := ⟨_, List.getElem?_eq_getElem (by have := VS.out.1; have := AB.out; have := LT.out; omega)⟩
            have cq := (F4.out.box List.mem_cons_self).c q v hv
            have fq := (F4.out.box List.mem_cons_self).b.fz q
            clear hv
            go_wp2
            go_roundw
            case rel =>
              refine ⟨q + 1, vs.set q (.int .u64 ((τ.R q).wd : Nat)), LT.out, by go_num, F4.out.set q _, by rw [List.length_set]; exact VS.out.1, fun t ht => ?_⟩
              by_cases e : t = q
              · subst e; rw [List.getElem?_set_self (by have := VS.out.1; have := AB.out; have := LT.out; omega)]
              · rw [List.getElem?_set_ne (fun h => e h.symm)]; exact VS.out.2 t (by omega)
            case measure => simp [intOf]; have := LT.out; omega
          · obtain rfl : a = q := by have := HQ2.out; omega
            clear hlt
            go_wp2_with fail
            refine (F2.out.op (fun S1 hb => hb.slabOf)).mono ?_
            rintro e wh ⟨rfl, h9⟩
            have F3 := Lib.hid h9
            clear h9 F2
            go_wp2_with fail
            refine (F3.out.op (fun S1 hb => hb.count)).mono ?_
            rintro e wi ⟨rfl, h9⟩
            have F4 := Lib.hid h9
            clear h9 F3
            go_wp2_with fail
            refine (F4.out.op (fun S1 hb => hb.shard 0 0 rfl (by rw [NA.out.2.2.1]; decide))).mono ?_
            rintro e gw1 ⟨rfl, h9⟩
            have G1 := Lib.hid h9
            clear h9 F4
            go_wp2_with fail
            have W0 := G1.out.op (fun S1 hb => hb.waiting (by have := HL.out; omega) 0 (by rw [NA.out.2.2.1]; decide) (by rw [(Q1.out.1.rg 0).1]; omega))
            rw [(Q1.out.1.rg 0).1, Nat.sub_zero] at W0
            refine W0.mono ?_
            clear W0
            rintro e gw2 ⟨rfl, h9⟩
            have G2 := Lib.hid h9
            clear h9 G1
            go_wp2_with fail
            refine (G2.out.op (fun S1 hb => hb.shard 1 1 rfl (by rw [NA.out.2.2.1]; decide))).mono ?_
            rintro e gw3 ⟨rfl, h9⟩
            have G3 := Lib.hid h9
            clear h9 G2
            go_wp2_with fail
            have W0 := G3.out.op (fun S1 hb => hb.waiting (by have := HL.out; omega) 1 (by rw [NA.out.2.2.1]; decide) (by rw [(Q1.out.1.rg 1).1]; omega))
            rw [(Q1.out.1.rg 1).1, Nat.sub_zero] at W0
            refine W0.mono ?_
            clear W0
            rintro e gw4 ⟨rfl, h9⟩
            have G4 := Lib.hid h9
            clear h9 G3
            have hw : wrap64 (((τ.g 0).nx : Int) + ((τ.g 1).nx : Int)) = ((wt τ : Nat) : Int) := by
              have h0 := (Q1.out.1.rg 0).2.1
              have h1 := (Q1.out.1.rg 1).2.1
              have := AB.out
              dsimp only at h0 h1
              unfold wt wrap64
              omega
            go_upto_region 23 with (fail)
            rw [hw]
            clear hw
            obtain ⟨z0, z1, z2, z3⟩ := (BX.out.kept G4.out.c (fun e => e)).cells4
            by_cases hk : 1 ≤ a0 ∧ a0 ≤ 5
            · obtain ⟨kd, rfl⟩ : ∃ kd : Nat, a0 = (kd : Nat) := ⟨a0.toNat, by omega⟩
              obtain ⟨xx, σ', k', hp, hx, ho⟩ := outc (N := ⟨a, b, 2⟩) (id := id) (d := d) (p := p) (by have := AB.out; show a ≤ 64; omega) (by have := AB.out; show 0 < a; omega) rfl (by have := HL.out; omega) Q1.out.1 (kd := kd) (by omega)
              have PP := Lib.hid (And.intro hp hx)
              have HO := Lib.hid ho
              have HK := Lib.hid (show 1 ≤ kd ∧ kd ≤ 5 by omega)
              have k1 : ¬ (kd : Int) < 1 := by omega
              have k5 : ¬ 5 < (kd : Int) := by omega
              clear hp hx ho hk
              go_wp2_with fail
              clear z0 z1 z2 z3
              refine (G4.out.op (fun S1 hb => run_of (E := E) (kd := kd) (id := id) (d := d) (p := p) (m := xx) HK.out hb (by have := HL.out; omega) NA.out.1 NA.out.2.1 HD.out.1 HD.out.2.1 HD.out.2.2 (by rw [HN.out]; exact PP.out.1) PP.out.2)).mono ?_
              rintro e wl ⟨rfl, h9⟩
              have H1 := Lib.hid (h9.up (n' := 1000 * j + 1000) (by have := PP.out.2; omega))
              clear h9 PP G4
              generalize k'.a = an at HO ⊢
              clear k'
              have CL := Lib.hid (show Ch Nil wl (wl.alloc (Obj.cells #[.int .i64 (an.e : Nat), .bool an.ok, .int .u64 (an.id : Nat), .int .u64 (an.g : Nat), .slice none 0 0] 51)) from (Ch.refl _ _).alloc _)
              have H2 : Hid (Fx E wb (wl.alloc (Obj.cells #[.int .i64 (an.e : Nat), .bool an.ok, .int .u64 (an.id : Nat), .int .u64 (an.g : Nat), .slice none 0 0] 51)) σ' (1000 * j + 1000) [(wl.heap.size, [.int .i64 (an.e : Nat), .bool an.ok, .int .u64 (an.id : Nat), .int .u64 (an.g : Nat), .slice none 0 0]), (B, vs)]) := Lib.hid (H1.out.push CL.out (Nat.le_refl _) (IsVs.new wl (anL an) 51))
              go_upto_region 24 with (fail)
              generalize wl.alloc (Obj.cells #[.int .i64 (an.e : Nat), .bool an.ok, .int .u64 (an.id : Nat), .int .u64 (an.g : Nat), .slice none 0 0] 51) = wm at H2 ⊢
              obtain ⟨A, hA⟩ : ∃ A, A = wl.heap.size := ⟨_, rfl⟩
              rw [← hA] at H2 ⊢
              clear hA CL H1
              obtain ⟨z0, z1, z2, z3⟩ := (BX.out.kept H2.out.c (fun e => e)).cells4
              obtain ⟨y0, y1, y2, y3, y4⟩ := (H2.out.box List.mem_cons_self).cells5
              obtain ⟨hok, he⟩ := HO.out.sh Q1.out.2.2
              have HE := Lib.hid he
              have MR := Lib.hid (HO.out.no hok).2.1
              by_cases e3 : an.e = 3
              · have e3 : ((an.e : Nat) : Int) = 3 := by omega
                rw [hok] at y1 H2
                have I0 : σ'.i = 0 := HO.out.i.trans Q1.out.2.1
                go_wp2_with fail
                clear y0 y1 y2 y3 y4 z0 z1 z2 z3
                have IN := H2.out.op (fun S1 hb => hb.inside)
                rw [I0] at IN
                refine IN.mono ?_
                clear IN I0
                rintro e wn ⟨rfl, h9⟩
                have H3 := Lib.hid h9
                clear h9 H2
                obtain ⟨y0, y1, y2, y3, y4⟩ := (H3.out.box List.mem_cons_self).cells5
                go_upto_region 30 with (fail)
                clear y0 y1 y2 y3 y4 e3
                go_wp2_with fail
                refine (H3.out.op (fun S1 hb => hb.shard 0 0 rfl (by rw [NA.out.2.2.1]; decide))).mono ?_
                rintro e kw1 ⟨rfl, h9⟩
                have K1 := Lib.hid h9
                clear h9 H3
                go_wp2_with fail
                have W0 := K1.out.op (fun S1 hb => hb.waiting (by have := HL.out; omega) 0 (by rw [NA.out.2.2.1]; decide) (by rw [(HO.out.q.rg 0).1]; omega))
                rw [(HO.out.q.rg 0).1, Nat.sub_zero] at W0
                refine W0.mono ?_
                clear W0
                rintro e kw2 ⟨rfl, h9⟩
                have K2 := Lib.hid h9
                clear h9 K1
                go_wp2_with fail
                refine (K2.out.op (fun S1 hb => hb.shard 1 1 rfl (by rw [NA.out.2.2.1]; decide))).mono ?_
                rintro e kw3 ⟨rfl, h9⟩
                have K3 := Lib.hid h9
                clear h9 K2
                go_wp2_with fail
                have W0 := K3.out.op (fun S1 hb => hb.waiting (by have := HL.out; omega) 1 (by rw [NA.out.2.2.1]; decide) (by rw [(HO.out.q.rg 1).1]; omega))
                rw [(HO.out.q.rg 1).1, Nat.sub_zero] at W0
                refine W0.mono ?_
                clear W0
                rintro e kw4 ⟨rfl, h9⟩
                have K4 := Lib.hid h9
                clear h9 K3
                have hw : wrap64 (((σ'.g 0).nx : Int) + ((σ'.g 1).nx : Int)) = ((wt σ' : Nat) : Int) := by
                  have h0 := (HO.out.q.rg 0).2.1
                  have h1 := (HO.out.q.rg 1).2.1
                  have := AB.out
                  dsimp only at h0 h1
                  unfold wt wrap64
                  omega
                have hm : wrap64 (((wt σ' : Nat) : Int) - ((wt τ : Nat) : Int)) = (0 : Int) := by have := MR.out; unfold wrap64; omega
                go_upto_region 31 with (fail)
                rw [hw, hm]
                clear hw hm
                go_wp2
                go_loopw [26] (fun i wr => ∃ t : Nat, t ≤ a ∧ i = .int .i64 t ∧ Fx E wb wr σ' (1000 * j + 1000) [(A, [.int .i64 (an.e : Nat), .bool false, .int .u64 (an.id : Nat), .int .u64 (an.g : Nat), .slice none 0 0]), (B, vs)]) (fun i _ => a - (intOf i).toNat)
                case atStart => exact ⟨0, by omega, rfl, K4.out⟩
                case round =>
                  obtain ⟨t, ht, rfl, hF⟩ := hrel
                  have F2 := Lib.hid hF
                  have HT := Lib.hid ht
                  clear hF ht K4
                  by_cases hlt : t < a
                  · have hqz : (t : Int) < (a : Int) := by omega
                    have hq8 : (t : Int) < 8 := by have := AB.out; omega
                    have hq0 : (0 : Int) ≤ (t : Int) := by omega
                    have LT := Lib.hid hlt
                    clear hlt
                    obtain ⟨X, hX⟩ : ∃ X, X = (σ'.R t).wd := ⟨_, rfl⟩
                    obtain ⟨Y, hY⟩ : ∃ Y, Y = (τ.R t).wd := ⟨_, rfl⟩
                    have XY := Lib.hid (show X < 18446744073709551616 ∧ Y < 18446744073709551616 from ⟨by rw [hX]; exact okW_lt64 (HO.out.q.wd t LT.out).1, by rw [hY]; exact okW_lt64 (Q1.out.1.wd t LT.out).1⟩)
                    go_wp2_with fail
                    refine (F2.out.op (fun S1 hb => hb.slabOf)).mono ?_
                    rintro e wo ⟨rfl, h9⟩
                    have F3 := Lib.hid h9
                    clear h9 F2
                    go_wp2_with fail
                    have WO := F3.out.op (fun S1 hb => hb.word t (by rw [NA.out.2.2.2]; exact LT.out))
                    rw [← hX] at WO
                    refine WO.mono ?_
                    clear WO
                    rintro e wp ⟨rfl, h9⟩
                    have F4 := Lib.hid h9
                    clear h9 F3
                    have cb := (F4.out.box (List.mem_cons_of_mem _ List.mem_cons_self)).c t _ (VS.out.2 t LT.out)
                    rw [← hY] at cb
                    obtain ⟨y0, y1, y2, y3, y4⟩ := (F4.out.box List.mem_cons_self).cells5
                    by_cases hs : X = Y
                    · subst hs
                      clear hX hY
                      have n2 : ((an.e : Int) == 2) = false := by rw [beq_eq_false_iff_ne]; have := HE.out; omega
                      go_wp2
                      go_roundw
                      case rel => exact ⟨t + 1, LT.out, by go_num, F4.out⟩
                      case measure => simp [intOf]; have := LT.out; omega
                    · exact absurd (by rw [hX, hY]; exact ((HO.out.no hok).2.2 t LT.out).elim (fun q => q) (fun q => by have := HE.out; omega)) hs
                  · obtain rfl : a = t := by have := HT.out; omega
                    clear hlt
                    obtain ⟨y0, y1, y2, y3, y4⟩ := (F2.out.box List.mem_cons_self).cells5
                    go_wp2_with fail
                    refine (F2.out.op (fun S1 hb => hb.slabOf)).mono ?_
                    rintro e wr1 ⟨rfl, h9⟩
                    have F3 := Lib.hid h9
                    clear h9 F2
                    go_wp2_with fail
                    have CO := F3.out.op (fun S1 hb => hb.count)
                    rw [(HO.out.no hok).1] at CO
                    refine CO.mono ?_
                    clear CO
                    rintro e ws ⟨rfl, h9⟩
                    have F4 := Lib.hid h9
                    clear h9 F3
                    go_wp2
                    go_ret
                    exact ⟨rfl, (CW.out.trans F4.out.c).below (Nat.le_refl _) (fun _ _ e => e.elim)⟩
              · have e3 : ((an.e : Nat) : Int) = 1 := by omega
                rw [hok] at y1 H2
                have I0 : σ'.i = 0 := HO.out.i.trans Q1.out.2.1
                go_wp2_with fail
                clear y0 y1 y2 y3 y4 z0 z1 z2 z3
                have IN := H2.out.op (fun S1 hb => hb.inside)
                rw [I0] at IN
                refine IN.mono ?_
                clear IN I0
                rintro e wn ⟨rfl, h9⟩
                have H3 := Lib.hid h9
                clear h9 H2
                obtain ⟨y0, y1, y2, y3, y4⟩ := (H3.out.box List.mem_cons_self).cells5
                go_upto_region 30 with (fail)
                clear y0 y1 y2 y3 y4 e3
                go_wp2_with fail
                refine (H3.out.op (fun S1 hb => hb.shard 0 0 rfl (by rw [NA.out.2.2.1]; decide))).mono ?_
                rintro e kw1 ⟨rfl, h9⟩
                have K1 := Lib.hid h9
                clear h9 H3
                go_wp2_with fail
                have W0 := K1.out.op (fun S1 hb => hb.waiting (by have := HL.out; omega) 0 (by rw [NA.out.2.2.1]; decide) (by rw [(HO.out.q.rg 0).1]; omega))
                rw [(HO.out.q.rg 0).1, Nat.sub_zero] at W0
                refine W0.mono ?_
                clear W0
                rintro e kw2 ⟨rfl, h9⟩
                have K2 := Lib.hid h9
                clear h9 K1
                go_wp2_with fail
                refine (K2.out.op (fun S1 hb => hb.shard 1 1 rfl (by rw [NA.out.2.2.1]; decide))).mono ?_
                rintro e kw3 ⟨rfl, h9⟩
                have K3 := Lib.hid h9
                clear h9 K2
                go_wp2_with fail
                have W0 := K3.out.op (fun S1 hb => hb.waiting (by have := HL.out; omega) 1 (by rw [NA.out.2.2.1]; decide) (by rw [(HO.out.q.rg 1).1]; omega))
                rw [(HO.out.q.rg 1).1, Nat.sub_zero] at W0
                refine W0.mono ?_
                clear W0
                rintro e kw4 ⟨rfl, h9⟩
                have K4 := Lib.hid h9
                clear h9 K3
                have hw : wrap64 (((σ'.g 0).nx : Int) + ((σ'.g 1).nx : Int)) = ((wt σ' : Nat) : Int) := by
                  have h0 := (HO.out.q.rg 0).2.1
                  have h1 := (HO.out.q.rg 1).2.1
                  have := AB.out
                  dsimp only at h0 h1
                  unfold wt wrap64
                  omega
                have hm : wrap64 (((wt σ' : Nat) : Int) - ((wt τ : Nat) : Int)) = (0 : Int) := by have := MR.out; unfold wrap64; omega
                go_upto_region 31 with (fail)
                rw [hw, hm]
                clear hw hm
                go_wp2
                go_loopw [26] (fun i wr => ∃ t : Nat, t ≤ a ∧ i = .int .i64 t ∧ Fx E wb wr σ' (1000 * j + 1000) [(A, [.int .i64 (an.e : Nat), .bool false, .int .u64 (an.id : Nat), .int .u64 (an.g : Nat), .slice none 0 0]), (B, vs)]) (fun i _ => a - (intOf i).toNat)
                case atStart => exact ⟨0, by omega, rfl, K4.out⟩
                case round =>
                  obtain ⟨t, ht, rfl, hF⟩ := hrel
                  have F2 := Lib.hid hF
                  have HT := Lib.hid ht
                  clear hF ht K4
                  by_cases hlt : t < a
                  · have hqz : (t : Int) < (a : Int) := by omega
                    have hq8 : (t : Int) < 8 := by have := AB.out; omega
                    have hq0 : (0 : Int) ≤ (t : Int) := by omega
                    have LT := Lib.hid hlt
                    clear hlt
                    obtain ⟨X, hX⟩ : ∃ X, X = (σ'.R t).wd := ⟨_, rfl⟩
                    obtain ⟨Y, hY⟩ : ∃ Y, Y = (τ.R t).wd := ⟨_, rfl⟩
                    have XY := Lib.hid (show X < 18446744073709551616 ∧ Y < 18446744073709551616 from ⟨by rw [hX]; exact okW_lt64 (HO.out.q.wd t LT.out).1, by rw [hY]; exact okW_lt64 (Q1.out.1.wd t LT.out).1⟩)
                    go_wp2_with fail
                    refine (F2.out.op (fun S1 hb => hb.slabOf)).mono ?_
                    rintro e wo ⟨rfl, h9⟩
                    have F3 := Lib.hid h9
                    clear h9 F2
                    go_wp2_with fail
                    have WO := F3.out.op (fun S1 hb => hb.word t (by rw [NA.out.2.2.2]; exact LT.out))
                    rw [← hX] at WO
                    refine WO.mono ?_
                    clear WO
                    rintro e wp ⟨rfl, h9⟩
                    have F4 := Lib.hid h9
                    clear h9 F3
                    have cb := (F4.out.box (List.mem_cons_of_mem _ List.mem_cons_self)).c t _ (VS.out.2 t LT.out)
                    rw [← hY] at cb
                    obtain ⟨y0, y1, y2, y3, y4⟩ := (F4.out.box List.mem_cons_self).cells5
                    by_cases hs : X = Y
                    · subst hs
                      clear hX hY
                      have n2 : ((an.e : Int) == 2) = false := by rw [beq_eq_false_iff_ne]; have := HE.out; omega
                      go_wp2
                      go_roundw
                      case rel => exact ⟨t + 1, LT.out, by go_num, F4.out⟩
                      case measure => simp [intOf]; have := LT.out; omega
                    · exact absurd (by rw [hX, hY]; exact ((HO.out.no hok).2.2 t LT.out).elim (fun q => q) (fun q => by have := HE.out; omega)) hs
                  · obtain rfl : a = t := by have := HT.out; omega
                    clear hlt
                    obtain ⟨y0, y1, y2, y3, y4⟩ := (F2.out.box List.mem_cons_self).cells5
                    go_wp2_with fail
                    refine (F2.out.op (fun S1 hb => hb.slabOf)).mono ?_
                    rintro e wr1 ⟨rfl, h9⟩
                    have F3 := Lib.hid h9
                    clear h9 F2
                    go_wp2_with fail
                    have CO := F3.out.op (fun S1 hb => hb.count)
                    rw [(HO.out.no hok).1] at CO
                    refine CO.mono ?_
                    clear CO
                    rintro e ws ⟨rfl, h9⟩
                    have F4 := Lib.hid h9
                    clear h9 F3
                    go_wp2
                    go_ret
                    exact ⟨rfl, (CW.out.trans F4.out.c).below (Nat.le_refl _) (fun _ _ e => e.elim)⟩
            · have hno : a0 < 1 ∨ 5 < a0 := by omega
              have HK := Lib.hid hno
              clear hk hno
              go_wp2_with fail
              clear z0 z1 z2 z3
              refine (run_no HK.out _ _ _ _ _).mono ?_
              rintro e wl ⟨rfl, cl⟩
              have H1 := Lib.hid (CW.out.trans (G4.out.c.trans (cl.alloc (Obj.cells #[.int .i64 (0 : Int), .bool false, .int .u64 (0 : Int), .int .u64 (0 : Int), .slice none 0 0] 51))))
              obtain ⟨z0, z1, z2, z3⟩ := (BX.out.kept (G4.out.c.trans (cl.alloc (Obj.cells #[.int .i64 (0 : Int), .bool false, .int .u64 (0 : Int), .int .u64 (0 : Int), .slice none 0 0] 51))) (fun e => e)).cells4
              clear cl
              by_cases g1 : a0 < 1
              · go_wp2
                go_ret
                exact ⟨rfl, H1.out.below (Nat.le_refl _) (fun _ _ e => e.elim)⟩
              · have g2 : 5 < a0 := by have := HK.out; omega
                go_wp2
                go_ret
                exact ⟨rfl, H1.out.below (Nat.le_refl _) (fun _ _ e => e.elim)⟩

      | false =>
        obtain ⟨τ, R1, Q1⟩ : ∃ τ, Hid (Fx E wb wr τ (1000 * j) []) ∧ Hid (Qt ⟨a, b, 2⟩ j τ ∧ τ.i = 0 ∧ τ.cl = false) := ⟨_, HR, HQ⟩
        clear HR HQ
        obtain ⟨wd, hwd⟩ : ∃ wd, wd = wr := ⟨_, rfl⟩
        rw [← hwd] at R1 ⊢
        clear hwd
        have C1 := Lib.hid (show Ch Nil wd (wd.alloc (Obj.cells #[.int .u64 0, .int .u64 0, .int .u64 0, .int .u64 0, .int .u64 0, .int .u64 0, .int .u64 0, .int .u64 0] 59)) from (Ch.refl _ _).alloc _)
        have F1 : Hid (Fx E wb (wd.alloc (Obj.cells #[.int .u64 0, .int .u64 0, .int .u64 0, .int .u64 0, .int .u64 0, .int .u64 0, .int .u64 0, .int .u64 0] 59)) τ (1000 * j) [(wd.heap.size, [.int .u64 0, .int .u64 0, .int .u64 0, .int .u64 0, .int .u64 0, .int .u64 0, .int .u64 0, .int .u64 0])]) := Lib.hid (R1.out.push C1.out (Nat.le_refl _) (IsVs.new wd [.int .u64 0, .int .u64 0, .int .u64 0, .int .u64 0, .int .u64 0, .int .u64 0, .int .u64 0, .int .u64 0] 59))
        go_upto_region 18 with (fail)
        generalize wd.alloc (Obj.cells #[.int .u64 0, .int .u64 0, .int .u64 0, .int .u64 0, .int .u64 0, .int .u64 0, .int .u64 0, .int .u64 0] 59) = we at F1 ⊢
        obtain ⟨B, hB⟩ : ∃ B, B = wd.heap.size := ⟨_, rfl⟩
        rw [← hB] at F1 ⊢
        clear hB C1 R1
        go_wp2
        go_loopw [19] (fun i wr => ∃ (q : Nat) (vs : List Value), q ≤ a ∧ i = .int .i64 q ∧ Fx E wb wr τ (1000 * j) [(B, vs)] ∧ vs.length = 8 ∧ ∀ t, t < q → vs[t]? = some (.int .u64 ((τ.R t).wd : Nat))) (fun i _ => a - (intOf i).toNat)
        case atStart => exact ⟨0, _, by omega, rfl, F1.out, rfl, fun t h => by omega⟩
        case round =>
          obtain ⟨q, vs, hq, rfl, hF, hl, hvs⟩ := hrel
          have F2 := Lib.hid hF
          have VS := Lib.hid (And.intro hl hvs)
          have HQ2 := Lib.hid hq
          clear hF hl hvs hq F1
          by_cases hlt : q < a
          · have hqz : (q : Int) < (a : Int) := by omega
            have hq8 : (q : Int) < 8 := by have := AB.out; omega
            have hq0 : (0 : Int) ≤ (q : Int) := by omega
            have LT := Lib.hid hlt
            clear hlt
            go_wp2_with fail
            refine (F2.out.op (fun S1 hb => hb.slabOf)).mono ?_
            rintro e wf ⟨rfl, h3⟩
            have F3 := Lib.hid h3
            clear h3
            go_wp2_with fail
            refine (F3.out.op (fun S1 hb => hb.word q (by rw [NA.out.2.2.2]; exact LT.out))).mono ?_
            rintro e wg ⟨rfl, h4⟩
            have F4 := Lib.hid h4
            clear h4
            obtain ⟨v, hv⟩ : ∃ v, vs[q]? = some v := ⟨_, List.getElem?_eq_getElem (by have := VS.out.1; have := AB.out; have := LT.out; omega)⟩
            have cq := (F4.out.box List.mem_cons_self).c q v hv
            have fq := (F4.out.box List.mem_cons_self).b.fz q
            clear hv
            go_wp2
            go_roundw
            case rel =>
              refine ⟨q + 1, vs.set q (.int .u64 ((τ.R q).wd : Nat)), LT.out, by go_num, F4.out.set q _, by rw [List.length_set]; exact VS.out.1, fun t ht => ?_⟩
              by_cases e : t = q
              · subst e; rw [List.getElem?_set_self (by have := VS.out.1; have := AB.out; have := LT.out; omega)]
              · rw [List.getElem?_set_ne (fun h => e h.symm)]; exact VS.out.2 t (by omega)
            case measure => simp [intOf]; have := LT.out; omega
          · obtain rfl : a = q := by have := HQ2.out; omega
            clear hlt
            go_wp2_with fail
            refine (F2.out.op (fun S1 hb => hb.slabOf)).mono ?_
            rintro e wh ⟨rfl, h9⟩
            have F3 := Lib.hid h9
            clear h9 F2
            go_wp2_with fail
            refine (F3.out.op (fun S1 hb => hb.count)).mono ?_
            rintro e wi ⟨rfl, h9⟩
            have F4 := Lib.hid h9
            clear h9 F3
            go_wp2_with fail
            refine (F4.out.op (fun S1 hb => hb.shard 0 0 rfl (by rw [NA.out.2.2.1]; decide))).mono ?_
            rintro e gw1 ⟨rfl, h9⟩
            have G1 := Lib.hid h9
            clear h9 F4
            go_wp2_with fail
            have W0 := G1.out.op (fun S1 hb => hb.waiting (by have := HL.out; omega) 0 (by rw [NA.out.2.2.1]; decide) (by rw [(Q1.out.1.rg 0).1]; omega))
            rw [(Q1.out.1.rg 0).1, Nat.sub_zero] at W0
            refine W0.mono ?_
            clear W0
            rintro e gw2 ⟨rfl, h9⟩
            have G2 := Lib.hid h9
            clear h9 G1
            go_wp2_with fail
            refine (G2.out.op (fun S1 hb => hb.shard 1 1 rfl (by rw [NA.out.2.2.1]; decide))).mono ?_
            rintro e gw3 ⟨rfl, h9⟩
            have G3 := Lib.hid h9
            clear h9 G2
            go_wp2_with fail
            have W0 := G3.out.op (fun S1 hb => hb.waiting (by have := HL.out; omega) 1 (by rw [NA.out.2.2.1]; decide) (by rw [(Q1.out.1.rg 1).1]; omega))
            rw [(Q1.out.1.rg 1).1, Nat.sub_zero] at W0
            refine W0.mono ?_
            clear W0
            rintro e gw4 ⟨rfl, h9⟩
            have G4 := Lib.hid h9
            clear h9 G3
            have hw : wrap64 (((τ.g 0).nx : Int) + ((τ.g 1).nx : Int)) = ((wt τ : Nat) : Int) := by
              have h0 := (Q1.out.1.rg 0).2.1
              have h1 := (Q1.out.1.rg 1).2.1
              have := AB.out
              dsimp only at h0 h1
              unfold wt wrap64
              omega
            go_upto_region 23 with (fail)
            rw [hw]
            clear hw
            obtain ⟨z0, z1, z2, z3⟩ := (BX.out.kept G4.out.c (fun e => e)).cells4
            by_cases hk : 1 ≤ a0 ∧ a0 ≤ 5
            · obtain ⟨kd, rfl⟩ : ∃ kd : Nat, a0 = (kd : Nat) := ⟨a0.toNat, by omega⟩
              obtain ⟨xx, σ', k', hp, hx, ho⟩ := outc (N := ⟨a, b, 2⟩) (id := id) (d := d) (p := p) (by have := AB.out; show a ≤ 64; omega) (by have := AB.out; show 0 < a; omega) rfl (by have := HL.out; omega) Q1.out.1 (kd := kd) (by omega)
              have PP := Lib.hid (And.intro hp hx)
              have HO := Lib.hid ho
              have HK := Lib.hid (show 1 ≤ kd ∧ kd ≤ 5 by omega)
              have k1 : ¬ (kd : Int) < 1 := by omega
              have k5 : ¬ 5 < (kd : Int) := by omega
              clear hp hx ho hk
              go_wp2_with fail
              clear z0 z1 z2 z3
              refine (G4.out.op (fun S1 hb => run_of (E := E) (kd := kd) (id := id) (d := d) (p := p) (m := xx) HK.out hb (by have := HL.out; omega) NA.out.1 NA.out.2.1 HD.out.1 HD.out.2.1 HD.out.2.2 (by rw [HN.out]; exact PP.out.1) PP.out.2)).mono ?_
              rintro e wl ⟨rfl, h9⟩
              have H1 := Lib.hid (h9.up (n' := 1000 * j + 1000) (by have := PP.out.2; omega))
              clear h9 PP G4
              generalize k'.a = an at HO ⊢
              clear k'
              have CL := Lib.hid (show Ch Nil wl (wl.alloc (Obj.cells #[.int .i64 (an.e : Nat), .bool an.ok, .int .u64 (an.id : Nat), .int .u64 (an.g : Nat), .slice none 0 0] 51)) from (Ch.refl _ _).alloc _)
              have H2 : Hid (Fx E wb (wl.alloc (Obj.cells #[.int .i64 (an.e : Nat), .bool an.ok, .int .u64 (an.id : Nat), .int .u64 (an.g : Nat), .slice none 0 0] 51)) σ' (1000 * j + 1000) [(wl.heap.size, [.int .i64 (an.e : Nat), .bool an.ok, .int .u64 (an.id : Nat), .int .u64 (an.g : Nat), .slice none 0 0]), (B, vs)]) := Lib.hid (H1.out.push CL.out (Nat.le_refl _) (IsVs.new wl (anL an) 51))
              go_upto_region 24 with (fail)
              generalize wl.alloc (Obj.cells #[.int .i64 (an.e : Nat), .bool an.ok, .int .u64 (an.id : Nat), .int .u64 (an.g : Nat), .slice none 0 0] 51) = wm at H2 ⊢
              obtain ⟨A, hA⟩ : ∃ A, A = wl.heap.size := ⟨_, rfl⟩
              rw [← hA] at H2 ⊢
              clear hA CL H1
              obtain ⟨z0, z1, z2, z3⟩ := (BX.out.kept H2.out.c (fun e => e)).cells4
              obtain ⟨y0, y1, y2, y3, y4⟩ := (H2.out.box List.mem_cons_self).cells5
              by_cases hok : an.ok = true
              · obtain ⟨mr, MR⟩ : ∃ mr : Nat, Hid (wt σ' = wt τ + mr ∧ mr ≤ 1) := by
                  obtain ⟨-, h4, h5, h3, h1⟩ := HO.out.ys hok
                  have hkk : kd = 4 ∨ kd = 5 ∨ kd = 3 ∨ kd ≤ 2 := by have := HK.out; omega
                  rcases hkk with e | e | e | e
                  · exact ⟨0, Lib.hid ⟨by have := h4 e; omega, by omega⟩⟩
                  · exact ⟨0, Lib.hid ⟨by have := h5 e; omega, by omega⟩⟩
                  · exact ⟨1, Lib.hid ⟨by have := h3 e; omega, by omega⟩⟩
                  · exact ⟨1, Lib.hid ⟨by have := h1 e; omega, by omega⟩⟩
                rw [hok] at y1 H2
                have I0 : σ'.i = 0 := HO.out.i.trans Q1.out.2.1
                go_wp2_with fail
                clear y0 y1 y2 y3 y4 z0 z1 z2 z3
                have IN := H2.out.op (fun S1 hb => hb.inside)
                rw [I0] at IN
                refine IN.mono ?_
                clear IN I0
                rintro e wn ⟨rfl, h9⟩
                have H3 := Lib.hid h9
                clear h9 H2
                obtain ⟨y0, y1, y2, y3, y4⟩ := (H3.out.box List.mem_cons_self).cells5
                go_upto_region 30 with (fail)
                clear y0 y1 y2 y3 y4
                go_wp2_with fail
                refine (H3.out.op (fun S1 hb => hb.shard 0 0 rfl (by rw [NA.out.2.2.1]; decide))).mono ?_
                rintro e kw1 ⟨rfl, h9⟩
                have K1 := Lib.hid h9
                clear h9 H3
                go_wp2_with fail
                have W0 := K1.out.op (fun S1 hb => hb.waiting (by have := HL.out; omega) 0 (by rw [NA.out.2.2.1]; decide) (by rw [(HO.out.q.rg 0).1]; omega))
                rw [(HO.out.q.rg 0).1, Nat.sub_zero] at W0
                refine W0.mono ?_
                clear W0
                rintro e kw2 ⟨rfl, h9⟩
                have K2 := Lib.hid h9
                clear h9 K1
                go_wp2_with fail
                refine (K2.out.op (fun S1 hb => hb.shard 1 1 rfl (by rw [NA.out.2.2.1]; decide))).mono ?_
                rintro e kw3 ⟨rfl, h9⟩
                have K3 := Lib.hid h9
                clear h9 K2
                go_wp2_with fail
                have W0 := K3.out.op (fun S1 hb => hb.waiting (by have := HL.out; omega) 1 (by rw [NA.out.2.2.1]; decide) (by rw [(HO.out.q.rg 1).1]; omega))
                rw [(HO.out.q.rg 1).1, Nat.sub_zero] at W0
                refine W0.mono ?_
                clear W0
                rintro e kw4 ⟨rfl, h9⟩
                have K4 := Lib.hid h9
                clear h9 K3
                have hw : wrap64 (((σ'.g 0).nx : Int) + ((σ'.g 1).nx : Int)) = ((wt σ' : Nat) : Int) := by
                  have h0 := (HO.out.q.rg 0).2.1
                  have h1 := (HO.out.q.rg 1).2.1
                  have := AB.out
                  dsimp only at h0 h1
                  unfold wt wrap64
                  omega
                have hm : wrap64 (((wt σ' : Nat) : Int) - ((wt τ : Nat) : Int)) = (mr : Int) := by have := MR.out; unfold wrap64; omega
                go_upto_region 31 with (fail)
                rw [hw, hm]
                clear hw hm
                go_wp2
                go_loopw [26] (fun i wr => ∃ t : Nat, t ≤ a ∧ i = .int .i64 t ∧ Fx E wb wr σ' (1000 * j + 1000) [(A, [.int .i64 (an.e : Nat), .bool true, .int .u64 (an.id : Nat), .int .u64 (an.g : Nat), .slice none 0 0]), (B, vs)]) (fun i _ => a - (intOf i).toNat)
                case atStart => exact ⟨0, by omega, rfl, K4.out⟩
                case round =>
                  obtain ⟨t, ht, rfl, hF⟩ := hrel
                  have F2 := Lib.hid hF
                  have HT := Lib.hid ht
                  clear hF ht K4
                  by_cases hlt : t < a
                  · have hqz : (t : Int) < (a : Int) := by omega
                    have hq8 : (t : Int) < 8 := by have := AB.out; omega
                    have hq0 : (0 : Int) ≤ (t : Int) := by omega
                    have LT := Lib.hid hlt
                    clear hlt
                    obtain ⟨X, hX⟩ : ∃ X, X = (σ'.R t).wd := ⟨_, rfl⟩
                    obtain ⟨Y, hY⟩ : ∃ Y, Y = (τ.R t).wd := ⟨_, rfl⟩
                    have XY := Lib.hid (show X < 18446744073709551616 ∧ Y < 18446744073709551616 from ⟨by rw [hX]; exact okW_lt64 (HO.out.q.wd t LT.out).1, by rw [hY]; exact okW_lt64 (Q1.out.1.wd t LT.out).1⟩)
                    go_wp2_with fail
                    refine (F2.out.op (fun S1 hb => hb.slabOf)).mono ?_
                    rintro e wo ⟨rfl, h9⟩
                    have F3 := Lib.hid h9
                    clear h9 F2
                    go_wp2_with fail
                    have WO := F3.out.op (fun S1 hb => hb.word t (by rw [NA.out.2.2.2]; exact LT.out))
                    rw [← hX] at WO
                    refine WO.mono ?_
                    clear WO
                    rintro e wp ⟨rfl, h9⟩
                    have F4 := Lib.hid h9
                    clear h9 F3
                    have cb := (F4.out.box (List.mem_cons_of_mem _ List.mem_cons_self)).c t _ (VS.out.2 t LT.out)
                    rw [← hY] at cb
                    obtain ⟨y0, y1, y2, y3, y4⟩ := (F4.out.box List.mem_cons_self).cells5
                    by_cases hs : X = Y
                    · subst hs
                      clear hX hY
                      go_wp2
                      go_roundw
                      case rel => exact ⟨t + 1, LT.out, by go_num, F4.out⟩
                      case measure => simp [intOf]; have := LT.out; omega
                    · have ho : t = an.id % 64 := Classical.byContradiction fun h => hs (by rw [hX, hY]; exact (HO.out.ys hok).1 t LT.out h)
                      have hxy : ((X : Int) == (Y : Int)) = false := by rw [beq_eq_false_iff_ne]; omega
                      have hown : ((((an.id : Nat) : Int) % 64) == (t : Int)) = true := by rw [beq_iff_eq]; omega
                      have HO2 := Lib.hid ho
                      clear hX hY hs ho
                      go_wp2
                      go_roundw
                      case rel => exact ⟨t + 1, LT.out, by go_num, F4.out⟩
                      case measure => simp [intOf]; have := LT.out; omega
                  · obtain rfl : a = t := by have := HT.out; omega
                    clear hlt
                    obtain ⟨y0, y1, y2, y3, y4⟩ := (F2.out.box List.mem_cons_self).cells5
                    have MX := MR.out
                    obtain ⟨z0, z1, z2, z3⟩ := (BX.out.kept F2.out.c (fun e => e)).cells4
                    have hcc := Q1.out.1.le
                    have hc64 : τ.cnt ≤ 64 := by have := AB.out; dsimp only at hcc; omega
                    have hkk : kd = 4 ∨ kd = 5 ∨ kd = 3 ∨ kd = 1 ∨ kd = 2 := by have := HK.out; omega
                    rcases hkk with rfl | rfl | rfl | rfl | rfl
                    · obtain ⟨hc, hw⟩ := (HO.out.ys hok).2.1 rfl
                      obtain rfl : mr = 0 := by omega
                      have hcw : wrap64 ((τ.cnt : Int) - 1) = (σ'.cnt : Int) := by unfold wrap64; omega
                      clear hw MX hcc hc64
                      clear hc
                      go_wp2_with fail
                      refine (F2.out.op (fun S1 hb => hb.slabOf)).mono ?_
                      rintro e wr1 ⟨rfl, h9⟩
                      have F3 := Lib.hid h9
                      clear h9 F2
                      go_wp2_with fail
                      have CO := F3.out.op (fun S1 hb => hb.count)
                      refine CO.mono ?_
                      clear CO
                      rintro e ws ⟨rfl, h9⟩
                      have F4 := Lib.hid h9
                      clear h9 F3
                      go_wp2
                      go_ret
                      exact ⟨rfl, (CW.out.trans F4.out.c).below (Nat.le_refl _) (fun _ _ e => e.elim)⟩
                    · obtain ⟨hc, hw⟩ := (HO.out.ys hok).2.2.1 rfl
                      obtain rfl : mr = 0 := by omega
                      clear hw MX hcc hc64
                      go_wp2_with fail
                      refine (F2.out.op (fun S1 hb => hb.slabOf)).mono ?_
                      rintro e wr1 ⟨rfl, h9⟩
                      have F3 := Lib.hid h9
                      clear h9 F2
                      go_wp2_with fail
                      have CO := F3.out.op (fun S1 hb => hb.count)
                      rw [hc] at CO
                      clear hc
                      refine CO.mono ?_
                      clear CO
                      rintro e ws ⟨rfl, h9⟩
                      have F4 := Lib.hid h9
                      clear h9 F3
                      go_wp2
                      go_ret
                      exact ⟨rfl, (CW.out.trans F4.out.c).below (Nat.le_refl _) (fun _ _ e => e.elim)⟩
                    · obtain ⟨hc, hw⟩ := (HO.out.ys hok).2.2.2.1 rfl
                      obtain rfl : mr = 1 := by omega
                      clear hw MX hcc hc64
                      go_wp2_with fail
                      refine (F2.out.op (fun S1 hb => hb.slabOf)).mono ?_
                      rintro e wr1 ⟨rfl, h9⟩
                      have F3 := Lib.hid h9
                      clear h9 F2
                      go_wp2_with fail
                      have CO := F3.out.op (fun S1 hb => hb.count)
                      rw [hc] at CO
                      clear hc
                      refine CO.mono ?_
                      clear CO
                      rintro e ws ⟨rfl, h9⟩
                      have F4 := Lib.hid h9
                      clear h9 F3
                      go_wp2
                      go_ret
                      exact ⟨rfl, (CW.out.trans F4.out.c).below (Nat.le_refl _) (fun _ _ e => e.elim)⟩
                    · obtain ⟨hc, hw⟩ := (HO.out.ys hok).2.2.2.2 (by omega)
                      obtain rfl : mr = 1 := by omega
                      have hcw : wrap64 ((τ.cnt : Int) + 1) = (σ'.cnt : Int) := by unfold wrap64; omega
                      clear hw MX hcc hc64
                      clear hc
                      go_wp2_with fail
                      refine (F2.out.op (fun S1 hb => hb.slabOf)).mono ?_
                      rintro e wr1 ⟨rfl, h9⟩
                      have F3 := Lib.hid h9
                      clear h9 F2
                      go_wp2_with fail
                      have CO := F3.out.op (fun S1 hb => hb.count)
                      refine CO.mono ?_
                      clear CO
                      rintro e ws ⟨rfl, h9⟩
                      have F4 := Lib.hid h9
                      clear h9 F3
                      go_wp2
                      go_ret
                      exact ⟨rfl, (CW.out.trans F4.out.c).below (Nat.le_refl _) (fun _ _ e => e.elim)⟩
                    · obtain ⟨hc, hw⟩ := (HO.out.ys hok).2.2.2.2 (by omega)
                      obtain rfl : mr = 1 := by omega
                      have hcw : wrap64 ((τ.cnt : Int) + 1) = (σ'.cnt : Int) := by unfold wrap64; omega
                      clear hw MX hcc hc64
                      clear hc
                      go_wp2_with fail
                      refine (F2.out.op (fun S1 hb => hb.slabOf)).mono ?_
                      rintro e wr1 ⟨rfl, h9⟩
                      have F3 := Lib.hid h9
                      clear h9 F2
                      go_wp2_with fail
                      have CO := F3.out.op (fun S1 hb => hb.count)
                      refine CO.mono ?_
                      clear CO
                      rintro e ws ⟨rfl, h9⟩
                      have F4 := Lib.hid h9
                      clear h9 F3
                      go_wp2
                      go_ret
                      exact ⟨rfl, (CW.out.trans F4.out.c).below (Nat.le_refl _) (fun _ _ e => e.elim)⟩
              · have hok : an.ok = false := by cases e : an.ok <;> simp_all
                have MR := Lib.hid (HO.out.no hok).2.1
                rw [hok] at y1 H2
                have I0 : σ'.i = 0 := HO.out.i.trans Q1.out.2.1
                go_wp2_with fail
                clear y0 y1 y2 y3 y4 z0 z1 z2 z3
                have IN := H2.out.op (fun S1 hb => hb.inside)
                rw [I0] at IN
                refine IN.mono ?_
                clear IN I0
                rintro e wn ⟨rfl, h9⟩
                have H3 := Lib.hid h9
                clear h9 H2
                obtain ⟨y0, y1, y2, y3, y4⟩ := (H3.out.box List.mem_cons_self).cells5
                go_upto_region 30 with (fail)
                clear y0 y1 y2 y3 y4
                go_wp2_with fail
                refine (H3.out.op (fun S1 hb => hb.shard 0 0 rfl (by rw [NA.out.2.2.1]; decide))).mono ?_
                rintro e kw1 ⟨rfl, h9⟩
                have K1 := Lib.hid h9
                clear h9 H3
                go_wp2_with fail
                have W0 := K1.out.op (fun S1 hb => hb.waiting (by have := HL.out; omega) 0 (by rw [NA.out.2.2.1]; decide) (by rw [(HO.out.q.rg 0).1]; omega))
                rw [(HO.out.q.rg 0).1, Nat.sub_zero] at W0
                refine W0.mono ?_
                clear W0
                rintro e kw2 ⟨rfl, h9⟩
                have K2 := Lib.hid h9
                clear h9 K1
                go_wp2_with fail
                refine (K2.out.op (fun S1 hb => hb.shard 1 1 rfl (by rw [NA.out.2.2.1]; decide))).mono ?_
                rintro e kw3 ⟨rfl, h9⟩
                have K3 := Lib.hid h9
                clear h9 K2
                go_wp2_with fail
                have W0 := K3.out.op (fun S1 hb => hb.waiting (by have := HL.out; omega) 1 (by rw [NA.out.2.2.1]; decide) (by rw [(HO.out.q.rg 1).1]; omega))
                rw [(HO.out.q.rg 1).1, Nat.sub_zero] at W0
                refine W0.mono ?_
                clear W0
                rintro e kw4 ⟨rfl, h9⟩
                have K4 := Lib.hid h9
                clear h9 K3
                have hw : wrap64 (((σ'.g 0).nx : Int) + ((σ'.g 1).nx : Int)) = ((wt σ' : Nat) : Int) := by
                  have h0 := (HO.out.q.rg 0).2.1
                  have h1 := (HO.out.q.rg 1).2.1
                  have := AB.out
                  dsimp only at h0 h1
                  unfold wt wrap64
                  omega
                have hm : wrap64 (((wt σ' : Nat) : Int) - ((wt τ : Nat) : Int)) = (0 : Int) := by have := MR.out; unfold wrap64; omega
                go_upto_region 31 with (fail)
                rw [hw, hm]
                clear hw hm
                go_wp2
                go_loopw [26] (fun i wr => ∃ t : Nat, t ≤ a ∧ i = .int .i64 t ∧ Fx E wb wr σ' (1000 * j + 1000) [(A, [.int .i64 (an.e : Nat), .bool false, .int .u64 (an.id : Nat), .int .u64 (an.g : Nat), .slice none 0 0]), (B, vs)]) (fun i _ => a - (intOf i).toNat)
                case atStart => exact ⟨0, by omega, rfl, K4.out⟩
                case round =>
                  obtain ⟨t, ht, rfl, hF⟩ := hrel
                  have F2 := Lib.hid hF
                  have HT := Lib.hid ht
                  clear hF ht K4
                  by_cases hlt : t < a
                  · have hqz : (t : Int) < (a : Int) := by omega
                    have hq8 : (t : Int) < 8 := by have := AB.out; omega
                    have hq0 : (0 : Int) ≤ (t : Int) := by omega
                    have LT := Lib.hid hlt
                    clear hlt
                    obtain ⟨X, hX⟩ : ∃ X, X = (σ'.R t).wd := ⟨_, rfl⟩
                    obtain ⟨Y, hY⟩ : ∃ Y, Y = (τ.R t).wd := ⟨_, rfl⟩
                    have XY := Lib.hid (show X < 18446744073709551616 ∧ Y < 18446744073709551616 from ⟨by rw [hX]; exact okW_lt64 (HO.out.q.wd t LT.out).1, by rw [hY]; exact okW_lt64 (Q1.out.1.wd t LT.out).1⟩)
                    go_wp2_with fail
                    refine (F2.out.op (fun S1 hb => hb.slabOf)).mono ?_
                    rintro e wo ⟨rfl, h9⟩
                    have F3 := Lib.hid h9
                    clear h9 F2
                    go_wp2_with fail
                    have WO := F3.out.op (fun S1 hb => hb.word t (by rw [NA.out.2.2.2]; exact LT.out))
                    rw [← hX] at WO
                    refine WO.mono ?_
                    clear WO
                    rintro e wp ⟨rfl, h9⟩
                    have F4 := Lib.hid h9
                    clear h9 F3
                    have cb := (F4.out.box (List.mem_cons_of_mem _ List.mem_cons_self)).c t _ (VS.out.2 t LT.out)
                    rw [← hY] at cb
                    obtain ⟨y0, y1, y2, y3, y4⟩ := (F4.out.box List.mem_cons_self).cells5
                    by_cases hs : X = Y
                    · subst hs
                      clear hX hY
                      by_cases e2 : an.e = 2
                      · have E2 := Lib.hid e2
                        rw [e2] at y0
                        clear e2
                        by_cases hr0 : (if okW X = true then X % 8 else 0) = 0
                        · have R0 := Lib.hid hr0
                          clear hr0
                          go_wp2_with fail
                          have ST := state_any X XY.out.1 wp
                          rw [R0.out] at ST
                          refine ST.mono ?_
                          clear ST
                          rintro e wq ⟨rfl, rfl⟩
                          go_wp2_with fail
                          have ST := state_any X XY.out.1 wp
                          rw [R0.out] at ST
                          refine ST.mono ?_
                          clear ST
                          rintro e wq ⟨rfl, rfl⟩
                          go_wp2
                          go_roundw
                          case rel => exact ⟨t + 1, LT.out, by go_num, F4.out⟩
                          case measure => simp [intOf]; have := LT.out; omega
                        · obtain ⟨r, hr⟩ : ∃ r : Nat, (if okW X = true then X % 8 else 0) = r := ⟨_, rfl⟩
                          rw [hr] at hr0
                          have n0 : ((r : Int) == 0) = false := by rw [beq_eq_false_iff_ne]; omega
                          have R0 := Lib.hid hr
                          clear hr0 hr
                          go_wp2_with fail
                          have ST := state_any X XY.out.1 wp
                          rw [R0.out] at ST
                          refine ST.mono ?_
                          clear ST
                          rintro e wq ⟨rfl, rfl⟩
                          go_wp2
                          go_roundw
                          case rel => exact ⟨t + 1, LT.out, by go_num, F4.out⟩
                          case measure => simp [intOf]; have := LT.out; omega
                      · have n2 : ((an.e : Int) == 2) = false := by rw [beq_eq_false_iff_ne]; omega
                        clear e2
                        go_wp2
                        go_roundw
                        case rel => exact ⟨t + 1, LT.out, by go_num, F4.out⟩
                        case measure => simp [intOf]; have := LT.out; omega
                    · obtain ⟨e2, s1, s2⟩ := ((HO.out.no hok).2.2 t LT.out).resolve_left (by rw [← hX, ← hY]; exact hs)
                      rw [← hX] at s1
                      rw [← hY] at s2
                      have hxy : ((X : Int) == (Y : Int)) = false := by rw [beq_eq_false_iff_ne]; omega
                      have S1' := Lib.hid s1
                      have S2' := Lib.hid s2
                      rw [e2] at y0
                      clear hX hY hs s1 s2 e2
                      go_wp2_with fail
                      have ST := state_any X XY.out.1 wp
                      rw [show (if okW X = true then X % 8 else 0) = 0 from S1'.out] at ST
                      refine ST.mono ?_
                      clear ST
                      rintro e wq ⟨rfl, rfl⟩
                      go_wp2_with fail
                      have ST := state_any Y XY.out.2 wp
                      rw [show (if okW Y = true then Y % 8 else 0) = 0 from S2'.out] at ST
                      refine ST.mono ?_
                      clear ST
                      rintro e wq ⟨rfl, rfl⟩
                      go_wp2
                      go_roundw
                      case rel => exact ⟨t + 1, LT.out, by go_num, F4.out⟩
                      case measure => simp [intOf]; have := LT.out; omega
                  · obtain rfl : a = t := by have := HT.out; omega
                    clear hlt
                    obtain ⟨y0, y1, y2, y3, y4⟩ := (F2.out.box List.mem_cons_self).cells5
                    go_wp2_with fail
                    refine (F2.out.op (fun S1 hb => hb.slabOf)).mono ?_
                    rintro e wr1 ⟨rfl, h9⟩
                    have F3 := Lib.hid h9
                    clear h9 F2
                    go_wp2_with fail
                    have CO := F3.out.op (fun S1 hb => hb.count)
                    rw [(HO.out.no hok).1] at CO
                    refine CO.mono ?_
                    clear CO
                    rintro e ws ⟨rfl, h9⟩
                    have F4 := Lib.hid h9
                    clear h9 F3
                    go_wp2
                    go_ret
                    exact ⟨rfl, (CW.out.trans F4.out.c).below (Nat.le_refl _) (fun _ _ e => e.elim)⟩
            · have hno : a0 < 1 ∨ 5 < a0 := by omega
              have HK := Lib.hid hno
              clear hk hno
              go_wp2_with fail
              clear z0 z1 z2 z3
              refine (run_no HK.out _ _ _ _ _).mono ?_
              rintro e wl ⟨rfl, cl⟩
              have H1 := Lib.hid (CW.out.trans (G4.out.c.trans (cl.alloc (Obj.cells #[.int .i64 (0 : Int), .bool false, .int .u64 (0 : Int), .int .u64 (0 : Int), .slice none 0 0] 51))))
              obtain ⟨z0, z1, z2, z3⟩ := (BX.out.kept (G4.out.c.trans (cl.alloc (Obj.cells #[.int .i64 (0 : Int), .bool false, .int .u64 (0 : Int), .int .u64 (0 : Int), .slice none 0 0] 51))) (fun e => e)).cells4
              clear cl
              by_cases g1 : a0 < 1
              · go_wp2
                go_ret
                exact ⟨rfl, H1.out.below (Nat.le_refl _) (fun _ _ e => e.elim)⟩
              · have g2 : 5 < a0 := by have := HK.out; omega
                go_wp2
                go_ret
                exact ⟨rfl, H1.out.below (Nat.le_refl _) (fun _ _ e => e.elim)⟩

theorem CallsRefused_own : ownKnob Tryz.prog.godebug = none := by kernel_rfl
theorem CallsRefused_laidOut : laidOutB Tryz.prog = true := by kernel_rfl

set_option maxRecDepth 100000 in
theorem CallsRefused_lifted (os : Os) (started : os.Started) (H : Type) (enc : TypeId × Value → H) :
    ReturnsInHanded {} Tryz.checked os 4 .any (Rows.callsRefusedSpec.pre6 enc Tryz.prog Tryz.f4 Rows.callsRefusedRow.domain false) (Rows.callsRefusedSpec.post enc Tryz.prog Tryz.f4 false true false false) := by
  refine returnsInHanded_of_change (C := Tryz.checked) CallsRefused_own started (by kernel_rfl) Tryz.func4
    (ChangeSpec.witness6 (enc := enc) (C := Tryz.checked) false ⟨#[], #[.int .u8 0, .int .u8 0, .slice none 0 0, .agg #[.int .i64 0, .int .u64 0, .int .u64 0, .int .u64 0], .bool false], []⟩ 8 (by kernel_rfl) (by kernel_rfl) (by kernel_rfl) (by kernel_rfl)) ?_
  intro W base args ds gs before hval0 hW hcnd _
  have hval : ∀ (j : Nat) t v, Tryz.f4.params[j]? = some t → args[j]? = some v → Value.okWide Tryz.prog W .any base t v := hval0
  have hW' := hW
  obtain ⟨p, q, hA0, hV, rfl, hfz, hnd⟩ := hW
  have hA : DataW.TrodAll enc Tryz.prog W 0 (fun _ => true) true Tryz.f4.params.toList args.toList ds p := hA0
  rw [Tryz.params4] at hA hval
  obtain ⟨v0, vs0, d0, ds0, p0, q0, hargs, rfl, rfl, h0, r0⟩ := trodAll_cons hA
  obtain ⟨v1, vs1, d1, ds1, p1, q1, rfl, rfl, rfl, h1, r1⟩ := trodAll_cons r0
  obtain ⟨v2, vs2, d2, ds2, p2, q2, rfl, rfl, rfl, h2, r2⟩ := trodAll_cons r1
  obtain ⟨v3, vs3, d3, ds3, p3, q3, rfl, rfl, rfl, h3, r3⟩ := trodAll_cons r2
  obtain ⟨v4, vs4, d4, ds4, p4, q4, rfl, rfl, rfl, h4, r4⟩ := trodAll_cons r3
  obtain ⟨rfl, rfl, rfl⟩ := trodAll_nil r4
  obtain rfl : args = #[v0, v1, v2, v3, v4] := by cases args; simp_all
  obtain ⟨rfl, rfl⟩ := trodVars_none hV
  obtain ⟨a0, rfl, rfl, rfl, w0⟩ := open_int Tryz.underlying5 (hval 0 5 v0 rfl rfl) h0
  obtain ⟨a1, rfl, rfl, rfl, w1⟩ := open_int Tryz.underlying5 (hval 1 5 v1 rfl rfl) h1
  obtain ⟨a2, len2, cap2, rfl⟩ := okWide_slice Tryz.underlying22 (hval 2 22 v2 rfl rfl)
  have k2 := h2
  have lt2 : ∀ x ∈ p2, x.block < W.heap.size := by obtain ⟨m, hm⟩ := k2; exact DataW.trod_lt m _ _ _ hm
  have w2 : IsTab [.i .i64, .i .u64, .i .u64, .i .u64] W a2 len2 cap2 := by
    obtain ⟨fuel, hf⟩ := h2
    exact open_tab _ Tryz.underlying22 Tryz.underlying38 (by kernel_rfl) (by kernel_rfl) hf
  obtain ⟨a30, a31, a32, a33, rfl, rfl, rfl, w30, w31, w32, w33⟩ := open_call call_fits (hval 3 38 v3 rfl rfl) h3
  obtain ⟨a4, rfl, rfl, rfl⟩ := open_bool Tryz.underlying4 (hval 4 4 v4 rfl rfl) h4
  clear hA0 hval0
  simp only [List.nil_append, List.append_nil] at hW'
  refine (CallsRefused_walk a0 a1 a2 len2 cap2 a30 a31 a32 a33 a4 w0 w1 w30 w31 w32 w33 W w2).mono fun e W' ⟨he, bel⟩ => ?_
  subst he
  exact ⟨_, rfl, _, _, _, [], _, [], hW', trodAll_mk1 (shut_bool Tryz.underlying4 _), (trodAll_cons_mk (shut_int Tryz.underlying5 w0) (trodAll_cons_mk (shut_int Tryz.underlying5 w1) (trodAll_cons_mk (Below.trod CallsRefused_laidOut (by kernel_rfl) (of_decide_eq_true (by kernel_rfl)) k2 bel lt2) (trodAll_cons_mk (shut_call call_fits w30 w31 w32 w33) (trodAll_cons_mk (shut_bool Tryz.underlying4 _) trodAll_mk0))))), rfl, bel.frame _, fun h => by cases h⟩

theorem callsRefused_holds : Rows.CallsRefusedSaid :=
  OpenClaim.holds_of_wide 4 Tryz.f4 rfl rfl rfl rfl rfl rfl rfl ⟨rfl, rfl, rfl, rfl, rfl⟩ rfl rfl rfl rfl rfl (by kernel_rfl) Tryz.func4 (by kernel_rfl)
    (of_decide_eq_true (by kernel_rfl)) (by unfold Func.isWrapper; rw [if_neg (of_decide_eq_false (by kernel_rfl))]; exact ⟨rfl, rfl⟩)
    (fun os started H enc _ => CallsRefused_lifted os started H enc)
end Go.Proofs.YtnbdafmjcmmfpaaGreat
