import Derived.Test.YtnbdafmjcmmfpaaGreatK24
import Derived.Test.YtnbdafmjcmmfpaaGreatCCaTrace
import Derived.Test.YtnbdafmjcmmfpaaGreatCWordWalks4
import Derived.Test.YtnbdafmjcmmfpaaGreatCCallArg
import Derived.ProofKit
import Derived.OpenShut
import Derived.ChangeOld
import Derived.Below
/-
  Proved: for every call and every kind the statement CallsNone returns true: no work is done, and that of no floor, and of another kind, none begins. Conditions: none.
-/
namespace Go.Proofs.YtnbdafmjcmmfpaaGreat
open Go.ChangeShapes Go.WideShapes Go.ChangeAt Go.RowKit Verge
set_option linter.unusedVariables false
set_option linter.unusedSimpArgs false
attribute [local go_sem] Oper.semAt_some
set_option maxRecDepth 100000 in
set_option maxHeartbeats 2000000 in
/-- alike to itself -/
theorem eqCl (x0 x1 x2 x3 : Int) (w : World) : (Op.equalIn 10000 38 (.agg #[.int .i64 x0, .int .u64 x1, .int .u64 x2, .int .u64 x3]) (.agg #[.int .i64 x0, .int .u64 x1, .int .u64 x2, .int .u64 x3])).run Tryz.prog w = .ok true w := by
  have u3 := Tryz.underlying36
  have a3 := Tryz.isAgg36
  have z3 := Tryz.sizeOf36
  have u4 := Tryz.underlying3
  have a4 := Tryz.isAgg3
  have z4 := Tryz.sizeOf3
  have hS : Tryz.prog.underlying 38 = some (.struct (Tryz.prog.fieldsOf 38)) := by kernel_rfl
  have hp : Tryz.prog.stoodInHeld 38 = false := by kernel_rfl
  rw [show (10000 : Nat) = 9999 + 1 from rfl, run_equalIn_agg w 9999 38 _ _ hS hp]
  simp only [Program.fieldsOf, Tryz.underlying38]
  rw [show (9999 : Nat) = 9998 + 1 from rfl]
  rw [eqField w 9998 _ _ _ .i64 x0 (by decide) (by go_simp) u4]
  rw [eqField w 9998 _ _ _ .u64 x1 (by decide) (by go_simp) u3]
  rw [eqField w 9998 _ _ _ .u64 x2 (by decide) (by go_simp) u3]
  rw [eqField w 9998 _ _ _ .u64 x3 (by decide) (by go_simp) u3]
  rfl
/-- two zero answers are the same -/
theorem answers_zero (w : World) :
    Calls Tryz.prog 27 #[.agg #[.int .i64 0, .bool false, .int .u64 0, .int .u64 0, .slice none 0 0], .agg #[.int .i64 0, .bool false, .int .u64 0, .int .u64 0, .slice none 0 0]] w fun e w' => e = .returned (.bool true) ∧ Ch Nil w w' := by
  obtain ⟨i1, i2, cA⟩ := boxes2 w anZ anZ 51 51 _ rfl
  have CA := Lib.hid cA
  obtain ⟨x0, x1, x2, x3, x4⟩ := i1.cells5
  obtain ⟨y0, y1, y2, y3, y4⟩ := i2.cells5
  clear i1 i2 cA
  go_enter Tryz.func27, Tryz.ntmps27
  go_wp2
  go_ret
  exact ⟨rfl, CA.out⟩
set_option maxRecDepth 100000 in
set_option maxHeartbeats 0 in
theorem CallsNone_walk (a0 a1 a2 a3 i : Int) (w0 : (Lit.int .i64 a0).wf = true) (w1 : (Lit.int .u64 a1).wf = true) (w2 : (Lit.int .u64 a2).wf = true) (w3 : (Lit.int .u64 a3).wf = true) (w4 : (Lit.int .i64 i).wf = true) (w : World) :
    Calls Tryz.prog 6 #[.agg #[.int .i64 a0, .int .u64 a1, .int .u64 a2, .int .u64 a3], .int .i64 i] w fun e w' => e = .returned (.bool true) ∧ Below w.heap.size w w' := by
  have q1 : 0 ≤ a1 ∧ a1 ≤ 18446744073709551615 := by simpa [Lit.wf, IntKind.min, IntKind.max, IntKind.signed, IntKind.bits] using w1
  have q2 : 0 ≤ a2 ∧ a2 ≤ 18446744073709551615 := by simpa [Lit.wf, IntKind.min, IntKind.max, IntKind.signed, IntKind.bits] using w2
  have q3 : 0 ≤ a3 ∧ a3 ≤ 18446744073709551615 := by simpa [Lit.wf, IntKind.min, IntKind.max, IntKind.signed, IntKind.bits] using w3
  clear w0 w1 w2 w3 w4
  obtain ⟨id, rfl⟩ : ∃ z : Nat, a1 = (z : Nat) := ⟨a1.toNat, by omega⟩
  obtain ⟨d, rfl⟩ : ∃ z : Nat, a2 = (z : Nat) := ⟨a2.toNat, by omega⟩
  obtain ⟨p, rfl⟩ : ∃ z : Nat, a3 = (z : Nat) := ⟨a3.toNat, by omega⟩
  clear q1 q2 q3
  have CA := Lib.hid (show Ch Nil w (w.alloc (Obj.cells #[.int .i64 a0, .int .u64 (id : Nat), .int .u64 (d : Nat), .int .u64 (p : Nat)] 38)) from (Ch.refl _ _).alloc _)
  have BC : Hid (IsVs (w.alloc (Obj.cells #[.int .i64 a0, .int .u64 (id : Nat), .int .u64 (d : Nat), .int .u64 (p : Nat)] 38)) w.heap.size [.int .i64 a0, .int .u64 (id : Nat), .int .u64 (d : Nat), .int .u64 (p : Nat)]) := Lib.hid (IsVs.new w [.int .i64 a0, .int .u64 (id : Nat), .int .u64 (d : Nat), .int .u64 (p : Nat)] 38)
  go_enter Tryz.func6, Tryz.ntmps6
  go_upto_region 1 with (fail)
  generalize w.alloc (Obj.cells #[.int .i64 a0, .int .u64 (id : Nat), .int .u64 (d : Nat), .int .u64 (p : Nat)] 38) = w1 at BC CA ⊢
  obtain ⟨C, hC⟩ : ∃ C, C = w.heap.size := ⟨_, rfl⟩
  rw [← hC] at BC ⊢
  have HC := Lib.hid (show w.heap.size ≤ C ∧ C < w1.heap.size from ⟨by omega, BC.out.lt⟩)
  clear hC
  go_wp2_with fail
  refine (alive_any _).mono ?_
  rintro e w2 ⟨rfl, c2⟩
  have C2 := Lib.hid (CA.out.trans c2)
  have B2 := Lib.hid (BC.out.kept c2 (fun e => e))
  have H2 := Lib.hid (show C < w2.heap.size by have := HC.out.2; have := c2.size; omega)
  clear c2 CA BC
  go_wp2_with fail
  refine (answer_nil _).mono ?_
  rintro e w3 ⟨rfl, c3⟩
  have cD : Ch Nil w3 (w3.alloc (Obj.cells #[.int .i64 (0 : Int), .bool false, .int .u64 (0 : Int), .int .u64 (0 : Int), .slice none 0 0] 51)) := (Ch.refl _ _).alloc _
  have BA : Hid (IsVs (w3.alloc (Obj.cells #[.int .i64 (0 : Int), .bool false, .int .u64 (0 : Int), .int .u64 (0 : Int), .slice none 0 0] 51)) w3.heap.size [.int .i64 (0 : Int), .bool false, .int .u64 (0 : Int), .int .u64 (0 : Int), .slice none 0 0]) := Lib.hid (IsVs.new w3 anZ 51)
  have C4 := Lib.hid (C2.out.trans (c3.trans cD))
  have B4 := Lib.hid (B2.out.kept (c3.trans cD) (fun e => e))
  have H4 := Lib.hid (show C < (w3.alloc (Obj.cells #[.int .i64 (0 : Int), .bool false, .int .u64 (0 : Int), .int .u64 (0 : Int), .slice none 0 0] 51)).heap.size from B4.out.lt)
  clear c3 cD C2 B2 H2
  go_upto_region 5 with (fail)
  generalize w3.alloc (Obj.cells #[.int .i64 (0 : Int), .bool false, .int .u64 (0 : Int), .int .u64 (0 : Int), .slice none 0 0] 51) = w4 at BA C4 B4 H4 ⊢
  obtain ⟨A, hA⟩ : ∃ A, A = w3.heap.size := ⟨_, rfl⟩
  rw [← hA] at BA ⊢
  clear hA
  obtain ⟨z0, z1, z2, z3⟩ := B4.out.cells4
  go_wp2_with fail
  clear z0 z1 z2 z3
  refine (kbegin_nil _).mono ?_
  rintro e w5 ⟨rfl, c5⟩
  have C5 := Lib.hid c5
  clear c5
  go_wp2_with fail
  refine (kmay_nil _).mono ?_
  rintro e w6 ⟨rfl, c6⟩
  have C6 := Lib.hid (C5.out.trans c6)
  clear c6 C5
  go_wp2_with fail
  refine (kstep_nil _).mono ?_
  rintro e w7 ⟨rfl, c7⟩
  have C7 := Lib.hid (C6.out.trans c7)
  clear c7 C6
  go_wp2_with fail
  refine (kdone_nil _).mono ?_
  rintro e w8 ⟨rfl, c8⟩
  have C8 := Lib.hid (C7.out.trans c8)
  clear c8 C7
  obtain ⟨z0, z1, z2, z3, z4⟩ := (BA.out.kept C8.out (fun e => e)).cells5
  go_wp2_with fail
  clear z0 z1 z2 z3 z4
  refine (answers_zero _).mono ?_
  rintro e w9 ⟨rfl, c9⟩
  have C9 := Lib.hid (C8.out.trans c9)
  clear c9 C8
  go_wp2_with fail
  refine (call_nil _).mono ?_
  rintro e wa ⟨rfl, ca⟩
  have CC := Lib.hid (C4.out.trans (C9.out.trans ca))
  have BB := Lib.hid (B4.out.kept (C9.out.trans ca) (fun e => e))
  clear ca C9 C4 B4 BA H4
  have heq := eqCl 0 0 0 0
  go_wp2_with fail
  refine (plain16 1 1 _).mono ?_
  rintro e wb ⟨rfl, cb⟩
  have CB := Lib.hid (CC.out.trans cb)
  have B1 := Lib.hid (BB.out.kept cb (fun e => e))
  clear cb CC BB heq
  go_wp2_with fail
  refine (floorNew16 2 1 1 4 1 8 (by decide) _).mono ?_
  rintro e wc ⟨E, rfl, hN, hlo, hb⟩
  have LC := Lib.hid (show HasL E wc [] from by obtain ⟨L, a, tc, h1, h2, h3⟩ := hb.hd; have e : L = [] := List.length_eq_zero_iff.1 (by omega); subst e; exact ⟨_, a, tc, h1.f, rfl⟩)
  have HB := Lib.hid hb
  have LO := Lib.hid (show C < E.lo ∧ E.lo = wb.heap.size from ⟨by have := B1.out.lt; omega, hlo⟩)
  have B2 := Lib.hid (B1.out.kept hb.c (fun e => by have e' : wb.heap.size ≤ C := e; have := LO.out; omega))
  have cS : Ch (One C) wc (wc.setCell ⟨C, 0, none⟩ (.int .i64 i)) := (Ch.refl _ _).setB _ _
  have B3 : Hid (IsVs (wc.setCell ⟨C, 0, none⟩ (.int .i64 i)) C [.int .i64 i, .int .u64 (id : Nat), .int .u64 (d : Nat), .int .u64 (p : Nat)]) := Lib.hid (B2.out.setAt 0 (.int .i64 i))
  have cO : Ch (fun j => j < E.lo) wc (wc.setCell ⟨C, 0, none⟩ (.int .i64 i)) := cS.mono (fun j _ e => by have e' : j = C := e; have := LO.out.1; show j < E.lo; omega)
  obtain ⟨S1, t1, t2, hf⟩ := hb.outer cO
  have HF := Lib.hid hf
  have LD := Lib.hid (LC.out.outer hb.ly cO)
  have TT := Lib.hid t1
  have CD := Lib.hid (show Ch Nil w (wc.setCell ⟨C, 0, none⟩ (.int .i64 i)) from (CB.out.trans (hb.c.mono fun j hj e => by have e' : wb.heap.size ≤ j := e; omega)).then cS (fun j hj e => by have e' : j = C := e; have := HC.out.1; omega))
  have c0 := B2.out.c 0 _ rfl
  have f0 := B2.out.b.fz 0
  clear hN hlo hb cS cO t1 t2 hf B1
  go_upto_region 10 with (fail)
  generalize wc.setCell ⟨C, 0, none⟩ (.int .i64 i) = wd at B3 HF LD CD ⊢
  clear c0 f0 B2 HB LC
  obtain ⟨z0, z1, z2, z3⟩ := B3.out.cells4
  by_cases hk : 1 ≤ i ∧ i ≤ 5
  · obtain ⟨kd, rfl⟩ : ∃ kd : Nat, i = (kd : Nat) := ⟨i.toNat, by omega⟩
    have h1 : (1 : Int) ≤ (kd : Int) := hk.1
    have h5 : (kd : Int) ≤ 5 := hk.2
    have HK := Lib.hid hk
    clear hk
    go_wp2_with fail
    clear z0 z1 z2 z3
    refine (begin_anyL (th := 0) (no := 0) LD.out ⟨by omega, by omega⟩ HF.out (by omega)).mono ?_
    rintro e we ⟨X, rfl, rt, hown, hl⟩
    have RT := Lib.hid rt
    have LE := Lib.hid hl
    clear rt hl hown
    go_wp2_with fail
    have TR := RT.out.b.traceL LE.out (by omega)
    rw [show (([] : List Ev) ++ [(⟨1, 0, 0, (kd : Nat), (id : Nat), 0, (d : Nat), (p : Nat), 0, 0⟩ : Ev)]).length = 1 from rfl] at TR
    refine TR.mono ?_
    clear TR
    rintro e wf ⟨a', c', rfl, hs, cf⟩
    obtain ⟨b, o, rfl, -, hcell⟩ := hs.form (by show 0 < 1; omega)
    have EV := Lib.hid (hcell 0 _ rfl)
    have RF := Lib.hid (RT.out.quiet cf)
    clear hs cf hcell RT LE
    go_wp2_with fail
    have HO : (newW kd id d p).sg ≠ .over := by
      have : kd = 1 ∨ kd = 2 ∨ kd = 3 ∨ kd = 4 ∨ kd = 5 := by omega
      rcases this with rfl | rfl | rfl | rfl | rfl <;> (unfold newW sgOf; simp)
    refine (RF.out.busy HO).mono ?_
    clear HO
    rintro e wg ⟨rfl, rt, cg⟩
    have CW := Lib.hid (show Ch Nil wg (wg.alloc (Obj.cells #[.int .i64 (0 : Int), .bool false, .int .u64 (0 : Int), .int .u64 (0 : Int), .slice none 0 0] 51)) from (Ch.refl _ _).alloc _)
    have EV1 := EV.out.kept cg (fun e => e)
    have EV2 := EV1.kept CW.out (fun e => e)
    have q := EV2.cells
    rw [show o + 0 * 10 = o by omega] at q
    obtain ⟨x0, -, -, x3, -⟩ := q
    dsimp only at x0 x3
    have RG := Lib.hid rt
    clear rt cg EV EV1 EV2 RF
    go_wp2
    go_ret
    exact ⟨rfl, ((CD.out.then RG.out.b.c (fun j hj e => by have h1 := TT.out j e; have h2 := CB.out.size; omega)).trans CW.out).below (Nat.le_refl _) (fun _ _ e => e.elim)⟩
  · have hno : i < 1 ∨ 5 < i := by omega
    have HK := Lib.hid hno
    clear hno
    by_cases h1 : 1 ≤ i
    · have h5 : ¬ i ≤ 5 := by omega
      clear hk
      go_wp2_with fail
      clear z0 z1 z2 z3
      refine (begin_no HK.out _ _).mono ?_
      rintro e we ⟨rfl, ce⟩
      have CE := Lib.hid ce
      have LE := Lib.hid (LD.out.quiet ce)
      have HE := Lib.hid (HF.out.quiet ce)
      clear ce
      go_wp2_with fail
      have PT : Calls Tryz.prog 29 #[.int .u64 0] we fun e w' => e = .returned (.tuple #[.int .i64 0, .int .u64 0, .bool false, .bool true]) ∧ we = w' := parts_any 0 (by omega) we
      refine PT.mono ?_
      clear PT
      rintro e w0 ⟨rfl, rfl⟩
      go_wp2_with fail
      have TR := HE.out.traceL LE.out (by omega)
      rw [show ([] : List Ev).length = 0 from rfl] at TR
      refine TR.mono ?_
      clear TR
      rintro e wf ⟨a', c', rfl, -, cf⟩
      have CF := Lib.hid (CD.out.trans (CE.out.trans cf))
      clear cf
      go_wp2
      go_ret
      exact ⟨rfl, CF.out.below (Nat.le_refl _) (fun _ _ e => e.elim)⟩
    · clear hk
      go_wp2_with fail
      clear z0 z1 z2 z3
      refine (begin_no HK.out _ _).mono ?_
      rintro e we ⟨rfl, ce⟩
      have CE := Lib.hid ce
      have LE := Lib.hid (LD.out.quiet ce)
      have HE := Lib.hid (HF.out.quiet ce)
      clear ce
      go_wp2_with fail
      have PT : Calls Tryz.prog 29 #[.int .u64 0] we fun e w' => e = .returned (.tuple #[.int .i64 0, .int .u64 0, .bool false, .bool true]) ∧ we = w' := parts_any 0 (by omega) we
      refine PT.mono ?_
      clear PT
      rintro e w0 ⟨rfl, rfl⟩
      go_wp2_with fail
      have TR := HE.out.traceL LE.out (by omega)
      rw [show ([] : List Ev).length = 0 from rfl] at TR
      refine TR.mono ?_
      clear TR
      rintro e wf ⟨a', c', rfl, -, cf⟩
      have CF := Lib.hid (CD.out.trans (CE.out.trans cf))
      clear cf
      go_wp2
      go_ret
      exact ⟨rfl, CF.out.below (Nat.le_refl _) (fun _ _ e => e.elim)⟩
theorem CallsNone_own : ownKnob Tryz.prog.godebug = none := by kernel_rfl

set_option maxRecDepth 100000 in
theorem CallsNone_lifted (os : Os) (started : os.Started) (H : Type) (enc : TypeId × Value → H) :
    ReturnsInHanded {} Tryz.checked os 6 .any (Rows.callsNoneSpec.pre6 enc Tryz.prog Tryz.f6 Rows.callsNoneRow.domain false) (Rows.callsNoneSpec.post enc Tryz.prog Tryz.f6 false true false false) := by
  refine returnsInHanded_of_change (C := Tryz.checked) CallsNone_own started (by kernel_rfl) Tryz.func6
    (ChangeSpec.witness6 (enc := enc) (C := Tryz.checked) false ⟨#[], #[.agg #[.int .i64 0, .int .u64 0, .int .u64 0, .int .u64 0], .int .i64 0], []⟩ 8 (by kernel_rfl) (by kernel_rfl) (by kernel_rfl) (by kernel_rfl)) ?_
  intro W base args ds gs before hval0 hW hcnd _
  have hval : ∀ (j : Nat) t v, Tryz.f6.params[j]? = some t → args[j]? = some v → Value.okWide Tryz.prog W .any base t v := hval0
  have hW' := hW
  obtain ⟨p, q, hA0, hV, rfl, hfz, hnd⟩ := hW
  have hA : DataW.TrodAll enc Tryz.prog W 0 (fun _ => true) true Tryz.f6.params.toList args.toList ds p := hA0
  rw [Tryz.params6] at hA hval
  obtain ⟨v0, vs0, d0, ds0, p0, q0, hargs, rfl, rfl, h0, r0⟩ := trodAll_cons hA
  obtain ⟨v1, vs1, d1, ds1, p1, q1, rfl, rfl, rfl, h1, r1⟩ := trodAll_cons r0
  obtain ⟨rfl, rfl, rfl⟩ := trodAll_nil r1
  obtain rfl : args = #[v0, v1] := by cases args; simp_all
  obtain ⟨rfl, rfl⟩ := trodVars_none hV
  obtain ⟨a00, a01, a02, a03, rfl, rfl, rfl, w00, w01, w02, w03⟩ := open_call call_fits (hval 0 38 v0 rfl rfl) h0
  obtain ⟨a1, rfl, rfl, rfl, w1⟩ := open_int Tryz.underlying3 (hval 1 3 v1 rfl rfl) h1
  clear hA0 hval0
  simp only [List.nil_append, List.append_nil] at hW'
  refine (CallsNone_walk a00 a01 a02 a03 a1 w00 w01 w02 w03 w1 W).mono fun e W' ⟨he, bel⟩ => ?_
  subst he
  exact ⟨_, rfl, _, _, _, [], _, [], hW', trodAll_mk1 (shut_bool Tryz.underlying4 _), (trodAll_cons_mk (shut_call call_fits w00 w01 w02 w03) (trodAll_cons_mk (shut_int Tryz.underlying3 w1) trodAll_mk0)), rfl, bel.frame _, fun h => by cases h⟩

theorem callsNone_holds : Rows.CallsNoneSaid :=
  OpenClaim.holds_of_wide 6 Tryz.f6 rfl rfl rfl rfl rfl rfl rfl ⟨rfl, rfl, rfl, rfl, rfl⟩ rfl rfl rfl rfl rfl (by kernel_rfl) Tryz.func6 (by kernel_rfl)
    (of_decide_eq_true (by kernel_rfl)) (by unfold Func.isWrapper; rw [if_neg (of_decide_eq_false (by kernel_rfl))]; exact ⟨rfl, rfl⟩)
    (fun os started H enc _ => CallsNone_lifted os started H enc)
end Go.Proofs.YtnbdafmjcmmfpaaGreat
