import Derived.Test.YtnbdafmjcmmfpaaGreatK25
import Derived.ProofKit
import Derived.OpenShut
import Derived.ChangeOld
import Derived.Below
/-
  Proved: for every deadline, period, id and kind the statement CallsErrors returns true: a period of 0, or one that leads beyond the end of time, and numbers that were never given, are ErrInvalid; and nothing that was there is changed. Conditions: none.
-/
namespace Go.Proofs.YtnbdafmjcmmfpaaGreat
open Go.ChangeShapes Go.WideShapes Go.ChangeAt Go.RowKit Verge
set_option linter.unusedVariables false
set_option linter.unusedSimpArgs false
attribute [local go_sem] Oper.semAt_some
/-- what a law's walk leaves -/
abbrev Ends (w : World) (e : Ending) (w' : World) : Prop := e = .returned (.bool true) ∧ Below w.heap.size w w'
theorem bf_below {E : Ee} {w w1 w2 : World} {σ : Wd} {n : Nat} (c : Ch Nil w w1) (h : Bf E (fun j => w1.heap.size ≤ j) w1 w2 σ n) : Below w.heap.size w w2 :=
  (c.trans (h.c.mono fun i hi e => by have e' : w1.heap.size ≤ i := e; omega)).below (Nat.le_refl _) (fun _ _ e => e.elim)
set_option maxRecDepth 100000 in
set_option maxHeartbeats 0 in
theorem CallsErrors_walk (d p id v : Int) (w1 : (Lit.int .u64 d).wf = true) (w2 : (Lit.int .u64 p).wf = true) (w3 : (Lit.int .u64 id).wf = true) (w4 : (Lit.int .u8 v).wf = true) (w : World) :
    Calls Tryz.prog 5 #[.int .u64 d, .int .u64 p, .int .u64 id, .int .u8 v] w fun e w' => e = .returned (.bool true) ∧ Below w.heap.size w w' := by
  have q1 : 0 ≤ d ∧ d ≤ 18446744073709551615 := by simpa [Lit.wf, IntKind.min, IntKind.max, IntKind.signed, IntKind.bits] using w1
  have q2 : 0 ≤ p ∧ p ≤ 18446744073709551615 := by simpa [Lit.wf, IntKind.min, IntKind.max, IntKind.signed, IntKind.bits] using w2
  have q3 : 0 ≤ id ∧ id ≤ 18446744073709551615 := by simpa [Lit.wf, IntKind.min, IntKind.max, IntKind.signed, IntKind.bits] using w3
  have q4 : 0 ≤ v ∧ v ≤ 255 := by simpa [Lit.wf, IntKind.min, IntKind.max, IntKind.signed, IntKind.bits] using w4
  clear w1 w2 w3 w4
  obtain ⟨d, rfl⟩ : ∃ x : Nat, d = (x : Nat) := ⟨d.toNat, by omega⟩
  obtain ⟨p, rfl⟩ : ∃ x : Nat, p = (x : Nat) := ⟨p.toNat, by omega⟩
  obtain ⟨id, rfl⟩ : ∃ x : Nat, id = (x : Nat) := ⟨id.toNat, by omega⟩
  obtain ⟨v, rfl⟩ : ∃ x : Nat, v = (x : Nat) := ⟨v.toNat, by omega⟩
  have hd : d < 18446744073709551616 := by omega
  have hp : p < 18446744073709551616 := by omega
  have hid : id < 18446744073709551616 := by omega
  have HD := Lib.hid (And.intro hd (And.intro hp hid))
  obtain ⟨kk, hkk, hkw⟩ : ∃ kk : Nat, (3 ≤ kk ∧ kk ≤ 5) ∧ wrap64 (3 + (wrap64 (v : Int)).tmod 3) = (kk : Int) := ⟨3 + v % 3, by omega, by rw [show wrap64 (v : Int) = (v : Int) by unfold wrap64; omega, Int.tmod_eq_emod_of_nonneg (by omega)]; unfold wrap64; omega⟩
  have KK := Lib.hid hkk
  have KW := Lib.hid hkw
  clear q1 q2 q3 q4 hid hkk hkw
  go_enter Tryz.func5, Tryz.ntmps5
  go_wp2_with fail
  refine (alive_any _).mono ?_
  rintro e wa ⟨rfl, c1⟩
  have C1 := Lib.hid c1
  clear c1
  go_wp2_with fail
  refine (plain16 4 4 _).mono ?_
  rintro e wb ⟨rfl, c2⟩
  have C2 := Lib.hid (C1.out.trans c2)
  clear c2 C1
  go_wp2_with fail
  refine (floorNew16 2 4 4 4 1 8 (by decide) _).mono ?_
  rintro e wc ⟨E, rfl, hN, hlo, hb⟩
  have HB := Lib.hid hb
  have HN := Lib.hid hN
  clear hb hN hlo
  by_cases hbad : p = 0 ∨ 18446744073709551615 < d + p
  · obtain ⟨g2, e2, k2, hq, hm2, ha2⟩ := out_nil (N := ⟨4, 4, 2⟩) kk id d KK.out
    have Q2 := Lib.hid (And.intro hq (And.intro hm2 ha2))
    have P1 := Lib.hid (path_bad (N := ⟨4, 4, 2⟩) (σ := nilW) (id := 0) (d := d) (p := p) (by decide) hbad)
    have HBAD := Lib.hid hbad
    clear hq hm2 ha2 hbad
    go_wp2_with fail
    refine (run_of (E := E) (kd := 2) (id := 0) (d := d) (p := p) (m := 2) ⟨by omega, by omega⟩ HB.out (by omega) (by rw [HN.out]; decide) (by rw [HN.out]; decide) (by omega) hd hp (by rw [HN.out]; exact P1.out) (by omega)).mono ?_
    rintro e wd ⟨rfl, h2⟩
    have H2 := Lib.hid h2
    clear h2
    by_cases p0 : p = 0
    · subst p0
      clear HBAD P1 HB
      go_upto_region 11 with (fail)
      rw [KW.out]
      go_wp2_with fail
      have RO := run_of (E := E) (kd := kk) (id := id) (d := d) (p := 0) (m := g2) ⟨by have := KK.out; omega, by have := KK.out; omega⟩ (H2.out.quiet ((Ch.refl _ wd).alloc (Obj.cells #[.int .i64 (1 : Int), .bool (anNo 1).ok, .int .u64 ((anNo 1).id : Nat), .int .u64 ((anNo 1).g : Nat), .slice none 0 0] 51))) (by omega) (by rw [HN.out]; decide) (by rw [HN.out]; decide) HD.out.2.2 HD.out.1 (by omega) (by rw [HN.out]; exact Q2.out.1) Q2.out.2.1
      rw [Q2.out.2.2] at RO
      refine RO.mono ?_
      clear RO
      rintro e we ⟨rfl, h3⟩
      have H3 := Lib.hid h3
      clear h3
      obtain ⟨z0, z1, z2, z3, z4⟩ := (IsVs.new we (anL (anNo 1)) 51).cells5
      go_wp2
      go_ret
      exact ⟨rfl, bf_below C2.out (H3.out.quiet ((Ch.refl _ _).alloc _))⟩
    · have hz : ((p : Int) == 0) = false := by rw [beq_eq_false_iff_ne]; omega
      have hgt : 18446744073709551615 - (p : Int) < (d : Int) := by have := HBAD.out; omega
      clear HBAD P1 HB p0
      go_upto_region 11 with (fail)
      rw [KW.out]
      go_wp2_with fail
      have RO := run_of (E := E) (kd := kk) (id := id) (d := d) (p := 0) (m := g2) ⟨by have := KK.out; omega, by have := KK.out; omega⟩ (H2.out.quiet ((Ch.refl _ wd).alloc (Obj.cells #[.int .i64 (1 : Int), .bool (anNo 1).ok, .int .u64 ((anNo 1).id : Nat), .int .u64 ((anNo 1).g : Nat), .slice none 0 0] 51))) (by omega) (by rw [HN.out]; decide) (by rw [HN.out]; decide) HD.out.2.2 HD.out.1 (by omega) (by rw [HN.out]; exact Q2.out.1) Q2.out.2.1
      rw [Q2.out.2.2] at RO
      refine RO.mono ?_
      clear RO
      rintro e we ⟨rfl, h3⟩
      have H3 := Lib.hid h3
      clear h3
      obtain ⟨z0, z1, z2, z3, z4⟩ := (IsVs.new we (anL (anNo 1)) 51).cells5
      go_wp2
      go_ret
      exact ⟨rfl, bf_below C2.out (H3.out.quiet ((Ch.refl _ _).alloc _))⟩
  · have hz : ((p : Int) == 0) = false := by rw [beq_eq_false_iff_ne]; omega
    have hgt : ¬ (18446744073709551615 - (p : Int) < (d : Int)) := by omega
    obtain ⟨k1, hp1, ha1⟩ := path_new (N := ⟨4, 4, 2⟩) 2 0 d p (by decide) (by decide) (by decide) (by decide) (.inr ⟨rfl, by omega, by omega⟩)
    obtain ⟨g2, e2, k2, g, hq, hm2, ha2⟩ := out_one (N := ⟨4, 4, 2⟩) (by decide) (by decide) (by decide) p (by omega) ⟨64, 0, 1, d, p⟩ kk id d KK.out
    have P1 := Lib.hid (And.intro hp1 ha1)
    have Q2 := Lib.hid (And.intro hq (And.intro hm2 ha2))
    clear hq hm2 ha2 hbad hp1 ha1
    go_wp2_with fail
    have RO := run_of (E := E) (kd := 2) (id := 0) (d := d) (p := p) (m := 13) ⟨by omega, by omega⟩ HB.out (by omega) (by rw [HN.out]; decide) (by rw [HN.out]; decide) (by omega) hd hp (by rw [HN.out]; exact P1.out.1) (by omega)
    rw [P1.out.2] at RO
    refine RO.mono ?_
    clear RO
    rintro e wd ⟨rfl, h2⟩
    have H2 := Lib.hid h2
    clear h2 P1
    obtain ⟨y0, y1, y2, y3, y4⟩ := (IsVs.new wd (anL ⟨0, true, 64, 1⟩) 51).cells5
    go_upto_region 11 with (fail)
    clear y0 y1 y2 y3 y4
    by_cases hi : id = 64
    · subst hi
      have ha2 := Q2.out.2.2
      rw [if_pos rfl] at ha2
      have Q2 := Lib.hid (And.intro Q2.out.1 (And.intro Q2.out.2.1 ha2))
      clear ha2
      rw [KW.out]
      go_wp2_with fail
      have RO := run_of (E := E) (kd := kk) (id := 64) (d := d) (p := 0) (m := g2) ⟨by have := KK.out; omega, by have := KK.out; omega⟩ (H2.out.quiet ((Ch.refl _ wd).alloc (Obj.cells #[.int .i64 (0 : Int), .bool true, .int .u64 (64 : Int), .int .u64 (1 : Int), .slice none 0 0] 51))) (by omega) (by rw [HN.out]; decide) (by rw [HN.out]; decide) (by omega) HD.out.1 (by omega) (by rw [HN.out]; exact Q2.out.1) Q2.out.2.1
      rw [Q2.out.2.2] at RO
      refine RO.mono ?_
      clear RO
      rintro e we ⟨rfl, h3⟩
      have H3 := Lib.hid h3
      clear h3
      obtain ⟨z0, z1, z2, z3, z4⟩ := (IsVs.new we (anL ⟨0, true, 64, g⟩) 51).cells5
      go_wp2
      go_ret
      exact ⟨rfl, bf_below C2.out (H3.out.quiet ((Ch.refl _ _).alloc _))⟩
    · have ha2 := Q2.out.2.2
      rw [if_neg hi] at ha2
      have Q2 := Lib.hid (And.intro Q2.out.1 (And.intro Q2.out.2.1 ha2))
      have hy : ((id : Int) == 64) = false := by rw [beq_eq_false_iff_ne]; omega
      clear ha2
      rw [KW.out]
      go_wp2_with fail
      have RO := run_of (E := E) (kd := kk) (id := id) (d := d) (p := 0) (m := g2) ⟨by have := KK.out; omega, by have := KK.out; omega⟩ (H2.out.quiet ((Ch.refl _ wd).alloc (Obj.cells #[.int .i64 (0 : Int), .bool true, .int .u64 (64 : Int), .int .u64 (1 : Int), .slice none 0 0] 51))) (by omega) (by rw [HN.out]; decide) (by rw [HN.out]; decide) HD.out.2.2 HD.out.1 (by omega) (by rw [HN.out]; exact Q2.out.1) Q2.out.2.1
      rw [Q2.out.2.2] at RO
      refine RO.mono ?_
      clear RO
      rintro e we ⟨rfl, h3⟩
      have H3 := Lib.hid h3
      clear h3
      obtain ⟨z0, z1, z2, z3, z4⟩ := (IsVs.new we (anL (anNo 1)) 51).cells5
      go_wp2
      go_ret
      exact ⟨rfl, bf_below C2.out (H3.out.quiet ((Ch.refl _ _).alloc _))⟩

theorem CallsErrors_own : ownKnob Tryz.prog.godebug = none := by kernel_rfl

set_option maxRecDepth 100000 in
theorem CallsErrors_lifted (os : Os) (started : os.Started) (H : Type) (enc : TypeId × Value → H) :
    ReturnsInHanded {} Tryz.checked os 5 .any (Rows.callsErrorsSpec.pre6 enc Tryz.prog Tryz.f5 Rows.callsErrorsRow.domain false) (Rows.callsErrorsSpec.post enc Tryz.prog Tryz.f5 false true false false) := by
  refine returnsInHanded_of_change (C := Tryz.checked) CallsErrors_own started (by kernel_rfl) Tryz.func5
    (ChangeSpec.witness6 (enc := enc) (C := Tryz.checked) false ⟨#[], #[.int .u64 0, .int .u64 0, .int .u64 0, .int .u8 0], []⟩ 8 (by kernel_rfl) (by kernel_rfl) (by kernel_rfl) (by kernel_rfl)) ?_
  intro W base args ds gs before hval0 hW hcnd _
  have hval : ∀ (j : Nat) t v, Tryz.f5.params[j]? = some t → args[j]? = some v → Value.okWide Tryz.prog W .any base t v := hval0
  have hW' := hW
  obtain ⟨p, q, hA0, hV, rfl, hfz, hnd⟩ := hW
  have hA : DataW.TrodAll enc Tryz.prog W 0 (fun _ => true) true Tryz.f5.params.toList args.toList ds p := hA0
  rw [Tryz.params5] at hA hval
  obtain ⟨v0, vs0, d0, ds0, p0, q0, hargs, rfl, rfl, h0, r0⟩ := trodAll_cons hA
  obtain ⟨v1, vs1, d1, ds1, p1, q1, rfl, rfl, rfl, h1, r1⟩ := trodAll_cons r0
  obtain ⟨v2, vs2, d2, ds2, p2, q2, rfl, rfl, rfl, h2, r2⟩ := trodAll_cons r1
  obtain ⟨v3, vs3, d3, ds3, p3, q3, rfl, rfl, rfl, h3, r3⟩ := trodAll_cons r2
  obtain ⟨rfl, rfl, rfl⟩ := trodAll_nil r3
  obtain rfl : args = #[v0, v1, v2, v3] := by cases args; simp_all
  obtain ⟨rfl, rfl⟩ := trodVars_none hV
  obtain ⟨a0, rfl, rfl, rfl, w0⟩ := open_int Tryz.underlying36 (hval 0 36 v0 rfl rfl) h0
  obtain ⟨a1, rfl, rfl, rfl, w1⟩ := open_int Tryz.underlying36 (hval 1 36 v1 rfl rfl) h1
  obtain ⟨a2, rfl, rfl, rfl, w2⟩ := open_int Tryz.underlying36 (hval 2 36 v2 rfl rfl) h2
  obtain ⟨a3, rfl, rfl, rfl, w3⟩ := open_int Tryz.underlying5 (hval 3 5 v3 rfl rfl) h3
  clear hA0 hval0
  simp only [List.append_nil] at hW'
  refine (CallsErrors_walk a0 a1 a2 a3 w0 w1 w2 w3 W).mono fun e W' ⟨he, bel⟩ => ?_
  subst he
  exact ⟨_, rfl, _, _, _, [], _, [], hW', trodAll_mk1 (shut_bool Tryz.underlying4 _), (trodAll_cons_mk (shut_int Tryz.underlying36 w0) (trodAll_cons_mk (shut_int Tryz.underlying36 w1) (trodAll_cons_mk (shut_int Tryz.underlying36 w2) (trodAll_cons_mk (shut_int Tryz.underlying5 w3) trodAll_mk0)))), rfl, bel.frame _, fun h => by cases h⟩

theorem callsErrors_holds : Rows.CallsErrorsSaid :=
  OpenClaim.holds_of_wide 5 Tryz.f5 rfl rfl rfl rfl rfl rfl rfl ⟨rfl, rfl, rfl, rfl, rfl⟩ rfl rfl rfl rfl rfl (by kernel_rfl) Tryz.func5 (by kernel_rfl)
    (of_decide_eq_true (by kernel_rfl)) (by unfold Func.isWrapper; rw [if_neg (of_decide_eq_false (by kernel_rfl))]; exact ⟨rfl, rfl⟩)
    (fun os started H enc _ => CallsErrors_lifted os started H enc)
end Go.Proofs.YtnbdafmjcmmfpaaGreat
