/-
  Proved: for every v, to and yes the statement CellTurns returns true: a turn asks its function just once, of the value that the cell holds, and one which says no leaves it; and nothing that was there is changed. Conditions: none.
-/
import Derived.Test.YtnflieejfegnhaaCellWalks2
import Derived.ProofKit
import Derived.OpenShut
import Derived.ChangeOld
import Derived.Below
namespace Go.Proofs.Ytnflieejfegnhaa
open Go.ChangeShapes Go.WideShapes Go.ChangeAt Go.RowKit Verge
set_option linter.unusedVariables false
attribute [local go_sem] Oper.semAt_some

/-- the statement's function: it counts, keeps what it is asked of, and answers what it is told to -/
theorem turns1_any (A S T Y : Nat) (n m x to : Int) (yes : Bool) (w : World) (hA : w.cell? ⟨A, 0, none⟩ = some (.int .i64 n)) (hS : w.cell? ⟨S, 0, none⟩ = some (.int .i64 m))
    (hT : w.cell? ⟨T, 0, none⟩ = some (.int .i64 to)) (hY : w.cell? ⟨Y, 0, none⟩ = some (.bool yes)) (fA : w.frozen? ⟨A, 0, none⟩ = false) (fS : w.frozen? ⟨S, 0, none⟩ = false)
    (ne1 : ¬ A = S) (ne2 : ¬ A = T) (ne3 : ¬ A = Y) (ne4 : ¬ S = T) (ne5 : ¬ S = Y) :
    Calls Try.prog 24 #[.int .i64 x, .pointer (some ⟨A, 0, none⟩), .pointer (some ⟨S, 0, none⟩), .pointer (some ⟨T, 0, none⟩), .pointer (some ⟨Y, 0, none⟩)] w fun e w' => e = .returned (.tuple #[.int .i64 to, .bool yes]) ∧
      ∃ k, w' = ((w.setCell ⟨A, 0, none⟩ (.int .i64 (wrap64 (n + 1)))).setCell ⟨S, 0, none⟩ (.int .i64 x)).drewN k := by
  go_enter Try.func24, Try.ntmps24
  go_wp2
  go_quiet (fail)
  go_wp2
  go_ret2
  exact ⟨rfl, _, rfl⟩

/-- the blocks that a turn by that function turns -/
abbrev Tri (b A S : Nat) : Nat → Prop := fun k => k = b ∨ k = A ∨ k = S
structure TurnOk (was : Int) (yes : Bool) (c : CSt) (b A S : Nat) (n : Int) (w : World) (e : Ending) (w' : World) : Prop where
  e : e = .returned (.tuple #[.int .i64 was, .bool yes])
  i : IsI w' b c
  a : w'.cell? ⟨A, 0, none⟩ = some (.int .i64 n)
  s : w'.cell? ⟨S, 0, none⟩ = some (.int .i64 was)
  c : Ch (Tri b A S) w w'

theorem turns1_ch {A S : Nat} {w : World} {n x : Int} {v u : Value} (b k : Nat) (hA : w.cell? ⟨A, 0, none⟩ = some v) (hS : w.cell? ⟨S, 0, none⟩ = some u) (ne1 : ¬ A = S) (w2 : World)
    (h : w2 = ((w.setCell ⟨A, 0, none⟩ (.int .i64 n)).setCell ⟨S, 0, none⟩ (.int .i64 x)).drewN k) :
    w2.cell? ⟨A, 0, none⟩ = some (.int .i64 n) ∧ w2.cell? ⟨S, 0, none⟩ = some (.int .i64 x) ∧ Ch (Tri b A S) w w2 ∧ Ch (fun k => k = A ∨ k = S) w w2 := by
  subst h
  have hS' : (w.setCell ⟨A, 0, none⟩ (.int .i64 n)).cell? ⟨S, 0, none⟩ = some u := by rw [World.cell?_setCell_other _ _ _ _ (fun e => by cases e; exact ne1 rfl)]; exact hS
  have c2 : Ch (fun k => k = A ∨ k = S) w (((w.setCell ⟨A, 0, none⟩ (.int .i64 n)).setCell ⟨S, 0, none⟩ (.int .i64 x)).drewN k) :=
    (((Ch.refl _ _).set (p := ⟨A, 0, none⟩) (fun _ => .inl rfl) _).set (p := ⟨S, 0, none⟩) (fun _ => .inr rfl) _).drewN _
  refine ⟨?_, ?_, c2.mono (fun i _ h => .inr h), c2⟩
  · show ((w.setCell ⟨A, 0, none⟩ (.int .i64 n)).setCell ⟨S, 0, none⟩ (.int .i64 x)).cell? ⟨A, 0, none⟩ = _
    rw [World.cell?_setCell_other _ _ _ _ (fun e => by cases e; exact ne1 rfl)]
    exact World.cell?_setCell_same _ _ _ hA
  · exact World.cell?_setCell_same _ _ _ hS'

set_option maxHeartbeats 4000000 in
theorem turn_t (b A S T Y : Nat) (s : CSt) (to : Int) (yes : Bool) (w : World) (h : IsI w b s) (hA : w.cell? ⟨A, 0, none⟩ = some (.int .i64 0)) (hS : w.cell? ⟨S, 0, none⟩ = some (.int .i64 0))
    (hT : w.cell? ⟨T, 0, none⟩ = some (.int .i64 to)) (hY : w.cell? ⟨Y, 0, none⟩ = some (.bool yes)) (fA : w.frozen? ⟨A, 0, none⟩ = false) (fS : w.frozen? ⟨S, 0, none⟩ = false)
    (ne1 : ¬ A = S) (ne2 : ¬ A = T) (ne3 : ¬ A = Y) (ne4 : ¬ S = T) (ne5 : ¬ S = Y) (nb1 : ¬ A = b) (nb2 : ¬ S = b) (nb3 : ¬ T = b) (nb4 : ¬ Y = b) :
    Calls Try.prog 23 #[.pointer (some ⟨b, 0, none⟩), .func (.func 24) #[] #[.pointer (some ⟨A, 0, none⟩), .pointer (some ⟨S, 0, none⟩), .pointer (some ⟨T, 0, none⟩), .pointer (some ⟨Y, 0, none⟩)]] w
      (TurnOk s.v yes (if yes then ⟨to, wrap64 (s.l + 1), wrap64 (s.t + 1), wrap64 (s.u + 1)⟩ else ⟨s.v, wrap64 (s.l + 1), s.t, s.u⟩) b A S 1 w) := by
  have H := Lib.hid h
  have HA := Lib.hid hA
  have HS := Lib.hid hS
  have HT := Lib.hid hT
  have HY := Lib.hid hY
  have FA := Lib.hid fA
  have FS := Lib.hid fS
  have lA := lt_of_cell hA
  have lS := lt_of_cell hS
  clear h hA hS hT hY fA fS
  have hfn := fn_nil
  cases yes
  · go_enter Try.func23, Try.ntmps23
    go_wp2_with fail
    refine (load_i b s _ H.out).mono ?_
    rintro e w1 ⟨rfl, hi, c1⟩
    have H1 := Lib.hid hi
    clear hi
    go_wp2_with fail
    refine (turns1_any A S T Y 0 0 s.v to false _ (c1.keeps HA.out nb1) (c1.keeps HS.out nb2) (c1.keeps HT.out nb3) (c1.keeps HY.out nb4) ((c1.frozen (p := ⟨A, 0, none⟩) lA nb1).trans FA.out) ((c1.frozen (p := ⟨S, 0, none⟩) lS nb2).trans FS.out) ne1 ne2 ne3 ne4 ne5).mono ?_
    rintro e w2 ⟨rfl, k, hw⟩
    obtain ⟨q1, q2, q3, q4⟩ := turns1_ch b k (c1.keeps HA.out nb1) (c1.keeps HS.out nb2) ne1 w2 hw
    have Q1 := Lib.hid q1
    have Q2 := Lib.hid q2
    clear hw q1 q2
    go_wp2
    go_ret2
    have e1 : wrap64 (0 + 1) = 1 := by unfold wrap64; omega
    exact ⟨rfl, H1.out.keeps q4 (by omega), by rw [← e1]; exact Q1.out, Q2.out, (c1.mono (fun i _ h => .inl h)).trans q3⟩
  · go_enter Try.func23, Try.ntmps23
    go_wp2_with fail
    refine (load_i b s _ H.out).mono ?_
    rintro e w1 ⟨rfl, hi, c1⟩
    have H1 := Lib.hid hi
    clear hi
    go_wp2_with fail
    refine (turns1_any A S T Y 0 0 s.v to true _ (c1.keeps HA.out nb1) (c1.keeps HS.out nb2) (c1.keeps HT.out nb3) (c1.keeps HY.out nb4) ((c1.frozen (p := ⟨A, 0, none⟩) lA nb1).trans FA.out) ((c1.frozen (p := ⟨S, 0, none⟩) lS nb2).trans FS.out) ne1 ne2 ne3 ne4 ne5).mono ?_
    rintro e w2 ⟨rfl, k, hw⟩
    obtain ⟨q1, q2, q3, q4⟩ := turns1_ch b k (c1.keeps HA.out nb1) (c1.keeps HS.out nb2) ne1 w2 hw
    have Q1 := Lib.hid q1
    have Q2 := Lib.hid q2
    clear hw q1 q2
    have H2 := Lib.hid (IsI.kept H1.out q4 (by omega))
    clear H1
    go_wp2_with fail
    refine (change_yes_i b _ to _ H2.out).mono ?_
    rintro e w3 ⟨rfl, hi, c3⟩
    have H3 := Lib.hid hi
    clear hi
    go_wp2
    go_ret2
    have e1 : wrap64 (0 + 1) = 1 := by unfold wrap64; omega
    exact ⟨rfl, H3.out, by rw [← e1]; exact c3.keeps Q1.out nb1, c3.keeps Q2.out nb2, ((c1.mono (fun i _ h => .inl h)).trans q3).trans (c3.mono (fun i _ h => .inl h))⟩

set_option maxHeartbeats 8000000 in
set_option maxRecDepth 100000 in
theorem CellTurns_walk (v to : Int) (yes : Bool) (wa : (Lit.int .i64 v).wf = true) (wb : (Lit.int .i64 to).wf = true) (w : World) :
    Calls Try.prog 6 #[.int .i64 v, .int .i64 to, .bool yes] w fun e w' => e = .returned (.bool true) ∧ Below w.heap.size w w' := by
  clear wa wb
  have hmf : ∀ (fn : Fn) (first cap : Array Value) (w : World), (Instr.makeFunc fn first cap).run Try.prog w = .ok (.func fn first cap) w := fun _ _ _ _ => rfl
  go_enter Try.func6, Try.ntmps6
  go_wp2_with fail
  refine (alive_any _).mono ?_
  rintro e w1 ⟨rfl, c1⟩
  go_wp2_with fail
  refine (of_i v _).mono ?_
  rintro e w2 ⟨rfl, hi, c2⟩
  have H2 := Lib.hid hi
  clear hi
  have sz0 : w.heap.size + 2 ≤ w1.heap.size := by have := c1.size; simp at this; omega
  have sz1 : w1.heap.size < w2.heap.size := IsC.lt H2.out
  have hT2 : w2.cell? ⟨w.heap.size, 0, none⟩ = some (.int .i64 to) := c2.keeps (c1.keeps (by simp [go_sem]) (fun e => e)) (fun e => e)
  have hY2 : w2.cell? ⟨w.heap.size + 1, 0, none⟩ = some (.bool yes) := c2.keeps (c1.keeps (by simp [go_sem]) (fun e => e)) (fun e => e)
  have c3 : Ch Nil w2 ((w2.alloc (.cells #[.int .i64 0] 3)).alloc (.cells #[.int .i64 0] 3)) := ((Ch.refl _ _).alloc _).alloc _
  have hA3 : ((w2.alloc (.cells #[.int .i64 0] 3)).alloc (.cells #[.int .i64 0] 3)).cell? ⟨w2.heap.size, 0, none⟩ = some (.int .i64 0) := by simp [go_sem]
  have hS3 : ((w2.alloc (.cells #[.int .i64 0] 3)).alloc (.cells #[.int .i64 0] 3)).cell? ⟨w2.heap.size + 1, 0, none⟩ = some (.int .i64 0) := by simp [go_sem]
  have fA3 : ((w2.alloc (.cells #[.int .i64 0] 3)).alloc (.cells #[.int .i64 0] 3)).frozen? ⟨w2.heap.size, 0, none⟩ = false := by simp [go_sem]
  have fS3 : ((w2.alloc (.cells #[.int .i64 0] 3)).alloc (.cells #[.int .i64 0] 3)).frozen? ⟨w2.heap.size + 1, 0, none⟩ = false := by simp [go_sem]
  have HA := Lib.hid hA3
  have HS := Lib.hid hS3
  have FA := Lib.hid fA3
  have FS := Lib.hid fS3
  have HT := Lib.hid hT2
  have HY := Lib.hid hY2
  clear hA3 hS3 fA3 fS3 hT2 hY2
  go_wp2_with fail
  refine (turn_t _ _ _ _ _ ⟨v, 0, 0, 0⟩ to yes _ (IsI.kept H2.out c3 (fun e => e)) HA.out HS.out (c3.keeps HT.out (fun e => e)) (c3.keeps HY.out (fun e => e)) FA.out FS.out (by omega) (by omega) (by omega) (by omega) (by omega) (by omega) (by omega) (by omega) (by omega)).mono ?_
  rintro e w4 ⟨rfl, hi, ha, hs, c4⟩
  have H4 := Lib.hid hi
  have A4 := Lib.hid ha
  have S4 := Lib.hid hs
  have T4 := Lib.hid (c4.keeps (c3.keeps HT.out (fun e => e)) (by rintro (e | e | e) <;> simp at e <;> omega))
  have Y4 := Lib.hid (c4.keeps (c3.keeps HY.out (fun e => e)) (by rintro (e | e | e) <;> simp at e <;> omega))
  clear hi ha hs HA HS FA FS HT HY H2
  have sz4 := c4.size
  simp only [World.size_alloc] at sz4
  have c04 : Ch Nil w w4 := by
    have c01 : Ch Nil w w1 := (((Ch.refl Nil w).alloc _).alloc _).trans c1
    refine ((c01.trans c2).trans c3).then c4 ?_
    intro i hi h
    rcases h with h | h | h <;> omega
  clear c1 c2 c3 c4
  have e1 : wrap64 (0 + 1) = 1 := by unfold wrap64; omega
  cases yes
  · simp only [Bool.false_eq_true, if_false] at H4
    rw [e1] at H4
    clear e1
    go_wp2_with fail
    refine (counts_i _ ⟨v, 1, 0, 0⟩ _ H4.out).mono ?_
    rintro e w5 ⟨rfl, hi, c5⟩
    have H5 := Lib.hid hi
    clear hi
    have a5 := c5.keeps A4.out (fun e => e)
    have s5 := c5.keeps S4.out (fun e => e)
    have t5 := c5.keeps T4.out (fun e => e)
    have y5 := c5.keeps Y4.out (fun e => e)
    clear A4 S4 T4 Y4 H4
    go_wp2_with fail
    refine (load_i _ ⟨v, 1, 0, 0⟩ _ H5.out).mono ?_
    rintro e w6 ⟨rfl, hi, c6⟩
    clear hi a5 s5 t5 y5 H5
    go_wp2
    go_ret
    refine ⟨rfl, Ch.below (S := Nil) ((c04.trans c5).then c6 ?_) (Nat.le_refl _) (fun _ _ h => h.elim)⟩
    intro i hi h; change i = _ at h; omega
  · simp only [if_true] at H4
    rw [e1] at H4
    clear e1
    go_wp2_with fail
    refine (counts_i _ ⟨to, 1, 1, 1⟩ _ H4.out).mono ?_
    rintro e w5 ⟨rfl, hi, c5⟩
    have H5 := Lib.hid hi
    clear hi
    have a5 := c5.keeps A4.out (fun e => e)
    have s5 := c5.keeps S4.out (fun e => e)
    have t5 := c5.keeps T4.out (fun e => e)
    have y5 := c5.keeps Y4.out (fun e => e)
    clear A4 S4 T4 Y4 H4
    go_wp2_with fail
    refine (load_i _ ⟨to, 1, 1, 1⟩ _ H5.out).mono ?_
    rintro e w6 ⟨rfl, hi, c6⟩
    clear hi a5 s5 t5 y5 H5
    go_wp2
    go_ret
    refine ⟨rfl, Ch.below (S := Nil) ((c04.trans c5).then c6 ?_) (Nat.le_refl _) (fun _ _ h => h.elim)⟩
    intro i hi h; change i = _ at h; omega

theorem CellTurns_own : ownKnob Try.prog.godebug = none := by kernel_rfl

set_option maxRecDepth 100000 in
theorem CellTurns_lifted (os : Os) (started : os.Started) (H : Type) (enc : TypeId × Value → H) :
    ReturnsInHanded {} Try.checked os 6 .any (Rows.cellTurnsSpec.pre6 enc Try.prog Try.f6 Rows.cellTurnsRow.domain false) (Rows.cellTurnsSpec.post enc Try.prog Try.f6 false true false false) := by
  refine returnsInHanded_of_change (C := Try.checked) CellTurns_own started (by kernel_rfl) Try.func6
    (ChangeSpec.witness6 (enc := enc) (C := Try.checked) false ⟨#[], #[.int .i64 0, .int .i64 0, .bool false], []⟩ 8 (by kernel_rfl) (by kernel_rfl) (by kernel_rfl) (by kernel_rfl)) ?_
  intro W base args ds gs before hval0 hW hcnd _
  have hval : ∀ (j : Nat) t v, Try.f6.params[j]? = some t → args[j]? = some v → Value.okWide Try.prog W .any base t v := hval0
  have hW' := hW
  obtain ⟨p, q, hA0, hV, rfl, hfz, hnd⟩ := hW
  have hA : DataW.TrodAll enc Try.prog W 0 (fun _ => true) true Try.f6.params.toList args.toList ds p := hA0
  rw [Try.params6] at hA hval
  obtain ⟨v0, vs0, d0, ds0, p0, q0, hargs, rfl, rfl, h0, r0⟩ := trodAll_cons hA
  obtain ⟨v1, vs1, d1, ds1, p1, q1, rfl, rfl, rfl, h1, r1⟩ := trodAll_cons r0
  obtain ⟨v2, vs2, d2, ds2, p2, q2, rfl, rfl, rfl, h2, r2⟩ := trodAll_cons r1
  obtain ⟨rfl, rfl, rfl⟩ := trodAll_nil r2
  obtain rfl : args = #[v0, v1, v2] := by cases args; simp_all
  obtain ⟨rfl, rfl⟩ := trodVars_none hV
  obtain ⟨a0, rfl, rfl, rfl, w0⟩ := open_int Try.underlying3 (hval 0 3 v0 rfl rfl) h0
  obtain ⟨a1, rfl, rfl, rfl, w1⟩ := open_int Try.underlying3 (hval 1 3 v1 rfl rfl) h1
  obtain ⟨a2, rfl, rfl, rfl⟩ := open_bool Try.underlying4 (hval 2 4 v2 rfl rfl) h2
  clear hA0 hval0
  simp only [List.append_nil] at hW'
  refine (CellTurns_walk a0 a1 a2 w0 w1 W).mono fun e W' ⟨he, bel⟩ => ?_
  subst he
  exact ⟨_, rfl, _, _, _, [], _, [], hW', trodAll_mk1 (shut_bool Try.underlying4 _), (trodAll_cons_mk (shut_int Try.underlying3 w0) (trodAll_cons_mk (shut_int Try.underlying3 w1) (trodAll_cons_mk (shut_bool Try.underlying4 _) trodAll_mk0))), rfl, bel.frame _, fun h => by cases h⟩

theorem cellTurns_holds : Rows.CellTurnsSaid :=
  OpenClaim.holds_of_wide 6 Try.f6 rfl rfl rfl rfl rfl rfl rfl ⟨rfl, rfl, rfl, rfl, rfl⟩ rfl rfl rfl rfl rfl (by kernel_rfl) Try.func6 (by kernel_rfl)
    (of_decide_eq_true (by kernel_rfl)) (by unfold Func.isWrapper; rw [if_neg (of_decide_eq_false (by kernel_rfl))]; exact ⟨rfl, rfl⟩)
    (fun os started H enc _ => CellTurns_lifted os started H enc)
end Go.Proofs.Ytnflieejfegnhaa
