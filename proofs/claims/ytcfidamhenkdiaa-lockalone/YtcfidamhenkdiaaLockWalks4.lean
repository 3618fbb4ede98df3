/-
  A lock as a value, and the contracts of package lock's functions.
-/
import Derived.Test.YtcfidamhenkdiaaLockWalks3
namespace Go.Proofs.Ytcfidamhenkdiaa
open Go.RowKit
attribute [local go_sem] Oper.semAt_some
set_option linter.unusedVariables false
set_option linter.unusedSimpArgs false

/-- a lock: whose it is, whether it is somebody's, how often it became somebody's -/
structure Lk where
  o : Int
  t : Bool
  n : Nat
def tryK (k : Lk) (who : Int) : Lk := if opn k.t who = true then ⟨who, true, k.n + 1⟩ else k
def goes (k : Lk) (who : Int) : Bool := decide (0 ≤ who) && lvs k.t k.o who
def leaveK (k : Lk) (who : Int) : Lk := if goes k who = true then ⟨0, false, k.n⟩ else k
def leaveE (k : Lk) (who : Int) : Int := if who < 0 then 1 else if lvs k.t k.o who = true then 0 else 7
abbrev IsLk (w : World) (b : Nat) (k : Lk) : Prop := IsK w b k.o k.t (k.n : Nat)
theorem tryK_n (k : Lk) (who : Int) : (tryK k who).n ≤ k.n + 1 := by unfold tryK; split <;> simp
theorem leaveK_n (k : Lk) (who : Int) : (leaveK k who).n = k.n := by unfold leaveK; split <;> rfl

theorem fld_turns (a b c : Value) (w : World) : (Instr.field 40 (.agg #[a, b, c]) 2).run Try.prog w = .ok c w := by kernel_rfl
theorem new_lk (w : World) :
    Calls Try.prog 8 #[] w fun e w' => e = .returned (.pointer (some ⟨w.heap.size, 0, none⟩)) ∧ IsLk w' w.heap.size ⟨0, false, 0⟩ ∧ Ch Nil w w' := new_any w

set_option maxHeartbeats 4000000 in
theorem try_nil (who : Int) (w : World) :
    Calls Try.prog 11 #[.pointer none, .int .i64 who] w fun e w' => e = .returned (.bool false) ∧ Ch Nil w w' := by
  go_enter Try.func11, Try.ntmps11
  go_wp2
  go_ret
  exact ⟨rfl, (Ch.refl _ _).alloc _⟩
theorem leave_nil (who : Int) (w : World) :
    Calls Try.prog 9 #[.pointer none, .int .i64 who] w fun e w' => e = .returned (.int .i64 7) ∧ Ch Nil w w' := by
  go_enter Try.func9, Try.ntmps9
  go_wp2
  go_ret
  exact ⟨rfl, (Ch.refl _ _).alloc _⟩
theorem owner_nil (w : World) :
    Calls Try.prog 13 #[.pointer none] w fun e w' => e = .returned (.tuple #[.int .i64 0, .bool false]) ∧ Ch Nil w w' := by
  go_enter Try.func13, Try.ntmps13
  go_wp2_with fail
  refine (loadL_nil _).mono ?_
  rintro e w1 ⟨rfl, c1⟩
  go_wp2
  go_quiet (fail)
  go_wp2
  go_ret2
  exact ⟨rfl, (c1.alloc _).drewN _⟩
theorem turns_nil (w : World) :
    Calls Try.prog 14 #[.pointer none] w fun e w' => e = .returned (.int .i64 0) ∧ Ch Nil w w' := by
  have hfld := fld_turns
  go_enter Try.func14, Try.ntmps14
  go_wp2_with fail
  refine (loadL_nil _).mono ?_
  rintro e w1 ⟨rfl, c1⟩
  go_wp2
  go_ret
  exact ⟨rfl, c1⟩
theorem may_nil (who : Int) (w : World) :
    Calls Try.prog 15 #[.pointer none, .int .i64 who] w fun e w' => e = .returned (.bool false) ∧ w = w' := by
  go_enter Try.func15, Try.ntmps15
  go_wp2
  go_ret
  exact ⟨rfl, rfl⟩
section
variable {b : Nat} {k : Lk} {w : World}
theorem owner_of (h : IsLk w b k) :
    Calls Try.prog 13 #[.pointer (some ⟨b, 0, none⟩)] w fun e w' => e = .returned (.tuple #[.int .i64 k.o, .bool k.t]) ∧ IsLk w' b k ∧ Ch (One b) w w' := by
  have H := Lib.hid h
  clear h
  go_enter Try.func13, Try.ntmps13
  go_wp2_with fail
  refine (loadL_of b _ _ _ _ H.out).mono ?_
  rintro e w1 ⟨rfl, hi, c1⟩
  have H1 := Lib.hid hi
  clear hi
  go_wp2
  go_quiet (fail)
  go_wp2
  go_ret2
  exact ⟨rfl, H1.out.kept (S := Nil) (((Ch.refl _ _).alloc _).drewN _) (fun e => e), (c1.alloc _).drewN _⟩
theorem turns_of (h : IsLk w b k) :
    Calls Try.prog 14 #[.pointer (some ⟨b, 0, none⟩)] w fun e w' => e = .returned (.int .i64 (k.n : Nat)) ∧ IsLk w' b k ∧ Ch (One b) w w' := by
  have H := Lib.hid h
  clear h
  have hfld := fld_turns
  go_enter Try.func14, Try.ntmps14
  go_wp2_with fail
  refine (loadL_of b _ _ _ _ H.out).mono ?_
  rintro e w1 ⟨rfl, hi, c1⟩
  have H1 := Lib.hid hi
  clear hi
  go_wp2
  go_ret
  exact ⟨rfl, H1.out, c1⟩
theorem may_of (who : Int) (h : IsLk w b k) :
    Calls Try.prog 15 #[.pointer (some ⟨b, 0, none⟩), .int .i64 who] w fun e w' => e = .returned (.bool (opn k.t who)) ∧ IsLk w' b k ∧ Ch (One b) w w' := by
  have H := Lib.hid h
  clear h
  go_enter Try.func15, Try.ntmps15
  go_wp2_with fail
  refine (loadL_of b _ _ _ _ H.out).mono ?_
  rintro e w1 ⟨rfl, hi, c1⟩
  have H1 := Lib.hid hi
  clear hi
  go_wp2_with fail
  refine (open_any _ _ _ _ _).mono ?_
  rintro e w2 ⟨rfl, c2⟩
  go_wp2
  go_ret
  exact ⟨rfl, H1.out.kept c2 (fun e => e), c1.trans (c2.mono (S' := One b) (fun _ _ e => e.elim))⟩
set_option maxHeartbeats 4000000 in
theorem try_of (who : Int) (h : IsLk w b k) (hn : k.n ≤ 1000000) :
    Calls Try.prog 11 #[.pointer (some ⟨b, 0, none⟩), .int .i64 who] w fun e w' => e = .returned (.bool (opn k.t who)) ∧ IsLk w' b (tryK k who) ∧ Ch (One b) w w' := by
  have hmf : ∀ (fn : Fn) (first cap : Array Value) (w : World), (Instr.makeFunc fn first cap).run Try.prog w = .ok (.func fn first cap) w := fun _ _ _ _ => rfl
  have hlt := h.lt
  have cA : Ch Nil w (w.alloc (.cells #[.int .i64 who] 3)) := (Ch.refl _ _).alloc _
  have H := Lib.hid (h.kept cA (fun e => e))
  have A0 : Hid ((w.alloc (.cells #[.int .i64 who] 3)).cell? ⟨w.heap.size, 0, none⟩ = some (.int .i64 who)) := Lib.hid (by simp [go_sem])
  have C := Lib.hid (cA.mono (S' := One b) (fun _ _ e => e.elim))
  have nb : w.heap.size ≠ b := by omega
  clear h cA
  unfold tryK
  obtain ⟨so, hso⟩ : ∃ so, opn k.t who = so := ⟨_, rfl⟩
  rw [hso]
  have HS := Lib.hid hso
  clear hso
  cases so
  · rw [if_neg (by simp)]
    go_enter Try.func11, Try.ntmps11
    go_wp2_with fail
    refine (turn_try_no b _ _ _ _ who _ H.out A0.out nb HS.out).mono ?_
    rintro e w1 ⟨rfl, hi, c1⟩
    have H1 := Lib.hid hi
    clear hi
    go_wp2
    go_ret
    exact ⟨rfl, H1.out.kept (S := Nil) ((Ch.refl _ _).alloc _) (fun e => e), (C.out.trans c1).alloc _⟩
  · rw [if_pos rfl]
    go_enter Try.func11, Try.ntmps11
    go_wp2_with fail
    refine (turn_try_yes b _ _ _ _ who _ H.out A0.out nb HS.out).mono ?_
    rintro e w1 ⟨rfl, hi, c1⟩
    have e1 : wrap64 ((k.n : Nat) + 1 : Int) = ((k.n + 1 : Nat) : Int) := by unfold wrap64; omega
    rw [e1] at hi
    have H1 := Lib.hid hi
    clear hi e1
    go_wp2
    go_ret
    exact ⟨rfl, H1.out.kept (S := Nil) ((Ch.refl _ _).alloc _) (fun e => e), (C.out.trans c1).alloc _⟩
set_option maxHeartbeats 4000000 in
theorem leave_of (who : Int) (h : IsLk w b k) :
    Calls Try.prog 9 #[.pointer (some ⟨b, 0, none⟩), .int .i64 who] w fun e w' => e = .returned (.int .i64 (leaveE k who)) ∧ IsLk w' b (leaveK k who) ∧ Ch (One b) w w' := by
  have hmf : ∀ (fn : Fn) (first cap : Array Value) (w : World), (Instr.makeFunc fn first cap).run Try.prog w = .ok (.func fn first cap) w := fun _ _ _ _ => rfl
  have hlt := h.lt
  have cA : Ch Nil w (w.alloc (.cells #[.int .i64 who] 3)) := (Ch.refl _ _).alloc _
  have H := Lib.hid (h.kept cA (fun e => e))
  have A0 : Hid ((w.alloc (.cells #[.int .i64 who] 3)).cell? ⟨w.heap.size, 0, none⟩ = some (.int .i64 who)) := Lib.hid (by simp [go_sem])
  have C := Lib.hid (cA.mono (S' := One b) (fun _ _ e => e.elim))
  have nb : w.heap.size ≠ b := by omega
  clear h cA
  unfold leaveK leaveE goes
  by_cases h0 : who < 0
  · rw [if_pos h0, decide_eq_false (by omega), Bool.false_and, if_neg (by simp)]
    go_enter Try.func9, Try.ntmps9
    go_wp2
    go_ret
    exact ⟨rfl, H.out, C.out⟩
  · have h1 : 0 ≤ who := by omega
    rw [if_neg h0, decide_eq_true h1, Bool.true_and]
    obtain ⟨so, hso⟩ : ∃ so, lvs k.t k.o who = so := ⟨_, rfl⟩
    rw [hso]
    have HS := Lib.hid hso
    clear hso
    cases so
    · rw [if_neg (by simp), if_neg (by simp)]
      go_enter Try.func9, Try.ntmps9
      go_wp2_with fail
      refine (turn_leave_no b _ _ _ _ who _ H.out A0.out nb HS.out).mono ?_
      rintro e w1 ⟨rfl, hi, c1⟩
      have H1 := Lib.hid hi
      clear hi
      go_wp2
      go_ret
      exact ⟨rfl, H1.out.kept (S := Nil) ((Ch.refl _ _).alloc _) (fun e => e), (C.out.trans c1).alloc _⟩
    · rw [if_pos rfl, if_pos rfl]
      go_enter Try.func9, Try.ntmps9
      go_wp2_with fail
      refine (turn_leave_yes b _ _ _ _ who _ H.out A0.out nb HS.out).mono ?_
      rintro e w1 ⟨rfl, hi, c1⟩
      have H1 := Lib.hid hi
      clear hi
      go_wp2
      go_ret
      exact ⟨rfl, H1.out.kept (S := Nil) ((Ch.refl _ _).alloc _) (fun e => e), (C.out.trans c1).alloc _⟩
end
/-- the document's example -/
theorem tr_yes {b : Nat} {w : World} (o : Int) (n : Nat) (who : Int) (h : IsLk w b ⟨o, false, n⟩) (h0 : 0 ≤ who) (hn : n ≤ 1000) :
    Calls Try.prog 11 #[.pointer (some ⟨b, 0, none⟩), .int .i64 who] w fun e w' => e = .returned (.bool true) ∧ IsLk w' b ⟨who, true, n + 1⟩ ∧ Ch (One b) w w' := by
  have e1 : opn false who = true := by unfold opn; simp [h0]
  have := try_of who h (by show n ≤ 1000000; omega)
  unfold tryK at this
  simp only [e1, if_true] at this
  exact this
theorem tr_no {b : Nat} {w : World} (o : Int) (n : Nat) (who : Int) (h : IsLk w b ⟨o, true, n⟩) (hn : n ≤ 1000) :
    Calls Try.prog 11 #[.pointer (some ⟨b, 0, none⟩), .int .i64 who] w fun e w' => e = .returned (.bool false) ∧ IsLk w' b ⟨o, true, n⟩ ∧ Ch (One b) w w' := by
  have e1 : opn true who = false := by unfold opn; simp
  have := try_of who h (by show n ≤ 1000000; omega)
  unfold tryK at this
  rw [show opn (Lk.mk o true n).t who = false from e1, if_neg (by simp)] at this
  exact this
theorem lv_no {b : Nat} {w : World} (o : Int) (n : Nat) (who : Int) (h : IsLk w b ⟨o, true, n⟩) (h0 : 0 ≤ who) (hw : (o == who) = false) :
    Calls Try.prog 9 #[.pointer (some ⟨b, 0, none⟩), .int .i64 who] w fun e w' => e = .returned (.int .i64 7) ∧ IsLk w' b ⟨o, true, n⟩ ∧ Ch (One b) w w' := by
  have e1 : lvs true o who = false := by unfold lvs; simp [hw]
  have := leave_of who h
  unfold leaveK leaveE goes at this
  rw [show lvs (Lk.mk o true n).t (Lk.mk o true n).o who = false from e1, if_neg (by omega), if_neg (by simp), Bool.and_false, if_neg (by simp)] at this
  exact this
theorem lv_yes {b : Nat} {w : World} (n : Nat) (who : Int) (h : IsLk w b ⟨who, true, n⟩) (h0 : 0 ≤ who) :
    Calls Try.prog 9 #[.pointer (some ⟨b, 0, none⟩), .int .i64 who] w fun e w' => e = .returned (.int .i64 0) ∧ IsLk w' b ⟨0, false, n⟩ ∧ Ch (One b) w w' := by
  have e1 : lvs true who who = true := by unfold lvs; simp
  have := leave_of who h
  unfold leaveK leaveE goes at this
  rw [show lvs (Lk.mk who true n).t (Lk.mk who true n).o who = true from e1, if_neg (by omega), if_pos rfl, decide_eq_true h0, Bool.true_and, if_pos rfl] at this
  exact this
set_option maxHeartbeats 4000000 in
theorem alive_any (w : World) :
    Calls Try.prog 7 #[] w fun e w' => e = .returned (.bool true) ∧ Ch Nil w w' := by
  have up : Hid (∀ i, i < w.heap.size → One w.heap.size i → Nil i) := Lib.hid (fun i hi e => by have : i = w.heap.size := e; omega)
  go_enter Try.func7, Try.ntmps7
  go_wp2_with fail
  refine (new_lk _).mono ?_
  rintro e w1 ⟨rfl, h1, c1⟩
  have H1 := Lib.hid h1
  have C1 := Lib.hid c1
  clear h1 c1
  go_wp2_with fail
  refine (tr_yes _ _ 3 H1.out (by omega) (by omega)).mono ?_
  rintro e w2 ⟨rfl, h2, c2⟩
  have H2 := Lib.hid h2
  have C2 := Lib.hid (C1.out.then c2 up.out)
  clear h2 c2 C1 H1
  go_wp2_with fail
  refine (tr_no _ _ 4 H2.out (by omega)).mono ?_
  rintro e w3 ⟨rfl, h3, c3⟩
  have H3 := Lib.hid h3
  have C3 := Lib.hid (C2.out.then c3 up.out)
  clear h3 c3 C2 H2
  go_wp2_with fail
  refine (lv_no _ _ 4 H3.out (by omega) (by rfl)).mono ?_
  rintro e w4 ⟨rfl, h4, c4⟩
  have H4 := Lib.hid h4
  have C4 := Lib.hid (C3.out.then c4 up.out)
  clear h4 c4 C3 H3
  go_wp2_with fail
  refine (lv_yes _ 3 H4.out (by omega)).mono ?_
  rintro e w5 ⟨rfl, h5, c5⟩
  have H5 := Lib.hid h5
  have C5 := Lib.hid (C4.out.then c5 up.out)
  clear h5 c5 C4 H4
  go_wp2_with fail
  refine (tr_yes _ _ 4 H5.out (by omega) (by omega)).mono ?_
  rintro e w6 ⟨rfl, h6, c6⟩
  have C6 := Lib.hid (C5.out.then c6 up.out)
  clear h6 c6 C5 H5
  go_wp2
  go_ret
  exact ⟨rfl, C6.out⟩
end Go.Proofs.Ytcfidamhenkdiaa
