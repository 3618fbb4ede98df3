/-
  A lock as a value, and the contracts of package lock's functions.
-/
import Derived.Test.YtkialefhjfoniaaGreatLockWalks3
namespace Go.Proofs.YtkialefhjfoniaaGreat
open Go.RowKit
attribute [local go_sem] Oper.semAt_some
set_option linter.unusedVariables false
set_option linter.unusedSimpArgs false

/-- a lock: whose it is, whether it is somebody's, how often it became somebody's -/
structure Lk where
  o : Int
  t : Bool
  n : Nat
def tryK (k : Lk) (who : Int) : Lk := if opn k.t who = true then ⟨who, true, k.n + 1⟩ else k
def goes (k : Lk) (who : Int) : Bool := decide (0 ≤ who) && lvs k.t k.o who
def leaveK (k : Lk) (who : Int) : Lk := if goes k who = true then ⟨0, false, k.n⟩ else k
def leaveE (k : Lk) (who : Int) : Int := if who < 0 then 1 else if lvs k.t k.o who = true then 0 else 7
abbrev IsLk (w : World) (b : Nat) (k : Lk) : Prop := IsK w b k.o k.t (k.n : Nat)
theorem tryK_n (k : Lk) (who : Int) : (tryK k who).n ≤ k.n + 1 := by unfold tryK; split <;> simp
theorem leaveK_n (k : Lk) (who : Int) : (leaveK k who).n = k.n := by unfold leaveK; split <;> rfl

theorem fld_turns (a b c : Value) (w : World) : (Instr.field 115 (.agg #[a, b, c]) 2).run Tryz.prog w = .ok c w := by kernel_rfl
theorem new_lk (w : World) :
    Calls Tryz.prog 71 #[] w fun e w' => e = .returned (.pointer (some ⟨w.heap.size, 0, none⟩)) ∧ IsLk w' w.heap.size ⟨0, false, 0⟩ ∧ Ch Nil w w' := new_any w

set_option maxHeartbeats 4000000 in
theorem try_nil (who : Int) (w : World) :
    Calls Tryz.prog 22 #[.pointer none, .int .i64 who] w fun e w' => e = .returned (.bool false) ∧ Ch Nil w w' := by
  go_enter Tryz.func22, Tryz.ntmps22
  go_wp2
  go_ret
  exact ⟨rfl, (Ch.refl _ _).alloc _⟩
theorem owner_nil (w : World) :
    Calls Tryz.prog 23 #[.pointer none] w fun e w' => e = .returned (.tuple #[.int .i64 0, .bool false]) ∧ Ch Nil w w' := by
  go_enter Tryz.func23, Tryz.ntmps23
  go_wp2_with fail
  refine (loadL_nil _).mono ?_
  rintro e w1 ⟨rfl, c1⟩
  go_wp2
  go_quiet (fail)
  go_wp2
  go_ret2
  exact ⟨rfl, (c1.alloc _).drewN _⟩
section
variable {b : Nat} {k : Lk} {w : World}
theorem owner_of (h : IsLk w b k) :
    Calls Tryz.prog 23 #[.pointer (some ⟨b, 0, none⟩)] w fun e w' => e = .returned (.tuple #[.int .i64 k.o, .bool k.t]) ∧ IsLk w' b k ∧ Ch (One b) w w' := by
  have H := Lib.hid h
  clear h
  go_enter Tryz.func23, Tryz.ntmps23
  go_wp2_with fail
  refine (loadL_of b _ _ _ _ H.out).mono ?_
  rintro e w1 ⟨rfl, hi, c1⟩
  have H1 := Lib.hid hi
  clear hi
  go_wp2
  go_quiet (fail)
  go_wp2
  go_ret2
  exact ⟨rfl, H1.out.kept (S := Nil) (((Ch.refl _ _).alloc _).drewN _) (fun e => e), (c1.alloc _).drewN _⟩
set_option maxHeartbeats 4000000 in
theorem try_of (who : Int) (h : IsLk w b k) (hn : k.n ≤ 1000000) :
    Calls Tryz.prog 22 #[.pointer (some ⟨b, 0, none⟩), .int .i64 who] w fun e w' => e = .returned (.bool (opn k.t who)) ∧ IsLk w' b (tryK k who) ∧ Ch (One b) w w' := by
  have hmf : ∀ (fn : Fn) (first cap : Array Value) (w : World), (Instr.makeFunc fn first cap).run Tryz.prog w = .ok (.func fn first cap) w := fun _ _ _ _ => rfl
  have hlt := h.lt
  have cA : Ch Nil w (w.alloc (.cells #[.int .i64 who] 3)) := (Ch.refl _ _).alloc _
  have H := Lib.hid (h.kept cA (fun e => e))
  have A0 : Hid ((w.alloc (.cells #[.int .i64 who] 3)).cell? ⟨w.heap.size, 0, none⟩ = some (.int .i64 who)) := Lib.hid (by simp [go_sem])
  have C := Lib.hid (cA.mono (S' := One b) (fun _ _ e => e.elim))
  have nb : w.heap.size ≠ b := by omega
  clear h cA
  unfold tryK
  obtain ⟨so, hso⟩ : ∃ so, opn k.t who = so := ⟨_, rfl⟩
  rw [hso]
  have HS := Lib.hid hso
  clear hso
  cases so
  · rw [if_neg (by simp)]
    go_enter Tryz.func22, Tryz.ntmps22
    go_wp2_with fail
    refine (turn_try_no b _ _ _ _ who _ H.out A0.out nb HS.out).mono ?_
    rintro e w1 ⟨rfl, hi, c1⟩
    have H1 := Lib.hid hi
    clear hi
    go_wp2
    go_ret
    exact ⟨rfl, H1.out.kept (S := Nil) ((Ch.refl _ _).alloc _) (fun e => e), (C.out.trans c1).alloc _⟩
  · rw [if_pos rfl]
    go_enter Tryz.func22, Tryz.ntmps22
    go_wp2_with fail
    refine (turn_try_yes b _ _ _ _ who _ H.out A0.out nb HS.out).mono ?_
    rintro e w1 ⟨rfl, hi, c1⟩
    have e1 : wrap64 ((k.n : Nat) + 1 : Int) = ((k.n + 1 : Nat) : Int) := by unfold wrap64; omega
    rw [e1] at hi
    have H1 := Lib.hid hi
    clear hi e1
    go_wp2
    go_ret
    exact ⟨rfl, H1.out.kept (S := Nil) ((Ch.refl _ _).alloc _) (fun e => e), (C.out.trans c1).alloc _⟩
end
/-- the document's example -/
theorem tr_yes {b : Nat} {w : World} (o : Int) (n : Nat) (who : Int) (h : IsLk w b ⟨o, false, n⟩) (h0 : 0 ≤ who) (hn : n ≤ 1000) :
    Calls Tryz.prog 22 #[.pointer (some ⟨b, 0, none⟩), .int .i64 who] w fun e w' => e = .returned (.bool true) ∧ IsLk w' b ⟨who, true, n + 1⟩ ∧ Ch (One b) w w' := by
  have e1 : opn false who = true := by unfold opn; simp [h0]
  have := try_of who h (by show n ≤ 1000000; omega)
  unfold tryK at this
  simp only [e1, if_true] at this
  exact this
theorem tr_no {b : Nat} {w : World} (o : Int) (n : Nat) (who : Int) (h : IsLk w b ⟨o, true, n⟩) (hn : n ≤ 1000) :
    Calls Tryz.prog 22 #[.pointer (some ⟨b, 0, none⟩), .int .i64 who] w fun e w' => e = .returned (.bool false) ∧ IsLk w' b ⟨o, true, n⟩ ∧ Ch (One b) w w' := by
  have e1 : opn true who = false := by unfold opn; simp
  have := try_of who h (by show n ≤ 1000000; omega)
  unfold tryK at this
  rw [show opn (Lk.mk o true n).t who = false from e1, if_neg (by simp)] at this
  exact this
end Go.Proofs.YtkialefhjfoniaaGreat
