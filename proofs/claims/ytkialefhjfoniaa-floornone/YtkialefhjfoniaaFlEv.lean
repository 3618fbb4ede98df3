/-
  Configs and events held against themselves; of no floor: Note, Trace, Number.
-/
import Derived.Test.YtkialefhjfoniaaFlConf
import Derived.Laws.StructEq
namespace Go.Proofs.Ytkialefhjfoniaa
open Go.RowKit Verge
attribute [local go_sem] Oper.semAt_some
set_option linter.unusedVariables false
set_option linter.unusedSimpArgs false

theorem eqField {P : Program} (w : World) (d : Nat) (xs : Array Value) (f : Field) (fs : List Field) (k : IntKind) (x : Int) (hn : f.name ≠ "_") (hp : (part f.type xs f.offset).run P w = .ok (.int k x) w) (hu : P.underlying f.type = some (.int k)) :
    (Op.eqFields (d + 1) xs xs (f :: fs)).run P w = (Op.eqFields (d + 1) xs xs fs).run P w := by
  simp only [Op.eqFields, if_pos hn, Sem.run_bind, hp, Result.andThen_ok, run_equalIn_int w d f.type k k x x hu]
  simp
set_option maxRecDepth 100000 in
set_option maxHeartbeats 2000000 in
/-- alike to itself -/
theorem eqCf (x0 x1 x2 x3 x4 x5 : Int) (w : World) : (Op.equalIn 10000 23 (.agg #[.int .i64 x0, .int .i64 x1, .int .i64 x2, .int .i64 x3, .int .i64 x4, .int .i64 x5]) (.agg #[.int .i64 x0, .int .i64 x1, .int .i64 x2, .int .i64 x3, .int .i64 x4, .int .i64 x5])).run Try.prog w = .ok true w := by
  have u3 := Try.underlying39
  have a3 := Try.isAgg39
  have z3 := Try.sizeOf39
  have u4 := Try.underlying3
  have a4 := Try.isAgg3
  have z4 := Try.sizeOf3
  have u5 := Try.underlying26
  have a5 := Try.isAgg26
  have z5 := Try.sizeOf26
  have hS : Try.prog.underlying 23 = some (.struct (Try.prog.fieldsOf 23)) := by kernel_rfl
  have hp : Try.prog.stoodInHeld 23 = false := by kernel_rfl
  rw [show (10000 : Nat) = 9999 + 1 from rfl, run_equalIn_agg w 9999 23 _ _ hS hp]
  simp only [Program.fieldsOf, Try.underlying23]
  rw [show (9999 : Nat) = 9998 + 1 from rfl]
  rw [eqField w 9998 _ _ _ .i64 x0 (by decide) (by go_simp) u4]
  rw [eqField w 9998 _ _ _ .i64 x1 (by decide) (by go_simp) u4]
  rw [eqField w 9998 _ _ _ .i64 x2 (by decide) (by go_simp) u4]
  rw [eqField w 9998 _ _ _ .i64 x3 (by decide) (by go_simp) u4]
  rw [eqField w 9998 _ _ _ .i64 x4 (by decide) (by go_simp) u4]
  rw [eqField w 9998 _ _ _ .i64 x5 (by decide) (by go_simp) u4]
  rfl
set_option maxRecDepth 100000 in
set_option maxHeartbeats 2000000 in
/-- alike to itself -/
theorem eqEv (x0 x1 x2 x3 x4 x5 x6 x7 x8 x9 : Int) (w : World) : (Op.equalIn 10000 55 (.agg #[.int .i64 x0, .int .i64 x1, .int .i64 x2, .int .i64 x3, .int .u64 x4, .int .u64 x5, .int .u64 x6, .int .u64 x7, .int .u64 x8, .int .i64 x9]) (.agg #[.int .i64 x0, .int .i64 x1, .int .i64 x2, .int .i64 x3, .int .u64 x4, .int .u64 x5, .int .u64 x6, .int .u64 x7, .int .u64 x8, .int .i64 x9])).run Try.prog w = .ok true w := by
  have u3 := Try.underlying39
  have a3 := Try.isAgg39
  have z3 := Try.sizeOf39
  have u4 := Try.underlying3
  have a4 := Try.isAgg3
  have z4 := Try.sizeOf3
  have u5 := Try.underlying26
  have a5 := Try.isAgg26
  have z5 := Try.sizeOf26
  have hS : Try.prog.underlying 55 = some (.struct (Try.prog.fieldsOf 55)) := by kernel_rfl
  have hp : Try.prog.stoodInHeld 55 = false := by kernel_rfl
  rw [show (10000 : Nat) = 9999 + 1 from rfl, run_equalIn_agg w 9999 55 _ _ hS hp]
  simp only [Program.fieldsOf, Try.underlying55]
  rw [show (9999 : Nat) = 9998 + 1 from rfl]
  rw [eqField w 9998 _ _ _ .i64 x0 (by decide) (by go_simp) u4]
  rw [eqField w 9998 _ _ _ .i64 x1 (by decide) (by go_simp) u4]
  rw [eqField w 9998 _ _ _ .i64 x2 (by decide) (by go_simp) u4]
  rw [eqField w 9998 _ _ _ .i64 x3 (by decide) (by go_simp) u4]
  rw [eqField w 9998 _ _ _ .u64 x4 (by decide) (by go_simp) u3]
  rw [eqField w 9998 _ _ _ .u64 x5 (by decide) (by go_simp) u3]
  rw [eqField w 9998 _ _ _ .u64 x6 (by decide) (by go_simp) u3]
  rw [eqField w 9998 _ _ _ .u64 x7 (by decide) (by go_simp) u3]
  rw [eqField w 9998 _ _ _ .u64 x8 (by decide) (by go_simp) u3]
  rw [eqField w 9998 _ _ _ .i64 x9 (by decide) (by go_simp) u5]
  rfl
theorem note_nil (u : Ev) (w : World) :
    Calls Try.prog 28 #[.pointer none, .agg #[.int .i64 u.k, .int .i64 u.t, .int .i64 u.c, .int .i64 u.h, .int .u64 u.i, .int .u64 u.g, .int .u64 u.d, .int .u64 u.p, .int .u64 u.q, .int .i64 u.e]] w fun e w' => e = .returned (.tuple #[]) ∧ Ch Nil w w' := by
  go_enter Try.func28, Try.ntmps28
  go_wp2
  go_end0
  exact ⟨rfl, (Ch.refl _ _).alloc _⟩
/-- a row of events held against nil -/
theorem eqlN (w : World) : (binOp .eql 51 (.slice none 0 0) (.slice none 0 0)).run Try.prog w = .ok (.bool true) w := by
  have h : ∀ d, (Op.equalIn (d + 1) 51 (.slice none 0 0) (.slice none 0 0)).run Try.prog w = .ok true w := fun d => by
    simp [Op.equalIn, run_underlying Try.underlying51]
  simp only [binOp]
  simp [show Op.equal 51 (.slice none 0 0) (.slice none 0 0) = Op.equalIn (9999 + 1) 51 (.slice none 0 0) (.slice none 0 0) from rfl, h]
theorem eqlG (a : Addr) (n c : Nat) (w : World) : (binOp .eql 51 (.slice (some a) n c) (.slice none 0 0)).run Try.prog w = .ok (.bool false) w := by
  have h : ∀ d, (Op.equalIn (d + 1) 51 (.slice (some a) n c) (.slice none 0 0)).run Try.prog w = .ok false w := fun d => by
    simp [Op.equalIn, run_underlying Try.underlying51]
  simp only [binOp]
  simp [show Op.equal 51 (.slice (some a) n c) (.slice none 0 0) = Op.equalIn (9999 + 1) 51 (.slice (some a) n c) (.slice none 0 0) from rfl, h]
theorem clone_nil (w : World) :
    Calls Try.prog 66 #[.slice none 0 0] w fun e w' => e = .returned (.slice none 0 0) ∧ w = w' := by
  have hE := eqlN
  go_enter Try.func66, Try.ntmps66
  go_wp2
  go_ret
  exact ⟨rfl, rfl⟩
theorem trace_nil (w : World) :
    Calls Try.prog 35 #[.pointer none] w fun e w' => e = .returned (.slice none 0 0) ∧ Ch Nil w w' := by
  have hfld := fld9
  go_enter Try.func35, Try.ntmps35
  go_wp2_with fail
  refine (whole_nil _).mono ?_
  rintro e w1 ⟨rfl, c1⟩
  have C1 := Lib.hid c1
  clear c1
  go_wp2_with fail
  refine (clone_nil _).mono ?_
  rintro e w2 ⟨rfl, rfl⟩
  go_wp2
  go_ret
  exact ⟨rfl, C1.out⟩
theorem trace_new {w : World} {F : Fb} (h : IsF w F none 0 0) :
    Calls Try.prog 35 #[.pointer (some ⟨F.f, 0, none⟩)] w fun e w' => e = .returned (.slice none 0 0) ∧ Ch Nil w w' := by
  have hfld := fld9
  have H := Lib.hid h
  clear h
  go_enter Try.func35, Try.ntmps35
  go_wp2_with fail
  refine (whole_of H.out).mono ?_
  rintro e w1 ⟨rfl, c1⟩
  have C1 := Lib.hid c1
  clear c1
  go_wp2_with fail
  refine (clone_nil _).mono ?_
  rintro e w2 ⟨rfl, rfl⟩
  go_wp2
  go_ret
  exact ⟨rfl, C1.out⟩
theorem number_nil (i : Int) (w : World) :
    Calls Try.prog 42 #[.pointer none, .int .i64 i] w fun e w' => e = .returned (.tuple #[.int .u64 0, .int .i64 6]) ∧ Ch Nil w w' := by
  go_enter Try.func42, Try.ntmps42
  go_wp2
  go_ret2
  exact ⟨rfl, Ch.refl _ _⟩
end Go.Proofs.Ytkialefhjfoniaa
