/-
  Configs and events held against themselves; of no floor: Note, Trace, Number.
-/
import Derived.Test.YtkialefhjfoniaaGreatFlConf
import Derived.Laws.StructEq
namespace Go.Proofs.YtkialefhjfoniaaGreat
open Go.RowKit Verge
attribute [local go_sem] Oper.semAt_some
set_option linter.unusedVariables false
set_option linter.unusedSimpArgs false

theorem eqField {P : Program} (w : World) (d : Nat) (xs : Array Value) (f : Field) (fs : List Field) (k : IntKind) (x : Int) (hn : f.name ≠ "_") (hp : (part f.type xs f.offset).run P w = .ok (.int k x) w) (hu : P.underlying f.type = some (.int k)) :
    (Op.eqFields (d + 1) xs xs (f :: fs)).run P w = (Op.eqFields (d + 1) xs xs fs).run P w := by
  simp only [Op.eqFields, if_pos hn, Sem.run_bind, hp, Result.andThen_ok, run_equalIn_int w d f.type k k x x hu]
  simp
set_option maxRecDepth 100000 in
set_option maxHeartbeats 2000000 in
/-- alike to itself -/
theorem eqCf (x0 x1 x2 x3 x4 x5 : Int) (w : World) : (Op.equalIn 10000 29 (.agg #[.int .i64 x0, .int .i64 x1, .int .i64 x2, .int .i64 x3, .int .i64 x4, .int .i64 x5]) (.agg #[.int .i64 x0, .int .i64 x1, .int .i64 x2, .int .i64 x3, .int .i64 x4, .int .i64 x5])).run Tryz.prog w = .ok true w := by
  have u3 := Tryz.underlying31
  have a3 := Tryz.isAgg31
  have z3 := Tryz.sizeOf31
  have u4 := Tryz.underlying3
  have a4 := Tryz.isAgg3
  have z4 := Tryz.sizeOf3
  have u5 := Tryz.underlying25
  have a5 := Tryz.isAgg25
  have z5 := Tryz.sizeOf25
  have hS : Tryz.prog.underlying 29 = some (.struct (Tryz.prog.fieldsOf 29)) := by kernel_rfl
  have hp : Tryz.prog.stoodInHeld 29 = false := by kernel_rfl
  rw [show (10000 : Nat) = 9999 + 1 from rfl, run_equalIn_agg w 9999 29 _ _ hS hp]
  simp only [Program.fieldsOf, Tryz.underlying29]
  rw [show (9999 : Nat) = 9998 + 1 from rfl]
  rw [eqField w 9998 _ _ _ .i64 x0 (by decide) (by go_simp) u4]
  rw [eqField w 9998 _ _ _ .i64 x1 (by decide) (by go_simp) u4]
  rw [eqField w 9998 _ _ _ .i64 x2 (by decide) (by go_simp) u4]
  rw [eqField w 9998 _ _ _ .i64 x3 (by decide) (by go_simp) u4]
  rw [eqField w 9998 _ _ _ .i64 x4 (by decide) (by go_simp) u4]
  rw [eqField w 9998 _ _ _ .i64 x5 (by decide) (by go_simp) u4]
  rfl
set_option maxRecDepth 100000 in
set_option maxHeartbeats 2000000 in
/-- alike to itself -/
theorem eqEv (x0 x1 x2 x3 x4 x5 x6 x7 x8 x9 : Int) (w : World) : (Op.equalIn 10000 33 (.agg #[.int .i64 x0, .int .i64 x1, .int .i64 x2, .int .i64 x3, .int .u64 x4, .int .u64 x5, .int .u64 x6, .int .u64 x7, .int .u64 x8, .int .i64 x9]) (.agg #[.int .i64 x0, .int .i64 x1, .int .i64 x2, .int .i64 x3, .int .u64 x4, .int .u64 x5, .int .u64 x6, .int .u64 x7, .int .u64 x8, .int .i64 x9])).run Tryz.prog w = .ok true w := by
  have u3 := Tryz.underlying31
  have a3 := Tryz.isAgg31
  have z3 := Tryz.sizeOf31
  have u4 := Tryz.underlying3
  have a4 := Tryz.isAgg3
  have z4 := Tryz.sizeOf3
  have u5 := Tryz.underlying25
  have a5 := Tryz.isAgg25
  have z5 := Tryz.sizeOf25
  have hS : Tryz.prog.underlying 33 = some (.struct (Tryz.prog.fieldsOf 33)) := by kernel_rfl
  have hp : Tryz.prog.stoodInHeld 33 = false := by kernel_rfl
  rw [show (10000 : Nat) = 9999 + 1 from rfl, run_equalIn_agg w 9999 33 _ _ hS hp]
  simp only [Program.fieldsOf, Tryz.underlying33]
  rw [show (9999 : Nat) = 9998 + 1 from rfl]
  rw [eqField w 9998 _ _ _ .i64 x0 (by decide) (by go_simp) u4]
  rw [eqField w 9998 _ _ _ .i64 x1 (by decide) (by go_simp) u4]
  rw [eqField w 9998 _ _ _ .i64 x2 (by decide) (by go_simp) u4]
  rw [eqField w 9998 _ _ _ .i64 x3 (by decide) (by go_simp) u4]
  rw [eqField w 9998 _ _ _ .u64 x4 (by decide) (by go_simp) u3]
  rw [eqField w 9998 _ _ _ .u64 x5 (by decide) (by go_simp) u3]
  rw [eqField w 9998 _ _ _ .u64 x6 (by decide) (by go_simp) u3]
  rw [eqField w 9998 _ _ _ .u64 x7 (by decide) (by go_simp) u3]
  rw [eqField w 9998 _ _ _ .u64 x8 (by decide) (by go_simp) u3]
  rw [eqField w 9998 _ _ _ .i64 x9 (by decide) (by go_simp) u5]
  rfl
theorem note_nil (u : Ev) (w : World) :
    Calls Tryz.prog 12 #[.pointer none, .agg #[.int .i64 u.k, .int .i64 u.t, .int .i64 u.c, .int .i64 u.h, .int .u64 u.i, .int .u64 u.g, .int .u64 u.d, .int .u64 u.p, .int .u64 u.q, .int .i64 u.e]] w fun e w' => e = .returned (.tuple #[]) ∧ Ch Nil w w' := by
  go_enter Tryz.func12, Tryz.ntmps12
  go_wp2
  go_end0
  exact ⟨rfl, (Ch.refl _ _).alloc _⟩
/-- a row of events held against nil -/
theorem eqlN (w : World) : (binOp .eql 64 (.slice none 0 0) (.slice none 0 0)).run Tryz.prog w = .ok (.bool true) w := by
  have h : ∀ d, (Op.equalIn (d + 1) 64 (.slice none 0 0) (.slice none 0 0)).run Tryz.prog w = .ok true w := fun d => by
    simp [Op.equalIn, run_underlying Tryz.underlying64]
  simp only [binOp]
  simp [show Op.equal 64 (.slice none 0 0) (.slice none 0 0) = Op.equalIn (9999 + 1) 64 (.slice none 0 0) (.slice none 0 0) from rfl, h]
theorem eqlG (a : Addr) (n c : Nat) (w : World) : (binOp .eql 64 (.slice (some a) n c) (.slice none 0 0)).run Tryz.prog w = .ok (.bool false) w := by
  have h : ∀ d, (Op.equalIn (d + 1) 64 (.slice (some a) n c) (.slice none 0 0)).run Tryz.prog w = .ok false w := fun d => by
    simp [Op.equalIn, run_underlying Tryz.underlying64]
  simp only [binOp]
  simp [show Op.equal 64 (.slice (some a) n c) (.slice none 0 0) = Op.equalIn (9999 + 1) 64 (.slice (some a) n c) (.slice none 0 0) from rfl, h]
theorem clone_nil (w : World) :
    Calls Tryz.prog 65 #[.slice none 0 0] w fun e w' => e = .returned (.slice none 0 0) ∧ w = w' := by
  have hE := eqlN
  go_enter Tryz.func65, Tryz.ntmps65
  go_wp2
  go_ret
  exact ⟨rfl, rfl⟩
theorem trace_nil (w : World) :
    Calls Tryz.prog 26 #[.pointer none] w fun e w' => e = .returned (.slice none 0 0) ∧ Ch Nil w w' := by
  have hfld := fld9
  go_enter Tryz.func26, Tryz.ntmps26
  go_wp2_with fail
  refine (whole_nil _).mono ?_
  rintro e w1 ⟨rfl, c1⟩
  have C1 := Lib.hid c1
  clear c1
  go_wp2_with fail
  refine (clone_nil _).mono ?_
  rintro e w2 ⟨rfl, rfl⟩
  go_wp2
  go_ret
  exact ⟨rfl, C1.out⟩
theorem trace_new {w : World} {F : Fb} (h : IsF w F none 0 0) :
    Calls Tryz.prog 26 #[.pointer (some ⟨F.f, 0, none⟩)] w fun e w' => e = .returned (.slice none 0 0) ∧ Ch Nil w w' := by
  have hfld := fld9
  have H := Lib.hid h
  clear h
  go_enter Tryz.func26, Tryz.ntmps26
  go_wp2_with fail
  refine (whole_of H.out).mono ?_
  rintro e w1 ⟨rfl, c1⟩
  have C1 := Lib.hid c1
  clear c1
  go_wp2_with fail
  refine (clone_nil _).mono ?_
  rintro e w2 ⟨rfl, rfl⟩
  go_wp2
  go_ret
  exact ⟨rfl, C1.out⟩
end Go.Proofs.YtkialefhjfoniaaGreat
