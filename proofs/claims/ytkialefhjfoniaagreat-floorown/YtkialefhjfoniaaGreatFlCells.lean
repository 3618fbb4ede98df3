/-
  Contracts of package cell's functions as a floor uses them: its flag, its counts, its time; and the floor's functions over these.
-/
import Derived.Test.YtkialefhjfoniaaGreatFlMem
import Derived.Test.YtkialefhjfoniaaGreatSlabMem
import Derived.BigQuiet
import Derived.Deep.QuietTactic
namespace Go.Proofs.YtkialefhjfoniaaGreat
open Go.RowKit Verge
attribute [local go_sem] Oper.semAt_some
set_option linter.unusedVariables false
set_option linter.unusedSimpArgs false

/-- a cell of a bool -/
def IsB (w : World) (b : Nat) (v : Bool) : Prop := ∃ l t u, IsC w b 0 (.bool v) l t u
section
variable {S : Nat → Prop} {w w' : World} {b : Nat}
theorem IsB.lt {v : Bool} (h : IsB w b v) : b < w.heap.size := by obtain ⟨l, t, u, h⟩ := h; exact h.lt
theorem IsB.kept {v : Bool} (h : IsB w b v) (c : Ch S w w') (hn : ¬ S b) : IsB w' b v := by obtain ⟨l, t, u, h⟩ := h; exact ⟨l, t, u, h.keeps c hn⟩
theorem ofJ (v : Int) (w : World) :
    Calls Tryz.prog 36 #[.int .i64 v] w fun e w' => e = .returned (.pointer (some ⟨w.heap.size, 0, none⟩)) ∧ IsJ w' w.heap.size 0 v ∧ Ch Nil w w' ∧ w'.heap.size = w.heap.size + 1 := by
  go_enter Tryz.func36, Tryz.ntmps36
  go_wp2
  go_ret
  refine ⟨rfl, ⟨0, 0, 0, ?_⟩, (Ch.refl _ _).alloc _, by simp⟩
  constructor <;> simp [go_sem]
theorem floadJ (v : Int) (h : IsJ w b 0 v) :
    Calls Tryz.prog 64 #[.pointer (some ⟨b, 0, none⟩)] w fun e w' => e = .returned (.int .i64 v) ∧ IsJ w' b 0 v ∧ Tch b 0 4 w w' := by
  obtain ⟨l, t, u, h⟩ := h
  have H := Lib.hid h
  obtain ⟨hv, hl, ht, hu, fv, fl, ft, fu⟩ := h
  go_enter Tryz.func64, Tryz.ntmps64
  go_wp2
  go_ret
  exact ⟨rfl, ⟨_, _, _, H.out.setL _⟩, (Tch.refl _ _ _ _).set _ (by omega) _⟩
theorem floadJ_nil (w : World) :
    Calls Tryz.prog 64 #[.pointer none] w fun e w' => e = .returned (.int .i64 0) ∧ w = w' := by
  go_enter Tryz.func64, Tryz.ntmps64
  go_wp2
  go_ret
  exact ⟨rfl, rfl⟩
theorem fchangeJ (v x : Int) (h : IsJ w b 0 v) :
    Calls Tryz.prog 88 #[.pointer (some ⟨b, 0, none⟩), .int .i64 x, .bool true] w fun e w' => e = .returned (.bool true) ∧ IsJ w' b 0 x ∧ Tch b 0 4 w w' := by
  obtain ⟨l, t, u, h⟩ := h
  have H := Lib.hid h
  obtain ⟨hv, hl, ht, hu, fv, fl, ft, fu⟩ := h
  go_enter Tryz.func88, Tryz.ntmps88
  go_wp2
  go_ret
  exact ⟨rfl, ⟨_, _, _, ((H.out.setT _).setV _).setU _⟩, (((Tch.refl _ _ _ _).set _ (by omega) _).set _ (by omega) _).set _ (by omega) _⟩
theorem ofU (v : Int) (w : World) :
    Calls Tryz.prog 37 #[.int .u64 v] w fun e w' => e = .returned (.pointer (some ⟨w.heap.size, 0, none⟩)) ∧ IsU w' w.heap.size 0 v ∧ Ch Nil w w' ∧ w'.heap.size = w.heap.size + 1 := by
  go_enter Tryz.func37, Tryz.ntmps37
  go_wp2
  go_ret
  refine ⟨rfl, ⟨0, 0, 0, ?_⟩, (Ch.refl _ _).alloc _, by simp⟩
  constructor <;> simp [go_sem]
theorem floadU (v : Int) (h : IsU w b 0 v) :
    Calls Tryz.prog 68 #[.pointer (some ⟨b, 0, none⟩)] w fun e w' => e = .returned (.int .u64 v) ∧ IsU w' b 0 v ∧ Tch b 0 4 w w' := by
  obtain ⟨l, t, u, h⟩ := h
  have H := Lib.hid h
  obtain ⟨hv, hl, ht, hu, fv, fl, ft, fu⟩ := h
  go_enter Tryz.func68, Tryz.ntmps68
  go_wp2
  go_ret
  exact ⟨rfl, ⟨_, _, _, H.out.setL _⟩, (Tch.refl _ _ _ _).set _ (by omega) _⟩
theorem floadU_nil (w : World) :
    Calls Tryz.prog 68 #[.pointer none] w fun e w' => e = .returned (.int .u64 0) ∧ w = w' := by
  go_enter Tryz.func68, Tryz.ntmps68
  go_wp2
  go_ret
  exact ⟨rfl, rfl⟩
theorem fchangeU (v x : Int) (h : IsU w b 0 v) :
    Calls Tryz.prog 76 #[.pointer (some ⟨b, 0, none⟩), .int .u64 x, .bool true] w fun e w' => e = .returned (.bool true) ∧ IsU w' b 0 x ∧ Tch b 0 4 w w' := by
  obtain ⟨l, t, u, h⟩ := h
  have H := Lib.hid h
  obtain ⟨hv, hl, ht, hu, fv, fl, ft, fu⟩ := h
  go_enter Tryz.func76, Tryz.ntmps76
  go_wp2
  go_ret
  exact ⟨rfl, ⟨_, _, _, ((H.out.setT _).setV _).setU _⟩, (((Tch.refl _ _ _ _).set _ (by omega) _).set _ (by omega) _).set _ (by omega) _⟩
theorem ofB (v : Bool) (w : World) :
    Calls Tryz.prog 35 #[.bool v] w fun e w' => e = .returned (.pointer (some ⟨w.heap.size, 0, none⟩)) ∧ IsB w' w.heap.size v ∧ Ch Nil w w' ∧ w'.heap.size = w.heap.size + 1 := by
  go_enter Tryz.func35, Tryz.ntmps35
  go_wp2
  go_ret
  refine ⟨rfl, ⟨0, 0, 0, ?_⟩, (Ch.refl _ _).alloc _, by simp⟩
  constructor <;> simp [go_sem]
theorem floadB (v : Bool) (h : IsB w b v) :
    Calls Tryz.prog 67 #[.pointer (some ⟨b, 0, none⟩)] w fun e w' => e = .returned (.bool v) ∧ IsB w' b v ∧ Tch b 0 4 w w' := by
  obtain ⟨l, t, u, h⟩ := h
  have H := Lib.hid h
  obtain ⟨hv, hl, ht, hu, fv, fl, ft, fu⟩ := h
  go_enter Tryz.func67, Tryz.ntmps67
  go_wp2
  go_ret
  exact ⟨rfl, ⟨_, _, _, H.out.setL _⟩, (Tch.refl _ _ _ _).set _ (by omega) _⟩
theorem floadB_nil (w : World) :
    Calls Tryz.prog 67 #[.pointer none] w fun e w' => e = .returned (.bool false) ∧ w = w' := by
  go_enter Tryz.func67, Tryz.ntmps67
  go_wp2
  go_ret
  exact ⟨rfl, rfl⟩
theorem fchangeB (v x : Bool) (h : IsB w b v) :
    Calls Tryz.prog 74 #[.pointer (some ⟨b, 0, none⟩), .bool x, .bool true] w fun e w' => e = .returned (.bool true) ∧ IsB w' b x ∧ Tch b 0 4 w w' := by
  obtain ⟨l, t, u, h⟩ := h
  have H := Lib.hid h
  obtain ⟨hv, hl, ht, hu, fv, fl, ft, fu⟩ := h
  go_enter Tryz.func74, Tryz.ntmps74
  go_wp2
  go_ret
  exact ⟨rfl, ⟨_, _, _, ((H.out.setT _).setV _).setU _⟩, (((Tch.refl _ _ _ _).set _ (by omega) _).set _ (by omega) _).set _ (by omega) _⟩
theorem fchangeB_no (v x : Bool) (h : IsB w b v) :
    Calls Tryz.prog 74 #[.pointer (some ⟨b, 0, none⟩), .bool x, .bool false] w fun e w' => e = .returned (.bool false) ∧ IsB w' b v ∧ Tch b 0 4 w w' := by
  obtain ⟨l, t, u, h⟩ := h
  have H := Lib.hid h
  obtain ⟨hv, hl, ht, hu, fv, fl, ft, fu⟩ := h
  go_enter Tryz.func74, Tryz.ntmps74
  go_wp2
  go_ret
  exact ⟨rfl, ⟨_, _, _, H.out.setT _⟩, (Tch.refl _ _ _ _).set _ (by omega) _⟩
theorem catchB (w : World) :
    CallsD Tryz.prog 89 #[] .returning w fun e u' w' => e = .returned (.tuple #[]) ∧ u' = .returning ∧ w = w' := by
  refine callsD_of_wpS Tryz.func89 rfl fun c₀ cs hu => ?_
  apply wpS_region
  cases c₀
  simp_all [wpOpsS, go_sem, recoverD, Tryz.ntmps89, bodyPostS, results, Tryz.results89]
theorem sameB_ff (w : World) :
    Calls Tryz.prog 75 #[.bool false, .bool false] w fun e w' => e = .returned (.bool true) ∧ w = w' := by
  have hmf : ∀ (fn : Fn) (first cap : Array Value) (w : World), (Instr.makeFunc fn first cap).run Tryz.prog w = .ok (.func fn first cap) w := fun _ _ _ _ => rfl
  go_enter_defers Tryz.func75, Tryz.ntmps75
  go_wp2
  refine leaves_cons (f := 89) (args := #[]) (by simp) (by simp [go_sem]) ?_
  refine (catchB _).mono ?_
  rintro e u' w'' ⟨rfl, rfl, rfl⟩
  simp [Leaves, settle, results, Tryz.results75, go_sem]
theorem sameB_tf (w : World) :
    Calls Tryz.prog 75 #[.bool true, .bool false] w fun e w' => e = .returned (.bool false) ∧ w = w' := by
  have hmf : ∀ (fn : Fn) (first cap : Array Value) (w : World), (Instr.makeFunc fn first cap).run Tryz.prog w = .ok (.func fn first cap) w := fun _ _ _ _ => rfl
  go_enter_defers Tryz.func75, Tryz.ntmps75
  go_wp2
  refine leaves_cons (f := 89) (args := #[]) (by simp) (by simp [go_sem]) ?_
  refine (catchB _).mono ?_
  rintro e u' w'' ⟨rfl, rfl, rfl⟩
  simp [Leaves, settle, results, Tryz.results75, go_sem]
theorem shutB_first (h : IsB w b false) :
    Calls Tryz.prog 45 #[.pointer (some ⟨b, 0, none⟩), .bool false, .bool true] w fun e w' => e = .returned (.bool true) ∧ IsB w' b true ∧ Tch b 0 4 w w' := by
  have H := Lib.hid h
  obtain ⟨l, t, u, h⟩ := h
  have hv := h.v
  clear h
  go_enter Tryz.func45, Tryz.ntmps45
  go_wp2_with fail
  refine (sameB_ff _).mono ?_
  rintro e w1 ⟨rfl, rfl⟩
  go_wp2_with fail
  refine (fchangeB false true H.out).mono ?_
  rintro e w1 ⟨rfl, h1, c1⟩
  have H1 := Lib.hid h1
  clear h1
  go_wp2
  go_ret
  exact ⟨rfl, H1.out, c1⟩
theorem shutB_again (h : IsB w b true) :
    Calls Tryz.prog 45 #[.pointer (some ⟨b, 0, none⟩), .bool false, .bool true] w fun e w' => e = .returned (.bool false) ∧ IsB w' b true ∧ Tch b 0 4 w w' := by
  have H := Lib.hid h
  obtain ⟨l, t, u, h⟩ := h
  have hv := h.v
  clear h
  go_enter Tryz.func45, Tryz.ntmps45
  go_wp2_with fail
  refine (sameB_tf _).mono ?_
  rintro e w1 ⟨rfl, rfl⟩
  go_wp2_with fail
  refine (fchangeB_no true true H.out).mono ?_
  rintro e w1 ⟨rfl, h1, c1⟩
  have H1 := Lib.hid h1
  clear h1
  go_wp2
  go_ret
  exact ⟨rfl, H1.out, c1⟩
theorem shutB_nil (w : World) :
    Calls Tryz.prog 45 #[.pointer none, .bool false, .bool true] w fun e w' => e = .returned (.bool false) ∧ w = w' := by
  go_enter Tryz.func45, Tryz.ntmps45
  go_wp2
  go_ret
  exact ⟨rfl, rfl⟩
theorem fn_nilI (f : Fn) (a c : Array Value) (w : World) : (binOp .eql 86 (.func f a c) .nilFunc).run Tryz.prog w = .ok (.bool false) w := run_eql_fn _ w _ f a c _ Tryz.underlying86 rfl
theorem fn_nilU (f : Fn) (a c : Array Value) (w : World) : (binOp .eql 91 (.func f a c) .nilFunc).run Tryz.prog w = .ok (.bool false) w := run_eql_fn _ w _ f a c _ Tryz.underlying91 rfl
theorem more_of (v : Nat) (hv : v ≤ 1000000) (w : World) :
    Calls Tryz.prog 43 #[.int .i64 (v : Nat)] w fun e w' => e = .returned (.tuple #[.int .i64 ((v + 1 : Nat) : Int), .bool true]) ∧ w = w' := by
  have e1 : wrap64 ((v : Int) + 1) = ((v + 1 : Nat) : Int) := by unfold wrap64; omega
  go_enter Tryz.func43, Tryz.ntmps43
  go_wp2
  go_ret2
  refine ⟨?_, rfl⟩
  first | rfl | (simp; done) | (simp [e1]; done)
theorem less_of (v : Nat) (hv : v ≤ 1000000) (w : World) (b : Bool) (hb : Hid (decide (0 < v) = b)) :
    Calls Tryz.prog 44 #[.int .i64 (v : Nat)] w fun e w' => e = .returned (.tuple #[.int .i64 ((v : Int) - 1), .bool b]) ∧ w = w' := by
  have hb1 : decide ((0 : Int) < (v : Int)) = b := by rw [← hb.out]; simp
  have hb2 : decide (0 < v) = b := hb.out
  go_enter Tryz.func44, Tryz.ntmps44
  go_wp2
  go_ret2
  exact ⟨by first | rfl | (simp; done), rfl⟩
theorem turn_more (v : Nat) (hv : v ≤ 1000000) (h : IsJ w b 0 (v : Nat)) :
    Calls Tryz.prog 73 #[.pointer (some ⟨b, 0, none⟩), .func (.func 43) #[] #[]] w fun e w' => e = .returned (.tuple #[.int .i64 (v : Nat), .bool true]) ∧ IsJ w' b 0 ((v + 1 : Nat) : Int) ∧ Tch b 0 4 w w' := by
  have hfn := fn_nilI
  have H := Lib.hid h
  clear h
  go_enter Tryz.func73, Tryz.ntmps73
  go_wp2_with fail
  refine (floadJ _ H.out).mono ?_
  rintro e w1 ⟨rfl, h1, c1⟩
  have H1 := Lib.hid h1
  clear h1
  go_wp2_with fail
  refine (more_of v hv _).mono ?_
  rintro e w2 ⟨rfl, rfl⟩
  go_wp2_with fail
  refine (fchangeJ _ _ H1.out).mono ?_
  rintro e w3 ⟨rfl, h3, c3⟩
  have H3 := Lib.hid h3
  clear h3
  go_wp2
  go_ret2
  refine ⟨rfl, ?_, c1.trans c3⟩
  have := H3.out
  first | exact this | (rwa [show ((v : Int) - 1) = ((v - 1 : Nat) : Int) by have := H0.out; omega] at this)
theorem turn_less (v : Nat) (hv : v ≤ 1000000) (h0 : 0 < v) (h : IsJ w b 0 (v : Nat)) :
    Calls Tryz.prog 73 #[.pointer (some ⟨b, 0, none⟩), .func (.func 44) #[] #[]] w fun e w' => e = .returned (.tuple #[.int .i64 (v : Nat), .bool true]) ∧ IsJ w' b 0 ((v - 1 : Nat) : Int) ∧ Tch b 0 4 w w' := by
  have hfn := fn_nilI
  have H := Lib.hid h
  have H0 := Lib.hid h0
  clear h0
  clear h
  go_enter Tryz.func73, Tryz.ntmps73
  go_wp2_with fail
  refine (floadJ _ H.out).mono ?_
  rintro e w1 ⟨rfl, h1, c1⟩
  have H1 := Lib.hid h1
  clear h1
  go_wp2_with fail
  refine (less_of v hv _ true (Lib.hid (decide_eq_true H0.out))).mono ?_
  rintro e w2 ⟨rfl, rfl⟩
  go_wp2_with fail
  refine (fchangeJ _ _ H1.out).mono ?_
  rintro e w3 ⟨rfl, h3, c3⟩
  have H3 := Lib.hid h3
  clear h3
  go_wp2
  go_ret2
  refine ⟨rfl, ?_, c1.trans c3⟩
  have := H3.out
  first | exact this | (rwa [show ((v : Int) - 1) = ((v - 1 : Nat) : Int) by have := H0.out; omega] at this)
theorem turn_lessno (v : Nat) (hv : v ≤ 1000000) (h0 : v = 0) (h : IsJ w b 0 (v : Nat)) :
    Calls Tryz.prog 73 #[.pointer (some ⟨b, 0, none⟩), .func (.func 44) #[] #[]] w fun e w' => e = .returned (.tuple #[.int .i64 (v : Nat), .bool false]) ∧ IsJ w' b 0 (v : Int) ∧ Tch b 0 4 w w' := by
  have hfn := fn_nilI
  have H := Lib.hid h
  have H0 := Lib.hid h0
  clear h0
  clear h
  go_enter Tryz.func73, Tryz.ntmps73
  go_wp2_with fail
  refine (floadJ _ H.out).mono ?_
  rintro e w1 ⟨rfl, h1, c1⟩
  have H1 := Lib.hid h1
  clear h1
  go_wp2_with fail
  refine (less_of v hv _ false (Lib.hid (decide_eq_false (by have := H0.out; omega)))).mono ?_
  rintro e w2 ⟨rfl, rfl⟩
  go_wp2
  go_ret2
  exact ⟨rfl, H1.out, c1⟩
theorem turn_more_nil (w : World) :
    Calls Tryz.prog 73 #[.pointer none, .func (.func 43) #[] #[]] w fun e w' => e = .returned (.tuple #[.int .i64 0, .bool false]) ∧ w = w' := by
  have hfn := fn_nilI
  go_enter Tryz.func73, Tryz.ntmps73
  go_wp2_with fail
  refine (floadJ_nil _).mono ?_
  rintro e w1 ⟨rfl, rfl⟩
  go_wp2
  go_ret2
  exact ⟨rfl, rfl⟩
theorem turn_less_nil (w : World) :
    Calls Tryz.prog 73 #[.pointer none, .func (.func 44) #[] #[]] w fun e w' => e = .returned (.tuple #[.int .i64 0, .bool false]) ∧ w = w' := by
  have hfn := fn_nilI
  go_enter Tryz.func73, Tryz.ntmps73
  go_wp2_with fail
  refine (floadJ_nil _).mono ?_
  rintro e w1 ⟨rfl, rfl⟩
  go_wp2
  go_ret2
  exact ⟨rfl, rfl⟩
theorem count_more (v : Nat) (hv : v ≤ 1000000) (h : IsJ w b 0 (v : Nat)) :
    Calls Tryz.prog 41 #[.pointer (some ⟨b, 0, none⟩), .func (.func 43) #[] #[]] w fun e w' => e = .returned (.int .i64 0) ∧ IsJ w' b 0 ((v + 1 : Nat) : Int) ∧ Tch b 0 4 w w' := by
  have H := Lib.hid h
  clear h
  go_enter Tryz.func41, Tryz.ntmps41
  go_wp2_with fail
  refine (turn_more v hv H.out).mono ?_
  rintro e w1 ⟨rfl, h1, c1⟩
  have H1 := Lib.hid h1
  clear h1
  go_wp2
  go_ret
  exact ⟨rfl, H1.out, c1⟩
theorem count_less (v : Nat) (hv : v ≤ 1000000) (h : IsJ w b 0 (v : Nat)) (h0 : 0 < v) :
    Calls Tryz.prog 41 #[.pointer (some ⟨b, 0, none⟩), .func (.func 44) #[] #[]] w fun e w' => e = .returned (.int .i64 0) ∧ IsJ w' b 0 ((v - 1 : Nat) : Int) ∧ Tch b 0 4 w w' := by
  have H := Lib.hid h
  have H0 := Lib.hid h0
  clear h0
  clear h
  go_enter Tryz.func41, Tryz.ntmps41
  go_wp2_with fail
  refine (turn_less v hv H0.out H.out).mono ?_
  rintro e w1 ⟨rfl, h1, c1⟩
  have H1 := Lib.hid h1
  clear h1
  go_wp2
  go_ret
  exact ⟨rfl, H1.out, c1⟩
theorem count_lessno (v : Nat) (hv : v ≤ 1000000) (h : IsJ w b 0 (v : Nat)) (h0 : v = 0) :
    Calls Tryz.prog 41 #[.pointer (some ⟨b, 0, none⟩), .func (.func 44) #[] #[]] w fun e w' => e = .returned (.int .i64 6) ∧ IsJ w' b 0 (v : Int) ∧ Tch b 0 4 w w' := by
  have H := Lib.hid h
  have H0 := Lib.hid h0
  clear h0
  clear h
  go_enter Tryz.func41, Tryz.ntmps41
  go_wp2_with fail
  refine (turn_lessno v hv H0.out H.out).mono ?_
  rintro e w1 ⟨rfl, h1, c1⟩
  have H1 := Lib.hid h1
  clear h1
  go_wp2
  go_ret
  exact ⟨rfl, H1.out, c1⟩
theorem count_more_nil (w : World) :
    Calls Tryz.prog 41 #[.pointer none, .func (.func 43) #[] #[]] w fun e w' => e = .returned (.int .i64 6) ∧ w = w' := by
  go_enter Tryz.func41, Tryz.ntmps41
  go_wp2_with fail
  refine (turn_more_nil _).mono ?_
  rintro e w1 ⟨rfl, rfl⟩
  go_wp2
  go_ret
  exact ⟨rfl, rfl⟩
theorem count_less_nil (w : World) :
    Calls Tryz.prog 41 #[.pointer none, .func (.func 44) #[] #[]] w fun e w' => e = .returned (.int .i64 6) ∧ w = w' := by
  go_enter Tryz.func41, Tryz.ntmps41
  go_wp2_with fail
  refine (turn_less_nil _).mono ?_
  rintro e w1 ⟨rfl, rfl⟩
  go_wp2
  go_ret
  exact ⟨rfl, rfl⟩
end
end Go.Proofs.YtkialefhjfoniaaGreat
