/-
  Contracts of package cell's functions at numbers and at words, as a slab uses them.
-/
import Derived.Test.YtkialefhjfoniaaGreatSlabMem
import Derived.Test.YtkialefhjfoniaaGreatCellWalks1
import Derived.Test.YtkialefhjfoniaaGreatWordWalks3
namespace Go.Proofs.YtkialefhjfoniaaGreat
open Go.RowKit Verge
attribute [local go_sem] Oper.semAt_some
set_option linter.unusedVariables false
set_option linter.unusedSimpArgs false

theorem retB {k : IntKind} {a b : Int} {x y : Bool} (h : a = b) (h' : x = y) : Ending.returned (.tuple #[.int k a, .bool x]) = .returned (.tuple #[.int k b, .bool y]) := by rw [h, h']
theorem loadJ_at (b o : Nat) (v : Int) (w : World) (h : IsJ w b o v) :
    Calls Tryz.prog 64 #[.pointer (some ⟨b, o, none⟩)] w fun e w' => e = .returned (.int .i64 v) ∧ IsJ w' b o v ∧ Tch b o 4 w w' := by
  obtain ⟨l, t, u, h⟩ := h
  refine (load_at b o v l t u w h).mono fun e w' ⟨he, hw⟩ => ?_
  subst hw
  exact ⟨he, ⟨_, _, _, h.setL _⟩, (Tch.refl _ _ _ _).set _ (by omega) _⟩
theorem swapJ_yes (b o : Nat) (v x : Int) (w : World) (h : IsJ w b o v) :
    Calls Tryz.prog 77 #[.pointer (some ⟨b, o, none⟩), .int .i64 v, .int .i64 x] w fun e w' => e = .returned (.bool true) ∧ IsJ w' b o x ∧ Tch b o 4 w w' := by
  obtain ⟨l, t, u, h⟩ := h
  refine (swap_yes b o v x l t u w h).mono fun e w' ⟨he, hw⟩ => ?_
  subst hw
  exact ⟨he, ⟨_, _, _, ((h.setT _).setV _).setU _⟩, (((Tch.refl _ _ _ _).set _ (by omega) _).set _ (by omega) _).set _ (by omega) _⟩
theorem swapJ_no (b o : Nat) (v old x : Int) (w : World) (h : IsJ w b o v) (hne : (v == old) = false) :
    Calls Tryz.prog 77 #[.pointer (some ⟨b, o, none⟩), .int .i64 old, .int .i64 x] w fun e w' => e = .returned (.bool false) ∧ IsJ w' b o v ∧ Tch b o 4 w w' := by
  obtain ⟨l, t, u, h⟩ := h
  refine (swap_no b o v old x l t u w h hne).mono fun e w' ⟨he, hw⟩ => ?_
  subst hw
  exact ⟨he, ⟨_, _, _, h.setT _⟩, (Tch.refl _ _ _ _).set _ (by omega) _⟩
theorem changeJ_yes (b o : Nat) (v x : Int) (w : World) (h : IsJ w b o v) :
    Calls Tryz.prog 88 #[.pointer (some ⟨b, o, none⟩), .int .i64 x, .bool true] w fun e w' => e = .returned (.bool true) ∧ IsJ w' b o x ∧ Tch b o 4 w w' := by
  obtain ⟨l, t, u, h⟩ := h
  refine (change_yes b o _ x l t u w h).mono fun e w' ⟨he, hw⟩ => ?_
  subst hw
  exact ⟨he, ⟨_, _, _, ((h.setT _).setV _).setU _⟩, (((Tch.refl _ _ _ _).set _ (by omega) _).set _ (by omega) _).set _ (by omega) _⟩

theorem fn_nilJ (f : Fn) (a c : Array Value) (w : World) : (binOp .eql 86 (.func f a c) .nilFunc).run Tryz.prog w = .ok (.bool false) w := run_eql_fn _ w _ f a c _ Tryz.underlying86 rfl
theorem fn_nilW (f : Fn) (a c : Array Value) (w : World) : (binOp .eql 156 (.func f a c) .nilFunc).run Tryz.prog w = .ok (.bool false) w := run_eql_fn _ w _ f a c _ Tryz.underlying156 rfl

theorem loadW_at (b o : Nat) (v : Int) (w : World) (h : IsU w b o v) :
    Calls Tryz.prog 91 #[.pointer (some ⟨b, o, none⟩)] w fun e w' => e = .returned (.int .u64 v) ∧ IsU w' b o v ∧ Tch b o 4 w w' := by
  obtain ⟨l, t, u, h⟩ := h
  have H := Lib.hid h
  obtain ⟨hv, hl, ht, hu, fv, fl, ft, fu⟩ := h
  go_enter Tryz.func91, Tryz.ntmps91
  go_wp2
  go_ret
  exact ⟨rfl, ⟨_, _, _, H.out.setL _⟩, (Tch.refl _ _ _ _).set _ (by omega) _⟩
theorem changeW_yes (b o : Nat) (v x : Int) (w : World) (h : IsU w b o v) :
    Calls Tryz.prog 92 #[.pointer (some ⟨b, o, none⟩), .int .u64 x, .bool true] w fun e w' => e = .returned (.bool true) ∧ IsU w' b o x ∧ Tch b o 4 w w' := by
  obtain ⟨l, t, u, h⟩ := h
  have H := Lib.hid h
  obtain ⟨hv, hl, ht, hu, fv, fl, ft, fu⟩ := h
  go_enter Tryz.func92, Tryz.ntmps92
  go_wp2
  go_ret
  exact ⟨rfl, ⟨_, _, _, ((H.out.setT _).setV _).setU _⟩, (((Tch.refl _ _ _ _).set _ (by omega) _).set _ (by omega) _).set _ (by omega) _⟩

/-- the function of a request's look at a slot -/
theorem look1_any (v : Nat) (B q pd : Nat) (w : World) (hv : v < 18446744073709551616) (h1 : w.cell? ⟨B, 0, none⟩ = some (.pointer (some ⟨q, 0, none⟩))) (h2 : w.cell? ⟨q, 1, none⟩ = some (.int .u64 (pd : Nat))) :
    Calls Tryz.prog 79 #[.int .u64 v, .pointer (some ⟨B, 0, none⟩)] w fun e w' => e = .returned (.tuple #[.int .u64 ((nxZ v 1 (pd != 0)).1 : Nat), .bool (decide ((nxZ v 1 (pd != 0)).2 = 0))]) ∧ w = w' := by
  have e1 : ((pd : Int) != 0) = (pd != 0) := by rw [Bool.eq_iff_iff, bne_iff_ne, bne_iff_ne]; omega
  go_enter Tryz.func79, Tryz.ntmps79
  go_wp2_with fail
  (try rw [e1])
  refine (next_any v 1 _ hv _).mono ?_
  rintro e w1 ⟨rfl, rfl⟩
  go_wp2
  go_ret2
  refine ⟨retB rfl ?_, rfl⟩
  rw [Bool.eq_iff_iff, beq_iff_eq, decide_eq_true_iff]
  omega
end Go.Proofs.YtkialefhjfoniaaGreat
