/-
  Contracts of package cell's functions at a lock's value, and of the lock's small functions.
-/
import Derived.Test.YtkialefhjfoniaaGreatLockMem
import Derived.Test.YtkialefhjfoniaaGreatHeld
import Derived.Defers
import Derived.Recover
import Derived.BigQuiet
import Derived.Deep.QuietTactic
namespace Go.Proofs.YtkialefhjfoniaaGreat
open Go.RowKit
attribute [local go_sem] Oper.semAt_some
set_option linter.unusedVariables false
set_option linter.unusedSimpArgs false

theorem new_any (w : World) :
    Calls Tryz.prog 71 #[] w fun e w' => e = .returned (.pointer (some ⟨w.heap.size, 0, none⟩)) ∧ IsK w' w.heap.size 0 false 0 ∧ Ch Nil w w' := by
  go_enter Tryz.func71, Tryz.ntmps71
  go_wp2
  go_ret
  refine ⟨rfl, ⟨0, 0, 0, ?_⟩, (Ch.refl _ _).alloc _⟩
  constructor <;> simp [go_sem]

theorem changeH_yes (b : Nat) (o : Int) (t : Bool) (n : Int) (x : Int) (y : Bool) (z : Int) (w : World) (h : IsK w b o t n) :
    Calls Tryz.prog 84 #[.pointer (some ⟨b, 0, none⟩), hv x y z, .bool true] w fun e w' => e = .returned (.bool true) ∧ IsK w' b x y z ∧ Ch (One b) w w' := by
  obtain ⟨l, r, u, h⟩ := h
  have H := Lib.hid h
  have hlt := h.lt
  have hne : ¬ w.heap.size = b := by omega
  obtain ⟨ho, ht, hn, hl, hr, hu, hf⟩ := h
  go_enter Tryz.func84, Tryz.ntmps84
  go_wp2
  go_ret
  refine ⟨rfl, ⟨_, _, _, (((((H.out.setR _).setO _).setT _).setN _).setU _).alloc _⟩, ?_⟩
  exact ((((((Ch.refl _ _).setB _ _).setB _ _).setB _ _).setB _ _).setB _ _).alloc _

theorem loadH_at (b : Nat) (o : Int) (t : Bool) (n : Int) (w : World) (h : IsK w b o t n) :
    Calls Tryz.prog 83 #[.pointer (some ⟨b, 0, none⟩)] w fun e w' => e = .returned (hv o t n) ∧ IsK w' b o t n ∧ Ch (One b) w w' := by
  obtain ⟨l, r, u, h⟩ := h
  have H := Lib.hid h
  have hlt := h.lt
  have hne : ¬ w.heap.size = b := by omega
  obtain ⟨ho, ht, hn, hl, hr, hu, hf⟩ := h
  go_enter Tryz.func83, Tryz.ntmps83
  go_wp2
  refine bodyPost_ret (v := hv o t n) (by simp [results, Tryz.results83, go_sem]) rfl ⟨rfl, ?_⟩
  exact ⟨⟨_, _, _, (H.out.setL _).alloc _⟩, ((Ch.refl _ _).setB _ _).alloc _⟩

theorem takenBy_any (o : Int) (t : Bool) (n who : Int) (w : World) :
    Calls Tryz.prog 61 #[hv o t n, .int .i64 who] w fun e w' => e = .returned (hv who true (wrap64 (n + 1))) ∧ Ch Nil w w' := by
  go_enter Tryz.func61, Tryz.ntmps61
  go_wp2
  refine bodyPost_ret (v := hv who true (wrap64 (n + 1))) (by simp [results, Tryz.results61, go_sem]) rfl ⟨rfl, ?_⟩
  exact ((Ch.refl _ _).alloc _).alloc _
/-- may it be taken? -/
def opn (t : Bool) (who : Int) : Bool := decide (0 ≤ who) && !t
theorem open_any (o : Int) (t : Bool) (n who : Int) (w : World) :
    Calls Tryz.prog 62 #[hv o t n, .int .i64 who] w fun e w' => e = .returned (.bool (opn t who)) ∧ Ch Nil w w' := by
  unfold opn
  by_cases h0 : 0 ≤ who
  · have h1 : decide ((0 : Int) ≤ who) = true := decide_eq_true h0
    rw [h1, Bool.true_and]
    go_enter Tryz.func62, Tryz.ntmps62
    go_wp2
    go_ret
    exact ⟨rfl, (Ch.refl _ _).alloc _⟩
  · have h1 : decide ((0 : Int) ≤ who) = false := decide_eq_false h0
    rw [h1, Bool.false_and]
    go_enter Tryz.func62, Tryz.ntmps62
    go_wp2
    go_ret
    exact ⟨rfl, (Ch.refl _ _).alloc _⟩
theorem loadL_of (b : Nat) (o : Int) (t : Bool) (n : Int) (w : World) (h : IsK w b o t n) :
    Calls Tryz.prog 63 #[.pointer (some ⟨b, 0, none⟩)] w fun e w' => e = .returned (hv o t n) ∧ IsK w' b o t n ∧ Ch (One b) w w' := by
  have hlt := h.lt
  have H := Lib.hid (h.kept (S := Nil) ((Ch.refl _ w).alloc (.cells #[.int .i64 0, .bool false, .int .i64 0] 115)) (fun e => e))
  clear h
  go_enter Tryz.func63, Tryz.ntmps63
  go_wp2_with fail
  refine (loadH_at b o t n _ H.out).mono ?_
  rintro e w1 ⟨rfl, hi, c1⟩
  have H1 := Lib.hid hi
  have h0 := c1.keeps (p := ⟨w.heap.size, 0, none⟩) (v := .int .i64 0) (by simp [go_sem]) (by show ¬ w.heap.size = b; omega)
  have h1 := c1.keeps (p := ⟨w.heap.size, 1, none⟩) (v := .bool false) (by simp [go_sem]) (by show ¬ w.heap.size = b; omega)
  have h2 := c1.keeps (p := ⟨w.heap.size, 2, none⟩) (v := .int .i64 0) (by simp [go_sem]) (by show ¬ w.heap.size = b; omega)
  have hf : ∀ i, w1.frozen? ⟨w.heap.size, i, none⟩ = false := fun i => (c1.frozen (p := ⟨w.heap.size, i, none⟩) (by simp) (by show ¬ w.heap.size = b; omega)).trans (by simp [go_sem])
  have C1 := Lib.hid c1
  clear hi c1
  go_wp2
  refine bodyPost_ret (v := hv o t n) (by simp [results, Tryz.results63, go_sem, h0, h1, h2]) rfl ⟨rfl, ?_⟩
  have cc : Ch (One b) w w1 := (((Ch.refl (One b) w).alloc _).trans C1.out)
  have nb : ¬ w.heap.size = b := by omega
  refine ⟨H1.out.kept (S := One w.heap.size) ((((Ch.refl _ _).setB _ _).setB _ _).setB _ _) (fun e => nb e.symm), ?_⟩
  exact cc.then (S' := One w.heap.size) ((((Ch.refl _ _).setB _ _).setB _ _).setB _ _) (fun i hi e => by have : i = w.heap.size := e; omega)
theorem loadL_nil (w : World) :
    Calls Tryz.prog 63 #[.pointer none] w fun e w' => e = .returned (hv 0 false 0) ∧ Ch Nil w w' := by
  go_enter Tryz.func63, Tryz.ntmps63
  go_wp2
  refine bodyPost_ret (v := hv 0 false 0) (by simp [results, Tryz.results63, go_sem]) rfl ⟨rfl, ?_⟩
  exact (Ch.refl _ _).alloc _
end Go.Proofs.YtkialefhjfoniaaGreat
