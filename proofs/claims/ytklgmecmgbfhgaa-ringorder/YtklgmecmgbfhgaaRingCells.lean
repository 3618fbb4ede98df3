/-
  Contracts of package cell's functions at unsigned numbers and at marks.
-/
import Derived.Test.YtklgmecmgbfhgaaRingMem
import Derived.Defers
import Derived.Recover
import Derived.BigQuiet
import Derived.Deep.QuietTactic
import Derived.Laws.StructEq
namespace Go.Proofs.Ytklgmecmgbfhgaa
open Go.RowKit
attribute [local go_sem] Oper.semAt_some
set_option linter.unusedVariables false
set_option linter.unusedSimpArgs false

theorem catchU_idle (w : World) :
    CallsD Try.prog 44 #[] .returning w fun e u' w' => e = .returned (.tuple #[]) ∧ u' = .returning ∧ w = w' := by
  refine callsD_of_wpS Try.func44 rfl fun c₀ cs hu => ?_
  apply wpS_region
  cases c₀
  simp_all [wpOpsS, go_sem, recoverD, Try.ntmps44, bodyPostS, results, Try.results44]

theorem sameU_any (a b : Int) (w : World) :
    Calls Try.prog 43 #[.int .u64 a, .int .u64 b] w fun e w' => e = .returned (.bool (a == b)) ∧ w = w' := by
  have hmf : ∀ (fn : Fn) (first cap : Array Value) (w : World), (Instr.makeFunc fn first cap).run Try.prog w = .ok (.func fn first cap) w := fun _ _ _ _ => rfl
  go_enter_defers Try.func43, Try.ntmps43
  go_wp2
  refine leaves_cons (f := 44) (args := #[]) (by simp) (by simp [go_sem]) ?_
  refine (catchU_idle _).mono ?_
  rintro e u' w'' ⟨rfl, rfl, rfl⟩
  simp [Leaves, settle, results, Try.results43, go_sem]

theorem changeU_no (b o : Nat) (v x : Value) (l t u : Int) (w : World) (h : IsC w b o v l t u) :
    Calls Try.prog 42 #[.pointer (some ⟨b, o, none⟩), x, .bool false] w fun e w' => e = .returned (.bool false) ∧ w.setCell ⟨b, o + 2, none⟩ (.int .i64 (wrap64 (t + 1))) = w' := by
  obtain ⟨hv, hl, ht, hu, fv, fl, ft, fu⟩ := h
  go_enter Try.func42, Try.ntmps42
  go_wp2
  go_ret
  exact ⟨rfl, rfl⟩

theorem changeU_yes (b o : Nat) (v : Value) (x l t u : Int) (w : World) (h : IsC w b o v l t u) :
    Calls Try.prog 42 #[.pointer (some ⟨b, o, none⟩), .int .u64 x, .bool true] w fun e w' => e = .returned (.bool true) ∧
      ((w.setCell ⟨b, o + 2, none⟩ (.int .i64 (wrap64 (t + 1)))).setCell ⟨b, o, none⟩ (.int .u64 x)).setCell ⟨b, o + 3, none⟩ (.int .i64 (wrap64 (u + 1))) = w' := by
  obtain ⟨hv, hl, ht, hu, fv, fl, ft, fu⟩ := h
  go_enter Try.func42, Try.ntmps42
  go_wp2
  go_ret
  exact ⟨rfl, rfl⟩

theorem swapU_no (b o : Nat) (v old x : Int) (w : World) (h : IsU w b o v) (hne : (v == old) = false) :
    Calls Try.prog 41 #[.pointer (some ⟨b, o, none⟩), .int .u64 old, .int .u64 x] w fun e w' => e = .returned (.bool false) ∧ IsU w' b o v ∧ Tch b o 4 w w' := by
  obtain ⟨l, t, u, h⟩ := h
  have H := Lib.hid h
  have hv := h.v
  clear h
  go_enter Try.func41, Try.ntmps41
  go_wp2_with fail
  refine (sameU_any _ _ _).mono ?_
  rintro e w1 ⟨rfl, rfl⟩
  rw [hne]
  go_wp2_with fail
  refine (changeU_no b o _ _ l t u _ H.out).mono ?_
  rintro e w1 ⟨rfl, rfl⟩
  go_wp2
  go_ret
  exact ⟨rfl, ⟨_, _, _, H.out.setT _⟩, (Tch.refl _ _ _ _).set _ (by omega) _⟩

theorem swapU_yes (b o : Nat) (v x : Int) (w : World) (h : IsU w b o v) :
    Calls Try.prog 41 #[.pointer (some ⟨b, o, none⟩), .int .u64 v, .int .u64 x] w fun e w' => e = .returned (.bool true) ∧ IsU w' b o x ∧ Tch b o 4 w w' := by
  obtain ⟨l, t, u, h⟩ := h
  have H := Lib.hid h
  have hv := h.v
  clear h
  go_enter Try.func41, Try.ntmps41
  go_wp2_with fail
  refine (sameU_any _ _ _).mono ?_
  rintro e w1 ⟨rfl, rfl⟩
  rw [beq_self_eq_true]
  go_wp2_with fail
  refine (changeU_yes b o _ _ l t u _ H.out).mono ?_
  rintro e w1 ⟨rfl, rfl⟩
  go_wp2
  go_ret
  exact ⟨rfl, ⟨_, _, _, ((H.out.setT _).setV _).setU _⟩, (((Tch.refl _ _ _ _).set _ (by omega) _).set _ (by omega) _).set _ (by omega) _⟩

theorem loadU_at (b o : Nat) (v : Int) (w : World) (h : IsU w b o v) :
    Calls Try.prog 32 #[.pointer (some ⟨b, o, none⟩)] w fun e w' => e = .returned (.int .u64 v) ∧ IsU w' b o v ∧ Tch b o 4 w w' := by
  obtain ⟨l, t, u, h⟩ := h
  have H := Lib.hid h
  obtain ⟨hv, hl, ht, hu, fv, fl, ft, fu⟩ := h
  go_enter Try.func32, Try.ntmps32
  go_wp2
  go_ret
  exact ⟨rfl, ⟨_, _, _, H.out.setL _⟩, (Tch.refl _ _ _ _).set _ (by omega) _⟩

theorem storeU_at (b o : Nat) (v x : Int) (w : World) (h : IsU w b o v) :
    Calls Try.prog 33 #[.pointer (some ⟨b, o, none⟩), .int .u64 x] w fun e w' => e = .returned (.tuple #[]) ∧ IsU w' b o x ∧ Tch b o 4 w w' := by
  obtain ⟨l, t, u, h⟩ := h
  have H := Lib.hid h
  obtain ⟨hv, hl, ht, hu, fv, fl, ft, fu⟩ := h
  go_enter Try.func33, Try.ntmps33
  go_wp2
  go_end0
  exact ⟨rfl, ⟨_, _, _, H.out.setV _⟩, (Tch.refl _ _ _ _).set _ (by omega) _⟩

theorem storeM_at (b o : Nat) (p x : Int) (q y : Bool) (w : World) (h : IsM w b o p q) :
    Calls Try.prog 26 #[.pointer (some ⟨b, o, none⟩), mk x y] w fun e w' => e = .returned (.tuple #[]) ∧ IsM w' b o x y ∧ Tch b o 5 w w' := by
  obtain ⟨l, t, u, h⟩ := h
  have H := Lib.hid h
  have hlt := h.lt
  have hne : ¬ w.heap.size = b := by omega
  obtain ⟨hp, hq, hl, ht, hu, fp, fq, fl⟩ := h
  go_enter Try.func26, Try.ntmps26
  go_wp2
  go_end0
  exact ⟨rfl, ⟨_, _, _, ((H.out.setP _).setQ _).alloc _⟩, (((Tch.refl _ _ _ _).set _ (by omega) _).set _ (by omega) _).alloc hlt _⟩

theorem loadM_at (b o : Nat) (p : Int) (q : Bool) (w : World) (h : IsM w b o p q) :
    Calls Try.prog 34 #[.pointer (some ⟨b, o, none⟩)] w fun e w' => e = .returned (mk p q) ∧ IsM w' b o p q ∧ Tch b o 5 w w' := by
  obtain ⟨l, t, u, h⟩ := h
  have H := Lib.hid h
  have hlt := h.lt
  have hne : ¬ w.heap.size = b := by omega
  obtain ⟨hp, hq, hl, ht, hu, fp, fq, fl⟩ := h
  go_enter Try.func34, Try.ntmps34
  go_wp2
  refine bodyPost_ret (v := mk p q) (by simp [results, Try.results34, go_sem]) rfl ⟨rfl, ?_⟩
  exact ⟨⟨_, _, _, (H.out.setL _).alloc _⟩, ((Tch.refl _ _ _ _).set _ (by omega) _).alloc hlt _⟩

theorem eqM (a c : Int) (p q : Bool) (w : World) : (Op.equalIn 10000 71 (.agg #[.int .u64 a, .bool p]) (.agg #[.int .u64 c, .bool q])).run Try.prog w = .ok (a == c && p == q) w := by
  have u3 := Try.underlying65
  have u4 := Try.underlying4
  rw [show (10000 : Nat) = 9999 + 1 from rfl, run_equalIn_struct _ _ _ _ _ (by kernel_rfl) (by kernel_rfl)]
  simp only [Program.fieldsOf, Try.underlying71]
  simp only [Op.eqFields]
  go_simp
  by_cases h1 : a = c <;> cases p <;> cases q <;> simp [h1]
end Go.Proofs.Ytklgmecmgbfhgaa
