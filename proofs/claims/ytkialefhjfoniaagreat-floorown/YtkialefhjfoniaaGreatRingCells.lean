/-
  Contracts of package cell's functions at unsigned numbers and at marks.
-/
import Derived.Test.YtkialefhjfoniaaGreatRingMem
import Derived.Defers
import Derived.Recover
import Derived.BigQuiet
import Derived.Deep.QuietTactic
import Derived.Laws.StructEq
namespace Go.Proofs.YtkialefhjfoniaaGreat
open Go.RowKit
attribute [local go_sem] Oper.semAt_some
set_option linter.unusedVariables false
set_option linter.unusedSimpArgs false

theorem changeU_no (b o : Nat) (v x : Value) (l t u : Int) (w : World) (h : IsC w b o v l t u) :
    Calls Tryz.prog 76 #[.pointer (some ⟨b, o, none⟩), x, .bool false] w fun e w' => e = .returned (.bool false) ∧ w.setCell ⟨b, o + 2, none⟩ (.int .i64 (wrap64 (t + 1))) = w' := by
  obtain ⟨hv, hl, ht, hu, fv, fl, ft, fu⟩ := h
  go_enter Tryz.func76, Tryz.ntmps76
  go_wp2
  go_ret
  exact ⟨rfl, rfl⟩

theorem changeU_yes (b o : Nat) (v : Value) (x l t u : Int) (w : World) (h : IsC w b o v l t u) :
    Calls Tryz.prog 76 #[.pointer (some ⟨b, o, none⟩), .int .u64 x, .bool true] w fun e w' => e = .returned (.bool true) ∧
      ((w.setCell ⟨b, o + 2, none⟩ (.int .i64 (wrap64 (t + 1)))).setCell ⟨b, o, none⟩ (.int .u64 x)).setCell ⟨b, o + 3, none⟩ (.int .i64 (wrap64 (u + 1))) = w' := by
  obtain ⟨hv, hl, ht, hu, fv, fl, ft, fu⟩ := h
  go_enter Tryz.func76, Tryz.ntmps76
  go_wp2
  go_ret
  exact ⟨rfl, rfl⟩

theorem loadU_at (b o : Nat) (v : Int) (w : World) (h : IsU w b o v) :
    Calls Tryz.prog 68 #[.pointer (some ⟨b, o, none⟩)] w fun e w' => e = .returned (.int .u64 v) ∧ IsU w' b o v ∧ Tch b o 4 w w' := by
  obtain ⟨l, t, u, h⟩ := h
  have H := Lib.hid h
  obtain ⟨hv, hl, ht, hu, fv, fl, ft, fu⟩ := h
  go_enter Tryz.func68, Tryz.ntmps68
  go_wp2
  go_ret
  exact ⟨rfl, ⟨_, _, _, H.out.setL _⟩, (Tch.refl _ _ _ _).set _ (by omega) _⟩

theorem storeM_at (b o : Nat) (p x : Int) (q y : Bool) (w : World) (h : IsM w b o p q) :
    Calls Tryz.prog 85 #[.pointer (some ⟨b, o, none⟩), mk x y] w fun e w' => e = .returned (.tuple #[]) ∧ IsM w' b o x y ∧ Tch b o 5 w w' := by
  obtain ⟨l, t, u, h⟩ := h
  have H := Lib.hid h
  have hlt := h.lt
  have hne : ¬ w.heap.size = b := by omega
  obtain ⟨hp, hq, hl, ht, hu, fp, fq, fl⟩ := h
  go_enter Tryz.func85, Tryz.ntmps85
  go_wp2
  go_end0
  exact ⟨rfl, ⟨_, _, _, ((H.out.setP _).setQ _).alloc _⟩, (((Tch.refl _ _ _ _).set _ (by omega) _).set _ (by omega) _).alloc hlt _⟩

theorem eqM (a c : Int) (p q : Bool) (w : World) : (Op.equalIn 10000 169 (.agg #[.int .u64 a, .bool p]) (.agg #[.int .u64 c, .bool q])).run Tryz.prog w = .ok (a == c && p == q) w := by
  have u3 := Tryz.underlying31
  have u4 := Tryz.underlying4
  rw [show (10000 : Nat) = 9999 + 1 from rfl, run_equalIn_struct _ _ _ _ _ (by kernel_rfl) (by kernel_rfl)]
  simp only [Program.fieldsOf, Tryz.underlying169]
  simp only [Op.eqFields]
  go_simp
  by_cases h1 : a = c <;> cases p <;> cases q <;> simp [h1]
end Go.Proofs.YtkialefhjfoniaaGreat
