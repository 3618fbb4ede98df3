/-
  A map of ints by ints that the call made: what it says of each number.
-/
import Derived.Test.YtkdkkgbjfabifaaDoorCellMem
import Derived.Test.YtkdkkgbjfabifaaDoorRingPlain
import Derived.Maps.OwnOps
import Derived.Maps.Views
import Derived.Maps.OwnSet
import Derived.Maps.Keyed
import Derived.WalkArith
namespace Go.Proofs.YtkdkkgbjfabifaaDoor
open Go.RowKit Verge Go.Maps
set_option linter.unusedVariables false
/-- block b is a map of at most n entries that says F k of each k -/
def MapZ (w : World) (b n : Nat) (F : Nat → Int) : Prop :=
  ∃ D : DataW Unit, w.ownsMap Tryd.prog 3 (plainElem Tryd.prog 3) b n D ∧ IsMap D ∧ ∀ k : Nat, k ≤ 1000000 → D.atKey (.int .i64 k) (.lit (.int .i64 0)) = .lit (.int .i64 (F k))
theorem keyed_int : Keyed Tryd.prog 3 := int_keyed Tryd.underlying3
theorem key_int (k : Nat) (hk : k ≤ 1000000) : keyOf Tryd.prog 3 (.int .i64 (k : Int)) = some (.int .i64 k) :=
  keyOf_int_mk Tryd.underlying3 (WalkArith.wf_i64 (by omega))
theorem zero_int (w : World) : (zeroValue 3).run Tryd.prog w = .ok (.int .i64 0) w := by
  have h : (Tryd.prog.info? 3).map (·.zero) = some (some (.int .i64 0)) := by kernel_rfl
  obtain ⟨i, hi, hz⟩ := Option.map_eq_some_iff.1 h
  simp [zeroValue, typeInfo, hi, hz]
section
variable {w w' : World} {b n : Nat} {F : Nat → Int} {S : Nat → Prop}
theorem MapZ.lt (h : MapZ w b n F) : b < w.heap.size := by obtain ⟨D, h, -⟩ := h; exact h.lt
theorem MapZ.new (w : World) : MapZ (w.alloc (.map #[] 0)) w.heap.size 0 (fun _ => 0) :=
  ⟨.map [], World.ownsMap_made w _ _ _, (World.ownsMap_made (H := Unit) w Tryd.prog 3 (plainElem Tryd.prog 3)).isMap, fun k _ => rfl⟩
theorem MapZ.kept (h : MapZ w b n F) (c : Ch S w w') (hn : ¬ S b) : MapZ w' b n F := by
  obtain ⟨D, ⟨es, clock, hb, F1, hs, hD⟩, hm, ha⟩ := h
  exact ⟨D, ⟨es, clock, (c.block b (Array.getElem?_eq_some_iff.1 hb).1 hn).trans hb, F1, hs, hD⟩, hm, ha⟩
theorem MapZ.look (h : MapZ w b n F) (k : Nat) (hk : k ≤ 1000000) : (Instr.lookup 58 (.map (some b)) (.int .i64 (k : Int)) false).run Tryd.prog w = .ok (.int .i64 (F k)) w := by
  obtain ⟨D, h, hm, ha⟩ := h
  obtain ⟨v, ps, hrun, hv⟩ := h.lookup keyed_int Tryd.underlying58 (zero_int w) (plainElem_int Tryd.underlying3 (WalkArith.wf_i64 (by omega))) (key_int k hk)
  obtain ⟨x, rfl, hx, -⟩ := plainElem_int_inv Tryd.underlying3 hv
  rw [ha k hk] at hx
  simp only [Prod.mk.injEq, DataW.lit.injEq, Lit.int.injEq, true_and] at hx
  rw [hrun, hx.1]
theorem MapZ.put (h : MapZ w b n F) (k : Nat) (v : Int) (hk : k ≤ 1000000) (hv : 0 ≤ v ∧ v ≤ 10) (hn : n ≤ 1000000) : ∃ w', (Instr.mapUpdate 58 (.map (some b)) (.int .i64 (k : Int)) (.int .i64 v)).run Tryd.prog w = .ok () w' ∧ MapZ w' b (n + 1) (upd F k v) ∧ Ch (One b) w w' := by
  obtain ⟨D, h, hm, ha⟩ := h
  obtain ⟨w', hrun, hown, hg⟩ := h.update keyed_int Tryd.underlying58 (by simp only [maxLen]; omega) (key_int k hk) (plainElem_int Tryd.underlying3 (a := v) (WalkArith.wf_i64 (by omega)))
  refine ⟨w', hrun, ⟨_, hown, hown.isMap, fun j hj => ?_⟩, ⟨hg.os, hg.tape, hg.output, hg.size, fun i hi hn => hg.block i hi (fun e => hn (by simpa using e))⟩⟩
  by_cases e : j = k
  · subst e
    rw [upd_same]
    exact atKey_put_same hm (by trivial) _ _
  · rw [upd_other _ _ _ _ e, atKey_put_other (fun h => e (by simp at h; omega))]
    exact ha j hj
end
end Go.Proofs.YtkdkkgbjfabifaaDoor
