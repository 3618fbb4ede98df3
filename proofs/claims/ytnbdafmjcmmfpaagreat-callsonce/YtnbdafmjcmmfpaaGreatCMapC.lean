import Derived.Test.YtnbdafmjcmmfpaaGreatK02
import Derived.Test.YtnbdafmjcmmfpaaGreatK01
import Derived.Maps.OwnOps
import Derived.Maps.Views
import Derived.Maps.OwnSet
import Derived.Maps.Keyed
import Derived.WalkArith
/-
  A map of ints by uint64s that the call made: what it counts of each number.
-/
namespace Go.Proofs.YtnbdafmjcmmfpaaGreat
open Go.RowKit Verge Go.Maps
set_option linter.unusedVariables false
/-- block b is a map that says F k of each k -/
def MapC (w : World) (b n : Nat) (F : Nat → Nat) : Prop :=
  ∃ D : DataW Unit, w.ownsMap Tryz.prog 36 (plainElem Tryz.prog 3) b n D ∧ Tidy D ∧
    ∀ k : Nat, k < 18446744073709551616 → D.atKey (.int .u64 k) (.lit (.int .i64 0)) = .lit (.int .i64 ((F k : Nat) : Int))
theorem keyed_cu : Keyed Tryz.prog 36 := int_keyed Tryz.underlying36
theorem key_cu (k : Nat) (hk : k < 18446744073709551616) : keyOf Tryz.prog 36 (.int .u64 (k : Int)) = some (.int .u64 k) :=
  keyOf_int_mk Tryz.underlying36 (WalkArith.wf_u64 (by omega))
theorem zero_cu (w : World) : (zeroValue 3).run Tryz.prog w = .ok (.int .i64 0) w := by
  have h : (Tryz.prog.info? 3).map (·.zero) = some (some (.int .i64 0)) := by kernel_rfl
  obtain ⟨i, hi, hz⟩ := Option.map_eq_some_iff.1 h
  simp [zeroValue, typeInfo, hi, hz]
theorem isKey_cu (k : Nat) : WideAt.IsKeyLit (.int .u64 k) := by trivial
section
variable {w w' : World} {b n : Nat} {F : Nat → Nat} {S : Nat → Prop}
theorem MapC.lt (h : MapC w b n F) : b < w.heap.size := by obtain ⟨D, h, -⟩ := h; exact h.lt
theorem MapC.new (w : World) : MapC (w.alloc (.map #[] 0)) w.heap.size 0 (fun _ => 0) :=
  ⟨.map [], World.ownsMap_made w _ _ _, tidy_empty, fun k _ => rfl⟩
theorem MapC.kept (h : MapC w b n F) (ch : Ch S w w') (hn : ¬ S b) : MapC w' b n F := by
  obtain ⟨D, ⟨es, clock, hb, F1, hs, hD⟩, r⟩ := h
  exact ⟨D, ⟨es, clock, (ch.block b (Array.getElem?_eq_some_iff.1 hb).1 hn).trans hb, F1, hs, hD⟩, r⟩
theorem MapC.look (h : MapC w b n F) (k : Nat) (hk : k < 18446744073709551616) : (Instr.lookup 48 (.map (some b)) (.int .u64 (k : Int)) false).run Tryz.prog w = .ok (.int .i64 ((F k : Nat) : Int)) w := by
  obtain ⟨D, h, -, ha⟩ := h
  obtain ⟨x, hrun, hx, -⟩ := h.lookup_int keyed_cu Tryz.underlying48 Tryz.underlying3 (zero_cu w) (key_cu k hk)
  rw [ha k hk] at hx
  simp only [DataW.lit.injEq, Lit.int.injEq, true_and] at hx
  rw [hrun, hx]
theorem MapC.put (h : MapC w b n F) (k v : Nat) (hk : k < 18446744073709551616) (hv : v < 1000000) (hn : n ≤ 1000000) (G : Nat → Nat) (hG : G k = v) (hGo : ∀ j, j ≠ k → G j = F j) : ∃ w', (Instr.mapUpdate 48 (.map (some b)) (.int .u64 (k : Int)) (.int .i64 (v : Int))).run Tryz.prog w = .ok () w' ∧ MapC w' b (n + 1) G ∧ Ch (One b) w w' := by
  obtain ⟨D, h, ht, ha⟩ := h
  obtain ⟨w', hrun, hown, hg⟩ := h.update keyed_cu Tryz.underlying48 (by simp only [maxLen]; omega) (key_cu k hk) (plainElem_int Tryz.underlying3 (a := (v : Int)) (WalkArith.wf_i64 (by omega)))
  refine ⟨w', hrun, ⟨_, hown, ht.put (isKey_cu k) _, fun j hj => ?_⟩, ⟨hg.os, hg.tape, hg.output, hg.size, fun i hi hn => hg.block i hi (fun e => hn (by simpa using e))⟩⟩
  by_cases e : j = k
  · subst e
    rw [hG]
    exact atKey_put_same ht.isMap (isKey_cu j) _ _
  · have hne : (Lit.int .u64 (j : Int)) ≠ .int .u64 (k : Int) := fun h => e (by simp at h; omega)
    rw [hGo j e, atKey_put_other hne]
    exact ha j hj
end
end Go.Proofs.YtnbdafmjcmmfpaaGreat
