/-
  A map of uint64s by ints that the call made: what it says of each number from 0 on.
-/
import Derived.Test.YtkialefhjfoniaaCellMem
import Derived.Test.YtkialefhjfoniaaRingPlain
import Derived.Maps.OwnOps
import Derived.Maps.Views
import Derived.Maps.OwnSet
import Derived.Maps.Keyed
import Derived.WalkArith
namespace Go.Proofs.Ytkialefhjfoniaa
open Go.RowKit Verge Go.Maps
set_option linter.unusedVariables false
/-- block b is a map that says F k of each k -/
def MapI (w : World) (b n : Nat) (F : Nat → Nat) : Prop :=
  ∃ D : DataW Unit, w.ownsMap Try.prog 3 (plainElem Try.prog 39) b n D ∧ Tidy D ∧
    ∀ k : Nat, k < 1000000 → D.atKey (.int .i64 k) (.lit (.int .u64 0)) = .lit (.int .u64 ((F k : Nat) : Int))
theorem keyed_iu : Keyed Try.prog 3 := int_keyed Try.underlying3
theorem key_iu (k : Nat) (hk : k < 1000000) : keyOf Try.prog 3 (.int .i64 (k : Int)) = some (.int .i64 k) :=
  keyOf_int_mk Try.underlying3 (WalkArith.wf_i64 (by omega))
theorem zero_iu (w : World) : (zeroValue 39).run Try.prog w = .ok (.int .u64 0) w := by
  have h : (Try.prog.info? 39).map (·.zero) = some (some (.int .u64 0)) := by kernel_rfl
  obtain ⟨i, hi, hz⟩ := Option.map_eq_some_iff.1 h
  simp [zeroValue, typeInfo, hi, hz]
theorem isKey_iu (k : Nat) : WideAt.IsKeyLit (.int .i64 k) := by trivial
section
variable {w w' : World} {b n : Nat} {F : Nat → Nat} {S : Nat → Prop}
theorem MapI.lt (h : MapI w b n F) : b < w.heap.size := by obtain ⟨D, h, -⟩ := h; exact h.lt
theorem MapI.new (w : World) : MapI (w.alloc (.map #[] 0)) w.heap.size 0 (fun _ => 0) :=
  ⟨.map [], World.ownsMap_made w _ _ _, tidy_empty, fun k _ => rfl⟩
theorem MapI.kept (h : MapI w b n F) (ch : Ch S w w') (hn : ¬ S b) : MapI w' b n F := by
  obtain ⟨D, ⟨es, clock, hb, F1, hs, hD⟩, r⟩ := h
  exact ⟨D, ⟨es, clock, (ch.block b (Array.getElem?_eq_some_iff.1 hb).1 hn).trans hb, F1, hs, hD⟩, r⟩
theorem MapI.look (h : MapI w b n F) (k : Nat) (hk : k < 1000000) : (Instr.lookup 72 (.map (some b)) (.int .i64 (k : Int)) false).run Try.prog w = .ok (.int .u64 ((F k : Nat) : Int)) w := by
  obtain ⟨D, h, -, ha⟩ := h
  obtain ⟨x, hrun, hx, -⟩ := h.lookup_int keyed_iu Try.underlying72 Try.underlying39 (zero_iu w) (key_iu k hk)
  rw [ha k hk] at hx
  simp only [DataW.lit.injEq, Lit.int.injEq, true_and] at hx
  rw [hrun, hx]
theorem MapI.put (h : MapI w b n F) (k v : Nat) (hk : k < 1000000) (hv : v < 18446744073709551616) (hn : n ≤ 1000000) (G : Nat → Nat) (hG : G k = v) (hGo : ∀ j, j ≠ k → G j = F j) : ∃ w', (Instr.mapUpdate 72 (.map (some b)) (.int .i64 (k : Int)) (.int .u64 (v : Int))).run Try.prog w = .ok () w' ∧ MapI w' b (n + 1) G ∧ Ch (One b) w w' := by
  obtain ⟨D, h, ht, ha⟩ := h
  obtain ⟨w', hrun, hown, hg⟩ := h.update keyed_iu Try.underlying72 (by simp only [maxLen]; omega) (key_iu k hk) (plainElem_int Try.underlying39 (a := (v : Int)) (WalkArith.wf_u64 (by omega)))
  refine ⟨w', hrun, ⟨_, hown, ht.put (isKey_iu k) _, fun j hj => ?_⟩, ⟨hg.os, hg.tape, hg.output, hg.size, fun i hi hn => hg.block i hi (fun e => hn (by simpa using e))⟩⟩
  by_cases e : j = k
  · subst e
    rw [hG]
    exact atKey_put_same ht.isMap (isKey_iu j) _ _
  · have hne : (Lit.int .i64 (j : Int)) ≠ .int .i64 (k : Int) := fun h => e (by simp at h; omega)
    rw [hGo j e, atKey_put_other hne]
    exact ha j hj
end
end Go.Proofs.Ytkialefhjfoniaa
