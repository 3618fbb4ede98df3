/-
  A map of bools by uint64s that the call made: what it says of each number.
-/
import Derived.Test.YtjhmmfdmoalfmaaCellMem
import Derived.Test.YtjhmmfdmoalfmaaRingPlain
import Derived.Maps.OwnOps
import Derived.Maps.Views
import Derived.Maps.OwnSet
import Derived.Maps.Keyed
import Derived.WalkArith
namespace Go.Proofs.Ytjhmmfdmoalfmaa
open Go.RowKit Verge Go.Maps
set_option linter.unusedVariables false

theorem plainElem_bool_inv {H : Type} {P : Program} {e : TypeId} (he : P.underlying e = some .bool) {v : Value} {z : DataW H × List MemPlace} (h : plainElem P e v = some z) : ∃ x, v = .bool x ∧ z = (.lit (.bool x), []) := by
  unfold plainElem at h
  rw [he] at h
  cases v <;> simp at h
  exact ⟨_, rfl, h.symm⟩

/-- block b is a map of at most n entries that says F k of each k -/
def MapB (w : World) (b n : Nat) (F : Nat → Bool) : Prop :=
  ∃ D : DataW Unit, w.ownsMap Try.prog 23 (plainElem Try.prog 4) b n D ∧ IsMap D ∧ ∀ k : Nat, k ≤ 1000000 → D.atKey (.int .u64 k) (.lit (.bool false)) = .lit (.bool (F k))
theorem keyed_u64 : Keyed Try.prog 23 := int_keyed Try.underlying23
theorem key_u64 (k : Nat) (hk : k ≤ 1000000) : keyOf Try.prog 23 (.int .u64 (k : Int)) = some (.int .u64 k) :=
  keyOf_int_mk Try.underlying23 (WalkArith.wf_u64 (by omega))
theorem zero_bool (w : World) : (zeroValue 4).run Try.prog w = .ok (.bool false) w := by
  have h : (Try.prog.info? 4).map (·.zero) = some (some (.bool false)) := by kernel_rfl
  obtain ⟨i, hi, hz⟩ := Option.map_eq_some_iff.1 h
  simp [zeroValue, typeInfo, hi, hz]
section
variable {w w' : World} {b n : Nat} {F : Nat → Bool} {S : Nat → Prop}
theorem MapB.lt (h : MapB w b n F) : b < w.heap.size := by obtain ⟨D, h, -⟩ := h; exact h.lt
theorem MapB.new (w : World) : MapB (w.alloc (.map #[] 0)) w.heap.size 0 (fun _ => false) :=
  ⟨.map [], World.ownsMap_made w _ _ _, (World.ownsMap_made (H := Unit) w Try.prog 23 (plainElem Try.prog 4)).isMap, fun k _ => rfl⟩
theorem MapB.kept (h : MapB w b n F) (c : Ch S w w') (hn : ¬ S b) : MapB w' b n F := by
  obtain ⟨D, ⟨es, clock, hb, F1, hs, hD⟩, hm, ha⟩ := h
  exact ⟨D, ⟨es, clock, (c.block b (Array.getElem?_eq_some_iff.1 hb).1 hn).trans hb, F1, hs, hD⟩, hm, ha⟩
theorem MapB.look (h : MapB w b n F) (k : Nat) (hk : k ≤ 1000000) : (Instr.lookup 57 (.map (some b)) (.int .u64 (k : Int)) false).run Try.prog w = .ok (.bool (F k)) w := by
  obtain ⟨D, h, hm, ha⟩ := h
  obtain ⟨v, ps, hrun, hv⟩ := h.lookup keyed_u64 Try.underlying57 (zero_bool w) (plainElem_bool Try.underlying4 false) (key_u64 k hk)
  obtain ⟨x, rfl, hx⟩ := plainElem_bool_inv Try.underlying4 hv
  rw [ha k hk] at hx
  simp only [Prod.mk.injEq, DataW.lit.injEq, Lit.bool.injEq] at hx
  rw [hrun, hx.1]
theorem MapB.put (h : MapB w b n F) (k : Nat) (hk : k ≤ 1000000) (hn : n ≤ 1000000) : ∃ w', (Instr.mapUpdate 57 (.map (some b)) (.int .u64 (k : Int)) (.bool true)).run Try.prog w = .ok () w' ∧ MapB w' b (n + 1) (upd F k true) ∧ Ch (One b) w w' := by
  obtain ⟨D, h, hm, ha⟩ := h
  obtain ⟨w', hrun, hown, hg⟩ := h.update keyed_u64 Try.underlying57 (by simp only [maxLen]; omega) (key_u64 k hk) (plainElem_bool Try.underlying4 true)
  refine ⟨w', hrun, ⟨_, hown, hown.isMap, fun j hj => ?_⟩, ⟨hg.os, hg.tape, hg.output, hg.size, fun i hi hn => hg.block i hi (fun e => hn (by simpa using e))⟩⟩
  by_cases e : j = k
  · subst e
    rw [upd_same]
    exact atKey_put_same hm (by trivial) _ _
  · rw [upd_other _ _ _ _ e, atKey_put_other (fun h => e (by simp at h; omega))]
    exact ha j hj
end
end Go.Proofs.Ytjhmmfdmoalfmaa
