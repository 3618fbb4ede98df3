import Derived.Test.YtldnmpiaofppgaaDoorK01
import Derived.Maps.OwnOps
import Derived.Maps.Views
import Derived.Maps.OwnSet
import Derived.Maps.Keyed
import Derived.WalkArith
/-
  A map of uint64s by uint64s that the call made: what it says of each number, whether that is there, how many are.
-/
namespace Go.Proofs.YtldnmpiaofppgaaDoor
open Go.RowKit Verge Go.Maps
set_option linter.unusedVariables false
/-- block b is a map of c entries that says F k of each k -/
def MapO (w : World) (b n : Nat) (F : Nat → Option Nat) (c : Nat) : Prop :=
  ∃ D : DataW Unit, w.ownsMap Tryd.prog 29 (plainElem Tryd.prog 29) b n D ∧ Tidy D ∧ Maps.size D = c ∧
    ∀ k : Nat, k < 18446744073709551616 → Maps.has D (.int .u64 k) = (F k).isSome ∧ D.atKey (.int .u64 k) (.lit (.int .u64 0)) = .lit (.int .u64 (((F k).getD 0 : Nat) : Int))
theorem keyed_ou : Keyed Tryd.prog 29 := int_keyed Tryd.underlying29
theorem key_ou (k : Nat) (hk : k < 18446744073709551616) : keyOf Tryd.prog 29 (.int .u64 (k : Int)) = some (.int .u64 k) :=
  keyOf_int_mk Tryd.underlying29 (WalkArith.wf_u64 (by omega))
theorem zero_ou (w : World) : (zeroValue 29).run Tryd.prog w = .ok (.int .u64 0) w := by
  have h : (Tryd.prog.info? 29).map (·.zero) = some (some (.int .u64 0)) := by kernel_rfl
  obtain ⟨i, hi, hz⟩ := Option.map_eq_some_iff.1 h
  simp [zeroValue, typeInfo, hi, hz]
theorem isKey_ou (k : Nat) : WideAt.IsKeyLit (.int .u64 k) := by trivial
section
variable {w w' : World} {b n c : Nat} {F : Nat → Option Nat} {S : Nat → Prop}
theorem MapO.lt (h : MapO w b n F c) : b < w.heap.size := by obtain ⟨D, h, -⟩ := h; exact h.lt
theorem MapO.new (w : World) : MapO (w.alloc (.map #[] 0)) w.heap.size 0 (fun _ => none) 0 :=
  ⟨.map [], World.ownsMap_made w _ _ _, tidy_empty, rfl, fun k _ => ⟨rfl, rfl⟩⟩
theorem MapO.kept (h : MapO w b n F c) (ch : Ch S w w') (hn : ¬ S b) : MapO w' b n F c := by
  obtain ⟨D, ⟨es, clock, hb, F1, hs, hD⟩, r⟩ := h
  exact ⟨D, ⟨es, clock, (ch.block b (Array.getElem?_eq_some_iff.1 hb).1 hn).trans hb, F1, hs, hD⟩, r⟩
theorem MapO.look (h : MapO w b n F c) (k : Nat) (hk : k < 18446744073709551616) : (Instr.lookup 52 (.map (some b)) (.int .u64 (k : Int)) false).run Tryd.prog w = .ok (.int .u64 (((F k).getD 0 : Nat) : Int)) w := by
  obtain ⟨D, h, -, -, ha⟩ := h
  obtain ⟨x, hrun, hx, -⟩ := h.lookup_int keyed_ou Tryd.underlying52 Tryd.underlying29 (zero_ou w) (key_ou k hk)
  rw [(ha k hk).2] at hx
  simp only [DataW.lit.injEq, Lit.int.injEq, true_and] at hx
  rw [hrun, hx]
theorem MapO.lookOk (h : MapO w b n F c) (k : Nat) (hk : k < 18446744073709551616) : (Instr.lookup 52 (.map (some b)) (.int .u64 (k : Int)) true).run Tryd.prog w = .ok (.tuple #[.int .u64 (((F k).getD 0 : Nat) : Int), .bool (F k).isSome]) w := by
  obtain ⟨D, h, -, -, ha⟩ := h
  obtain ⟨v, ps, hrun, hv⟩ := h.look_ok keyed_ou Tryd.underlying52 (zero_ou w) (plainElem_int Tryd.underlying29 (a := 0) (by decide)) (key_ou k hk)
  obtain ⟨x, rfl, hx, -⟩ := plainElem_int_inv Tryd.underlying29 hv
  rw [(ha k hk).2] at hx
  simp only [Prod.mk.injEq, DataW.lit.injEq, Lit.int.injEq, true_and] at hx
  rw [hrun, (ha k hk).1, hx.1]
theorem MapO.len (h : MapO w b n F c) (ty : TypeId) : (Builtin.len_ #[52] ty #[.map (some b)]).run Tryd.prog w = .ok (.int .i64 (c : Nat)) w := by
  obtain ⟨D, h, -, hs, -⟩ := h
  rw [h.len Tryd.underlying52 ty, hs]
theorem MapO.put (h : MapO w b n F c) (k v : Nat) (hk : k < 18446744073709551616) (hv : v < 18446744073709551616) (hF : F k = none) (hn : n ≤ 1000000) : ∃ w', (Instr.mapUpdate 52 (.map (some b)) (.int .u64 (k : Int)) (.int .u64 (v : Int))).run Tryd.prog w = .ok () w' ∧ MapO w' b (n + 1) (upd F k (some v)) (c + 1) ∧ Ch (One b) w w' := by
  obtain ⟨D, h, ht, hs, ha⟩ := h
  obtain ⟨w', hrun, hown, hg⟩ := h.update keyed_ou Tryd.underlying52 (by simp only [maxLen]; omega) (key_ou k hk) (plainElem_int Tryd.underlying29 (a := (v : Int)) (WalkArith.wf_u64 (by omega)))
  refine ⟨w', hrun, ⟨_, hown, ht.put (isKey_ou k) _, ?_, fun j hj => ?_⟩, ⟨hg.os, hg.tape, hg.output, hg.size, fun i hi hn => hg.block i hi (fun e => hn (by simpa using e))⟩⟩
  · rw [size_put ht, (ha k hk).1, hF, hs]; rfl
  · by_cases e : j = k
    · subst e
      rw [upd_same]
      exact ⟨has_put_same ht.isMap (isKey_ou j) _, atKey_put_same ht.isMap (isKey_ou j) _ _⟩
    · have hne : (Lit.int .u64 (j : Int)) ≠ .int .u64 (k : Int) := fun h => e (by simp at h; omega)
      rw [upd_other _ _ _ _ e, has_put_other hne, atKey_put_other hne]
      exact ha j hj
/-- delete -/
theorem MapO.drop (h : MapO w b n F c) (k v : Nat) (hk : k < 18446744073709551616) (hF : F k = some v) :
    ∃ w' c', (Builtin.delete_ #[52, 29] 0 #[.map (some b), .int .u64 (k : Int)]).run Tryd.prog w = .ok (.tuple #[]) w' ∧ c = c' + 1 ∧ MapO w' b n (upd F k none) c' ∧ Ch (One b) w w' := by
  obtain ⟨D, h, ht, hs, ha⟩ := h
  obtain ⟨w', hrun, hown, htn⟩ := h.drop keyed_ou Tryd.underlying52 (key_ou k hk) 0
  have hsz := size_del (k := .int .u64 k) ht
  rw [(ha k hk).1, hF, hs] at hsz
  have gr := htn.grown
  refine ⟨w', Maps.size (D.del (.int .u64 k)), hrun, by simpa using hsz.symm, ⟨_, hown, ht.del _, rfl, fun j hj => ?_⟩, ⟨gr.os, gr.tape, gr.output, gr.size, fun i hi hn => gr.block i hi (fun e => hn (by simpa using e))⟩⟩
  by_cases e : j = k
  · subst e
    rw [upd_same]
    exact ⟨has_del_same, atKey_del_same _⟩
  · have hne : (Lit.int .u64 (j : Int)) ≠ .int .u64 (k : Int) := fun h => e (by simp at h; omega)
    rw [upd_other _ _ _ _ e, has_del_other hne, atKey_del_other hne]
    exact ha j hj
end
end Go.Proofs.YtldnmpiaofppgaaDoor
