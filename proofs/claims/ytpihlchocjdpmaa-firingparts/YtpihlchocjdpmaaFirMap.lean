/-
  Maps of bools that the call made, by timers with their generations and by ticks: what each says of each key.
-/
import Derived.Test.YtpihlchocjdpmaaCellMem
import Derived.Maps.OwnOps
import Derived.Maps.Views
import Derived.Maps.OwnSet
import Derived.Maps.Keyed
import Derived.WalkArith
import Derived.DeepKeys4
namespace Go.Proofs.Ytpihlchocjdpmaa
open Go.RowKit Go.Maps
set_option linter.unusedVariables false

theorem plainElem_bool_inv {H : Type} {P : Program} {e : TypeId} (he : P.underlying e = some .bool) {v : Value} {z : DataW H × List MemPlace} (h : plainElem P e v = some z) : ∃ x, v = .bool x ∧ z = (.lit (.bool x), []) := by
  unfold plainElem at h
  rw [he] at h
  cases v <;> simp at h
  exact ⟨_, rfl, h.symm⟩
theorem zero_bool (w : World) : (zeroValue 4).run Try.prog w = .ok (.bool false) w := by
  have h : (Try.prog.info? 4).map (·.zero) = some (some (.bool false)) := by kernel_rfl
  obtain ⟨i, hi, hz⟩ := Option.map_eq_some_iff.1 h
  simp [zeroValue, typeInfo, hi, hz]

/-- a map by keys of one type, its keys told by an index -/
def MapK (kt : TypeId) {ι : Type} (kv : ι → Value) (ok : ι → Prop) (w : World) (b n : Nat) (F : ι → Bool) : Prop :=
  ∃ D : DataW Unit, w.ownsMap Try.prog kt (plainElem Try.prog 4) b n D ∧ IsMap D ∧ ∀ k l, ok k → keyOf Try.prog kt (kv k) = some l → D.atKey l (.lit (.bool false)) = .lit (.bool (F k))
section
variable {kt mt : TypeId} {ι : Type} {kv : ι → Value} {ok : ι → Prop} {w w' : World} {b n : Nat} {F : ι → Bool} {S : Nat → Prop}
theorem MapK.lt (h : MapK kt kv ok w b n F) : b < w.heap.size := by obtain ⟨D, h, -⟩ := h; exact h.lt
theorem MapK.new (w : World) : MapK kt kv ok (w.alloc (.map #[] 0)) w.heap.size 0 (fun _ => false) :=
  ⟨.map [], World.ownsMap_made w _ _ _, (World.ownsMap_made (H := Unit) w Try.prog kt (plainElem Try.prog 4)).isMap, fun k _ _ _ => rfl⟩
theorem MapK.kept (h : MapK kt kv ok w b n F) (c : Ch S w w') (hn : ¬ S b) : MapK kt kv ok w' b n F := by
  obtain ⟨D, ⟨es, clock, hb, F1, hs, hD⟩, hm, ha⟩ := h
  exact ⟨D, ⟨es, clock, (c.block b (Array.getElem?_eq_some_iff.1 hb).1 hn).trans hb, F1, hs, hD⟩, hm, ha⟩
theorem MapK.look (h : MapK kt kv ok w b n F) (K : Keyed Try.prog kt) (hu : Try.prog.underlying mt = some (.map kt 4)) (k : ι) (hk : ok k) {l : Lit} (hl : keyOf Try.prog kt (kv k) = some l) :
    (Instr.lookup mt (.map (some b)) (kv k) false).run Try.prog w = .ok (.bool (F k)) w := by
  obtain ⟨D, h, hm, ha⟩ := h
  obtain ⟨v, ps, hrun, hv⟩ := h.lookup K hu (zero_bool w) (plainElem_bool Try.underlying4 false) hl
  obtain ⟨x, rfl, hx⟩ := plainElem_bool_inv Try.underlying4 hv
  rw [ha k l hk hl] at hx
  simp only [Prod.mk.injEq, DataW.lit.injEq, Lit.bool.injEq] at hx
  rw [hrun, hx.1]
theorem MapK.put [DecidableEq ι] (h : MapK kt kv ok w b n F) (K : Keyed Try.prog kt) (hu : Try.prog.underlying mt = some (.map kt 4)) (hinj : ∀ j k, kv j = kv k → j = k) (k : ι) {l : Lit} (hl : keyOf Try.prog kt (kv k) = some l) (hn : n ≤ 1000000) :
    ∃ w', (Instr.mapUpdate mt (.map (some b)) (kv k) (.bool true)).run Try.prog w = .ok () w' ∧ MapK kt kv ok w' b (n + 1) (fun j => if j = k then true else F j) ∧ Ch (One b) w w' := by
  obtain ⟨D, h, hm, ha⟩ := h
  obtain ⟨w', hrun, hown, hg⟩ := h.update K hu (by simp only [maxLen]; omega) hl (plainElem_bool Try.underlying4 true)
  refine ⟨w', hrun, ⟨_, hown, hown.isMap, fun j l' hj hl' => ?_⟩, ⟨hg.os, hg.tape, hg.output, hg.size, fun i hi hn => hg.block i hi (fun e => hn (by simpa using e))⟩⟩
  by_cases e : j = k
  · subst e
    rw [hl] at hl'
    cases hl'
    simp only [if_true]
    exact atKey_put_same hm (K.key hl) _ _
  · simp only [if_neg e]
    rw [atKey_put_other (fun h => e ?_)]
    · exact ha j l' hj hl'
    · have : l' = l := by simpa using h
      subst this
      exact hinj j k (K.inj hl' hl)
end

/-- a timer with its generation, as a value -/
def shv (k : Nat × Nat) : Value := .agg #[.int .u64 (k.1 : Nat), .int .u64 (k.2 : Nat)]
theorem shv_inj (j k : Nat × Nat) (h : shv j = shv k) : j = k := by
  obtain ⟨a, b⟩ := j
  obtain ⟨c, d⟩ := k
  simp [shv] at h
  simp; omega
theorem keyed_shot : Keyed Try.prog 57 :=
  Keyed.of_law (deep_law_laid (by kernel_rfl) (m := 2) (by omega) (of_decide_eq_true (by kernel_rfl)) (by kernel_rfl) (by rw [Try.underlying57]))
theorem key_shot (k : Nat × Nat) (h1 : k.1 < 18446744073709551616) (h2 : k.2 < 18446744073709551616) : ∃ l, keyOf Try.prog 57 (shv k) = some l := by
  have hkt : Try.prog.keyType 57 = true := by kernel_rfl
  have hc : Try.prog.cellsOf 57 = 2 := by kernel_rfl
  have hc1 : Try.prog.cellsOf 23 = 1 := by kernel_rfl
  have w1 : (Lit.int .u64 (k.1 : Nat)).wf = true := WalkArith.wf_u64 (by omega)
  have w2 : (Lit.int .u64 (k.2 : Nat)).wf = true := WalkArith.wf_u64 (by omega)
  have hsz : 1 ≤ Try.prog.types.size := of_decide_eq_true (by kernel_rfl)
  have hts : ∃ m, Try.prog.types.size + 1 = m + 2 := ⟨Try.prog.types.size - 1, by omega⟩
  obtain ⟨m, hm⟩ := hts
  unfold keyOf shv
  rw [Try.underlying57]
  simp only [hkt, Value.formed, Try.underlying57, hc, hm]
  simp [Program.keyLits, Try.underlying57, hc, hc1, Try.underlying23, w1, w2, Value.cells]
abbrev MapS := MapK 57 shv (fun k => k.1 < 18446744073709551616 ∧ k.2 < 18446744073709551616)
/-- a tick as a value -/
def tkv (k : Nat) : Value := .int .u64 (k : Nat)
theorem tkv_inj (j k : Nat) (h : tkv j = tkv k) : j = k := by simp [tkv] at h; omega
theorem keyed_u64 : Keyed Try.prog 23 := int_keyed Try.underlying23
theorem key_u64 (k : Nat) (hk : k < 18446744073709551616) : keyOf Try.prog 23 (tkv k) = some (.int .u64 k) :=
  keyOf_int_mk Try.underlying23 (WalkArith.wf_u64 (by omega))
abbrev MapU := MapK 23 tkv (fun k => k < 18446744073709551616)
end Go.Proofs.Ytpihlchocjdpmaa
