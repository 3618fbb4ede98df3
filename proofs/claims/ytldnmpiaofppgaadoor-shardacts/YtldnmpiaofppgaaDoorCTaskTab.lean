import Derived.Test.YtldnmpiaofppgaaDoorK05
import Derived.Test.YtldnmpiaofppgaaDoorCIsTab
/-
  A slice of tasks that came in, as a row of tasks.
-/
namespace Go.Proofs.YtldnmpiaofppgaaDoor
open Go.RowKit Verge
set_option linter.unusedVariables false
theorem addr_add (b o k : Nat) : (⟨b, o, none⟩ : Addr).add k = ⟨b, o + k, none⟩ := by unfold Addr.add; split <;> simp_all
/-- a task's five cells out of what each of them may hold -/
theorem task_of_cells {w : World} {b o : Nat} (h : ∀ j l, ([.i .u64, .i .i64, .i .u64, .i .u64, .i .u64] : List Leaf)[j]? = some l → ∃ v, w.cell? ⟨b, o + j, none⟩ = some v ∧ l.ok v) :
    ∃ u : Tk, IsTk w b o u ∧ (-9223372036854775808 ≤ u.s ∧ u.s ≤ 9223372036854775807) ∧ u.i < 18446744073709551616 ∧ u.g < 18446744073709551616 ∧ u.d < 18446744073709551616 ∧ u.p < 18446744073709551616 := by
  have nat : ∀ j, ([.i .u64, .i .i64, .i .u64, .i .u64, .i .u64] : List Leaf)[j]? = some (.i .u64) → ∃ n : Nat, w.cell? ⟨b, o + j, none⟩ = some (.int .u64 (n : Nat)) ∧ n < 18446744073709551616 := fun j hj => by
    obtain ⟨v, hv, n, rfl, wf⟩ := h j _ hj
    obtain ⟨n1, n2⟩ := bounds_u64 wf
    obtain ⟨m, rfl⟩ := Int.eq_ofNat_of_zero_le n1
    exact ⟨m, hv, by omega⟩
  obtain ⟨i, ci, li⟩ := nat 0 rfl
  obtain ⟨g, cg, lg⟩ := nat 2 rfl
  obtain ⟨d, cd, ld⟩ := nat 3 rfl
  obtain ⟨p, cp, lp⟩ := nat 4 rfl
  obtain ⟨v, hv, s, rfl, wf⟩ := h 1 _ rfl
  exact ⟨⟨i, s, g, d, p⟩, IsTk.of ⟨ci, hv, cg, cd, cp⟩, bounds_i64 wf, li, lg, ld, lp⟩
theorem TSrc.of_tab {w : World} {a : Option Addr} {len cap : Nat} (h : IsTab [.i .u64, .i .i64, .i .u64, .i .u64, .i .u64] w a len cap) :
    ∃ L : List Tk, L.length = len ∧ TSrc w a L ∧ len ≤ cap ∧ cap ≤ maxLen := by
  rcases h with ⟨rfl, rfl, rfl⟩ | ⟨x, rfl, h1, h2, h3⟩
  · exact ⟨[], rfl, .inl rfl, Nat.le_refl _, Nat.zero_le _⟩
  · by_cases h0 : len = 0
    · subst h0
      exact ⟨[], rfl, .inl rfl, h1, h2⟩
    · have hspot : x.spot = none := by
        obtain ⟨v, hv, -⟩ := h3 0 (by omega) 0 (.i .u64) rfl
        have := spot_of_cell hv
        cases x
        unfold Addr.add at this
        simpa using this
      obtain ⟨b, o, sp⟩ := x
      simp only at hspot
      subst hspot
      have cf : ∀ i, ∃ f : Tk, i < len → IsTk w b (o + i * 5) f := fun i => by
        by_cases hi : i < len
        · obtain ⟨u, hu, -⟩ := task_of_cells (w := w) (b := b) (o := o + i * 5) (fun j l hj => by
            obtain ⟨v, hv, hok⟩ := h3 i hi j l hj
            rw [addr_add] at hv
            exact ⟨v, by rw [← hv]; simp [Nat.add_assoc], hok⟩)
          exact ⟨u, fun _ => hu⟩
        · exact ⟨tk0, fun h => absurd h hi⟩
      obtain ⟨F, hF⟩ := Classical.axiomOfChoice cf
      refine ⟨(List.range len).map F, by simp, .inr ⟨b, o, rfl, fun i f hf => ?_⟩, h1, h2⟩
      have hi := (List.getElem?_eq_some_iff.1 hf).1
      simp only [List.length_map, List.length_range] at hi
      simp [List.getElem?_range hi] at hf
      subst hf
      exact hF i hi
end Go.Proofs.YtldnmpiaofppgaaDoor
