/-
  A slice of firings that came in, as a row of firings.
-/
import Derived.Test.YtpihlchocjdpmaaFirMem
import Derived.Test.YtpihlchocjdpmaaIsTab
namespace Go.Proofs.Ytpihlchocjdpmaa
open Go.RowKit Verge
set_option linter.unusedVariables false
theorem Src.of_tab {w : World} {a : Option Addr} {len cap : Nat} (h : IsTab [.i .u64, .i .u64, .i .u64, .i .u64] w a len cap) :
    ∃ L : List Fr, L.length = len ∧ Src w a L ∧ Oks L ∧ (a = none → cap = 0) ∧ len ≤ cap ∧ cap ≤ maxLen := by
  rcases h with ⟨rfl, rfl, rfl⟩ | ⟨x, rfl, h1, h2, h3⟩
  · exact ⟨[], rfl, .inl rfl, fun f hf => by simp at hf, fun _ => rfl, Nat.le_refl _, Nat.zero_le _⟩
  · by_cases h0 : len = 0
    · subst h0
      exact ⟨[], rfl, .inl rfl, fun f hf => by simp at hf, fun e => (by cases e), h1, h2⟩
    · have hspot : x.spot = none := by
        obtain ⟨v, hv, -⟩ := h3 0 (by omega) 0 (.i .u64) rfl
        have := spot_of_cell hv
        cases x
        unfold Addr.add at this
        simpa using this
      obtain ⟨b, o, sp⟩ := x
      simp only at hspot
      subst hspot
      have hadd : ∀ k, (⟨b, o, none⟩ : Addr).add k = ⟨b, o + k, none⟩ := fun k => by unfold Addr.add; split <;> simp_all
      have cell : ∀ i, i < len → ∀ j, j < 4 → ∃ n : Nat, w.cell? ⟨b, o + (i * 4 + j), none⟩ = some (.int .u64 (n : Nat)) ∧ n < 18446744073709551616 := fun i hi j hj => by
        obtain ⟨v, hv, hok⟩ := h3 i hi j (.i .u64) (by have : j = 0 ∨ j = 1 ∨ j = 2 ∨ j = 3 := by omega
                                                       rcases this with rfl | rfl | rfl | rfl <;> rfl)
        obtain ⟨n, rfl, wf⟩ := hok
        obtain ⟨n1, n2⟩ := bounds_u64 wf
        obtain ⟨m, rfl⟩ := Int.eq_ofNat_of_zero_le n1
        rw [hadd] at hv
        exact ⟨m, hv, by omega⟩
      have cf : ∀ i, ∃ f : Fr, i < len → f.ok ∧ ∀ j, j < 4 → w.cell? ⟨b, o + (i * 4 + j), none⟩ = some (frc f j) := fun i => by
        by_cases hi : i < len
        · obtain ⟨m0, c0, l0⟩ := cell i hi 0 (by omega)
          obtain ⟨m1, c1, l1⟩ := cell i hi 1 (by omega)
          obtain ⟨m2, c2, l2⟩ := cell i hi 2 (by omega)
          obtain ⟨m3, c3, l3⟩ := cell i hi 3 (by omega)
          refine ⟨⟨m0, m1, m2, m3⟩, fun _ => ⟨⟨l0, l1, l2, l3⟩, fun j hj => ?_⟩⟩
          have : j = 0 ∨ j = 1 ∨ j = 2 ∨ j = 3 := by omega
          rcases this with rfl | rfl | rfl | rfl
          · exact c0
          · exact c1
          · exact c2
          · exact c3
        · exact ⟨⟨0, 0, 0, 0⟩, fun h => absurd h hi⟩
      obtain ⟨F, hF⟩ := Classical.axiomOfChoice cf
      refine ⟨(List.range len).map F, by simp, .inr ⟨b, o, rfl, fun i f hf j hj => ?_⟩, fun f hf => ?_, fun e => (by cases e), h1, h2⟩
      · have hi := (List.getElem?_eq_some_iff.1 hf).1
        simp only [List.length_map, List.length_range] at hi
        simp [List.getElem?_range hi] at hf
        subst hf
        exact (hF i hi).2 j hj
      · simp only [List.mem_map, List.mem_range] at hf
        obtain ⟨i, hi, rfl⟩ := hf
        exact (hF i hi).1
end Go.Proofs.Ytpihlchocjdpmaa
