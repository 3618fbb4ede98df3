/-
  The timers of firings: rising, each once.
-/
import Derived.Test.YtpihlchocjdpmaaSortCmp
import Derived.Test.YtpihlchocjdpmaaFirMem
namespace Verge
/-- the timers that there are, rising, each once -/
def IsIds (L : List Fr) (Q : List Nat) : Prop := Q.Pairwise (· < ·) ∧ ∀ x, x ∈ Q ↔ ∃ f, f ∈ L ∧ f.i = x
theorem rising_same : ∀ (Q Q' : List Nat), Q.Pairwise (· < ·) → Q'.Pairwise (· < ·) → (∀ x, x ∈ Q ↔ x ∈ Q') → Q = Q'
  | [], [], _, _, _ => rfl
  | [], y :: Q', _, _, h => absurd ((h y).2 (by simp)) (by simp)
  | x :: Q, [], _, _, h => absurd ((h x).1 (by simp)) (by simp)
  | x :: Q, y :: Q', h1, h2, h => by
    rw [List.pairwise_cons] at h1 h2
    have hx := (h x).1 (by simp)
    have hy := (h y).2 (by simp)
    have e : x = y := by
      rcases List.mem_cons.1 hx with e | hx
      · exact e
      · rcases List.mem_cons.1 hy with e | hy
        · exact e.symm
        · have := h1.1 y hy; have := h2.1 x hx; omega
    subst e
    rw [rising_same Q Q' h1.2 h2.2 fun z => ⟨fun hz => by
      rcases List.mem_cons.1 ((h z).1 (by simp [hz])) with e | e
      · subst e; exact absurd (h1.1 z hz) (Nat.lt_irrefl _)
      · exact e, fun hz => by
      rcases List.mem_cons.1 ((h z).2 (by simp [hz])) with e | e
      · subst e; exact absurd (h2.1 z hz) (Nat.lt_irrefl _)
      · exact e⟩]
theorem IsIds.same {L : List Fr} {Q Q' : List Nat} (h : IsIds L Q) (h' : IsIds L Q') : Q = Q' :=
  rising_same Q Q' h.1 h'.1 fun x => (h.2 x).trans (h'.2 x).symm
theorem rising_len : ∀ (Q M : List Nat), Q.Pairwise (· < ·) → (∀ x, x ∈ Q → x ∈ M) → Q.length ≤ M.length
  | [], _, _, _ => Nat.zero_le _
  | x :: Q, M, h, hs => by
    rw [List.pairwise_cons] at h
    have hx := hs x (by simp)
    have h1 := rising_len Q (M.erase x) h.2 fun y hy => (List.mem_erase_of_ne (by have := h.1 y hy; omega)).2 (hs y (by simp [hy]))
    have h2 := List.length_erase_of_mem hx
    have h3 : 0 < M.length := List.length_pos_of_mem hx
    simp only [List.length_cons]
    omega
theorem IsIds.len {L : List Fr} {Q : List Nat} (h : IsIds L Q) : Q.length ≤ L.length := by
  have := rising_len Q (L.map Fr.i) h.1 fun x hx => by
    obtain ⟨f, hf, e⟩ := (h.2 x).1 hx
    exact List.mem_map.2 ⟨f, hf, e⟩
  simpa using this
theorem IsIds.nil : IsIds [] [] := ⟨List.Pairwise.nil, fun x => by simp⟩
/-- of a rising row: those that differ are all, rising, each once -/
theorem cz_rising (d : Array Nat) (n : Nat) (hs : ∀ i j, i < j → j < n → d[i]! ≤ d[j]!) : ∀ m, m ≤ n → (cz d m).Pairwise (· < ·) ∧ (∀ x, x ∈ cz d m → 0 < m → x ≤ d[m - 1]!) ∧ ∀ x, x ∈ cz d m ↔ ∃ i, i < m ∧ d[i]! = x
  | 0, _ => ⟨List.Pairwise.nil, fun x hx => by simp [cz] at hx, fun x => ⟨fun h => by simp [cz] at h, fun ⟨i, hi, _⟩ => by omega⟩⟩
  | m + 1, hm => by
    obtain ⟨h1, h2, h3⟩ := cz_rising d n hs m (by omega)
    by_cases hk : m = 0 ∨ d[m]! ≠ d[m - 1]!
    · rw [cz_keep d m hk]
      have hlt : ∀ x, x ∈ cz d m → x < d[m]! := fun x hx => by
        rcases Nat.eq_zero_or_pos m with rfl | hp
        · simp [cz] at hx
        · have a1 := h2 x hx hp
          have a2 := hs (m - 1) m (by omega) (by omega)
          rcases hk with hk | hk
          · omega
          · omega
      refine ⟨List.pairwise_append.2 ⟨h1, by simp, fun x hx y hy => by simp at hy; subst hy; exact hlt x hx⟩, fun x hx _ => ?_, fun x => ?_⟩
      · rw [Nat.add_sub_cancel]
        rcases List.mem_append.1 hx with h | h
        · exact Nat.le_of_lt (hlt x h)
        · simp at h; subst h; exact Nat.le_refl _
      · rw [List.mem_append, h3]
        constructor
        · rintro (⟨i, hi, e⟩ | h)
          · exact ⟨i, by omega, e⟩
          · simp at h; exact ⟨m, by omega, h.symm⟩
        · rintro ⟨i, hi, e⟩
          by_cases him : i = m
          · subst him; right; simp [e]
          · exact .inl ⟨i, by omega, e⟩
    · have hm0 : m ≠ 0 := fun e => hk (.inl e)
      have he : d[m]! = d[m - 1]! := by
        by_cases e : d[m]! = d[m - 1]!
        · exact e
        · exact absurd (.inr e) hk
      rw [cz_skip d m hm0 he]
      refine ⟨h1, fun x hx _ => ?_, fun x => ?_⟩
      · rw [Nat.add_sub_cancel, he]; exact h2 x hx (by omega)
      · rw [h3]
        constructor
        · rintro ⟨i, hi, e⟩
          exact ⟨i, by omega, e⟩
        · rintro ⟨i, hi, e⟩
          by_cases him : i = m
          · subst him; exact ⟨i - 1, by omega, by rw [← he, e]⟩
          · exact ⟨i, by omega, e⟩
/-- the timers of firings, sorted and made one each -/
theorem ids_of_sort {L : List Fr} {d d' : Array Nat} (hd : d = (L.map Fr.i).toArray) (hp : Go.Sort.PermIn 0 L.length d d') (hs : Go.Sort.SortedIn ltN 0 L.length d') : IsIds L (cz d' L.length) := by
  have hn : d.size = L.length := by rw [hd]; simp
  have hs' : ∀ i j, i < j → j < L.length → d'[i]! ≤ d'[j]! := fun i j h1 h2 => by
    have := hs i j (Nat.zero_le _) h1 h2
    simp only [ltN, decide_eq_false_iff_not] at this
    omega
  obtain ⟨h1, -, h3⟩ := cz_rising d' L.length hs' L.length (Nat.le_refl _)
  refine ⟨h1, fun x => ?_⟩
  rw [h3]
  have e := hp.2.2
  rw [Go.Sort.extract_toList d' 0 L.length (by rw [hp.1, hn]; exact Nat.le_refl _), Go.Sort.extract_toList d 0 L.length (by omega)] at e
  have hm := e.mem_iff (a := x)
  simp only [List.mem_map, List.mem_range'_1, Nat.zero_le, true_and, Nat.zero_add, Nat.sub_zero] at hm
  rw [hm]
  constructor
  · rintro ⟨i, hi, e⟩
    refine ⟨L[i], List.getElem_mem hi, ?_⟩
    rw [← e, hd, getElem!_pos _ i (by simpa using hi)]
    simp
  · rintro ⟨f, hf, e⟩
    obtain ⟨i, hi, he⟩ := List.getElem_of_mem hf
    refine ⟨i, hi, ?_⟩
    rw [hd, getElem!_pos _ i (by simpa using hi)]
    simp [he, e]
end Verge
