/-
  A list of strings in memory, and what each call on it makes of it.
-/
import Derived.Test.YtpddiphknpplcaaPListS1
import Derived.Test.YtpddiphknpplcaaRingPlain
namespace Go.Proofs.Ytpddiphknpplcaa.PS
open Go.RowKit Verge
attribute [local go_sem] Oper.semAt_some
set_option linter.unusedVariables false
set_option linter.unusedSimpArgs false
variable {X : Oth}

/-- who stands ahead of the i-th -/
def prv (xs : List Nat) (i : Nat) : Option Nat := if i = 0 then none else xs[i - 1]?
/-- a list: its nodes' blocks, in order; what each holds -/
structure IsL (X : Oth) (w : World) (lb : Nat) (xs : List Nat) (V : Nat → ByteArray) : Prop where
  h : IsHX X w lb xs[0]? xs[xs.length - 1]? xs.length
  n : ∀ (i b : Nat), xs[i]? = some b → IsN w b (V b) (some lb) (prv xs i) xs[i + 1]?
  nd : ∀ (i j b : Nat), xs[i]? = some b → xs[j]? = some b → i = j
  nl : lb ∉ xs
/-- the blocks of a list -/
def LB (lb : Nat) (xs : List Nat) : Nat → Prop := fun k => k = lb ∨ k ∈ xs
section
variable {S : Nat → Prop} {w w' : World} {lb b : Nat} {xs : List Nat} {V : Nat → ByteArray}
theorem IsL.node (h : IsL X w lb xs V) (hm : b ∈ xs) : ∃ i, xs[i]? = some b ∧ IsN w b (V b) (some lb) (prv xs i) xs[i + 1]? := by
  obtain ⟨i, hi⟩ := List.mem_iff_getElem?.1 hm
  exact ⟨i, hi, h.n i b hi⟩
theorem IsL.blk (h : IsL X w lb xs V) {k : Nat} (hk : LB lb xs k) : Blk w k := by
  rcases hk with rfl | hk
  · exact h.h.k
  · obtain ⟨i, -, hn⟩ := h.node hk; exact hn.k
theorem IsL.lt (h : IsL X w lb xs V) {k : Nat} (hk : LB lb xs k) : k < w.heap.size := (h.blk hk).lt
theorem IsL.kept (h : IsL X w lb xs V) (c : Ch S w w') (hn : ∀ k, LB lb xs k → ¬ S k) : IsL X w' lb xs V :=
  ⟨h.h.kept c (hn _ (.inl rfl)), fun i b hb => (h.n i b hb).kept c (hn _ (.inr (List.mem_of_getElem? hb))), h.nd, h.nl⟩
theorem IsL.congr (h : IsL X w lb xs V) (V' : Nat → ByteArray) (hV : ∀ b, b ∈ xs → V' b = V b) : IsL X w lb xs V' :=
  ⟨h.h, fun i b hb => by rw [hV b (List.mem_of_getElem? hb)]; exact h.n i b hb, h.nd, h.nl⟩
theorem IsL.ne (h : IsL X w lb xs V) (hb : b ∈ xs) : b ≠ lb := fun e => h.nl (e ▸ hb)
theorem IsL.new (h : IsHX X w lb none none 0) : IsL X w lb [] V := ⟨h, by simp, by simp, by simp⟩

theorem IsL.linked (h : IsL X w lb xs V) (hb : b ∉ xs) (hl : b ≠ lb) (L : Linked X w w' lb b xs[0]? xs[xs.length - 1]? xs.length (V b)) : IsL X w' lb (xs ++ [b]) V := by
  have last : ∀ k, xs[xs.length - 1]? = some k → k ∈ xs := fun k hk => List.mem_of_getElem? hk
  refine ⟨?_, ?_, ?_, ?_⟩
  · have := L.h
    rw [List.length_append, List.length_singleton, Nat.add_sub_cancel, List.getElem?_append_right (Nat.le_refl _), Nat.sub_self]
    cases xs with
    | nil => simpa using this
    | cons x t => simpa using this
  · intro i c hc
    by_cases hi : i < xs.length
    · rw [List.getElem?_append_left hi] at hc
      have hn := h.n i c hc
      have hp : prv (xs ++ [b]) i = prv xs i := by
        unfold prv; split
        · rfl
        · rw [List.getElem?_append_left (by omega)]
      rw [hp]
      by_cases he : i + 1 = xs.length
      · rw [he, List.getElem?_append_right (Nat.le_refl _), Nat.sub_self]
        rw [List.getElem?_eq_none (by omega)] at hn
        exact L.p c (by rw [← he, Nat.add_sub_cancel]; exact hc) _ _ _ hn
      · rw [List.getElem?_append_left (by omega)]
        refine hn.kept L.c ?_
        rintro (rfl | rfl | hk)
        · exact h.nl (List.mem_of_getElem? hc)
        · exact hb (List.mem_of_getElem? hc)
        · have := h.nd _ _ _ hc hk; omega
    · have hi' : i = xs.length := by
        rcases Nat.lt_or_ge xs.length i with h' | h'
        · rw [List.getElem?_eq_none (by simp; omega)] at hc; cases hc
        · omega
      subst hi'
      rw [List.getElem?_append_right (Nat.le_refl _), Nat.sub_self] at hc
      cases hc
      rw [List.getElem?_eq_none (by simp)]
      have hp : prv (xs ++ [b]) xs.length = xs[xs.length - 1]? := by
        unfold prv; split
        · rename_i e; rw [List.getElem?_eq_none (by omega)]
        · rw [List.getElem?_append_left (by omega)]
      rw [hp]
      exact L.n
  · intro i j c hi hj
    rw [List.getElem?_append] at hi hj
    split at hi <;> split at hj
    · exact h.nd i j c hi hj
    · have := List.mem_of_getElem? hj; simp at this; subst this; exact absurd (List.mem_of_getElem? hi) hb
    · have := List.mem_of_getElem? hi; simp at this; subst this; exact absurd (List.mem_of_getElem? hj) hb
    · have h1 := (List.getElem?_eq_some_iff.1 hi).1; have h2 := (List.getElem?_eq_some_iff.1 hj).1
      simp at h1 h2; omega
  · simp only [List.mem_append, List.mem_singleton, not_or]
    exact ⟨h.nl, fun e => hl e.symm⟩

theorem getElem?_erase (xs : List Nat) (i j : Nat) : (xs.eraseIdx i)[j]? = if j < i then xs[j]? else xs[j + 1]? := List.getElem?_eraseIdx

theorem IsL.cut (h : IsL X w lb xs V) {i : Nat} (hi : xs[i]? = some b) (C : Cut X w w' lb b xs[0]? xs[xs.length - 1]? (prv xs i) xs[i + 1]? xs.length (V b)) : IsL X w' lb (xs.eraseIdx i) V := by
  have hlt := (List.getElem?_eq_some_iff.1 hi).1
  have hlen : (xs.eraseIdx i).length = xs.length - 1 := List.length_eraseIdx_of_lt hlt
  refine ⟨?_, ?_, ?_, ?_⟩
  · have := C.h
    rw [hlen]
    have e1 : (xs.eraseIdx i)[0]? = if prv xs i = none then xs[i + 1]? else xs[0]? := by
      rw [getElem?_erase]
      unfold prv
      by_cases h0 : i = 0
      · subst h0; simp
      · rw [if_pos (by omega), if_neg h0, if_neg]
        rw [List.getElem?_eq_getElem (by omega)]; simp
    have e2 : (xs.eraseIdx i)[xs.length - 1 - 1]? = if xs[i + 1]? = none then prv xs i else xs[xs.length - 1]? := by
      rw [getElem?_erase]
      by_cases hl : i + 1 = xs.length
      · rw [if_pos (List.getElem?_eq_none (by omega))]
        unfold prv
        by_cases h0 : i = 0
        · rw [if_neg (by omega), if_pos h0, List.getElem?_eq_none (by omega)]
        · rw [if_pos (by omega), if_neg h0]; congr 1; omega
      · rw [if_neg (show ¬ (xs.length - 1 - 1 < i) by omega), if_neg (show ¬ xs[i + 1]? = none by rw [List.getElem?_eq_getElem (by omega)]; simp)]; congr 1; omega
    rw [e1, e2]
    exact this
  · intro j c hc
    rw [getElem?_erase] at hc
    rw [getElem?_erase]
    have hp : prv (xs.eraseIdx i) j = if j ≤ i then prv xs j else xs[j]? := by
      unfold prv
      by_cases h0 : j = 0
      · simp [h0]
      · rw [if_neg h0, if_neg h0, getElem?_erase]
        by_cases hj : j ≤ i
        · rw [if_pos (by omega), if_pos hj]
        · rw [if_neg (by omega), if_neg hj]; congr 1; omega
    rw [hp]
    by_cases hj : j < i
    · rw [if_pos hj] at hc
      have hn := h.n j c hc
      rw [if_pos (show j ≤ i by omega)]
      by_cases he : j + 1 = i
      · rw [if_neg (show ¬ (j + 1 < i) by omega)]
        have := C.p c (by unfold prv; rw [if_neg (by omega), ← he]; exact hc) _ _ _ _ hn
        rw [← he] at this
        exact this
      · rw [if_pos (by omega)]
        refine hn.kept C.c ?_
        rintro (rfl | rfl | hk | hk)
        · exact h.nl (List.mem_of_getElem? hc)
        · have := h.nd _ _ _ hc hi; omega
        · unfold prv at hk; rw [if_neg (by omega)] at hk; have := h.nd _ _ _ hc hk; omega
        · have := h.nd _ _ _ hc hk; omega
    · rw [if_neg hj] at hc
      have hn := h.n (j + 1) c hc
      rw [if_neg (show ¬ (j + 1 < i) by omega)]
      by_cases he : j = i
      · subst he
        rw [if_pos (Nat.le_refl _)]
        exact C.q c hc _ _ _ _ hn
      · rw [if_neg (by omega)]
        have hp2 : prv xs (j + 1) = xs[j]? := by unfold prv; rw [if_neg (by omega)]; rfl
        rw [hp2] at hn
        refine hn.kept C.c ?_
        rintro (rfl | rfl | hk | hk)
        · exact h.nl (List.mem_of_getElem? hc)
        · have := h.nd _ _ _ hc hi; omega
        · unfold prv at hk; split at hk
          · cases hk
          · have := h.nd _ _ _ hc hk; omega
        · have := h.nd _ _ _ hc hk; omega
  · intro j k c hj hk
    rw [getElem?_erase] at hj hk
    split at hj <;> split at hk <;> have := h.nd _ _ _ hj hk <;> omega
  · intro hm; exact h.nl (List.mem_of_mem_eraseIdx hm)

theorem IsL.link_of (h : IsL X w lb xs V) (hb : IsN w b (V b) none none none) (hx : b ∉ xs) (hl : b ≠ lb) (hs : xs.length ≤ 1000000) :
    Calls Try.prog 42 #[.pointer (some ⟨lb, 1, none⟩), .pointer (some ⟨b, 0, none⟩)] w fun e w' => (∃ r, e = .returned r) ∧ IsL X w' lb (xs ++ [b]) V ∧ Ch (fun k => LB lb xs k ∨ k = b) w w' := by
  refine (link_at lb b _ _ _ (V b) w h.h hb hl hs ?_).mono fun e w' ⟨he, L⟩ => ⟨he, h.linked hx hl L, L.c.mono ?_⟩
  · intro p hp
    have hm := List.mem_of_getElem? hp
    refine ⟨h.ne hm, fun e => hx (e ▸ hm), ?_⟩
    have := h.n _ p hp
    have h1 := (List.getElem?_eq_some_iff.1 hp).1
    rw [List.getElem?_eq_none (by omega)] at this
    exact ⟨_, _, _, this⟩
  · rintro k - (rfl | rfl | hk)
    · exact .inl (.inl rfl)
    · exact .inr rfl
    · exact .inl (.inr (List.mem_of_getElem? hk))
theorem IsL.cut_of (h : IsL X w lb xs V) {i : Nat} (hi : xs[i]? = some b) (hs : xs.length ≤ 1000000) :
    Calls Try.prog 49 #[.pointer (some ⟨lb, 1, none⟩), .pointer (some ⟨b, 0, none⟩)] w fun e w' => (∃ r, e = .returned r) ∧ IsL X w' lb (xs.eraseIdx i) V ∧ IsN w' b (V b) none none none ∧ Ch (LB lb xs) w w' := by
  have hlt := (List.getElem?_eq_some_iff.1 hi).1
  have hb := List.mem_of_getElem? hi
  refine (cut_at lb b _ _ _ _ _ (V b) w h.h (h.n i b hi) (h.ne hb) ⟨by omega, hs⟩ ?_ ?_).mono fun e w' ⟨he, C⟩ => ⟨he, h.cut hi C, C.n, C.c.mono ?_⟩
  · intro p hp
    unfold prv at hp
    split at hp
    · cases hp
    · refine ⟨h.ne (List.mem_of_getElem? hp), ?_, ?_, _, _, _, _, h.n _ p hp⟩
      · rintro rfl; have := h.nd _ _ _ hp hi; omega
      · intro hq; have := h.nd _ _ _ hp hq; omega
  · intro q hq
    refine ⟨h.ne (List.mem_of_getElem? hq), ?_, _, _, _, _, h.n _ q hq⟩
    rintro rfl; have := h.nd _ _ _ hq hi; omega
  · rintro k - (rfl | rfl | hk | hk)
    · exact .inl rfl
    · exact .inr hb
    · unfold prv at hk; split at hk
      · cases hk
      · exact .inr (List.mem_of_getElem? hk)
    · exact .inr (List.mem_of_getElem? hk)
end
end Go.Proofs.Ytpddiphknpplcaa.PS
