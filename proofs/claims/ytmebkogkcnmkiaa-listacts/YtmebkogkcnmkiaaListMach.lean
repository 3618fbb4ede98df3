/-
  Three lists of integers and all nodes that were made: what each call makes of them.
-/
import Derived.Test.YtmebkogkcnmkiaaListHas
import Derived.Test.YtmebkogkcnmkiaaListPlain
import Derived.Test.YtmebkogkcnmkiaaListAlive
namespace Go.Proofs.Ytmebkogkcnmkiaa
open Go.RowKit Verge LI
set_option linter.unusedVariables false

structure Mach (w : World) (M : Nat → Prop) (lb : Nat → Nat) (q : Nat) (nb : Nat → Nat) (V : Nat → Int) (L : Nat → List Nat) : Prop where
  l : ∀ k, k < 3 → IsL w (lb k) ((L k).map nb) V
  fr : ∀ i, i < q → (∀ k, k < 3 → i ∉ L k) → IsN w (nb i) (V (nb i)) none none none
  xl : ∀ k, k < 3 → ∀ i, i ∈ L k → i < q
  inj : ∀ i j, i < q → j < q → nb i = nb j → i = j
  one : ∀ k k' i, k < 3 → k' < 3 → i ∈ L k → i ∈ L k' → k = k'
  nl : ∀ i k, i < q → k < 3 → nb i ≠ lb k
  ll : ∀ k k', k < 3 → k' < 3 → lb k = lb k' → k = k'
  ml : ∀ k, k < 3 → M (lb k)
  mn : ∀ i, i < q → M (nb i)
  lt : ∀ j, M j → j < w.heap.size
/-- the blocks of list k -/
abbrev LK (lb : Nat → Nat) (nb : Nat → Nat) (L : Nat → List Nat) (k : Nat) : Nat → Prop := LB (lb k) ((L k).map nb)
section
variable {S : Nat → Prop} {w w' : World} {M : Nat → Prop} {lb : Nat → Nat} {q k o i : Nat} {nb : Nat → Nat} {V : Nat → Int} {L L' : Nat → List Nat}
theorem Mach.sub (h : Mach w M lb q nb V L) (hk : k < 3) {j : Nat} (hj : LK lb nb L k j) : M j := by
  rcases hj with rfl | hj
  · exact h.ml k hk
  · obtain ⟨i, hi, rfl⟩ := List.mem_map.1 hj; exact h.mn i (h.xl k hk i hi)
theorem Mach.mem (h : Mach w M lb q nb V L) (hk : k < 3) (hi : i < q) (hm : nb i ∈ (L k).map nb) : i ∈ L k := by
  obtain ⟨j, hj, e⟩ := List.mem_map.1 hm
  rw [← h.inj j i (h.xl k hk j hj) hi e]; exact hj
theorem Mach.apart (h : Mach w M lb q nb V L) (hk : k < 3) (ho : o < 3) (hne : k ≠ o) : ∀ j, LK lb nb L k j → ¬ LK lb nb L o j := by
  rintro j (rfl | hj) (e | hm)
  · exact hne (h.ll k o hk ho e)
  · obtain ⟨i, hi, e⟩ := List.mem_map.1 hm; exact h.nl i k (h.xl o ho i hi) hk e
  · obtain ⟨i, hi, e'⟩ := List.mem_map.1 hj; exact h.nl i o (h.xl k hk i hi) ho (e'.trans e)
  · obtain ⟨i, hi, rfl⟩ := List.mem_map.1 hj
    exact hne (h.one k o i hk ho hi (h.mem ho (h.xl k hk i hi) hm))
theorem Mach.freeN (h : Mach w M lb q nb V L) (hk : k < 3) (hi : i < q) (hx : i ∉ L k) : ¬ LK lb nb L k (nb i) := by
  rintro (e | hm)
  · exact h.nl i k hi hk e
  · exact hx (h.mem hk hi hm)
theorem Mach.kept (h : Mach w M lb q nb V L) (c : Ch S w w') (ha : ∀ j, M j → ¬ S j) : Mach w' M lb q nb V L :=
  ⟨fun k hk => (h.l k hk).kept c (fun j hj => ha j (h.sub hk hj)), fun i hi hx => (h.fr i hi hx).kept c (ha _ (h.mn i hi)), h.xl, h.inj, h.one, h.nl, h.ll, h.ml, h.mn, fun j hj => Nat.lt_of_lt_of_le (h.lt j hj) c.size⟩
/-- lists have turned -/
theorem Mach.turn (h : Mach w M lb q nb V L) (L' : Nat → List Nat) (c : Ch S w w') (hS : ∀ j, S j → M j)
    (hl : ∀ k, k < 3 → IsL w' (lb k) ((L' k).map nb) V ∨ (L' k = L k ∧ ∀ j, LK lb nb L k j → ¬ S j))
    (hf : ∀ i, i < q → (∀ k, k < 3 → i ∉ L' k) → IsN w' (nb i) (V (nb i)) none none none ∨ ((∀ k, k < 3 → i ∉ L k) ∧ ¬ S (nb i)))
    (hx : ∀ k, k < 3 → ∀ i, i ∈ L' k → i < q) (ho : ∀ k k' i, k < 3 → k' < 3 → i ∈ L' k → i ∈ L' k' → k = k') : Mach w' M lb q nb V L' ∧ Ch M w w' := by
  refine ⟨⟨fun k hk => ?_, fun i hi hx => ?_, hx, h.inj, ho, h.nl, h.ll, h.ml, h.mn, fun j hj => Nat.lt_of_lt_of_le (h.lt j hj) c.size⟩, c.mono fun j _ hj => hS j hj⟩
  · rcases hl k hk with h' | ⟨e, h'⟩
    · exact h'
    · rw [e]; exact (h.l k hk).kept c h'
  · rcases hf i hi hx with h' | ⟨h1, h2⟩
    · exact h'
    · exact (h.fr i hi h1).kept c h2
theorem Mach.nd (h : Mach w M lb q nb V L) (hk : k < 3) {i j x : Nat} (hi : (L k)[i]? = some x) (hj : (L k)[j]? = some x) : i = j :=
  (h.l k hk).nd i j (nb x) (by rw [List.getElem?_map, hi]; rfl) (by rw [List.getElem?_map, hj]; rfl)
theorem erase_filter : ∀ (xs : List Nat) (i x : Nat), (∀ (i j : Nat), xs[i]? = some x → xs[j]? = some x → i = j) → xs[i]? = some x → xs.eraseIdx i = xs.filter (· != x)
  | [], i, x, _, h => by cases h
  | y :: t, 0, x, nd, h => by
    have hxy : y = x := by simpa using h
    subst hxy
    have hx : y ∉ t := fun hm => by
      obtain ⟨j, hj⟩ := List.mem_iff_getElem?.1 hm
      have := nd 0 (j + 1) rfl hj; omega
    simp only [List.eraseIdx_cons_zero, List.filter_cons, bne_self_eq_false, Bool.false_eq_true, if_false]
    exact (List.filter_eq_self.2 fun a ha => by rw [bne_iff_ne]; rintro rfl; exact hx ha).symm
  | y :: t, i + 1, x, nd, h => by
    have hy : y ≠ x := by rintro rfl; have := nd 0 (i + 1) rfl h; omega
    have := erase_filter t i x (fun a b ha hb => by have := nd (a + 1) (b + 1) ha hb; omega) h
    simp only [List.eraseIdx_cons_succ, List.filter_cons, this]
    rw [if_pos (by simpa using hy)]

theorem Mach.push (h : Mach w M lb q nb V L) (hk : k < 3) (v : Int) (hs : (L k).length ≤ 1000000) :
    Calls Try.prog 6 #[.pointer (some ⟨lb k, 0, none⟩), .int .i64 v] w fun e w' => ∃ b, e = .returned (.pointer (some ⟨b, 0, none⟩)) ∧ w.heap.size ≤ b ∧ Mach w' (fun j => M j ∨ j = b) lb (q + 1) (upd nb q b) (upd V b v) (upd L k (L k ++ [q])) ∧ Ch M w w' := by
  refine ((h.l k hk).push v (by rw [List.length_map]; exact hs)).mono ?_
  rintro e w' ⟨b, he, hb, hl, c⟩
  have old : ∀ i, i < q → nb i < w.heap.size := fun i hi => h.lt _ (h.mn i hi)
  have lold : ∀ k, k < 3 → lb k < w.heap.size := fun k hk => h.lt _ (h.ml k hk)
  have hbl : b < w'.heap.size := hl.lt (.inr (by simp))
  have cM : Ch M w w' := c.mono fun j _ hj => h.sub hk hj
  have hmap : ∀ k', k' < 3 → (L k').map (upd nb q b) = (L k').map nb := fun k' hk' => List.map_congr_left fun i hi => upd_other _ _ _ _ (by have := h.xl k' hk' i hi; omega)
  have hV : ∀ i, i < q → upd V b v (nb i) = V (nb i) := fun i hi => upd_other _ _ _ _ (by have := old i hi; omega)
  have cs : ∀ i, i < q + 1 → (i = q ∧ upd nb q b i = b) ∨ (i < q ∧ upd nb q b i = nb i) := by
    intro i hi
    by_cases e : i = q
    · exact .inl ⟨e, by rw [e, upd_same]⟩
    · exact .inr ⟨by omega, upd_other _ _ _ _ e⟩
  have hLn : ∀ k', k' < 3 → q ∉ L k' := fun k' hk' hm => by have := h.xl k' hk' q hm; omega
  have cL : ∀ k', k' < 3 → ∀ i, i ∈ upd L k (L k ++ [q]) k' → (i ∈ L k' ∧ i < q) ∨ (k' = k ∧ i = q) := by
    intro k' hk' i hi
    by_cases e : k' = k
    · subst e; rw [upd_same] at hi
      rcases List.mem_append.1 hi with hi | hi
      · exact .inl ⟨hi, h.xl k' hk' i hi⟩
      · simp at hi; exact .inr ⟨rfl, hi⟩
    · rw [upd_other _ _ _ _ e] at hi; exact .inl ⟨hi, h.xl k' hk' i hi⟩
  refine ⟨b, he, hb, ⟨fun k' hk' => ?_, fun i hi hx => ?_, fun k' hk' i hi => ?_, fun i j hi hj => ?_, fun k1 k2 i h1 h2 hi hj => ?_, fun i k' hi hk' => ?_, h.ll, fun k' hk' => .inl (h.ml k' hk'), fun i hi => ?_, fun j hj => ?_⟩, cM⟩
  · by_cases e : k' = k
    · subst e
      rw [upd_same, List.map_append, hmap k' hk']
      simp only [List.map_cons, List.map_nil, upd_same]
      exact hl
    · rw [upd_other _ _ _ _ e, hmap k' hk']
      refine ((h.l k' hk').kept c (h.apart hk' hk e)).congr _ fun x hx => ?_
      obtain ⟨i, hi, rfl⟩ := List.mem_map.1 hx
      exact hV i (h.xl k' hk' i hi)
  · rcases cs i hi with ⟨rfl, e⟩ | ⟨hi', e⟩
    · exact absurd (by rw [upd_same]; simp) (hx k hk)
    · rw [e, hV i hi']
      have hx' : ∀ k', k' < 3 → i ∉ L k' := fun k' hk' hm => by
        refine hx k' hk' ?_
        by_cases e' : k' = k
        · subst e'; rw [upd_same]; exact List.mem_append.2 (.inl hm)
        · rw [upd_other _ _ _ _ e']; exact hm
      exact (h.fr i hi' hx').kept c (h.freeN hk hi' (hx' k hk))
  · rcases cL k' hk' i hi with ⟨-, h'⟩ | ⟨-, h'⟩ <;> omega
  · rcases cs i hi with ⟨h1, e⟩ | ⟨h1, e⟩ <;> rcases cs j hj with ⟨h2, e'⟩ | ⟨h2, e'⟩ <;> rw [e, e']
    · intros; omega
    · have := old j h2; intros; omega
    · have := old i h1; intros; omega
    · exact h.inj i j h1 h2
  · rcases cL k1 h1 i hi with ⟨m1, l1⟩ | ⟨e1, l1⟩ <;> rcases cL k2 h2 i hj with ⟨m2, l2⟩ | ⟨e2, l2⟩
    · exact h.one k1 k2 i h1 h2 m1 m2
    · omega
    · omega
    · omega
  · rcases cs i hi with ⟨h1, e⟩ | ⟨h1, e⟩ <;> rw [e]
    · have := lold k' hk'; omega
    · exact h.nl i k' h1 hk'
  · rcases cs i hi with ⟨h1, e⟩ | ⟨h1, e⟩ <;> rw [e]
    · exact .inr rfl
    · exact .inl (h.mn i h1)
  · rcases hj with hj | rfl
    · exact Nat.lt_of_lt_of_le (h.lt j hj) c.size
    · exact hbl
theorem Mach.put (h : Mach w M lb q nb V L) (hk : k < 3) (hi : i < q) (hx : ∀ k, k < 3 → i ∉ L k) (hs : (L k).length ≤ 1000000) :
    Calls Try.prog 7 #[.pointer (some ⟨lb k, 0, none⟩), .pointer (some ⟨nb i, 0, none⟩)] w fun e w' => e = .returned (.int .i64 0) ∧ Mach w' M lb q nb V (upd L k (L k ++ [i])) ∧ Ch M w w' := by
  refine ((h.l k hk).put (h.fr i hi hx) (fun hm => hx k hk (h.mem hk hi hm)) (h.nl i k hi hk) (by rw [List.length_map]; exact hs)).mono ?_
  rintro e w' ⟨he, hl, c⟩
  refine ⟨he, h.turn _ c ?_ (fun k' hk' => ?_) (fun j hj hxj => ?_) (fun k' hk' j hj => ?_) (fun k1 k2 j h1 h2 hj1 hj2 => ?_)⟩
  · rintro j (hj | rfl)
    · exact h.sub hk hj
    · exact h.mn i hi
  · by_cases e : k' = k
    · subst e; left; rw [upd_same, List.map_append]; exact hl
    · right; refine ⟨upd_other _ _ _ _ e, fun j hj hc => ?_⟩
      rcases hc with hc | rfl
      · exact h.apart hk' hk e j hj hc
      · exact h.freeN hk' hi (hx k' hk') hj
  · right
    have hL : ∀ k', k' < 3 → j ∉ L k' := fun k' hk' hm => hxj k' hk' (by
      by_cases e : k' = k
      · subst e; rw [upd_same]; exact List.mem_append.2 (.inl hm)
      · rw [upd_other _ _ _ _ e]; exact hm)
    refine ⟨hL, ?_⟩
    rintro (hc | hc)
    · exact h.freeN hk hj (hL k hk) hc
    · have := h.inj j i hj hi hc; subst this; exact hxj k hk (by rw [upd_same]; simp)
  · by_cases e : k' = k
    · subst e; rw [upd_same] at hj
      rcases List.mem_append.1 hj with hj | hj
      · exact h.xl k' hk' j hj
      · simp at hj; subst hj; exact hi
    · rw [upd_other _ _ _ _ e] at hj; exact h.xl k' hk' j hj
  · have f : ∀ k', k' < 3 → j ∈ upd L k (L k ++ [i]) k' → j ∈ L k' ∨ (k' = k ∧ j = i) := by
      intro k' hk' hj
      by_cases e : k' = k
      · subst e; rw [upd_same] at hj
        rcases List.mem_append.1 hj with hj | hj
        · exact .inl hj
        · simp at hj; exact .inr ⟨rfl, hj⟩
      · rw [upd_other _ _ _ _ e] at hj; exact .inl hj
    rcases f k1 h1 hj1 with m1 | ⟨e1, l1⟩ <;> rcases f k2 h2 hj2 with m2 | ⟨e2, l2⟩
    · exact h.one k1 k2 j h1 h2 m1 m2
    · subst l2; exact absurd m1 (hx k1 h1)
    · subst l1; exact absurd m2 (hx k2 h2)
    · omega
theorem Mach.put_in (h : Mach w M lb q nb V L) (k : Nat) (ho : o < 3) (hx : i ∈ L o) :
    Calls Try.prog 7 #[.pointer (some ⟨lb k, 0, none⟩), .pointer (some ⟨nb i, 0, none⟩)] w fun e w' => e = .returned (.int .i64 7) ∧ w = w' := by
  obtain ⟨j, -, hn⟩ := (h.l o ho).node (b := nb i) (List.mem_map.2 ⟨i, hx, rfl⟩)
  exact LI.put_state (lb k) (nb i) (lb o) w hn.l
theorem Mach.unlink (h : Mach w M lb q nb V L) (hk : k < 3) (hx : i ∈ L k) (hs : (L k).length ≤ 1000000) :
    Calls Try.prog 9 #[.pointer (some ⟨lb k, 0, none⟩), .pointer (some ⟨nb i, 0, none⟩)] w fun e w' => e = .returned (.int .i64 0) ∧ Mach w' M lb q nb V (upd L k ((L k).filter (· != i))) ∧ Ch M w w' := by
  obtain ⟨m, hm⟩ := List.mem_iff_getElem?.1 hx
  refine ((h.l k hk).unlink (i := m) (b := nb i) (by rw [List.getElem?_map, hm]; rfl) (by rw [List.length_map]; exact hs)).mono ?_
  rintro e w' ⟨he, hl, hn, c⟩
  rw [eraseIdx_map, erase_filter (L k) m i (fun a b ha hb => h.nd hk ha hb) hm] at hl
  have sub : ∀ k' j, j ∈ upd L k ((L k).filter (· != i)) k' → j ∈ L k' := by
    intro k' j hj
    by_cases e : k' = k
    · subst e; rw [upd_same] at hj; exact (List.mem_filter.1 hj).1
    · rwa [upd_other _ _ _ _ e] at hj
  refine ⟨he, h.turn _ c (fun j hj => h.sub hk hj) (fun k' hk' => ?_) (fun j hj hxj => ?_) (fun k' hk' j hj => h.xl k' hk' j (sub k' j hj)) (fun k1 k2 j h1 h2 hj1 hj2 => h.one k1 k2 j h1 h2 (sub _ _ hj1) (sub _ _ hj2))⟩
  · by_cases e : k' = k
    · subst e; left; rw [upd_same]; exact hl
    · right; exact ⟨upd_other _ _ _ _ e, h.apart hk' hk e⟩
  · by_cases e : j = i
    · subst e; exact .inl hn
    · right
      have hL : ∀ k', k' < 3 → j ∉ L k' := fun k' hk' hjm => hxj k' hk' (by
        by_cases e' : k' = k
        · rw [e', upd_same]; exact List.mem_filter.2 ⟨e' ▸ hjm, by simpa using e⟩
        · rw [upd_other _ _ _ _ e']; exact hjm)
      exact ⟨hL, h.freeN hk hj (hL k hk)⟩
/-- whose a node is -/
theorem Mach.whose (h : Mach w M lb q nb V L) (hi : i < q) : ∃ lp, w.cell? ⟨nb i, 1, none⟩ = some (pt lp) ∧ (∀ x, lp = some x → Blk w x) ∧ ∀ k, k < 3 → (lp = some (lb k) ↔ i ∈ L k) := by
  by_cases hx : ∃ k, k < 3 ∧ i ∈ L k
  · obtain ⟨o, ho, hm⟩ := hx
    obtain ⟨j, -, hn⟩ := (h.l o ho).node (b := nb i) (List.mem_map.2 ⟨i, hm, rfl⟩)
    refine ⟨some (lb o), hn.l, fun x e => by cases e; exact (h.l o ho).h.k, fun k hk => ⟨fun e => ?_, fun hm' => ?_⟩⟩
    · have := h.ll o k ho hk (Option.some.inj e); subst this; exact hm
    · rw [h.one o k i ho hk hm hm']
  · have hx' : ∀ k, k < 3 → i ∉ L k := fun k hk hm => hx ⟨k, hk, hm⟩
    exact ⟨none, (h.fr i hi hx').l, fun x e => (by cases e), fun k hk => ⟨fun e => (by cases e), fun hm => absurd hm (hx' k hk)⟩⟩
theorem Mach.blkN (h : Mach w M lb q nb V L) (hi : i < q) : Blk w (nb i) := by
  by_cases hx : ∃ k, k < 3 ∧ i ∈ L k
  · obtain ⟨o, ho, hm⟩ := hx
    exact (h.l o ho).blk (.inr (List.mem_map.2 ⟨i, hm, rfl⟩))
  · exact (h.fr i hi (fun k hk hm => hx ⟨k, hk, hm⟩)).k
theorem Mach.value (h : Mach w M lb q nb V L) (hi : i < q) : w.cell? ⟨nb i, 0, none⟩ = some (.int .i64 (V (nb i))) := by
  by_cases hx : ∃ k, k < 3 ∧ i ∈ L k
  · obtain ⟨o, ho, hm⟩ := hx
    obtain ⟨j, -, hn⟩ := (h.l o ho).node (b := nb i) (List.mem_map.2 ⟨i, hm, rfl⟩)
    exact hn.v
  · exact (h.fr i hi (fun k hk hm => hx ⟨k, hk, hm⟩)).v
theorem Mach.unlink_no (h : Mach w M lb q nb V L) (hk : k < 3) (hi : i < q) (hx : i ∉ L k) :
    Calls Try.prog 9 #[.pointer (some ⟨lb k, 0, none⟩), .pointer (some ⟨nb i, 0, none⟩)] w fun e w' => e = .returned (.int .i64 6) ∧ w = w' := by
  obtain ⟨lp, h1, h2, h3⟩ := h.whose hi
  exact LI.unlink_none (lb k) (nb i) lp w h1 (h.l k hk).h.k h2 (fun e => hx ((h3 k hk).1 e))
theorem Mach.has (h : Mach w M lb q nb V L) (hk : k < 3) (hi : i < q) :
    Calls Try.prog 23 #[.pointer (some ⟨lb k, 0, none⟩), .pointer (some ⟨nb i, 0, none⟩)] w fun e w' => e = .returned (.bool (decide (i ∈ L k))) ∧ w = w' := by
  obtain ⟨lp, h1, h2, h3⟩ := h.whose hi
  have := LI.has_of (lb k) (nb i) lp w h1 (h.l k hk).h.k h2
  rwa [decide_eq_decide.2 (h3 k hk)] at this
theorem Mach.splice (h : Mach w M lb q nb V L) (hk : k < 3) (ho : o < 3) (hne : k ≠ o) (hs : (L k).length + (L o).length ≤ 1000000) :
    Calls Try.prog 11 #[.pointer (some ⟨lb k, 0, none⟩), .pointer (some ⟨lb o, 0, none⟩)] w fun e w' => e = .returned (.int .i64 0) ∧ Mach w' M lb q nb V (upd (upd L k (L k ++ L o)) o []) ∧ Ch M w w' := by
  refine ((h.l k hk).splice (h.l o ho) (h.apart hk ho hne) (by rw [List.length_map, List.length_map]; exact hs)).mono ?_
  rintro e w' ⟨he, hl, hlo, c⟩
  have f : ∀ k' j, j ∈ upd (upd L k (L k ++ L o)) o [] k' → (k' ≠ o ∧ k' ≠ k ∧ j ∈ L k') ∨ (k' = k ∧ (j ∈ L k ∨ j ∈ L o)) := by
    intro k' j hj
    by_cases e1 : k' = o
    · subst e1; rw [upd_same] at hj; cases hj
    · rw [upd_other _ _ _ _ e1] at hj
      by_cases e2 : k' = k
      · subst e2; rw [upd_same] at hj; exact .inr ⟨rfl, List.mem_append.1 hj⟩
      · rw [upd_other _ _ _ _ e2] at hj; exact .inl ⟨e1, e2, hj⟩
  refine ⟨he, h.turn _ c ?_ (fun k' hk' => ?_) (fun j hj hxj => ?_) (fun k' hk' j hj => ?_) (fun k1 k2 j h1 h2 hj1 hj2 => ?_)⟩
  · rintro j (hj | hj)
    · exact h.sub hk hj
    · exact h.sub ho hj
  · by_cases e1 : k' = o
    · subst e1; left; rw [upd_same]; exact hlo
    · by_cases e2 : k' = k
      · subst e2; left; rw [upd_other _ _ _ _ e1, upd_same, List.map_append]; exact hl
      · right; refine ⟨by rw [upd_other _ _ _ _ e1, upd_other _ _ _ _ e2], fun j hj hc => ?_⟩
        rcases hc with hc | hc
        · exact h.apart hk' hk e2 j hj hc
        · exact h.apart hk' ho e1 j hj hc
  · right
    have hL : ∀ k', k' < 3 → j ∉ L k' := fun k' hk' hm => by
      by_cases e1 : k' = o
      · subst e1; exact hxj k hk (by rw [upd_other _ _ _ _ hne, upd_same]; exact List.mem_append.2 (.inr hm))
      · by_cases e2 : k' = k
        · subst e2; exact hxj k' hk (by rw [upd_other _ _ _ _ e1, upd_same]; exact List.mem_append.2 (.inl hm))
        · exact hxj k' hk' (by rw [upd_other _ _ _ _ e1, upd_other _ _ _ _ e2]; exact hm)
    refine ⟨hL, ?_⟩
    rintro (hc | hc)
    · exact h.freeN hk hj (hL k hk) hc
    · exact h.freeN ho hj (hL o ho) hc
  · rcases f k' j hj with ⟨-, -, hm⟩ | ⟨e, hm | hm⟩
    · exact h.xl k' hk' j hm
    · exact h.xl k hk j hm
    · exact h.xl o ho j hm
  · rcases f k1 j hj1 with ⟨a1, b1, m1⟩ | ⟨e1, m1⟩ <;> rcases f k2 j hj2 with ⟨a2, b2, m2⟩ | ⟨e2, m2⟩
    · exact h.one k1 k2 j h1 h2 m1 m2
    · rcases m2 with m2 | m2
      · exact absurd (h.one k1 k j h1 hk m1 m2) b1
      · exact absurd (h.one k1 o j h1 ho m1 m2) a1
    · rcases m1 with m1 | m1
      · exact absurd (h.one k2 k j h2 hk m2 m1) b2
      · exact absurd (h.one k2 o j h2 ho m2 m1) a2
    · omega
/-- a row's values are the list's -/
theorem Mach.ints (h : Mach w M lb q nb V L) (hk : k < 3) {Val : Nat → Int} (hv : ∀ i, i < q → V (nb i) = Val i) {w5 : World} {r : Option Addr} {c : Nat} (hr : LI.RowE w5 r ((L k).map nb).length c (LI.valAt ((L k).map nb) V)) : RowI w5 r (L k).length c (fun j => Val ((L k).getD j 0)) := by
  rw [List.length_map] at hr
  refine RowI.congr (RowE.ints hr) _ fun i hi => ?_
  have e : (L k)[i]? = some ((L k).getD i 0) := by rw [List.getD_eq_getElem?_getD, List.getElem?_eq_getElem hi]; rfl
  have e2 : ((L k).map nb).getD i 0 = nb ((L k).getD i 0) := by rw [List.getD_eq_getElem?_getD, List.getElem?_map, e]; rfl
  rw [e2, hv _ (h.xl k hk _ (List.mem_of_getElem? e))]
theorem Mach.drain (h : Mach w M lb q nb V L) (hk : k < 3) (hs : (L k).length ≤ 100000) {Val : Nat → Int} (hv : ∀ i, i < q → V (nb i) = Val i) :
    Calls Try.prog 13 #[.pointer (some ⟨lb k, 0, none⟩)] w fun e w' => ∃ r c, e = .returned (.slice r (L k).length c) ∧ RowI w' r (L k).length c (fun j => Val ((L k).getD j 0)) ∧ (∀ g, OwnS r g → w.heap.size ≤ g) ∧ Mach w' M lb q nb V (upd L k []) ∧ Ch M w w' := by
  refine ((h.l k hk).drain (by rw [List.length_map]; exact hs)).mono ?_
  rintro e w' ⟨r, c', he, hr, ho, hl, hf, c⟩
  have sub : ∀ k' j, j ∈ upd L k [] k' → k' ≠ k ∧ j ∈ L k' := by
    intro k' j hj
    by_cases e : k' = k
    · subst e; rw [upd_same] at hj; cases hj
    · rw [upd_other _ _ _ _ e] at hj; exact ⟨e, hj⟩
  refine ⟨r, c', by rw [List.length_map] at he; exact he, h.ints hk hv hr, ho, h.turn _ c (fun j hj => h.sub hk hj) (fun k' hk' => ?_) (fun j hj hxj => ?_) (fun k' hk' j hj => h.xl k' hk' j (sub k' j hj).2) (fun k1 k2 j h1 h2 hj1 hj2 => h.one k1 k2 j h1 h2 (sub _ _ hj1).2 (sub _ _ hj2).2)⟩
  · by_cases e : k' = k
    · subst e; left; rw [upd_same]; exact hl
    · right; exact ⟨upd_other _ _ _ _ e, h.apart hk' hk e⟩
  · by_cases hx : j ∈ L k
    · left; exact hf _ (List.mem_map.2 ⟨j, hx, rfl⟩)
    · right
      have hL : ∀ k', k' < 3 → j ∉ L k' := fun k' hk' hm => by
        by_cases e : k' = k
        · subst e; exact hx hm
        · exact hxj k' hk' (by rw [upd_other _ _ _ _ e]; exact hm)
      exact ⟨hL, h.freeN hk hj hx⟩
theorem Mach.all (h : Mach w M lb q nb V L) (hk : k < 3) (hs : (L k).length ≤ 100000) {Val : Nat → Int} (hv : ∀ i, i < q → V (nb i) = Val i) :
    Calls Try.prog 27 #[.pointer (some ⟨lb k, 0, none⟩)] w fun e w' => ∃ r c, e = .returned (.slice r (L k).length c) ∧ RowI w' r (L k).length c (fun j => Val ((L k).getD j 0)) ∧ Ch Nil w w' := by
  refine ((h.l k hk).all (by rw [List.length_map]; exact hs)).mono ?_
  rintro e w' ⟨r, c', he, hr, ho, c⟩
  exact ⟨r, c', by rw [List.length_map] at he; exact he, h.ints hk hv hr, c⟩
theorem Mach.len (h : Mach w M lb q nb V L) (hk : k < 3) :
    Calls Try.prog 26 #[.pointer (some ⟨lb k, 0, none⟩)] w fun e w' => e = .returned (.int .i64 (L k).length) ∧ w = w' :=
  LI.len_of (lb k) (L k).length w (by have := (h.l k hk).h.n; rwa [List.length_map] at this)
theorem Mach.first (h : Mach w M lb q nb V L) (hk : k < 3) :
    Calls Try.prog 28 #[.pointer (some ⟨lb k, 0, none⟩)] w fun e w' => e = .returned (pt ((L k)[0]?.map nb)) ∧ w = w' :=
  LI.first_of (lb k) ((L k)[0]?.map nb) w (by have := (h.l k hk).h.f; rwa [List.getElem?_map] at this)
end
end Go.Proofs.Ytmebkogkcnmkiaa
