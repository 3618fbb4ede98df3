/-
  A level, twelve nodes in a row, each in one of its slots or in none: what each call makes of them, by the nodes' numbers.
-/
import Derived.Test.YtgaakhiapgmnbaaDoorLevelPool
import Derived.Test.YtgaakhiapgmnbaaDoorLevelInts
import Derived.Test.YtgaakhiapgmnbaaDoorLevelRef
namespace Go.Proofs.YtgaakhiapgmnbaaDoor
open Go.RowKit Verge LI
set_option linter.unusedVariables false
set_option linter.unusedSimpArgs false

/-- the blocks of the level, of the nodes and of their row -/
def GB (vb : Nat) (hd nb : Nat → Nat) (ad : Option Addr) : Nat → Prop := fun k => k = vb ∨ (∃ s, s < 64 ∧ k = hd s) ∨ (∃ i, i < 12 ∧ k = nb i) ∨ OwnS ad k
structure LevA (vb : Nat) (hd nb : Nat → Nat) (ad : Option Addr) (cap : Nat) (V : Nat → Int) (b : Nat) (L : Nat → List Nat) (W : World) : Prop where
  l : IsLv W vb hd (fun s => (L s).map nb) V
  f : ∀ i, i < 12 → (∀ s, s < 64 → i ∉ L s) → IsN W (nb i) (V (nb i)) none none none
  lt : ∀ s, s < 64 → ∀ i, i ∈ L s → i < 12
  un : ∀ s s' i, s < 64 → s' < 64 → i ∈ L s → i ∈ L s' → s = s'
  nd : ∀ s, s < 64 → (L s).Nodup
  ln : ∀ s, s < 64 → (L s).length ≤ b
  r : RowM W ad 12 cap nb
  v : ∀ i, i < 12 → V (nb i) = (i : Nat)
  inj : ∀ i j, i < 12 → j < 12 → nb i = nb j → i = j
  nh : ∀ i, i < 12 → nb i ≠ vb ∧ ∀ s, s < 64 → nb i ≠ hd s
  ra : ∀ g, OwnS ad g → g ≠ vb ∧ (∀ s, s < 64 → g ≠ hd s) ∧ ∀ i, i < 12 → g ≠ nb i

theorem upd_map (L : Nat → List Nat) (nb : Nat → Nat) (s : Nat) (ys : List Nat) : upd (fun s => (L s).map nb) s (ys.map nb) = fun s' => (upd L s ys s').map nb := by
  funext j; by_cases e : j = s
  · subst e; rw [upd_same, upd_same]
  · rw [upd_other _ _ _ _ e, upd_other _ _ _ _ e]
theorem erase_filter {xs : List Nat} (nd : xs.Nodup) : ∀ {j i : Nat}, xs[j]? = some i → xs.eraseIdx j = xs.filter (· != i) := by
  induction xs with
  | nil => intro j i h; simp at h
  | cons x t ih =>
    intro j i h
    obtain ⟨hx, ht⟩ := List.nodup_cons.1 nd
    cases j with
    | zero =>
      simp at h; subst h
      rw [List.eraseIdx_cons_zero, List.filter_cons_of_neg (by simp)]
      exact (List.filter_eq_self.2 fun y hy => by simp; rintro rfl; exact hx hy).symm
    | succ j =>
      have h' : t[j]? = some i := by simpa using h
      have hne : x ≠ i := by rintro rfl; exact hx (List.mem_of_getElem? h')
      rw [List.eraseIdx_cons_succ, List.filter_cons_of_pos (by simpa using hne), ih ht h']

section
variable {S : Nat → Prop} {W w5 : World} {vb b s i cap : Nat} {hd nb : Nat → Nat} {ad : Option Addr} {V : Nat → Int} {L : Nat → List Nat}
theorem LevA.sub (h : LevA vb hd nb ad cap V b L W) {k : Nat} (hk : LvB vb hd (fun s => (L s).map nb) k) : k = vb ∨ (∃ s, s < 64 ∧ k = hd s) ∨ (∃ i, i < 12 ∧ k = nb i) := by
  rcases hk with rfl | ⟨s, hs, (rfl | hm)⟩
  · exact .inl rfl
  · exact .inr (.inl ⟨s, hs, rfl⟩)
  · obtain ⟨i, hi, rfl⟩ := List.mem_map.1 hm
    exact .inr (.inr ⟨i, h.lt s hs i hi, rfl⟩)
theorem LevA.subG (h : LevA vb hd nb ad cap V b L W) {k : Nat} (hk : LvB vb hd (fun s => (L s).map nb) k) : GB vb hd nb ad k := by
  rcases h.sub hk with e | e | e
  · exact .inl e
  · exact .inr (.inl e)
  · exact .inr (.inr (.inl e))
theorem LevA.mem (h : LevA vb hd nb ad cap V b L W) (hs : s < 64) (hi : i < 12) (hm : nb i ∈ (L s).map nb) : i ∈ L s := by
  obtain ⟨j, hj, e⟩ := List.mem_map.1 hm
  rw [← h.inj j i (h.lt s hs j hj) hi e]; exact hj
/-- a node that is in no slot is no block of the level -/
theorem LevA.free (h : LevA vb hd nb ad cap V b L W) (hi : i < 12) (hf : ∀ s, s < 64 → i ∉ L s) : ¬ LvB vb hd (fun s => (L s).map nb) (nb i) := by
  rintro (e | ⟨s, hs, (e | hm)⟩)
  · exact (h.nh i hi).1 e
  · exact (h.nh i hi).2 s hs e
  · exact hf s hs (h.mem hs hi hm)
theorem LevA.kept (h : LevA vb hd nb ad cap V b L W) (c : Ch S W w5) (hn : ∀ k, GB vb hd nb ad k → ¬ S k) : LevA vb hd nb ad cap V b L w5 :=
  ⟨h.l.kept c (fun k hk => hn k (h.subG hk)), fun i hi hf => (h.f i hi hf).kept c (hn _ (.inr (.inr (.inl ⟨i, hi, rfl⟩)))), h.lt, h.un, h.nd, h.ln, h.r.kept c (fun k hk => hn k (.inr (.inr (.inr hk)))), h.v, h.inj, h.nh, h.ra⟩
theorem LevA.more (h : LevA vb hd nb ad cap V b L W) : LevA vb hd nb ad cap V (b + 1) L W :=
  ⟨h.l, h.f, h.lt, h.un, h.nd, fun s hs => by have := h.ln s hs; omega, h.r, h.v, h.inj, h.nh, h.ra⟩
theorem LevA.lo (h : LevA vb hd nb ad cap V b L W) {k : Nat} (hk : GB vb hd nb ad k) : k < W.heap.size := by
  rcases hk with rfl | ⟨s, hs, rfl⟩ | ⟨i, hi, rfl⟩ | hk
  · exact h.l.lt (.inl rfl)
  · exact h.l.lt (.inr ⟨s, hs, .inl rfl⟩)
  · by_cases hf : ∀ s, s < 64 → i ∉ L s
    · exact (h.f i hi hf).lt
    · simp only [Classical.not_forall, Classical.not_not] at hf
      obtain ⟨s, hs, hm⟩ := hf
      exact h.l.lt (.inr ⟨s, hs, .inr (List.mem_map.2 ⟨i, hm, rfl⟩)⟩)
  · exact h.r.lt k hk
theorem LevA.blk (h : LevA vb hd nb ad cap V b L W) (hi : i < 12) : Blk W (nb i) := by
  by_cases hf : ∀ s, s < 64 → i ∉ L s
  · exact (h.f i hi hf).k
  · simp only [Classical.not_forall, Classical.not_not] at hf
    obtain ⟨s, hs, hm⟩ := hf
    exact h.l.blk (.inr ⟨s, hs, .inr (List.mem_map.2 ⟨i, hm, rfl⟩)⟩)
theorem LevA.value (h : LevA vb hd nb ad cap V b L W) (hi : i < 12) : W.cell? ⟨nb i, 0, none⟩ = some (.int .i64 (i : Nat)) := by
  rw [← h.v i hi]
  by_cases hf : ∀ s, s < 64 → i ∉ L s
  · exact (h.f i hi hf).v
  · simp only [Classical.not_forall, Classical.not_not] at hf
    obtain ⟨s, hs, hm⟩ := hf
    obtain ⟨j, -, hn⟩ := (h.l.l s hs).node (List.mem_map.2 ⟨i, hm, rfl⟩)
    exact hn.v
theorem LevA.rowN (h : LevA vb hd nb ad cap V b L W) {k : Nat} (hk : OwnS ad k) : ¬ LvB vb hd (fun s => (L s).map nb) k := fun e => by
  obtain ⟨h1, h2, h3⟩ := h.ra k hk
  rcases h.sub e with e | ⟨s, hs, e⟩ | ⟨i, hi, e⟩
  · exact h1 e
  · exact h2 s hs e
  · exact h3 i hi e
/-- nothing but the level's own block -/
theorem LevA.still (h : LevA vb hd nb ad cap V b L W) (h5 : IsLv w5 vb hd (fun s => (L s).map nb) V) (c5 : Ch (One vb) W w5) : LevA vb hd nb ad cap V b L w5 :=
  ⟨h5, fun i hi hf => (h.f i hi hf).kept c5 (h.nh i hi).1, h.lt, h.un, h.nd, h.ln, h.r.kept c5 (fun k hk => (h.ra k hk).1), h.v, h.inj, h.nh, h.ra⟩

theorem LevA.put (h : LevA vb hd nb ad cap V b L W) (hs : s < 64) (hi : i < 12) (hf : ∀ s, s < 64 → i ∉ L s) (hb : b ≤ 1000) :
    Calls Tryd.prog 10 #[.pointer (some ⟨vb, 0, none⟩), .int .i64 (s : Nat), .pointer (some ⟨nb i, 0, none⟩)] W fun e w' => e = .returned (.int .i64 0) ∧ LevA vb hd nb ad cap V (b + 1) (upd L s (L s ++ [i])) w' ∧ Ch (GB vb hd nb ad) W w' := by
  refine (vput_of h.l hs (h.f i hi hf) (h.free hi hf) (by rw [List.length_map]; have := h.ln s hs; omega)).mono ?_
  rintro e w' ⟨rfl, h5, c5⟩
  have e2 : (fun s => (L s).map nb) s ++ [nb i] = (L s ++ [i]).map nb := by simp
  rw [e2, upd_map] at h5
  have mem : ∀ t j, j ∈ upd L s (L s ++ [i]) t → j ∈ L t ∨ (j = i ∧ t = s) := by
    intro t j hj
    by_cases e : t = s
    · subst e; rw [upd_same] at hj; simp at hj; rcases hj with hj | hj
      · exact .inl hj
      · exact .inr ⟨hj, rfl⟩
    · rw [upd_other _ _ _ _ e] at hj; exact .inl hj
  have back : ∀ t j, j ∈ L t → j ∈ upd L s (L s ++ [i]) t := by
    intro t j hj
    by_cases e : t = s
    · subst e; rw [upd_same]; simp [hj]
    · rw [upd_other _ _ _ _ e]; exact hj
  refine ⟨rfl, ⟨h5, fun j hj hfj => ?_, fun t ht j hj => ?_, fun t t' j ht ht' hj hj' => ?_, fun t ht => ?_, fun t ht => ?_, ?_, h.v, h.inj, h.nh, h.ra⟩, c5.mono ?_⟩
  · have hji : j ≠ i := by rintro rfl; exact hfj s hs (by rw [upd_same]; simp)
    have hfj' : ∀ t, t < 64 → j ∉ L t := fun t ht e => hfj t ht (back t j e)
    refine (h.f j hj hfj').kept c5 ?_
    rintro (e | e)
    · exact h.free hj hfj' e
    · exact hji (h.inj j i hj hi e)
  · rcases mem t j hj with e | ⟨rfl, -⟩
    · exact h.lt t ht j e
    · exact hi
  · rcases mem t j hj with e | ⟨rfl, rfl⟩
    · rcases mem t' j hj' with e' | ⟨rfl, rfl⟩
      · exact h.un t t' j ht ht' e e'
      · exact absurd e (hf t ht)
    · rcases mem t' j hj' with e' | ⟨-, rfl⟩
      · exact absurd e' (hf t' ht')
      · rfl
  · by_cases e : t = s
    · subst e; rw [upd_same, List.nodup_append]
      refine ⟨h.nd t ht, by simp, fun x hx y hy => ?_⟩
      simp at hy; subst hy; rintro rfl; exact hf t ht hx
    · rw [upd_other _ _ _ _ e]; exact h.nd t ht
  · by_cases e : t = s
    · subst e; rw [upd_same]; have := h.ln t ht; simp; omega
    · rw [upd_other _ _ _ _ e]; have := h.ln t ht; omega
  · refine h.r.kept c5 fun k hk => ?_
    rintro (e | e)
    · exact h.rowN hk e
    · exact (h.ra k hk).2.2 i hi e
  · rintro k - (hk | rfl)
    · exact h.subG hk
    · exact .inr (.inr (.inl ⟨i, hi, rfl⟩))
theorem LevA.put_state (h : LevA vb hd nb ad cap V b L W) (hs : s < 64) {t : Nat} (ht : t < 64) (hm : i ∈ L t) :
    Calls Tryd.prog 10 #[.pointer (some ⟨vb, 0, none⟩), .int .i64 (s : Nat), .pointer (some ⟨nb i, 0, none⟩)] W fun e w' => e = .returned (.int .i64 7) ∧ LevA vb hd nb ad cap V b L w' ∧ Ch (GB vb hd nb ad) W w' := by
  obtain ⟨j, -, hn⟩ := (h.l.l t ht).node (List.mem_map.2 ⟨i, hm, rfl⟩)
  refine (vput_state h.l hs hn.l).mono ?_
  rintro e w' ⟨rfl, h5, c5⟩
  exact ⟨rfl, h.still h5 c5, c5.mono fun k _ e => .inl e⟩

/-- a slot's nodes become fewer: those that leave are free -/
theorem LevA.turn (h : LevA vb hd nb ad cap V b L W) (hs : s < 64) {ys : List Nat} (h5 : IsLv w5 vb hd (fun s' => (upd L s ys s').map nb) V) (c5 : Ch (LvB vb hd (fun s => (L s).map nb)) W w5) (hy : ∀ j, j ∈ ys → j ∈ L s) (hnd : ys.Nodup) (hl : ys.length ≤ (L s).length) (hf : ∀ j, j ∈ L s → j ∉ ys → IsN w5 (nb j) (V (nb j)) none none none) :
    LevA vb hd nb ad cap V b (upd L s ys) w5 := by
  have mem : ∀ t j, j ∈ upd L s ys t → j ∈ L t := by
    intro t j hj
    by_cases e : t = s
    · subst e; rw [upd_same] at hj; exact hy j hj
    · rw [upd_other _ _ _ _ e] at hj; exact hj
  refine ⟨h5, fun j hj hfj => ?_, fun t ht j hj => h.lt t ht j (mem t j hj), fun t t' j ht ht' hj hj' => h.un t t' j ht ht' (mem t j hj) (mem t' j hj'), fun t ht => ?_, fun t ht => ?_, h.r.kept c5 (fun k hk => h.rowN hk), h.v, h.inj, h.nh, h.ra⟩
  · by_cases hjs : j ∈ L s
    · exact hf j hjs (fun e => hfj s hs (by rw [upd_same]; exact e))
    · have hfj' : ∀ t, t < 64 → j ∉ L t := by
        intro t ht e
        by_cases et : t = s
        · subst et; exact hjs e
        · exact hfj t ht (by rw [upd_other _ _ _ _ et]; exact e)
      exact (h.f j hj hfj').kept c5 (h.free hj hfj')
  · by_cases e : t = s
    · subst e; rw [upd_same]; exact hnd
    · rw [upd_other _ _ _ _ e]; exact h.nd t ht
  · by_cases e : t = s
    · subst e; rw [upd_same]; have := h.ln t ht; omega
    · rw [upd_other _ _ _ _ e]; exact h.ln t ht
theorem LevA.rem (h : LevA vb hd nb ad cap V b L W) (hs : s < 64) (hm : i ∈ L s) (hb : b ≤ 1000) :
    Calls Tryd.prog 12 #[.pointer (some ⟨vb, 0, none⟩), .int .i64 (s : Nat), .pointer (some ⟨nb i, 0, none⟩)] W fun e w' => e = .returned (.int .i64 0) ∧ LevA vb hd nb ad cap V b (upd L s ((L s).filter (· != i))) w' ∧ Ch (GB vb hd nb ad) W w' := by
  obtain ⟨j, hj⟩ := List.mem_iff_getElem?.1 hm
  have hj' : ((fun s => (L s).map nb) s)[j]? = some (nb i) := by simp [hj]
  refine (vrem_of h.l hs hj' (by rw [List.length_map]; have := h.ln s hs; omega)).mono ?_
  rintro e w' ⟨rfl, h5, n5, c5⟩
  have e2 : ((fun s => (L s).map nb) s).eraseIdx j = ((L s).filter (· != i)).map nb := by
    rw [← erase_filter (h.nd s hs) hj, eraseIdx_map]
  rw [e2, upd_map] at h5
  refine ⟨rfl, h.turn hs h5 c5 (fun k hk => (List.mem_filter.1 hk).1) ((h.nd s hs).sublist List.filter_sublist) (List.length_filter_le _ _) (fun k hk hk' => ?_), c5.mono fun k _ e => h.subG e⟩
  have : k = i := by
    by_cases e : k = i
    · exact e
    · exact absurd (List.mem_filter.2 ⟨hk, by simpa using e⟩) hk'
  subst this; exact n5
theorem LevA.rem_none (h : LevA vb hd nb ad cap V b L W) (hs : s < 64) (hi : i < 12) (hm : i ∉ L s) :
    Calls Tryd.prog 12 #[.pointer (some ⟨vb, 0, none⟩), .int .i64 (s : Nat), .pointer (some ⟨nb i, 0, none⟩)] W fun e w' => e = .returned (.int .i64 6) ∧ LevA vb hd nb ad cap V b L w' ∧ Ch (GB vb hd nb ad) W w' := by
  have hc : ∃ lp, W.cell? ⟨nb i, 1, none⟩ = some (pt lp) ∧ (∀ x, lp = some x → Blk W x) ∧ lp ≠ some (hd s) := by
    by_cases hf : ∀ s, s < 64 → i ∉ L s
    · exact ⟨none, (h.f i hi hf).l, fun x e => (by cases e), by simp⟩
    · simp only [Classical.not_forall, Classical.not_not] at hf
      obtain ⟨t, ht, hm'⟩ := hf
      have hne : t ≠ s := fun e => hm (e ▸ hm')
      obtain ⟨j, -, hn⟩ := (h.l.l t ht).node (List.mem_map.2 ⟨i, hm', rfl⟩)
      refine ⟨some (hd t), hn.l, fun x e => (by cases e; exact (h.l.l t ht).h.k), fun e => ?_⟩
      simp only [Option.some.injEq] at e
      exact h.l.d t s ht hs hne (hd t) (.inl rfl) (.inl e)
  obtain ⟨lp, hc1, hc2, hc3⟩ := hc
  refine (vrem_none h.l hs hc1 hc2 hc3).mono ?_
  rintro e w' ⟨rfl, h5, c5⟩
  exact ⟨rfl, h.still h5 c5, c5.mono fun k _ e => .inl e⟩
theorem LevA.take (h : LevA vb hd nb ad cap V b L W) (hs : s < 64) (hb : b ≤ 1000) :
    Calls Tryd.prog 13 #[.pointer (some ⟨vb, 0, none⟩), .int .i64 (s : Nat)] W fun e w' => ∃ a cp, e = .returned (.slice a (L s).length cp) ∧ RowP w' a (L s).length cp ((L s).map nb) ∧ (∀ g, OwnS a g → W.heap.size ≤ g) ∧ LevA vb hd nb ad cap V b (upd L s []) w' ∧ Ch (GB vb hd nb ad) W w' := by
  refine (vtake_of h.l hs (by rw [List.length_map]; have := h.ln s hs; omega)).mono ?_
  rintro e w' ⟨a, cp, rfl, r5, g5, h5, n5, c5⟩
  have e2 : ([] : List Nat) = ([] : List Nat).map nb := rfl
  rw [e2, upd_map] at h5
  rw [List.length_map] at r5 ⊢
  refine ⟨a, cp, rfl, r5, g5, h.turn hs h5 c5 (fun k hk => by cases hk) (by simp) (by simp) (fun k hk _ => n5 _ (List.mem_map.2 ⟨k, hk, rfl⟩)), c5.mono fun k _ e => h.subG e⟩
theorem LevA.at (h : LevA vb hd nb ad cap V b L W) (hs : s < 64) (hb : b ≤ 1000) :
    Calls Tryd.prog 18 #[.pointer (some ⟨vb, 0, none⟩), .int .i64 (s : Nat)] W fun e w' => ∃ a cp, e = .returned (.slice a (L s).length cp) ∧ RowI w' a (L s).length cp (numR (L s)) ∧ (∀ g, OwnS a g → W.heap.size ≤ g) ∧ Ch Nil W w' := by
  refine (vat_of h.l hs (by rw [List.length_map]; have := h.ln s hs; omega)).mono ?_
  rintro e w' ⟨a, cp, rfl, r5, g5, c5⟩
  rw [List.length_map] at r5 ⊢
  refine ⟨a, cp, rfl, (RowE.ints r5).congr _ fun j hj => ?_, g5, c5⟩
  have e1 : ((L s).map nb).getD j 0 = nb ((L s).getD j 0) := by
    rw [List.getD_eq_getElem?_getD, List.getD_eq_getElem?_getD, List.getElem?_map, List.getElem?_eq_getElem hj]; rfl
  have e2 : (L s).getD j 0 < 12 := by
    refine h.lt s hs _ ?_
    rw [List.getD_eq_getElem?_getD, List.getElem?_eq_getElem hj]; exact List.getElem_mem hj
  simp only [numR]
  rw [e1, h.v _ e2]
theorem LevA.map (h : LevA vb hd nb ad cap V b L W) :
    Calls Tryd.prog 16 #[.pointer (some ⟨vb, 0, none⟩)] W fun e w' => e = .returned (.int .u64 (mapX L : Nat)) ∧ W = w' := by
  have e : mapX (fun s => (L s).map nb) = mapX L := mapUpto_congr 64 (fun i _ => by simp)
  have := map_of h.l
  rwa [e] at this
theorem LevA.len (h : LevA vb hd nb ad cap V b L W) (T : Tab W) (hb : b ≤ 1000) :
    Calls Tryd.prog 17 #[.pointer (some ⟨vb, 0, none⟩)] W fun e w' => e = .returned (.int .i64 (totX L : Nat)) ∧ Ch Nil W w' := by
  have e : totX (fun s => (L s).map nb) = totX L := totUpto_congr 64 (fun i _ => by simp)
  have := vlen_of h.l T (fun i hi => by rw [List.length_map]; have := h.ln i hi; omega)
  rwa [e] at this
end

/-- the level and the document's, side by side: the one has L, the other L' -/
structure Duo (w : World) (vb : Nat) (hd nb : Nat → Nat) (ad : Option Addr) (cap : Nat) (V : Nat → Int) (rb b : Nat) (L L' : Nat → List Nat) (R : Nat → Prop) (ra : Nat → Option Addr) (rc : Nat → Nat) (W : World) : Prop where
  a : LevA vb hd nb ad cap V b L W
  r : RefV W R rb L' ra rc
  ap : ∀ j, R j → ¬ GB vb hd nb ad j
  hi : ∀ j, GB vb hd nb ad j → w.heap.size ≤ j
  hr : ∀ j, R j → w.heap.size ≤ j
  c : Ch Nil w W
/-- and the act's own block -/
structure DuoT (w : World) (vb : Nat) (hd nb : Nat → Nat) (ad : Option Addr) (cap : Nat) (V : Nat → Int) (rb b tb : Nat) (T : Nat → Int) (L L' : Nat → List Nat) (R : Nat → Prop) (ra : Nat → Option Addr) (rc : Nat → Nat) (W : World) : Prop where
  d : Duo w vb hd nb ad cap V rb b L L' R ra rc W
  t : ∀ j, j < 3 → W.cell? ⟨tb, j, none⟩ = some (.int .i64 (T j))
  tg : ¬ GB vb hd nb ad tb
  tr : ¬ R tb
section
variable {w W w5 : World} {vb b b' rb tb cap : Nat} {hd nb : Nat → Nat} {ad : Option Addr} {V T : Nat → Int} {L L' L2 : Nat → List Nat} {R R5 : Nat → Prop} {ra ra5 : Nat → Option Addr} {rc rc5 : Nat → Nat}
theorem Duo.nil (h : Duo w vb hd nb ad cap V rb b L L' R ra rc W) (c5 : Ch Nil W w5) : Duo w vb hd nb ad cap V rb b L L' R ra rc w5 :=
  ⟨h.a.kept c5 (fun _ _ e => e), h.r.kept c5 (fun _ _ e => e), h.ap, h.hi, h.hr, h.c.trans c5⟩
theorem Duo.act (h : Duo w vb hd nb ad cap V rb b L L' R ra rc W) (y0 y1 y2 : Int) (ty : TypeId) : DuoT w vb hd nb ad cap V rb b W.heap.size (fun j => [y0, y1, y2].getD j 0) L L' R ra rc (W.alloc (.cells #[.int .i64 y0, .int .i64 y1, .int .i64 y2] ty)) := by
  refine ⟨h.nil ((Ch.refl _ _).alloc _), fun j hj => ?_, fun e => by have := h.a.lo e; omega, fun e => by have := h.r.lt _ e; omega⟩
  rw [cell_fresh]
  match j, hj with
  | 0, _ => rfl
  | 1, _ => rfl
  | 2, _ => rfl
theorem DuoT.nil (h : DuoT w vb hd nb ad cap V rb b tb T L L' R ra rc W) (c5 : Ch Nil W w5) : DuoT w vb hd nb ad cap V rb b tb T L L' R ra rc w5 :=
  ⟨h.d.nil c5, fun j hj => c5.keeps (h.t j hj) (fun e => e), h.tg, h.tr⟩
/-- the level turned -/
theorem DuoT.lev (h : DuoT w vb hd nb ad cap V rb b tb T L L' R ra rc W) (a5 : LevA vb hd nb ad cap V b' L2 w5) (c5 : Ch (GB vb hd nb ad) W w5) : DuoT w vb hd nb ad cap V rb b' tb T L2 L' R ra rc w5 :=
  ⟨⟨a5, h.d.r.kept c5 h.d.ap, h.d.ap, h.d.hi, h.d.hr, h.d.c.up c5 h.d.hi⟩, fun j hj => c5.keeps (h.t j hj) h.tg, h.tg, h.tr⟩
/-- the document's turned -/
theorem DuoT.ref (h : DuoT w vb hd nb ad cap V rb b tb T L L' R ra rc W) (r5 : RefV w5 R5 rb L2 ra5 rc5) (hR : ∀ j, R5 j → R j ∨ W.heap.size ≤ j) (c5 : Ch R W w5) : DuoT w vb hd nb ad cap V rb b tb T L L2 R5 ra5 rc5 w5 := by
  have hw := h.d.c.size
  have tl := lt_of_cell (h.t 0 (by omega))
  refine ⟨⟨h.d.a.kept c5 (fun k hk e => h.d.ap k e hk), r5, fun j hj e => ?_, h.d.hi, fun j hj => ?_, h.d.c.up c5 h.d.hr⟩, fun j hj => c5.keeps (h.t j hj) h.tr, h.tg, fun e => ?_⟩
  · rcases hR j hj with e' | e'
    · exact h.d.ap j e' e
    · have := h.d.a.lo e; omega
  · rcases hR j hj with e' | e'
    · exact h.d.hr j e'
    · omega
  · rcases hR tb e with e' | e'
    · exact h.tr e'
    · simp only at tl; omega
theorem DuoT.more (h : DuoT w vb hd nb ad cap V rb b tb T L L' R ra rc W) : DuoT w vb hd nb ad cap V rb (b + 1) tb T L L' R ra rc W :=
  ⟨⟨h.d.a.more, h.d.r, h.d.ap, h.d.hi, h.d.hr, h.d.c⟩, h.t, h.tg, h.tr⟩
end
end Go.Proofs.YtgaakhiapgmnbaaDoor
