import Derived.Test.YtldnmpiaofppgaaDoorK02
import Derived.Test.YtldnmpiaofppgaaDoorK01
import Derived.Test.YtldnmpiaofppgaaDoorK03
/-
  Plain facts: the map of a row of lists, a bit for each that is not empty; how many they hold together.
-/
namespace Verge
set_option linter.unusedVariables false

/-- a bit for each of the first n lists that is not empty -/
def mapUpto (X : Nat → List Nat) : Nat → Nat
  | 0 => 0
  | n + 1 => if X n = [] then mapUpto X n else withN (mapUpto X n) n
abbrev mapX (X : Nat → List Nat) : Nat := mapUpto X 64
/-- how many the first n lists hold -/
def totUpto (X : Nat → List Nat) : Nat → Nat
  | 0 => 0
  | n + 1 => totUpto X n + (X n).length
abbrev totX (X : Nat → List Nat) : Nat := totUpto X 64
section
variable {X Y : Nat → List Nat}
theorem mapUpto_lt : ∀ n, n ≤ 64 → mapUpto X n < 2 ^ n
  | 0, _ => by simp [mapUpto]
  | n + 1, h => by
    have ih := mapUpto_lt n (by omega)
    have h2 : 2 ^ n < 2 ^ (n + 1) := Nat.pow_lt_pow_right (by decide) (by omega)
    unfold mapUpto
    split
    · omega
    · unfold withN
      refine Nat.or_lt_two_pow (by omega) ?_
      rw [bitN_at n (by omega)]
      exact h2
theorem mapX_lt : mapX X < 18446744073709551616 := mapUpto_lt 64 (Nat.le_refl _)
theorem mapUpto_test : ∀ n, n ≤ 64 → ∀ i, i < 64 → (mapUpto X n).testBit i = (decide (i < n) && decide (X i ≠ []))
  | 0, _, i, hi => by simp [mapUpto]
  | n + 1, h, i, hi => by
    have ih := mapUpto_test n (by omega) i hi
    unfold mapUpto
    split
    · rename_i hx
      rw [ih]
      by_cases e : i = n
      · subst e; simp [hx]
      · by_cases hl : i < n
        · simp [hl, show i < n + 1 by omega]
        · simp [hl, show ¬ i < n + 1 by omega]
    · rename_i hx
      rw [withN_test, ih]
      have h64 : (0 : Int) ≤ (n : Int) ∧ (n : Int) < 64 := ⟨by omega, by omega⟩
      by_cases e : i = n
      · subst e; simp [hx, h64]
      · by_cases hl : i < n
        · simp [hl, show i < n + 1 by omega, show ¬ n = i by omega]
        · simp [hl, show ¬ i < n + 1 by omega, show ¬ n = i by omega]
theorem mapX_test {i : Nat} (hi : i < 64) : (mapX X).testBit i = decide (X i ≠ []) := by
  rw [mapUpto_test 64 (Nat.le_refl _) i hi]; simp [hi]
theorem mapX_has {s : Nat} (hs : s < 64) : hasN (mapX X) s = decide (X s ≠ []) := by
  unfold hasN
  have h64 : (0 : Int) ≤ (s : Int) ∧ (s : Int) < 64 := ⟨by omega, by omega⟩
  simp only [h64, and_self, decide_true, Bool.true_and, Int.toNat_natCast]
  exact mapX_test hs
/-- the map set right at one slot -/
def markN (X : Nat → List Nat) (m s : Nat) : Nat := if X s = [] then woN m s else withN m s
theorem markN_mapX {s : Nat} (hs : s < 64) (h : ∀ i, i < 64 → i ≠ s → X i = Y i) : markN Y (mapX X) s = mapX Y := by
  have h64 : (0 : Int) ≤ (s : Int) ∧ (s : Int) < 64 := ⟨by omega, by omega⟩
  unfold markN
  split
  · rename_i hy
    refine eq_of_test _ _ (woN_lt _ _ mapX_lt) mapX_lt fun i hi => ?_
    rw [woN_test _ _ i hi, mapX_test hi, mapX_test hi]
    by_cases e : s = i
    · subst e; simp [h64, hy]
    · simp [e, h i hi (fun e' => e e'.symm)]
  · rename_i hy
    refine eq_of_test _ _ (withN_lt _ _ mapX_lt) mapX_lt fun i hi => ?_
    rw [withN_test, mapX_test hi, mapX_test hi]
    by_cases e : s = i
    · subst e; simp [h64, hy]
    · simp [e, h i hi (fun e' => e e'.symm)]
theorem markN_lt {m s : Nat} (hm : m < 18446744073709551616) : markN X m s < 18446744073709551616 := by
  unfold markN; split
  · exact woN_lt _ _ hm
  · exact withN_lt _ _ hm
theorem mapX_empty (h : ∀ i, i < 64 → X i = []) : mapX X = 0 := by
  refine eq_of_test _ _ mapX_lt (by decide) fun i hi => ?_
  rw [mapX_test hi]; simp [h i hi]
theorem mapUpto_congr : ∀ n, (∀ i, i < n → (X i = [] ↔ Y i = [])) → mapUpto X n = mapUpto Y n
  | 0, _ => rfl
  | n + 1, h => by
    unfold mapUpto
    have ih := mapUpto_congr n (fun i hi => h i (by omega))
    have hn := h n (by omega)
    rw [ih]
    by_cases hx : X n = []
    · rw [if_pos hx, if_pos (hn.1 hx)]
    · rw [if_neg hx, if_neg (fun e => hx (hn.2 e))]
theorem totUpto_congr : ∀ n, (∀ i, i < n → (X i).length = (Y i).length) → totUpto X n = totUpto Y n
  | 0, _ => rfl
  | n + 1, h => by unfold totUpto; rw [totUpto_congr n (fun i hi => h i (by omega)), h n (by omega)]
theorem totX_empty (h : ∀ i, i < 64 → X i = []) : totX X = 0 := by
  exact (totUpto_congr (Y := fun _ => []) 64 (fun i hi => by rw [h i hi])).trans (by decide)
theorem totUpto_le {b : Nat} : ∀ n, (∀ i, i < n → (X i).length ≤ b) → totUpto X n ≤ n * b
  | 0, _ => by simp [totUpto]
  | n + 1, h => by
    have := totUpto_le n (fun i hi => h i (by omega))
    have := h n (by omega)
    unfold totUpto
    rw [Nat.add_mul]; omega

/-- the sum over the slots of the map is the sum over all -/
theorem filter_sum (f : Nat → Nat) (p : Nat → Bool) (xs : List Nat) (h : ∀ x, x ∈ xs → p x = false → f x = 0) : ((xs.filter p).map f).sum = (xs.map f).sum := by
  induction xs with
  | nil => rfl
  | cons x t ih =>
    have iht := ih (fun y hy => h y (List.mem_cons_of_mem _ hy))
    rw [List.filter_cons]
    cases hp : p x
    · simp [iht, h x (List.mem_cons_self ..) hp]
    · simp [iht]
theorem tot_range : ∀ n, ((List.range n).map fun i => (X i).length).sum = totUpto X n
  | 0 => rfl
  | n + 1 => by rw [List.range_succ, List.map_append, List.sum_append, tot_range n]; simp [totUpto]
theorem slots_sum : ((slots (mapX X)).map fun i => (X i).length).sum = totX X := by
  unfold slots
  rw [filter_sum, tot_range]
  intro x hx hp
  rw [mapX_test (List.mem_range.1 hx)] at hp
  simpa using hp
/-- the sum over the first k slots of the map -/
def partX (X : Nat → List Nat) (k : Nat) : Nat := (((slots (mapX X)).take k).map fun i => (X i).length).sum
theorem partX_zero : partX X 0 = 0 := by simp [partX]
theorem partX_succ {k : Nat} (h : k < (slots (mapX X)).length) : partX X (k + 1) = partX X k + (X (slotAt (mapX X) k)).length := by
  unfold partX
  rw [List.take_add_one, slotAt_get _ _ h]
  simp
theorem partX_all : partX X (slots (mapX X)).length = totX X := by
  unfold partX; rw [List.take_length, slots_sum]
theorem sum_le {b : Nat} : ∀ (l : List Nat), (∀ x, x ∈ l → x ≤ b) → l.sum ≤ l.length * b
  | [], _ => by simp
  | x :: t, h => by
    have h1 := h x (List.mem_cons_self ..)
    have h2 := sum_le t (fun y hy => h y (List.mem_cons_of_mem _ hy))
    simp [Nat.add_mul]; omega
theorem partX_le {b k : Nat} (h : ∀ i, i < 64 → (X i).length ≤ b) : partX X k ≤ 64 * b := by
  unfold partX
  refine Nat.le_trans (sum_le (b := b) _ ?_) ?_
  · intro x hx
    obtain ⟨i, hi, rfl⟩ := List.mem_map.1 hx
    exact h i ((mem_slots _ _).1 (List.mem_of_mem_take hi)).1
  · refine Nat.mul_le_mul_right b ?_
    rw [List.length_map, List.length_take]
    exact Nat.le_trans (Nat.min_le_right ..) (slots_le _)
end
end Verge

/-
  What turned, told upwards: small laws for several objects side by side.
-/
namespace Go.Proofs.YtldnmpiaofppgaaDoor
open Go.RowKit
set_option linter.unusedVariables false
theorem Ch.up {S : Nat → Prop} {a b c : World} (h : Ch Nil a b) (k : Ch S b c) (hs : ∀ i, S i → a.heap.size ≤ i) : Ch Nil a c :=
  h.then k fun i hi e => by have := hs i e; omega
end Go.Proofs.YtldnmpiaofppgaaDoor

/-
  A level in memory: its block (64 pointers, the map), its lists; what stands though other blocks turn; one list turned.
-/
namespace Go.Proofs.YtldnmpiaofppgaaDoor.LT
open Go.RowKit Verge
set_option linter.unusedVariables false


/-- a level in block vb: the heads of its lists, their nodes, what these hold; its map's number -/
structure IsV (w : World) (vb : Nat) (hd : Nat → Nat) (X : Nat → List Nat) (V : Nat → Nat) (m : Nat) : Prop where
  s : ∀ i, i < 64 → w.cell? ⟨vb, i, none⟩ = some (.pointer (some ⟨hd i, 0, none⟩))
  m : w.cell? ⟨vb, 64, none⟩ = some (.int .u64 (m : Nat))
  k : Blk w vb
  l : ∀ i, i < 64 → IsL w (hd i) (X i) V
  d : ∀ i j, i < 64 → j < 64 → i ≠ j → ∀ k, LB (hd i) (X i) k → ¬ LB (hd j) (X j) k
  nv : ∀ i, i < 64 → ¬ LB (hd i) (X i) vb
/-- and the map is right -/
abbrev IsLv (w : World) (vb : Nat) (hd : Nat → Nat) (X : Nat → List Nat) (V : Nat → Nat) : Prop := IsV w vb hd X V (mapX X)
/-- the blocks of a level -/
def LvB (vb : Nat) (hd : Nat → Nat) (X : Nat → List Nat) : Nat → Prop := fun k => k = vb ∨ ∃ i, i < 64 ∧ LB (hd i) (X i) k
section
variable {S : Nat → Prop} {w w' : World} {vb m b s : Nat} {hd : Nat → Nat} {X : Nat → List Nat} {V : Nat → Nat}
theorem IsV.blk (h : IsV w vb hd X V m) {k : Nat} (hk : LvB vb hd X k) : Blk w k := by
  rcases hk with rfl | ⟨i, hi, hk⟩
  · exact h.k
  · exact (h.l i hi).blk hk
theorem IsV.lt (h : IsV w vb hd X V m) {k : Nat} (hk : LvB vb hd X k) : k < w.heap.size := (h.blk hk).lt
theorem IsV.kept (h : IsV w vb hd X V m) (c : Ch S w w') (hn : ∀ k, LvB vb hd X k → ¬ S k) : IsV w' vb hd X V m :=
  ⟨fun i hi => c.keeps (h.s i hi) (hn _ (.inl rfl)), c.keeps h.m (hn _ (.inl rfl)), h.k.kept c (hn _ (.inl rfl)), fun i hi => (h.l i hi).kept c (fun k hk => hn k (.inr ⟨i, hi, hk⟩)), h.d, h.nv⟩
theorem IsV.congr (h : IsV w vb hd X V m) (V' : Nat → Nat) (hV : ∀ i b, i < 64 → b ∈ X i → V' b = V b) : IsV w vb hd X V' m :=
  ⟨h.s, h.m, h.k, fun i hi => (h.l i hi).congr V' (fun b hb => hV i b hi hb), h.d, h.nv⟩
theorem IsV.mem (h : IsV w vb hd X V m) {i : Nat} (hi : i < 64) {b : Nat} (hb : b ∈ X i) : LvB vb hd X b := .inr ⟨i, hi, .inr hb⟩
/-- the map set, and nothing else -/
theorem IsV.setm (h : IsV w vb hd X V m) (m' : Nat) : IsV (w.setCell ⟨vb, 64, none⟩ (.int .u64 (m' : Nat))) vb hd X V m' := by
  have c : Ch (One vb) w (w.setCell ⟨vb, 64, none⟩ (.int .u64 (m' : Nat))) := (Ch.refl _ _).setB 64 _
  exact ⟨fun i hi => (cell_ne (by omega) _).trans (h.s i hi), World.cell?_setCell_same _ _ _ h.m, h.k.set _ _, fun i hi => (h.l i hi).kept c (fun k hk e => h.nv i hi (e ▸ hk)), h.d, h.nv⟩
/-- what a list's turning may touch: its own blocks, and blocks that are no block of the level -/
theorem IsV.turned (h : IsV w vb hd X V m) (hs : s < 64) {ys : List Nat} {P : Nat → Prop} (c : Ch (fun k => LB (hd s) (X s) k ∨ P k) w w') (hP : ∀ k, P k → ¬ LvB vb hd X k) (hl : IsL w' (hd s) ys V) (hy : ∀ b, b ∈ ys → b ∈ X s ∨ P b) :
    IsV w' vb hd (upd X s ys) V m := by
  have nvb : ¬ (LB (hd s) (X s) vb ∨ P vb) := by
    rintro (e | e)
    · exact h.nv s hs e
    · exact hP _ e (.inl rfl)
  have sub : ∀ k, LB (hd s) ys k → LB (hd s) (X s) k ∨ P k := by
    rintro k (rfl | hk)
    · exact .inl (.inl rfl)
    · rcases hy k hk with hk | hk
      · exact .inl (.inr hk)
      · exact .inr hk
  have apart : ∀ j, j < 64 → j ≠ s → ∀ k, LB (hd j) (X j) k → ¬ (LB (hd s) (X s) k ∨ P k) := by
    rintro j hj hne k hk (e | e)
    · exact h.d j s hj hs hne k hk e
    · exact hP k e (.inr ⟨j, hj, hk⟩)
  refine ⟨fun i hi => c.keeps (h.s i hi) nvb, c.keeps h.m nvb, h.k.kept c nvb, fun i hi => ?_, fun i j hi hj hne k hk hk' => ?_, fun i hi e => ?_⟩
  · by_cases e : i = s
    · subst e; rw [upd_same]; exact hl
    · rw [upd_other _ _ _ _ e]; exact (h.l i hi).kept c (apart i hi e)
  · by_cases ei : i = s
    · subst ei
      rw [upd_same] at hk
      rw [upd_other _ _ _ _ (fun e => hne e.symm)] at hk'
      exact apart j hj (fun e => hne e.symm) k hk' (sub k hk)
    · rw [upd_other _ _ _ _ ei] at hk
      by_cases ej : j = s
      · subst ej; rw [upd_same] at hk'; exact apart i hi ei k hk (sub k hk')
      · rw [upd_other _ _ _ _ ej] at hk'; exact h.d i j hi hj hne k hk hk'
  · by_cases ei : i = s
    · subst ei; rw [upd_same] at e; exact nvb (sub vb e)
    · rw [upd_other _ _ _ _ ei] at e; exact h.nv i hi e
theorem upd_self {α : Type} (f : Nat → α) (i : Nat) : upd f i (f i) = f := by
  funext j; by_cases e : j = i
  · subst e; rw [upd_same]
  · rw [upd_other _ _ _ _ e]
/-- the blocks of a level one of whose lists has turned -/
theorem LvB.upd {ys : List Nat} {P : Nat → Prop} (hs : s < 64) (hy : ∀ b, b ∈ ys → b ∈ X s ∨ P b) {k : Nat} (hk : LvB vb hd (upd X s ys) k) : LvB vb hd X k ∨ P k := by
  rcases hk with rfl | ⟨i, hi, hk⟩
  · exact .inl (.inl rfl)
  · by_cases e : i = s
    · subst e
      rw [upd_same] at hk
      rcases hk with rfl | hk
      · exact .inl (.inr ⟨i, hi, .inl rfl⟩)
      · rcases hy k hk with hk | hk
        · exact .inl (.inr ⟨i, hi, .inr hk⟩)
        · exact .inr hk
    · rw [upd_other _ _ _ _ e] at hk; exact .inl (.inr ⟨i, hi, hk⟩)
end
end Go.Proofs.YtldnmpiaofppgaaDoor.LT

/-
  Contracts of package level's row, mark, Map: a slot's list, the map set right.
-/
namespace Go.Proofs.YtldnmpiaofppgaaDoor.LT
open Go.RowKit Verge
attribute [local go_sem] Oper.semAt_some
set_option linter.unusedVariables false
set_option linter.unusedSimpArgs false
section
variable {S : Nat → Prop} {w w' : World} {vb m b s : Nat} {hd : Nat → Nat} {X : Nat → List Nat} {V : Nat → Nat}
theorem row_of (h : IsV w vb hd X V m) (hs : s < 64) :
    Calls Tryd.prog 96 #[.pointer (some ⟨vb, 0, none⟩), .int .i64 (s : Nat)] w fun e w' => e = .returned (.tuple #[.pointer (some ⟨hd s, 0, none⟩), .int .i64 0]) ∧ w = w' := by
  have c1 := h.s s hs
  have hz : (s : Int) < 64 := by omega
  have hz0 : (0 : Int) ≤ (s : Int) := by omega
  clear h
  go_enter Tryd.func96, Tryd.ntmps96
  go_wp2
  go_ret2
  exact ⟨rfl, rfl⟩
theorem row_range (vb : Nat) (z : Int) (hz : z < 0 ∨ 64 ≤ z) (w : World) :
    Calls Tryd.prog 96 #[.pointer (some ⟨vb, 0, none⟩), .int .i64 z] w fun e w' => e = .returned (.tuple #[.pointer none, .int .i64 4]) ∧ w = w' := by
  by_cases h0 : z < 0
  · clear hz
    go_enter Tryd.func96, Tryd.ntmps96
    go_wp2
    go_ret2
    exact ⟨rfl, rfl⟩
  · have h1 : 64 ≤ z := by omega
    have h2 : 0 ≤ z := by omega
    clear hz
    go_enter Tryd.func96, Tryd.ntmps96
    go_wp2
    go_ret2
    exact ⟨rfl, rfl⟩
theorem row_nil (z : Int) (w : World) :
    Calls Tryd.prog 96 #[.pointer none, .int .i64 z] w fun e w' => e = .returned (.tuple #[.pointer none, .int .i64 6]) ∧ w = w' := by
  go_enter Tryd.func96, Tryd.ntmps96
  go_wp2
  go_ret2
  exact ⟨rfl, rfl⟩
theorem map_of (h : IsV w vb hd X V m) :
    Calls Tryd.prog 88 #[.pointer (some ⟨vb, 0, none⟩)] w fun e w' => e = .returned (.int .u64 (m : Nat)) ∧ w = w' := by
  have c1 := h.m
  clear h
  go_enter Tryd.func88, Tryd.ntmps88
  go_wp2
  go_ret
  exact ⟨rfl, rfl⟩
theorem map_nil (w : World) :
    Calls Tryd.prog 88 #[.pointer none] w fun e w' => e = .returned (.int .u64 0) ∧ w = w' := by
  go_enter Tryd.func88, Tryd.ntmps88
  go_wp2
  go_ret
  exact ⟨rfl, rfl⟩

theorem mark_of (h : IsV w vb hd X V m) (hs : s < 64) (hm : m < 18446744073709551616) :
    Calls Tryd.prog 97 #[.pointer (some ⟨vb, 0, none⟩), .int .i64 (s : Nat)] w fun e w' => (∃ r, e = .returned r) ∧ IsV w' vb hd X V (markN X m s) ∧ Ch (One vb) w w' := by
  have c1 := h.s s hs
  have c2 := h.m
  have f1 := h.k.fz 64
  have hz : (s : Int) < 64 := by omega
  have hz0 : (0 : Int) ≤ (s : Int) := by omega
  have HL := Lib.hid (len_of (hd s) _ w (h.l s hs).h.n)
  have H := Lib.hid h
  clear h
  by_cases hx : X s = []
  · have e : markN X m s = woN m s := by unfold markN; rw [if_pos hx]
    rw [e]
    rw [hx] at HL
    have HX := Lib.hid hx
    clear hx e
    go_enter Tryd.func97, Tryd.ntmps97
    go_wp2_with fail
    refine HL.out.mono ?_
    rintro e w' ⟨rfl, rfl⟩
    go_wp2_with fail
    refine (without_any m s hm _).mono ?_
    rintro e w' ⟨rfl, rfl⟩
    go_wp2
    go_end0
    exact ⟨⟨_, rfl⟩, H.out.setm _, (Ch.refl _ _).setB 64 _⟩
  · have e : markN X m s = withN m s := by unfold markN; rw [if_neg hx]
    rw [e]
    obtain ⟨n, hn⟩ : ∃ n, n = (X s).length := ⟨_, rfl⟩
    have hpos : (0 : Int) < (n : Int) := by have := List.length_pos_iff.2 hx; omega
    rw [← hn] at HL
    have HX := Lib.hid hx
    clear hx e hn
    go_enter Tryd.func97, Tryd.ntmps97
    go_wp2_with fail
    refine HL.out.mono ?_
    rintro e w' ⟨rfl, rfl⟩
    go_wp2_with fail
    refine (with_any m s hm _).mono ?_
    rintro e w' ⟨rfl, rfl⟩
    go_wp2
    go_end0
    exact ⟨⟨_, rfl⟩, H.out.setm _, (Ch.refl _ _).setB 64 _⟩
end
end Go.Proofs.YtldnmpiaofppgaaDoor.LT

/-
  Contracts of package level's Put, Remove, At, Len.
-/
namespace Go.Proofs.YtldnmpiaofppgaaDoor.LT
open Go.RowKit Verge
attribute [local go_sem] Oper.semAt_some
set_option linter.unusedVariables false
set_option linter.unusedSimpArgs false
section
variable {S : Nat → Prop} {w w' : World} {vb m b s : Nat} {hd : Nat → Nat} {X : Nat → List Nat} {V : Nat → Nat}

theorem vput_of (h : IsLv w vb hd X V) (hs : s < 64) (hb : IsN w b (V b) none none none) (hx : ¬ LvB vb hd X b) (hl : (X s).length ≤ 1000000) :
    Calls Tryd.prog 81 #[.pointer (some ⟨vb, 0, none⟩), .int .i64 (s : Nat), .pointer (some ⟨b, 0, none⟩)] w fun e w' => e = .returned (.int .i64 0) ∧ IsLv w' vb hd (upd X s (X s ++ [b])) V ∧ Ch (fun k => LvB vb hd X k ∨ k = b) w w' := by
  have HR := Lib.hid (row_of h hs)
  have hbs : b ∉ X s := fun e => hx (.inr ⟨s, hs, .inr e⟩)
  have hbh : b ≠ hd s := fun e => hx (.inr ⟨s, hs, .inl e⟩)
  have HP := Lib.hid ((h.l s hs).put hb hbs hbh hl)
  have H := Lib.hid h
  have HX := Lib.hid hx
  clear h hb hx hbs hbh
  go_enter Tryd.func81, Tryd.ntmps81
  go_wp2_with fail
  refine HR.out.mono ?_
  rintro e w1 ⟨rfl, rfl⟩
  go_wp2_with fail
  refine HP.out.mono ?_
  rintro e w2 ⟨rfl, h2, c2⟩
  have t2 : IsV w2 vb hd (upd X s (X s ++ [b])) V (mapX X) := H.out.turned (P := One b) hs c2 (fun k e => e ▸ HX.out) h2 (fun k hk => by simpa using hk)
  have T2 := Lib.hid t2
  have C2 := Lib.hid c2
  clear h2 t2 c2
  go_wp2_with fail
  refine (mark_of T2.out hs mapX_lt).mono ?_
  rintro e w3 ⟨⟨r, rfl⟩, h3, c3⟩
  rw [markN_mapX hs (fun i hi hne => (upd_other _ _ _ _ hne).symm)] at h3
  have H3 := Lib.hid h3
  have C3 := Lib.hid c3
  clear h3 c3
  go_wp2
  go_ret
  refine ⟨rfl, H3.out, (C2.out.mono ?_).then C3.out ?_⟩
  · rintro k - (hk | hk)
    · exact .inl (.inr ⟨s, hs, hk⟩)
    · exact .inr hk
  · rintro k - rfl; exact .inl (.inl rfl)
theorem vput_quiet (h : IsLv w vb hd X V) (hs : s < 64) (p : Value) (er : Int) (hc : Calls Tryd.prog 80 #[.pointer (some ⟨hd s, 0, none⟩), p] w fun e w' => e = .returned (.int .i64 er) ∧ w = w') :
    Calls Tryd.prog 81 #[.pointer (some ⟨vb, 0, none⟩), .int .i64 (s : Nat), p] w fun e w' => e = .returned (.int .i64 er) ∧ IsLv w' vb hd X V ∧ Ch (One vb) w w' := by
  have HR := Lib.hid (row_of h hs)
  have HP := Lib.hid hc
  have H := Lib.hid h
  clear h hc
  go_enter Tryd.func81, Tryd.ntmps81
  go_wp2_with fail
  refine HR.out.mono ?_
  rintro e w1 ⟨rfl, rfl⟩
  go_wp2_with fail
  refine HP.out.mono ?_
  rintro e w2 ⟨rfl, rfl⟩
  go_wp2_with fail
  refine (mark_of H.out hs mapX_lt).mono ?_
  rintro e w3 ⟨⟨r, rfl⟩, h3, c3⟩
  rw [markN_mapX hs (fun i hi hne => rfl)] at h3
  have H3 := Lib.hid h3
  have C3 := Lib.hid c3
  clear h3 c3
  go_wp2
  go_ret
  exact ⟨rfl, H3.out, C3.out⟩
theorem vput_state (h : IsLv w vb hd X V) (hs : s < 64) {x : Nat} (hc : w.cell? ⟨b, 1, none⟩ = some (pt (some x))) :
    Calls Tryd.prog 81 #[.pointer (some ⟨vb, 0, none⟩), .int .i64 (s : Nat), .pointer (some ⟨b, 0, none⟩)] w fun e w' => e = .returned (.int .i64 7) ∧ IsLv w' vb hd X V ∧ Ch (One vb) w w' :=
  vput_quiet h hs _ 7 (put_state (hd s) b x w hc)
theorem vput_nonode (h : IsLv w vb hd X V) (hs : s < 64) :
    Calls Tryd.prog 81 #[.pointer (some ⟨vb, 0, none⟩), .int .i64 (s : Nat), .pointer none] w fun e w' => e = .returned (.int .i64 1) ∧ IsLv w' vb hd X V ∧ Ch (One vb) w w' :=
  vput_quiet h hs _ 1 (put_nonode (hd s) w)
theorem vput_range (vb : Nat) (z : Int) (hz : z < 0 ∨ 64 ≤ z) (p : Value) (w : World) :
    Calls Tryd.prog 81 #[.pointer (some ⟨vb, 0, none⟩), .int .i64 z, p] w fun e w' => e = .returned (.int .i64 4) ∧ w = w' := by
  have HR := Lib.hid (row_range vb z hz w)
  clear hz
  go_enter Tryd.func81, Tryd.ntmps81
  go_wp2_with fail
  refine HR.out.mono ?_
  rintro e w1 ⟨rfl, rfl⟩
  go_wp2
  go_ret
  exact ⟨rfl, rfl⟩
theorem vput_nil (z : Int) (p : Value) (w : World) :
    Calls Tryd.prog 81 #[.pointer none, .int .i64 z, p] w fun e w' => e = .returned (.int .i64 6) ∧ w = w' := by
  have HR := Lib.hid (row_nil z w)
  go_enter Tryd.func81, Tryd.ntmps81
  go_wp2_with fail
  refine HR.out.mono ?_
  rintro e w1 ⟨rfl, rfl⟩
  go_wp2
  go_ret
  exact ⟨rfl, rfl⟩

theorem vat_of (h : IsV w vb hd X V m) (hs : s < 64) (hl : (X s).length ≤ 100000) :
    Calls Tryd.prog 87 #[.pointer (some ⟨vb, 0, none⟩), .int .i64 (s : Nat)] w fun e w' => ∃ a cap, e = .returned (.slice a (X s).length cap) ∧ RowE w' a (X s).length cap (valAt (X s) V) ∧ (∀ g, OwnS a g → w.heap.size ≤ g) ∧ Ch Nil w w' := by
  have HR := Lib.hid (row_of h hs)
  have HP := Lib.hid ((h.l s hs).all hl)
  clear h
  go_enter Tryd.func87, Tryd.ntmps87
  go_wp2_with fail
  refine HR.out.mono ?_
  rintro e w1 ⟨rfl, rfl⟩
  go_wp2_with fail
  refine HP.out.mono ?_
  rintro e w2 ⟨a, cap, rfl, r2, g2, c2⟩
  have R2 := Lib.hid r2
  have G2 := Lib.hid g2
  have C2 := Lib.hid c2
  clear r2 g2 c2
  go_wp2
  go_ret
  exact ⟨_, _, rfl, R2.out, G2.out, C2.out⟩
theorem vat_range (vb : Nat) (z : Int) (hz : z < 0 ∨ 64 ≤ z) (w : World) :
    Calls Tryd.prog 87 #[.pointer (some ⟨vb, 0, none⟩), .int .i64 z] w fun e w' => e = .returned (.slice none 0 0) ∧ w = w' := by
  have HR := Lib.hid (row_range vb z hz w)
  clear hz
  go_enter Tryd.func87, Tryd.ntmps87
  go_wp2_with fail
  refine HR.out.mono ?_
  rintro e w1 ⟨rfl, rfl⟩
  go_wp2
  go_ret
  exact ⟨rfl, rfl⟩
theorem vat_nil (z : Int) (w : World) :
    Calls Tryd.prog 87 #[.pointer none, .int .i64 z] w fun e w' => e = .returned (.slice none 0 0) ∧ w = w' := by
  have HR := Lib.hid (row_nil z w)
  go_enter Tryd.func87, Tryd.ntmps87
  go_wp2_with fail
  refine HR.out.mono ?_
  rintro e w1 ⟨rfl, rfl⟩
  go_wp2
  go_ret
  exact ⟨rfl, rfl⟩

set_option maxHeartbeats 1000000 in
theorem vlen_of (h : IsLv w vb hd X V) (T : Tab w) (hl : ∀ i, i < 64 → (X i).length ≤ 1000000) :
    Calls Tryd.prog 72 #[.pointer (some ⟨vb, 0, none⟩)] w fun e w' => e = .returned (.int .i64 (totX X : Nat)) ∧ Ch Nil w w' := by
  have HM := Lib.hid (map_of h)
  have HA := Lib.hid (all_any (mapX X) mapX_lt w T)
  have H := Lib.hid h
  have hsl := slots_le (mapX X)
  have HL := Lib.hid hl
  clear h T hl
  go_enter Tryd.func72, Tryd.ntmps72
  go_wp2_with fail
  refine HM.out.mono ?_
  rintro e w1 ⟨rfl, rfl⟩
  go_wp2_with fail
  refine HA.out.mono ?_
  rintro e w2 ⟨a, cap, rfl, r2, g2, c2⟩
  have R2 := Lib.hid r2
  have C2 := Lib.hid c2
  have lc2 := r2.len_cap
  have SUM := Lib.hid (partX_all (X := X))
  have STEP := Lib.hid fun k => partX_succ (X := X) (k := k)
  have LE := Lib.hid fun k => partX_le (k := k) HL.out
  have SLT := Lib.hid (slotAt_lt (mapX X))
  obtain ⟨n, hn⟩ : ∃ n, n = (slots (mapX X)).length := ⟨_, rfl⟩
  rw [← hn] at R2 lc2 SUM STEP hsl SLT ⊢
  clear r2 g2 c2 HM HA hn
  go_wp2
  go_loopw [10, 3] (fun i c wr => ∃ k : Nat, k ≤ n ∧ i = .int .i64 k ∧ c = .int .i64 (partX X k : Nat) ∧ wr = w2) (fun i _ _ => n - (intOf i).toNat)
  case atStart => exact ⟨0, by omega, rfl, by rw [partX_zero]; rfl, rfl⟩
  case round =>
    obtain ⟨k, hk, rfl, rfl, rfl⟩ := hrel
    by_cases hlt : k < n
    · obtain ⟨g, rfl, -⟩ := R2.out.form (by omega)
      have q1 := R2.out.cell k (by omega)
      unfold slotV at q1
      have s1 := SLT.out k hlt
      have q2 := C2.out.keeps (H.out.s _ s1) (fun e => e)
      have q3 := C2.out.keeps (H.out.l _ s1).h.n (fun e => e)
      have st := STEP.out k hlt
      have l1 := LE.out k
      have l2 := HL.out _ s1
      generalize slotAt (mapX X) k = t at *
      have hkz : (k : Int) < (n : Int) := by omega
      have hkz0 : (0 : Int) ≤ (k : Int) := by omega
      have htz : (t : Int) < 64 := by omega
      have htz0 : (0 : Int) ≤ (t : Int) := by omega
      have ST := Lib.hid st
      have LN := Lib.hid (len_of (hd t) _ wr q3)
      clear st q3
      generalize (X t).length = tl at *
      generalize hp : partX X k = p at *
      clear hp
      go_wp2_with fail
      refine LN.out.mono ?_
      rintro e w' ⟨rfl, rfl⟩
      go_wp2
      go_roundw
      case rel => exact ⟨k + 1, by omega, by go_num, by rw [ST.out]; go_num, trivial⟩
      case measure => simp [intOf]; omega
    · obtain rfl : k = n := by omega
      have e := SUM.out
      rw [e]
      go_wp2
      go_ret
      exact ⟨rfl, C2.out⟩
set_option maxHeartbeats 1000000 in
theorem vlen_nil (w : World) (T : Tab w) :
    Calls Tryd.prog 72 #[.pointer none] w fun e w' => e = .returned (.int .i64 0) ∧ Ch Nil w w' := by
  have HM := Lib.hid (map_nil w)
  have HA := Lib.hid (all_any 0 (by decide) w T)
  rw [slots_zero] at HA
  clear T
  go_enter Tryd.func72, Tryd.ntmps72
  go_wp2_with fail
  refine HM.out.mono ?_
  rintro e w1 ⟨rfl, rfl⟩
  go_wp2_with fail
  refine HA.out.mono ?_
  rintro e w2 ⟨a, cap, rfl, r2, g2, c2⟩
  have C2 := Lib.hid c2
  clear r2 g2 c2 HM HA
  simp only [List.length_nil]
  go_wp2
  go_loopw [10, 3] (fun i c wr => i = .int .i64 0 ∧ c = .int .i64 0 ∧ wr = w2) (fun i _ _ => 0)
  case atStart => exact ⟨rfl, rfl, rfl⟩
  case round =>
    obtain ⟨rfl, rfl, rfl⟩ := hrel
    go_wp2
    go_ret
    exact ⟨rfl, C2.out⟩
end
end Go.Proofs.YtldnmpiaofppgaaDoor.LT

/-
  Contract of package level's Take: the nodes of a slot, in order, each in no list then.
-/
namespace Go.Proofs.YtldnmpiaofppgaaDoor.LT
open Go.RowKit Verge
attribute [local go_sem] Oper.semAt_some
set_option linter.unusedVariables false
set_option linter.unusedSimpArgs false

/-- a pointer to the i-th node -/
def ptrL (xs : List Nat) (i : Nat) : Value := .pointer (some ⟨xs.getD i 0, 0, none⟩)
/-- a row of pointers to nodes -/
abbrev RowP (w : World) (a : Option Addr) (n cap : Nat) (xs : List Nat) : Prop := Row w 128 1 a n cap (ptrL xs)
/-- between two rounds of Take -/
structure TkIn (w : World) (lb : Nat) (xs : List Nat) (V : Nat → Nat) (k : Nat) (a : Option Addr) (cap : Nat) (W : World) : Prop where
  l : IsL W lb (xs.drop k) V
  f : ∀ i b, i < k → xs[i]? = some b → IsN W b (V b) none none none
  r : RowP W a k cap xs
  g : ∀ x, OwnS a x → w.heap.size ≤ x
  c : Ch (LB lb xs) w W
section
variable {S : Nat → Prop} {w w' W w5 w6 : World} {vb lb k m b s : Nat} {hd : Nat → Nat} {X : Nat → List Nat} {xs : List Nat} {V : Nat → Nat} {a : Option Addr} {cap : Nat}
theorem sub_drop {k : Nat} : ∀ j, LB lb (xs.drop k) j → LB lb xs j := by
  rintro j (rfl | hj)
  · exact .inl rfl
  · exact .inr (List.mem_of_mem_drop hj)
theorem vtake_range (vb : Nat) (z : Int) (hz : z < 0 ∨ 64 ≤ z) (w : World) :
    Calls Tryd.prog 85 #[.pointer (some ⟨vb, 0, none⟩), .int .i64 z] w fun e w' => e = .returned (.slice none 0 0) ∧ w = w' := by
  have HR := Lib.hid (row_range vb z hz w)
  clear hz
  go_enter Tryd.func85, Tryd.ntmps85
  go_wp2_with fail
  refine HR.out.mono ?_
  rintro e w1 ⟨rfl, rfl⟩
  go_wp2
  go_ret
  exact ⟨rfl, rfl⟩
theorem vtake_nil (z : Int) (w : World) :
    Calls Tryd.prog 85 #[.pointer none, .int .i64 z] w fun e w' => e = .returned (.slice none 0 0) ∧ w = w' := by
  have HR := Lib.hid (row_nil z w)
  go_enter Tryd.func85, Tryd.ntmps85
  go_wp2_with fail
  refine HR.out.mono ?_
  rintro e w1 ⟨rfl, rfl⟩
  go_wp2
  go_ret
  exact ⟨rfl, rfl⟩
theorem TkIn.more (h : TkIn w lb xs V k a cap W) (hlt : ∀ j, LB lb xs j → j < w.heap.size) (nd : ∀ (i j b : Nat), xs[i]? = some b → xs[j]? = some b → i = j) (nl : lb ∉ xs) (hb : xs[k]? = some b) (h5 : IsL w5 lb (xs.drop (k + 1)) V) (n5 : IsN w5 b (V b) none none none) (c5 : Ch (LB lb (xs.drop k)) W w5)
    (c6 : Ch (OwnS a) w5 w6) {g cap' : Nat} (row6 : RowP w6 (some ⟨g, 0, none⟩) (k + 1) cap' xs) (at6 : OwnS a g ∨ g = w5.heap.size + 1) : TkIn w lb xs V (k + 1) (some ⟨g, 0, none⟩) cap' w6 := by
  have hw := h.c.size
  have hw5 := c5.size
  have ap : ∀ j, LB lb xs j → ¬ OwnS a j := fun j hj e => by have := hlt j hj; have := h.g j e; omega
  refine ⟨h5.kept c6 (fun j hj => ap j (sub_drop j hj)), fun i c hi hc => ?_, row6, ?_, (h.c.trans (c5.mono fun j _ e => sub_drop j e)).then c6 (fun j hj e => by have := h.g j e; omega)⟩
  · by_cases e : i = k
    · subst e; rw [hb] at hc; cases hc
      exact n5.kept c6 (ap _ (.inr (List.mem_of_getElem? hb)))
    · refine ((h.f i c (by omega) hc).kept c5 ?_).kept c6 (ap _ (.inr (List.mem_of_getElem? hc)))
      rintro (rfl | hm)
      · exact nl (List.mem_of_getElem? hc)
      · obtain ⟨j, hj⟩ := List.mem_iff_getElem?.1 hm
        rw [List.getElem?_drop] at hj
        have := nd _ _ _ hc hj
        omega
  · intro x hx
    cases hx
    rcases at6 with h' | h'
    · exact h.g _ h'
    · simp only; omega

set_option maxHeartbeats 1000000 in
theorem vtake_of (h : IsLv w vb hd X V) (hs : s < 64) (hl : (X s).length ≤ 100000) :
    Calls Tryd.prog 85 #[.pointer (some ⟨vb, 0, none⟩), .int .i64 (s : Nat)] w fun e w' => ∃ a cap, e = .returned (.slice a (X s).length cap) ∧ RowP w' a (X s).length cap (X s) ∧ (∀ g, OwnS a g → w.heap.size ≤ g) ∧ IsLv w' vb hd (upd X s []) V ∧ (∀ b, b ∈ X s → IsN w' b (V b) none none none) ∧ Ch (LvB vb hd X) w w' := by
  have HR := Lib.hid (row_of h hs)
  have L0 := Lib.hid (h.l s hs)
  have H := Lib.hid h
  have LT := Lib.hid fun j (hj : LB (hd s) (X s) j) => (h.l s hs).lt hj
  have NV := Lib.hid (h.nv s hs)
  clear h
  obtain ⟨xs, hxs⟩ : ∃ xs, xs = X s := ⟨_, rfl⟩
  obtain ⟨lb, hlb⟩ : ∃ lb, lb = hd s := ⟨_, rfl⟩
  rw [← hxs] at L0 LT NV hl ⊢
  rw [← hlb] at HR L0 LT NV
  have HXS := Lib.hid hxs
  have HLB := Lib.hid hlb
  clear hxs hlb
  go_enter Tryd.func85, Tryd.ntmps85
  go_wp2_with fail
  refine HR.out.mono ?_
  rintro e w1 ⟨rfl, rfl⟩
  go_wp2_with fail
  refine (first_of lb xs[0]? _ L0.out.h.f).mono ?_
  rintro e w1 ⟨rfl, rfl⟩
  obtain ⟨p0, hp0⟩ : ∃ p0, p0 = pt xs[0]? := ⟨_, rfl⟩
  have HP0 := Lib.hid hp0
  rw [← hp0]
  clear hp0
  go_wp2
  go_loopw [7, 8] (fun ns n wr => ∃ (k : Nat) (a : Option Addr) (cap : Nat), k ≤ xs.length ∧ ns = .slice a k cap ∧ n = pt xs[k]? ∧ TkIn w lb xs V k a cap wr) (fun ns _ _ => xs.length - (match ns with | .slice _ n _ => n | _ => 0))
  case atStart =>
    refine ⟨0, none, 0, by omega, rfl, HP0.out, by simpa using L0.out, fun i b hi => by omega, Row.nil _ _ _ _, fun x hx => (by cases hx), Ch.refl _ _⟩
  case round =>
    obtain ⟨k, a, cap, hk, rfl, rfl, ht⟩ := hrel
    have HT := Lib.hid ht
    clear ht
    by_cases hlt : k < xs.length
    · obtain ⟨b, hb⟩ : ∃ b, xs[k]? = some b := ⟨_, List.getElem?_eq_getElem hlt⟩
      have hd0 : (xs.drop k)[0]? = some b := by rw [List.getElem?_drop]; exact hb
      have HB := Lib.hid hb
      have UL := Lib.hid (HT.out.l.unlink hd0 (by rw [List.length_drop]; omega))
      rw [hb, pt_some]
      clear hb hd0
      go_wp2_with fail
      refine UL.out.mono ?_
      rintro e w5 ⟨rfl, h5, n5, c5⟩
      rw [drop_succ] at h5
      have H5 := Lib.hid h5
      have N5 := Lib.hid n5
      have C5 := Lib.hid c5
      have R5 := Lib.hid ((HT.out.r.kept c5 (fun j hj e => by have := HT.out.g j hj; have := LT.out j (sub_drop j e); omega)).kept (S := Nil) ((Ch.refl Nil w5).alloc (Obj.cells #[.pointer (some ⟨b, 0, none⟩)] 128)) (fun _ _ e => e))
      have hv : ptrL xs k = .pointer (some ⟨b, 0, none⟩) := by unfold ptrL; rw [List.getD_eq_getElem?_getD, HB.out]; rfl
      have HV := Lib.hid hv
      clear h5 n5 c5 hv
      go_wp2_with (at_builtin; refine append_row _ rfl _ _ _ rfl 128 (.pointer none) 1 8 Tryd.underlying164 (by kernel_rfl) rfl (by omega) (by omega) rfl R5.out (by omega) w5.heap.size 1 [.pointer (some ⟨b, 0, none⟩)] 128 rfl rfl (heap_alloc_new w5 _) (by simp [Value.oneCell']) (ptrL xs) (fun i hi => rfl) (by intro j u hu; obtain rfl : j = 0 := (by cases j; rfl; simp at hu); simp at hu; subst hu; simpa using HV.out) _ rfl ?_)
      intro g cap6 w6 row6 ch6 at6 lt6
      have c6 : Ch (OwnS a) w5 w6 := (((Ch.refl Nil w5).alloc _).mono (fun _ _ e => e.elim)).trans ch6
      have FIN := Lib.hid (HT.out.more LT.out L0.out.nd L0.out.nl HB.out H5.out N5.out C5.out c6 row6 (by simpa using at6))
      clear ch6 row6 at6 lt6 R5 c6
      go_wp2_with fail
      refine (first_of lb _ _ FIN.out.l.h.f).mono ?_
      rintro e w7 ⟨rfl, rfl⟩
      rw [List.getElem?_drop]
      obtain ⟨p1, hp1⟩ : ∃ p1, p1 = pt xs[k + 1 + 0]? := ⟨_, rfl⟩
      have HP1 := Lib.hid hp1
      rw [← hp1]
      clear hp1
      go_wp2
      go_roundw
      case rel => exact ⟨k + 1, _, _, by omega, rfl, HP1.out, FIN.out⟩
      case measure => simp; omega
    · obtain rfl : k = xs.length := by omega
      rw [List.getElem?_eq_none (Nat.le_refl _), pt_none]
      go_wp2_with fail
      refine (unlink_nonode lb _).mono ?_
      rintro e w5 ⟨rfl, rfl⟩
      have t5 : IsV wr vb hd (upd X s []) V (mapX X) := by
        have h0 := HT.out.l
        rw [List.drop_length] at h0
        refine H.out.turned (P := Nil) hs (HT.out.c.mono fun k _ e => .inl ?_) (fun k e => e.elim) (by rw [← HLB.out]; exact h0) (fun k hk => (by cases hk))
        rw [← HXS.out, ← HLB.out]; exact e
      have T5 := Lib.hid t5
      clear t5
      go_wp2_with fail
      refine (mark_of T5.out hs mapX_lt).mono ?_
      rintro e w6 ⟨⟨r, rfl⟩, h6, c6⟩
      rw [markN_mapX hs (fun i hi hne => (upd_other _ _ _ _ hne).symm)] at h6
      have H6 := Lib.hid h6
      have C6 := Lib.hid c6
      clear h6 c6
      go_wp2
      go_ret
      have vlt : vb < w.heap.size := H.out.lt (.inl rfl)
      refine ⟨a, cap, rfl, HT.out.r.kept C6.out (fun j hj e => ?_), HT.out.g, H6.out, fun b hb => ?_, (HT.out.c.mono fun j _ e => ?_).then C6.out ?_⟩
      · have := HT.out.g j hj; have e' : j = vb := e; omega
      · obtain ⟨i, hi⟩ := List.mem_iff_getElem?.1 hb
        refine (HT.out.f i b (List.getElem?_eq_some_iff.1 hi).1 hi).kept C6.out (fun e => NV.out (.inr (e ▸ hb)))
      · rw [HXS.out, HLB.out] at e; exact .inr ⟨s, hs, e⟩
      · rintro j - rfl; exact .inl rfl
end
end Go.Proofs.YtldnmpiaofppgaaDoor.LT
