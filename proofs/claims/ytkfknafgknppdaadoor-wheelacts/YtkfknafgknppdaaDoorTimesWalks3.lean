/-
  Contracts of package times' Apart, Cut, Add, Later: what each returns, at every argument; nothing that was there is changed.
-/
import Derived.Test.YtkfknafgknppdaaDoorTimesWalks2
namespace Go.Proofs.YtkfknafgknppdaaDoor
open Go.RowKit Go.Shelf Verge
set_option linter.unusedVariables false
attribute [local go_sem] Oper.semAt_some

theorem ret2 {k k' : IntKind} {a b a' b' : Int} (h : a = b) (h' : a' = b') : Ending.returned (.tuple #[.int k a, .int k' a']) = .returned (.tuple #[.int k b, .int k' b']) := by rw [h, h']

/-- the level of the last digit that isn't 0; -1: none -/
def hi (pre : List (Nat × Nat)) : Int := pre.foldl (fun h x => if x.2 = 0 then h else x.1) (-1)
theorem hi_snoc (pre : List (Nat × Nat)) (x : Nat × Nat) : hi (pre ++ [x]) = if x.2 = 0 then hi pre else x.1 := by simp [hi]
theorem hi_ap (a b : Nat) : ∀ k, k ≤ 11 → hi ((pairs (a ^^^ b)).take k) = ap a b k
  | 0, _ => rfl
  | k + 1, h => by
    rw [pairs_take _ _ (by omega), hi_snoc, hi_ap a b k (by omega)]
    by_cases e : dg a k = dg b k
    · rw [ap_eq a b k e, if_pos ((dg_xor_zero a b k).2 e)]
    · rw [ap_ne a b k e, if_neg (fun h => e ((dg_xor_zero a b k).1 h))]

set_option maxRecDepth 100000 in
set_option maxHeartbeats 2000000 in
theorem apart_in (a b : Nat) (ha : a < 18446744073709551616) (hb : b < 18446744073709551616) (n : Nat) (hn : 3 ≤ n) (w : World) :
    CallsIn Fence.wide n Tryd.prog 41 #[.int .u64 a, .int .u64 b] w fun e W' => e = .returned (.int .i64 (ap a b 11)) ∧ Below w.heap.size w W' := by
  have h1 : 1 ≤ n := by omega
  obtain ⟨t, et⟩ : ∃ t, t = a ^^^ b := ⟨_, rfl⟩
  have hx : bits .xor .u64 (a : Int) (b : Int) = (t : Int) := by rw [et]; exact u64_xor_nat a b ha hb
  have ht : t < 18446744073709551616 := by
    rw [et]; exact Nat.xor_lt_two_pow (n := 64) ha hb
  have HA : Hid (hi (pairs t) = ap a b 11) := by
    have := hi_ap a b 11 (Nat.le_refl _)
    rw [pairs_all] at this
    rw [et]; exact this
  clear et ha hb
  refine callsIn_of_wp_marks Tryd.func41 rfl trivial ?_ rfl
  simp only [Tryd.ntmps41, List.size_toArray, List.length_cons, List.length_nil, Nat.reduceAdd, Nat.reduceSub, Array.replicate_succ, Array.replicate_zero, List.push_toArray, List.append_toArray, List.nil_append, List.cons_append]
  gi_wp2_with (refine ⟨trivial, ?_⟩; gi_at_call 47; refine (each_in _ _ _).mono ?_; rintro e w' ⟨rfl, rfl⟩)
  have c0 := cell_new w (.int .i64 (-1)) 3
  have c1 := cell_new (w.alloc (.cells #[.int .i64 (-1)] 3)) (.int .u64 t) 22
  rw [World.size_alloc] at c1
  have hB0 : Below w.heap.size w ((w.alloc (.cells #[.int .i64 (-1)] 3)).alloc (.cells #[.int .u64 t] 22)) := ((Below.refl _ w).alloc (Nat.le_refl _) _).alloc (by simp) _
  refine wpIn_rangeFunc_ownF (F := Fence.wide) rfl h1 (gf := 58) (lb := #[.pointer (some ⟨w.heap.size + 1, 0, none⟩)]) rfl trivial (enters_of Tryd.func58 (by kernel_rfl) rfl)
    (each_stops (n - 1) (by omega) (w.heap.size + 1) t ht _ (by simp) c1.1) kpBox_t (fun W l o o' _ h ho _ => kpBox_b W l o o' h ho) (Below.refl _ _) (fun _ => rfl)
    (fun pre W => (W.cell? ⟨w.heap.size, 0, none⟩ = some (.int .i64 (hi pre)) ∧ W.frozen? ⟨w.heap.size, 0, none⟩ = false) ∧ Below w.heap.size w W)
    (fun _ _ _ => False)
    (OwnFrom.and (Own.from (fun s X Y row hs hg hr => ⟨cell_kept hs.1 hg hr, (frozen_kept hs.1 hg hr).trans hs.2⟩) _) (ownFrom_below (Nat.le_refl _) (by simp; omega)))
    (fun _ _ _ _ _ hs _ _ => hs)
    ⟨⟨cell_alloc _ c0.1, frozen_alloc _ c0.1 c0.2⟩, hB0⟩
    (fun x => { tmps := #[.int .u64 a, .int .u64 b, undef, undef, .int .i64 0, .pointer (some ⟨w.heap.size, 0, none⟩), .int .i64 x.1, .int .i64 x.2, .int .u64 a, .int .u64 b, .int .u64 t, .func (.func 58) #[] #[.pointer (some ⟨w.heap.size + 1, 0, none⟩)], .int .i64 x.1, .int .i64 x.2, undef, undef, undef, undef], defers := [] }) ?assign ?body ?done ?stop
  case assign =>
    intro l x W K hK
    gi_wp2
    exact hK
  case body =>
    rintro l pre x W ⟨⟨hc, hf⟩, hB⟩ _
    have hs := hi_snoc pre x
    have HS := Lib.hid hs
    clear hs
    gi_wp2
    · rename_i h
      have h' : ¬ x.2 = 0 := by simpa using h
      refine ⟨KeepsOthers.setCell _ _ _, kpBox_setCell _ _ _ (by omega), ⟨?_, by rw [World.frozen?_setCell]; exact hf⟩, hB.setCell (p := ⟨w.heap.size, 0, none⟩) (by simp) _⟩
      rw [HS.out, if_neg h']
      exact World.cell?_setCell_same' _ _ _ (by rw [hc]; rfl)
    · rename_i h
      have h' : x.2 = 0 := by simpa using h
      refine ⟨KeepsOthers.refl _, kpBox_refl _, ⟨?_, hf⟩, hB⟩
      rw [HS.out, if_pos h']
      exact hc
  case done =>
    rintro D ys W hD rfl ⟨⟨hc, hf⟩, hB⟩ hK
    rw [HA.out] at hc
    gi_wp2
    refine ⟨by simp, .inl ⟨_, _, rfl, run_takeDeferred hK, ?_⟩⟩
    exact ⟨_, results_tmp rfl _ _ _, rfl, hB.trans (belowK_b (w := w) (Nat.le_refl _) W D _ _ (by simp at hD; omega) hK rfl rfl)⟩
  case stop =>
    rintro D c pre W _ _ h _
    exact h.elim

theorem shift_back (t k : Nat) (ht : t < 18446744073709551616) : IntKind.u64.wrap ((t : Int) / 2 ^ (6 * k) * 2 ^ (6 * k)) = (ct t k : Nat) := by
  have e : ((t : Int) / 2 ^ (6 * k) * 2 ^ (6 * k)) = ((ct t k : Nat) : Int) := by
    unfold ct; rw [← pow6]; simp
  rw [e, IntKind.wrap_u64]
  have := ct_le t k
  omega

theorem wrap_over (a b : Int) (ha : 0 ≤ a) (ha' : a < 18446744073709551616) (hb : 0 ≤ b) (hb' : b < 18446744073709551616) (h : 18446744073709551616 ≤ a + b) : IntKind.u64.wrap (a + b) < a := by
  rw [IntKind.wrap_u64]; omega

/-- a sum that fits, and one that doesn't -/
theorem add_ok (a b : Int) (ha : 0 ≤ a) (hb : 0 ≤ b) (h : a + b < 18446744073709551616) (w : World) :
    Calls Tryd.prog 26 #[.int .u64 a, .int .u64 b] w fun e w' => e = .returned (.tuple #[.int .u64 (a + b), .int .i64 0]) ∧ w = w' := by
  go_enter Tryd.func26, Tryd.ntmps26
  go_wp2
  go_ret2
  exact ⟨rfl, rfl⟩
theorem add_over (a b : Int) (ha : 0 ≤ a) (ha' : a < 18446744073709551616) (hb : 0 ≤ b) (hb' : b < 18446744073709551616) (h : 18446744073709551616 ≤ a + b) (w : World) :
    Calls Tryd.prog 26 #[.int .u64 a, .int .u64 b] w fun e w' => e = .returned (.tuple #[.int .u64 0, .int .i64 9]) ∧ w = w' := by
  have hw := wrap_over a b ha ha' hb hb' h
  clear ha' hb' h
  go_enter Tryd.func26, Tryd.ntmps26
  go_wp2
  go_ret2
  exact ⟨rfl, rfl⟩

end Go.Proofs.YtkfknafgknppdaaDoor
