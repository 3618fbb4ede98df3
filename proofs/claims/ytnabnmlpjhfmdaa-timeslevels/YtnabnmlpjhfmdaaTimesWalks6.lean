/-
  Contracts of times.Digits and vergeref01.Cut, and of the statements' own check of the document's examples (alive): what each returns; nothing that was there is changed.
-/
import Derived.Test.YtnabnmlpjhfmdaaTimesWalks5
import Derived.RangeFuncBox
import Derived.Maps.AppendAt
namespace Go.Proofs.Ytnabnmlpjhfmdaa
open Go.RowKit Go.Shelf Verge
set_option linter.unusedVariables false
attribute [local go_sem] Oper.semAt_some

theorem make11 (w : World) : (Instr.makeSlice 24 (.int .i64 0) (.int .i64 11)).run Try.prog w = .ok (.slice (some ⟨w.heap.size, 0, none⟩) 0 11) (w.alloc (.cells #[.int .i64 0, .int .i64 0, .int .i64 0, .int .i64 0, .int .i64 0, .int .i64 0, .int .i64 0, .int .i64 0, .int .i64 0, .int .i64 0, .int .i64 0] 3)) := by kernel_rfl

theorem pairs_vals (t : Nat) : (pairs t).map (fun x => Value.int .i64 (x.2 : Nat)) = dvals t 11 := by simp [pairs, dvals]

set_option maxRecDepth 100000 in
set_option maxHeartbeats 4000000 in
theorem digits_in (t : Nat) (ht : t < 18446744073709551616) (n : Nat) (hn : 3 ≤ n) (w : World) :
    CallsIn Fence.wide n Try.prog 12 #[.int .u64 t] w (DigsPost w t) := by
  have h1 : 1 ≤ n := by omega
  have hmk := make11
  obtain ⟨i0, hi, hz0, hz1, hz2⟩ := info_parts Try.infoInt
  refine callsIn_of_wp_marks Try.func12 rfl trivial ?_ rfl
  simp only [Try.ntmps12, List.size_toArray, List.length_cons, List.length_nil, Nat.reduceAdd, Nat.reduceSub, Array.replicate_succ, Array.replicate_zero, List.push_toArray, List.append_toArray, List.nil_append, List.cons_append]
  gi_wp2_with (refine ⟨trivial, ?_⟩; gi_at_call 22; refine (each_in _ _ _).mono ?_; rintro e w' ⟨rfl, rfl⟩)
  obtain ⟨w1, hw1⟩ : ∃ w1, w.alloc (.cells #[.int .i64 0, .int .i64 0, .int .i64 0, .int .i64 0, .int .i64 0, .int .i64 0, .int .i64 0, .int .i64 0, .int .i64 0, .int .i64 0, .int .i64 0] 3) = w1 := ⟨_, rfl⟩
  have hs1 : w1.heap.size = w.heap.size + 1 := by rw [← hw1]; simp
  have hB1 : Below w.heap.size w w1 := by rw [← hw1]; exact (Below.refl _ w).alloc (Nat.le_refl _) _
  have hrow0 : w1.ownsRow w.heap.size 3 1 (.slice (some ⟨w.heap.size, 0, none⟩) 0 11) 0 [] := by
    rw [← hw1]; exact World.ownsRow_made w _ 11 (Nat.le_refl _) (by decide) rfl
  rw [hw1]
  clear hw1 hmk
  have bO := Boxed.new w1 24 (.slice (some ⟨w.heap.size, 0, none⟩) 0 11)
  have bN := Boxed.new (w1.alloc (.cells #[.slice (some ⟨w.heap.size, 0, none⟩) 0 11] 24)) 22 (.int .u64 t)
  rw [hs1] at bO
  rw [World.size_alloc, hs1] at bN
  have hB0 : Below w.heap.size w ((w1.alloc (.cells #[.slice (some ⟨w.heap.size, 0, none⟩) 0 11] 24)).alloc (.cells #[.int .u64 t] 22)) := (hB1.alloc (by omega) _).alloc (by simp; omega) _
  refine wpIn_rangeFunc_ownG (F := Fence.wide) rfl h1 (gf := 23) (lb := #[.pointer (some ⟨w.heap.size + 1 + 1, 0, none⟩)]) rfl trivial (enters_of Try.func23 (by kernel_rfl) rfl)
    (each_stops (n - 1) (by omega) (w.heap.size + 1 + 1) t ht _ (by simp; omega) bN.cell) kpBox_t (fun W l o o' _ h ho _ => kpBox_b W l o o' h ho) (Below.refl _ _) (fun _ => rfl)
    (fun pre W => ((∃ v, Boxed W (w.heap.size + 1) 24 v ∧ W.ownsRow w.heap.size 3 1 v pre.length (pre.map fun x => Value.int .i64 (x.2 : Nat)) ∧ True) ∧ Boxed W (w.heap.size + 1 + 1) 22 (.int .u64 t)) ∧ Below w.heap.size w W)
    (fun _ _ _ => False)
    (OwnFrom.and (OwnFrom.and (Own.from (holdsRow_own w.heap.size (w.heap.size + 1) 24 3 1 (fun pre : List (Nat × Nat) => pre.length) (fun pre => pre.map fun x => Value.int .i64 (x.2 : Nat)) (fun _ _ => True)) _) (Own.from (boxed_own _ _ (fun _ => .int .u64 t)) _)) (ownFrom_below (Nat.le_refl _) (by simp; omega)))
    (fun _ _ _ _ _ hs _ _ => hs)
    ⟨⟨⟨_, bO.alloc _, (hrow0.alloc _).alloc _, trivial⟩, bN⟩, hB0⟩
    (fun x => { tmps := #[.int .u64 t, undef, .slice none 0 0, .pointer (some ⟨w.heap.size + 1, 0, none⟩), undef, .int .i64 x.2, .slice (some ⟨w.heap.size, 0, none⟩) 0 11, .int .u64 t, .func (.func 23) #[] #[.pointer (some ⟨w.heap.size + 1 + 1, 0, none⟩)], .int .i64 x.1, .int .i64 x.2, undef, undef, undef, undef, undef], defers := [] }) ?assign ?body ?done ?stop
  case assign =>
    intro l x W K hK
    gi_wp2
    exact hK
  case body =>
    rintro l pre x W ⟨⟨⟨v, hv, hrow, _⟩, hbx⟩, hB⟩ hlt
    have hc := hv.cell
    have hml : maxLen = 9223372036854775807 := rfl
    have hl1 : pre.length + 1 ≤ maxLen := by omega
    clear hml
    gi_wp2_with (gi_at_builtin; refine wpListIn_append_own _ rfl _ _ 24 rfl w.heap.size 3 i0 (.int .i64 0) 1 8 Try.underlying24 hi hz0 hz1 hz2 rfl (by decide) _ _ _ rfl (hrow.alloc _) ⟨W.heap.size, 0, none⟩ 1 1 [.int .i64 (x.2 : Nat)] rfl rfl (cell_one_new _ _ _) (by simp [Value.oneCell']) (by omega) (by omega) (by have := hB.size; simp; omega) ?_; intro v' w2 hown' hgrow _; obtain ⟨g', cap', rfl⟩ := ownsRow_succ hown'; obtain ⟨hv1, hv2, hr2, hk2, hb2⟩ := hv.appended (by decide) hrow hB.size (by omega) hown' hgrow; have hbx1 := ((hbx.alloc _).kept hgrow (hbx.not_row (by decide) hrow)).other (show w.heap.size + 1 + 1 ≠ w.heap.size + 1 by omega) (.slice (some ⟨g', 0, none⟩) (pre.length + 1) cap'); have hc1 := hv1.cell; have hf1 := hv1.frozen)
    refine ⟨hk2.from _, fun u hu => ?_, ⟨⟨_, hv2, by simpa using hr2, trivial⟩, hbx1⟩, hB.trans hb2⟩
    rw [hbx.cell] at hu
    cases hu
    exact hbx1.cell
  case done =>
    rintro D ys W hD rfl ⟨⟨⟨v, hv, hrow, _⟩, hbx⟩, hB⟩ hK
    rw [pairs_vals, pairs_length] at hrow
    have hc := hv.cell
    gi_wp2
    refine ⟨by simp, .inl ⟨_, _, rfl, run_takeDeferred hK, ?_⟩⟩
    obtain ⟨g, cap, rfl, hg1, hg2, hg3, hg4⟩ := digs_of_owns (ownsRow_putObj hrow (.deferred none) hK rfl)
    exact ⟨_, results_tmp rfl _ _ _, g, cap, rfl, hg1, hg2, hg3, hg4, hB.trans (belowK_b (w := w) (Nat.le_refl _) W D _ _ (by simp at hD; omega) hK rfl rfl)⟩
  case stop =>
    rintro D c pre W _ _ h _
    exact h.elim
end Go.Proofs.Ytnabnmlpjhfmdaa
