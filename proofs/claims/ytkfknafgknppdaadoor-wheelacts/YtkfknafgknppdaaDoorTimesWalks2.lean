/-
  Contracts of package times' Zeros, Apart, Cut, Add, Later: what each returns, at every argument; nothing that was there is changed.
-/
import Derived.Test.YtkfknafgknppdaaDoorTimesWalks1
namespace Go.Proofs.YtkfknafgknppdaaDoor
open Go.RowKit Go.Shelf Verge
attribute [local go_sem] Oper.semAt_some

theorem cell_of_box {W : World} {B : Nat} {v : Value} {t : TypeId} (h : W.heap[B]? = some (.cells #[v] t (0, 0))) : W.cell? ⟨B, 0, none⟩ = some v ∧ W.frozen? ⟨B, 0, none⟩ = false := by
  constructor <;> simp [World.cell?, World.frozen?, h]
theorem cell_new (W : World) (v : Value) (t : TypeId) : (W.alloc (.cells #[v] t)).cell? ⟨W.heap.size, 0, none⟩ = some v ∧ (W.alloc (.cells #[v] t)).frozen? ⟨W.heap.size, 0, none⟩ = false :=
  cell_of_box (World.alloc_heap_new W _)
theorem cell_alloc {W : World} {a : Addr} {v : Value} (o : Obj) (h : W.cell? a = some v) : (W.alloc o).cell? a = some v := cell_kept h (World.grownBy_alloc W o none) (fun r e => by cases e)
theorem frozen_alloc {W : World} {a : Addr} {v : Value} (o : Obj) (h : W.cell? a = some v) (hf : W.frozen? a = false) : (W.alloc o).frozen? a = false := (frozen_kept h (World.grownBy_alloc W o none) (fun r e => by cases e)).trans hf
theorem kpBox_setCell {B : Nat} (W : World) (b : Nat) (v : Value) (h : b ≠ B) : KpBox B W (W.setCell ⟨b, 0, none⟩ v) := fun u hu =>
  (World.cell?_setCell_other W ⟨b, 0, none⟩ ⟨B, 0, none⟩ v (fun e => by cases e; exact h rfl)).trans hu
theorem kpBox_refl {B : Nat} (W : World) : KpBox B W W := fun _ h => h

/-- what comes of the pairs so far: all 0 -/
def Z0 (pre : List (Nat × Nat)) : Prop := ∀ p ∈ pre, p.2 = 0
theorem zeros_of_all {t : Nat} (h : Z0 (pairs t)) : Zeros t 11 :=
  ⟨Nat.le_refl _, fun i hi => h (i, dg t i) (List.mem_map.2 ⟨i, List.mem_range.2 hi, rfl⟩), .inl rfl⟩
theorem zeros_of_pre {t : Nat} {pre : List (Nat × Nat)} {x : Nat × Nat} (hp : pre ++ [x] <+: pairs t) (h : Z0 pre) (hx : x.2 ≠ 0) : Zeros t x.1 := by
  have hlen : pre.length < 11 := by have := hp.length_le; simp [pairs_length] at this; omega
  have hx1 : x = (pre.length, dg t pre.length) := by
    have e := List.IsPrefix.getElem hp (i := pre.length) (by simp)
    simp [pairs] at e
    exact e
  have hpre : ∀ i, i < pre.length → dg t i = 0 := by
    intro i hi
    have e := List.IsPrefix.getElem hp (i := i) (by simp; omega)
    rw [List.getElem_append_left hi] at e
    simp [pairs] at e
    have := h _ (List.getElem_mem hi)
    rw [e] at this
    exact this
  rw [hx1] at hx ⊢
  exact ⟨by simp; omega, hpre, .inr hx⟩

set_option maxRecDepth 100000 in
set_option maxHeartbeats 2000000 in
theorem zeros_in (t : Nat) (ht : t < 18446744073709551616) (n : Nat) (hn : 3 ≤ n) (w : World) :
    CallsIn Fence.wide n Tryd.prog 27 #[.int .u64 t] w fun e W' => ∃ z : Nat, Zeros t z ∧ e = .returned (.int .i64 z) ∧ Below w.heap.size w W' := by
  have h1 : 1 ≤ n := by omega
  refine callsIn_of_wp_marks Tryd.func27 rfl trivial ?_ rfl
  simp only [Tryd.ntmps27, List.size_toArray, List.length_cons, List.length_nil, Nat.reduceAdd, Nat.reduceSub, Array.replicate_succ, Array.replicate_zero, List.push_toArray, List.append_toArray, List.nil_append, List.cons_append]
  gi_wp2_with (refine ⟨trivial, ?_⟩; gi_at_call 47; refine (each_in _ _ _).mono ?_; rintro e w' ⟨rfl, rfl⟩)
  have c0 := cell_new w (.int .i64 0) 3
  have c1 := cell_new (w.alloc (.cells #[.int .i64 0] 3)) (.int .u64 t) 22
  rw [World.size_alloc] at c1
  have hB0 : Below w.heap.size w ((w.alloc (.cells #[.int .i64 0] 3)).alloc (.cells #[.int .u64 t] 22)) := ((Below.refl _ w).alloc (Nat.le_refl _) _).alloc (by simp) _
  refine wpIn_rangeFunc_ownF (F := Fence.wide) rfl h1 (gf := 58) (lb := #[.pointer (some ⟨w.heap.size + 1, 0, none⟩)]) rfl trivial (enters_of Tryd.func58 (by kernel_rfl) rfl)
    (each_stops (n - 1) (by omega) (w.heap.size + 1) t ht _ (by simp) c1.1) kpBox_t (fun W l o o' _ h ho _ => kpBox_b W l o o' h ho) (Below.refl _ _) (fun _ => rfl)
    (fun pre W => (Z0 pre ∧ W.cell? ⟨w.heap.size, 0, none⟩ = some (.int .i64 0) ∧ W.frozen? ⟨w.heap.size, 0, none⟩ = false) ∧ Below w.heap.size w W)
    (fun c pre W => (c = .ret ∧ ∃ (p : List (Nat × Nat)) (x : Nat × Nat), pre = p ++ [x] ∧ Z0 p ∧ x.2 ≠ 0 ∧ W.cell? ⟨w.heap.size, 0, none⟩ = some (.int .i64 x.1)) ∧ Below w.heap.size w W)
    (OwnFrom.and (Own.from (fun s X Y row hs hg hr => ⟨hs.1, cell_kept hs.2.1 hg hr, (frozen_kept hs.2.1 hg hr).trans hs.2.2⟩) _) (ownFrom_below (Nat.le_refl _) (by simp; omega)))
    (fun c => OwnFrom.and (Own.from (fun s X Y row hs hg hr => by obtain ⟨hc, p, x, e, hz, hx, hcell⟩ := hs; exact ⟨hc, p, x, e, hz, hx, cell_kept hcell hg hr⟩) _) (ownFrom_below (Nat.le_refl _) (by simp; omega)))
    ⟨⟨by intro p h; simp at h, cell_alloc _ c0.1, frozen_alloc _ c0.1 c0.2⟩, hB0⟩
    (fun x => { tmps := #[.int .u64 t, undef, .pointer (some ⟨w.heap.size, 0, none⟩), .int .i64 x.1, .int .i64 x.2, .int .u64 t, .func (.func 58) #[] #[.pointer (some ⟨w.heap.size + 1, 0, none⟩)], .int .i64 x.1, .int .i64 x.2, undef, undef, undef], defers := [] }) ?assign ?body ?done ?stop
  case assign =>
    intro l x W K hK
    gi_wp2
    exact hK
  case body =>
    rintro l pre x W ⟨⟨hz, hc, hf⟩, hB⟩ _
    have HZ := Lib.hid hz
    clear hz
    gi_wp2
    · rename_i hx
      refine ⟨KeepsOthers.setCell _ _ _, ⟨rfl, pre, x, rfl, HZ.out, ?_, World.cell?_setCell_same' _ _ _ (by rw [hc]; rfl)⟩, hB.setCell (p := ⟨w.heap.size, 0, none⟩) (by simp) _⟩
      simpa using hx
    · rename_i hx
      refine ⟨KeepsOthers.refl _, kpBox_refl _, ⟨?_, hc, hf⟩, hB⟩
      intro p hp
      rcases List.mem_append.1 hp with h | h
      · exact HZ.out p h
      · simp at h; subst h; simpa using hx
  case done =>
    rintro D ys W hD rfl ⟨⟨hz, hc, hf⟩, hB⟩ hK
    have HZ := Lib.hid hz
    clear hz
    gi_wp2
    have hK' := (KeepsOthers.setCell W ⟨w.heap.size, 0, none⟩ (.int .i64 11)).same D _ hK rfl
    refine ⟨by simp, .inl ⟨_, _, rfl, run_takeDeferred hK', ?_⟩⟩
    have hc5 := cell_kept (World.cell?_setCell_same' W ⟨w.heap.size, 0, none⟩ (.int .i64 11) (by rw [hc]; rfl)) (grownBy_putObj' _ D (.deferred none)) (fun r e => by cases e; exact ⟨_, hK', rfl⟩)
    refine ⟨.int .i64 11, ?_, 11, zeros_of_all HZ.out, rfl, (hB.setCell (p := ⟨w.heap.size, 0, none⟩) (by simp) _).trans (belowK_b (w := w) (Nat.le_refl _) _ D _ _ (by simp at hD; omega) hK' rfl rfl)⟩
    simp [results, Tryd.f27, go_sem, hc5]
  case stop =>
    rintro D c pre W hD hpre ⟨⟨rfl, p, x, rfl, hz, hx, hc⟩, hB⟩ hK
    have HP := Lib.hid (zeros_of_pre hpre hz hx)
    clear hz hx hpre
    gi_wp2
    refine ⟨by simp, .inl ⟨_, _, rfl, run_takeDeferred hK, ?_⟩⟩
    have hc5 := cell_kept hc (grownBy_putObj' _ D (.deferred none)) (fun r e => by cases e; exact ⟨_, hK, rfl⟩)
    refine ⟨.int .i64 x.1, ?_, x.1, HP.out, rfl, hB.trans (belowK_b (w := w) (Nat.le_refl _) W D _ _ (by simp at hD; omega) hK rfl rfl)⟩
    simp [results, Tryd.f27, go_sem, hc5]
end Go.Proofs.YtkfknafgknppdaaDoor
