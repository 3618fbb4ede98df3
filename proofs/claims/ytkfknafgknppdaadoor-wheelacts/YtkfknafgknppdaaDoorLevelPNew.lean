/-
  Contract of package level's New.
-/
import Derived.Test.YtkfknafgknppdaaDoorLevelPWalks1
import Derived.Test.YtkfknafgknppdaaDoorHeld
import Derived.RegionTactic
import Derived.Deep.Cut
import Derived.Deep.CutRange
import Derived.Deep.CutBlock
namespace Go.Proofs.YtkfknafgknppdaaDoor.LP
open Go.RowKit Verge
attribute [local go_sem] Oper.semAt_some
set_option linter.unusedVariables false
set_option linter.unusedSimpArgs false

/-- a level of which the first k lists are there -/
structure Making (w : World) (vb : Nat) (k : Nat) (hd : Nat → Nat) (V : Nat → Nat) (W : World) : Prop where
  s : ∀ i, i < k → W.cell? ⟨vb, i, none⟩ = some (.pointer (some ⟨hd i, 0, none⟩))
  z : ∀ i, k ≤ i → i < 64 → W.cell? ⟨vb, i, none⟩ = some (.pointer none)
  m : W.cell? ⟨vb, 64, none⟩ = some (.int .u64 0)
  b : Blk W vb
  l : ∀ i, i < k → IsL W (hd i) [] V
  d : ∀ i j, i < k → j < k → i ≠ j → hd i ≠ hd j
  nv : ∀ i, i < k → hd i ≠ vb
  hi : w.heap.size ≤ vb ∧ ∀ i, i < k → w.heap.size ≤ hd i
  c : Ch Nil w W

section
variable {S : Nat → Prop} {w W w5 : World} {vb k lb : Nat} {hd : Nat → Nat} {V : Nat → Nat}
theorem Making.kept (h : Making w vb k hd V W) (c : Ch Nil W w5) : Making w vb k hd V w5 :=
  ⟨fun i hi => c.keeps (h.s i hi) (fun e => e), fun i h1 h2 => c.keeps (h.z i h1 h2) (fun e => e), c.keeps h.m (fun e => e), h.b.kept c (fun e => e), fun i hi => (h.l i hi).kept c (fun _ _ e => e), h.d, h.nv, h.hi, h.c.trans c⟩
theorem Making.drew (h : Making w vb k hd V W) : Making w vb k hd V W.drew := h.kept (Ch.refl _ _).drew
/-- a list more -/
theorem Making.more (h : Making w vb k hd V W) (hk : k < 64) (hlb : W.heap.size ≤ lb) (h5 : IsL w5 lb [] V) (c5 : Ch Nil W w5) : Making w vb (k + 1) (upd hd k lb) V (w5.setCell ⟨vb, k, none⟩ (.pointer (some ⟨lb, 0, none⟩))) := by
  have h' := h.kept c5
  have vlt := h.b.lt
  have llt : ∀ i, i < k → hd i < W.heap.size := fun i hi => (h.l i hi).lt (.inl rfl)
  have c : Ch (One vb) w5 (w5.setCell ⟨vb, k, none⟩ (.pointer (some ⟨lb, 0, none⟩))) := (Ch.refl _ _).setB k _
  have hw := h.c.size
  refine ⟨fun i hi => ?_, fun i h1 h2 => (cell_ne (by omega) _).trans (h'.z i (by omega) h2), (cell_ne (by omega) _).trans h'.m, h'.b.set _ _, fun i hi => ?_, fun i j hi hj hne => ?_, fun i hi => ?_, ⟨h.hi.1, fun i hi => ?_⟩, h'.c.up c (fun i e => e ▸ h.hi.1)⟩
  · by_cases e : i = k
    · subst e; rw [upd_same]; exact World.cell?_setCell_same _ _ _ (h'.z i (Nat.le_refl _) hk)
    · rw [upd_other _ _ _ _ e]; exact (cell_ne (fun e' => e e'.symm) _).trans (h'.s i (by omega))
  · by_cases e : i = k
    · subst e; rw [upd_same]
      refine h5.kept c ?_
      rintro j (rfl | hj) e
      · have : j = vb := e; omega
      · cases hj
    · rw [upd_other _ _ _ _ e]
      refine (h'.l i (by omega)).kept c ?_
      rintro j (rfl | hj) e
      · exact h.nv i (by omega) e
      · cases hj
  · by_cases ei : i = k
    · subst ei; rw [upd_same, upd_other _ _ _ _ (fun e => hne e.symm)]; have := llt j (by omega); omega
    · rw [upd_other _ _ _ _ ei]
      by_cases ej : j = k
      · subst ej; rw [upd_same]; have := llt i (by omega); omega
      · rw [upd_other _ _ _ _ ej]; exact h.d i j (by omega) (by omega) hne
  · by_cases e : i = k
    · subst e; rw [upd_same]; omega
    · rw [upd_other _ _ _ _ e]; exact h.nv i (by omega)
  · by_cases e : i = k
    · subst e; rw [upd_same]; omega
    · rw [upd_other _ _ _ _ e]; exact h.hi.2 i (by omega)
theorem Making.made (h : Making w vb 64 hd V W) : IsLv W vb hd (fun _ => []) V := by
  refine ⟨h.s, ?_, h.b, h.l, ?_, ?_⟩
  · rw [mapX_empty (fun _ _ => rfl)]; exact h.m
  · rintro i j hi hj hne k (rfl | hk) (e | hk')
    · exact h.d i j hi hj hne e
    · cases hk'
    · cases hk
    · cases hk
  · rintro i hi (e | hk)
    · exact h.nv i hi e.symm
    · cases hk
theorem Making.high (h : Making w vb 64 hd V W) : ∀ k, LvB vb hd (fun _ => []) k → w.heap.size ≤ k := by
  rintro k (rfl | ⟨i, hi, (rfl | hk)⟩)
  · exact h.hi.1
  · exact h.hi.2 i hi
  · cases hk
end
/-- a level's zero: 64 nil pointers, the empty map -/
def lvZ : Array Value := (Array.replicate 64 (.pointer none)).push (.int .u64 0)
theorem zero_of {P : Program} {t : TypeId} {z : Value} (h : (P.info? t).map (fun i => i.zero) = some (some z)) (w : World) : (zeroValue t).run P w = .ok z w := by
  obtain ⟨i, hi, hz⟩ := Option.map_eq_some_iff.1 h
  simp [zeroValue, typeInfo, hi, hz]
theorem lvZ_zero (w : World) : (zeroValue 90).run Tryd.prog w = .ok (.agg lvZ) w := zero_of (by kernel_rfl) w
theorem lvZ_at (i : Nat) (h : i < 64) : lvZ[i]? = some (.pointer none) := by
  unfold lvZ; rw [Array.getElem?_push, if_neg (by simp; omega), Array.getElem?_replicate, if_pos h]
theorem lvZ_map : lvZ[64]? = some (.int .u64 0) := by
  unfold lvZ; rw [Array.getElem?_push, if_pos (by simp)]

set_option maxHeartbeats 1000000 in
set_option maxRecDepth 100000 in
theorem newv_of (w : World) (V : Nat → Nat) :
    Calls Tryd.prog 18 #[] w fun e w' => ∃ vb hd, e = .returned (.pointer (some ⟨vb, 0, none⟩)) ∧ IsLv w' vb hd (fun _ => []) V ∧ (∀ k, LvB vb hd (fun _ => []) k → w.heap.size ≤ k) ∧ Ch Nil w w' := by
  have z1 := lvZ_zero
  go_enter Tryd.func18, Tryd.ntmps18
  go_wp2
  go_loopw [5] (fun i wr => ∃ (k : Nat) (hd : Nat → Nat), k ≤ 64 ∧ i = .int .i64 k ∧ Making w w.heap.size k hd V wr) (fun i _ => 64 - (intOf i).toNat)
  case atStart =>
    refine ⟨0, fun _ => 0, by omega, rfl, ⟨fun i hi => by omega, fun i _ hi => ?_, ?_, Blk.new _ _ _, fun i hi => by omega, fun i j hi => by omega, fun i hi => by omega, ⟨Nat.le_refl _, fun i hi => by omega⟩, (Ch.refl _ _).alloc _⟩⟩
    · rw [cell_fresh]; exact lvZ_at i hi
    · rw [cell_fresh]; exact lvZ_map
  case round =>
    obtain ⟨k, hd, hk, rfl, hm⟩ := hrel
    have HM := Lib.hid hm
    clear hm
    by_cases hlt : k < 64
    · have hkz : (k : Int) < 64 := by omega
      have hkz0 : (0 : Int) ≤ (k : Int) := by omega
      go_upto_region 5 with (fail)
      have HMd : Hid (Making w w.heap.size k hd V wr.drew) := HM.out.drew
      have vlt : w.heap.size < wr.drew.heap.size := HM.out.b.lt
      refine wp_region_held_drew (S := fun _ => True) (by kernel_rfl) trivial (fun hHeld => ?_)
      generalize wr.drew = W at *
      refine take_at (v := ?_) 0 (some 8) rfl (by kernel_rfl) (by kernel_rfl) (by kernel_rfl) (by kernel_rfl) (fun _ _ _ h => h) (Or.inl ⟨by rfl, ?_⟩) (by assumption) ?_
      rotate_left
      · intro w hSw; (try dsimp only at hSw); go_simp; try (with_reducible rfl)
      (try simp only [Act.put, List.setIfInBounds_toArray, List.set_cons_zero, List.set_cons_succ])
      refine take_at (v := ?_) 1 (some 9) rfl (by kernel_rfl) (by kernel_rfl) (by kernel_rfl) (by kernel_rfl) (fun _ _ _ h => h) (Or.inl ⟨by rfl, ?_⟩) (by assumption) ?_
      rotate_left
      · intro w hSw; (try dsimp only at hSw); go_simp; try (with_reducible rfl)
      (try simp only [Act.put, List.setIfInBounds_toArray, List.set_cons_zero, List.set_cons_succ])
      refine take_at (v := ?_) 3 (some 11) rfl (by kernel_rfl) (by kernel_rfl) (by kernel_rfl) (by kernel_rfl) (fun _ _ _ h => h) (Or.inl ⟨by rfl, ?_⟩) (by assumption) ?_
      rotate_left
      · intro w hSw; (try dsimp only at hSw); go_simp; try (with_reducible rfl)
      (try simp only [Act.put, List.setIfInBounds_toArray, List.set_cons_zero, List.set_cons_succ])
      refine take_at (v := ?_) 4 (some 12) rfl (by kernel_rfl) (by kernel_rfl) (by kernel_rfl) (by kernel_rfl) (fun _ _ _ h => h) (Or.inl ⟨by rfl, ?_⟩) (by assumption) ?_
      rotate_left
      · intro w hSw; (try dsimp only at hSw); go_simp; try (with_reducible rfl)
      (try simp only [Act.put, List.setIfInBounds_toArray, List.set_cons_zero, List.set_cons_succ])
      refine wpAnyH_ready (rs := [2]) (by kernel_rfl) (by simp) ?_
      refine AllReadyH.cons rfl (fun K hK => ?_) AllReadyH.nil
      go_simp
      refine (new_of _ V).mono ?_
      rintro e w5 ⟨lb, rfl, hlb, h5, c5⟩
      have hle : w.heap.size < lb := Nat.lt_of_lt_of_le vlt hlb
      have q1 := c5.keeps (HMd.out.z k (Nat.le_refl _) hlt) (fun e => e)
      have q2 : w5.frozen? ⟨w.heap.size, k, none⟩ = false := (HMd.out.b.kept c5 (fun e => e)).fz k
      have NEXT := Lib.hid (HMd.out.more hlt hlb h5 c5)
      clear h5 c5
      refine hK.out _ _ trivial (fun hHeld => ?_)
      clear hK K
      (try simp only [Act.put, List.setIfInBounds_toArray, List.set_cons_zero, List.set_cons_succ])
      refine take_at (v := ?_) 5 (some 13) rfl (by kernel_rfl) (by kernel_rfl) (by kernel_rfl) (by kernel_rfl) (fun _ _ _ h => h) (Or.inl ⟨by rfl, ?_⟩) (by assumption) ?_
      rotate_left
      · intro w hSw; (try dsimp only at hSw); go_simp; try (with_reducible rfl)
      (try simp only [Act.put, List.setIfInBounds_toArray, List.set_cons_zero, List.set_cons_succ])
      refine wpAnyH_ready (rs := [6]) (by kernel_rfl) (by simp) ?_
      refine AllReadyH.cons rfl (fun K hK => ?_) AllReadyH.nil
      go_simp
      refine hK.out _ _ trivial (fun hHeld => ?_)
      clear hK K
      refine wpAnyH_done (by kernel_rfl) ?_ _
      go_wp2
      go_roundw
      case rel => exact ⟨k + 1, _, by omega, by go_num, NEXT.out⟩
      case measure => simp [intOf]; omega
    · obtain rfl : k = 64 := by omega
      go_wp2
      go_ret
      exact ⟨_, hd, rfl, HM.out.made, HM.out.high, HM.out.c⟩
end Go.Proofs.YtkfknafgknppdaaDoor.LP
