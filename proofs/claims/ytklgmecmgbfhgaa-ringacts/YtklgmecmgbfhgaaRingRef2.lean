/-
  Contracts of the document's ring (vergeref04): Fill.
-/
import Derived.Test.YtklgmecmgbfhgaaRingRef1
namespace Go.Proofs.Ytklgmecmgbfhgaa
open Go.RowKit Verge
attribute [local go_sem] Oper.semAt_some
set_option linter.unusedVariables false
set_option linter.unusedSimpArgs false
section
variable {w w' : World} {R S : Nat → Prop} {c n nx fi q : Nat} {P : Nat → Bool} {V : Nat → Int} {A : Nat → Int} {Q : Nat → Nat}

set_option maxHeartbeats 1600000 in
theorem ref_fillno (h : Ref w R c n nx fi q P V A Q) (k : Nat) (hk : k < q) (hq : q ≤ 900000) (hA : Hid (A k ≠ 4)) (v : Int) :
    Calls Try.prog 14 #[.pointer (some ⟨c, 0, none⟩), .int .i64 k, .int .i64 v] w fun e w' => e = .returned (.bool false) ∧ w = w' := by
  obtain ⟨a1, a2, a3, k1, k2, k3, h⟩ := h
  obtain ⟨g, rfl, hg⟩ := h.rt.form (by omega)
  have ht := h.t
  have h1 := h.rt.cell (k * 2) (by omega)
  rw [tkCell_at] at h1
  have d1 : (A k != 4) = true := by simpa using hA.out
  clear h
  go_enter Try.func14, Try.ntmps14
  go_wp2
  go_ret
  exact ⟨rfl, rfl⟩

set_option maxHeartbeats 4000000 in
set_option maxRecDepth 100000 in
theorem ref_fill (h : Ref w R c n nx fi q P V A Q) (k : Nat) (hk : k < q) (hq : q ≤ 900000) (hx : nx ≤ 900000) (hA : Hid (A k = 4)) (hp : Q k < nx) (v : Int) :
    Calls Try.prog 14 #[.pointer (some ⟨c, 0, none⟩), .int .i64 k, .int .i64 v] w fun e w' => e = .returned (.bool true) ∧ Ref w' R c n nx fi q (upd P (Q k) true) (upd V (Q k) v) (upd A k 5) Q ∧ Ch R w w' := by
  obtain ⟨a1, a2, a3, k1, k2, k3, h⟩ := h
  obtain ⟨g, rfl, hg⟩ := h.rt.form (by omega)
  obtain ⟨g1, rfl, hg1⟩ := h.rp.form (by omega)
  obtain ⟨g2, rfl, hg2⟩ := h.rv.form (by omega)
  have ht := h.t
  have h1 := h.rt.cell (k * 2) (by omega)
  have hf := h.rt.frozen (k * 2)
  rw [tkCell_at, hA.out] at h1
  have HA := Lib.hid (h.setAt k hk 5)
  have rc := h.rc
  have r3 := h.r3 g (own_some g)
  have r1 := h.r1 g1 (own_some g1)
  have r2 := h.r2 g2 (own_some g2)
  have C0 : Hid (Ch R w (w.setCell ⟨g, k * 2, none⟩ (.int .i64 5))) := (Ch.refl _ _).set (p := ⟨g, _, none⟩) (fun _ => r3) _
  clear h
  go_enter Try.func14, Try.ntmps14
  go_wp2
  clear ht h1 hf
  generalize w.setCell ⟨g, k * 2, none⟩ (.int .i64 5) = w1 at HA C0 ⊢
  have hS : (w1.drew.cell? ⟨c, 1, none⟩ = some (.slice (some ⟨g1, 0, none⟩) nx k1) ∧ w1.drew.cell? ⟨c, 4, none⟩ = some (.slice (some ⟨g, 0, none⟩) q k3)) ∧ w1.drew.cell? ⟨g, k * 2 + 1, none⟩ = some (.int .i64 (Q k)) := ⟨⟨HA.out.p, HA.out.t⟩, (HA.out.rt.cell (k * 2 + 1) (by omega)).trans (by rw [tkCell_pos])⟩
  refine wp_region_held_drew (S := fun w' => (w'.cell? ⟨c, 1, none⟩ = some (.slice (some ⟨g1, 0, none⟩) nx k1) ∧ w'.cell? ⟨c, 4, none⟩ = some (.slice (some ⟨g, 0, none⟩) q k3)) ∧ w'.cell? ⟨g, k * 2 + 1, none⟩ = some (.int .i64 (Q k))) (by kernel_rfl) hS (fun hHeld => ?_)
  clear hS
  have H1 := Lib.hid (HA.out.kept (S := Nil) (Ch.refl _ _).drew (fun _ _ e => e))
  have C1 := Lib.hid C0.out.drew
  clear HA C0
  generalize w1.drew = wd at hHeld H1 C1 ⊢
  refine take_at (v := ?_) 0 (some 23) rfl (by kernel_rfl) (by kernel_rfl) (by kernel_rfl) (by kernel_rfl) (fun _ _ _ h => h) (Or.inl ⟨by rfl, ?_⟩) (by assumption) ?_
  rotate_left
  · intro w hSw; (try dsimp only at hSw); go_simp; try (with_reducible rfl)
  (try simp only [Act.put, List.setIfInBounds_toArray, List.set_cons_zero, List.set_cons_succ])
  refine take_at (v := ?_) 1 (some 24) rfl (by kernel_rfl) (by kernel_rfl) (by kernel_rfl) (by kernel_rfl) (fun _ _ _ h => h) (Or.inl ⟨by rfl, ?_⟩) (by assumption) ?_
  rotate_left
  · intro w hSw; (try dsimp only at hSw); go_simp; try (with_reducible rfl)
  (try simp only [Act.put, List.setIfInBounds_toArray, List.set_cons_zero, List.set_cons_succ])
  refine take_at (v := ?_) 2 (some 25) rfl (by kernel_rfl) (by kernel_rfl) (by kernel_rfl) (by kernel_rfl) (fun _ _ _ h => h) (Or.inl ⟨by rfl, ?_⟩) (by assumption) ?_
  rotate_left
  · intro w hSw; (try dsimp only at hSw); go_simp; try (with_reducible rfl)
  (try simp only [Act.put, List.setIfInBounds_toArray, List.set_cons_zero, List.set_cons_succ])
  refine take_at (v := ?_) 3 (some 26) rfl (by kernel_rfl) (by kernel_rfl) (by kernel_rfl) (by kernel_rfl) (fun _ _ _ h => h) (Or.inl ⟨by rfl, ?_⟩) (by assumption) ?_
  rotate_left
  · intro w hSw; (try dsimp only at hSw); go_simp; try (with_reducible rfl)
  (try simp only [Act.put, List.setIfInBounds_toArray, List.set_cons_zero, List.set_cons_succ])
  refine take_at (v := ?_) 4 (some 27) rfl (by kernel_rfl) (by kernel_rfl) (by kernel_rfl) (by kernel_rfl) (fun _ _ _ h => h) (Or.inl ⟨by rfl, ?_⟩) (by assumption) ?_
  rotate_left
  · intro w hSw; (try dsimp only at hSw); go_simp; try (with_reducible rfl)
  (try simp only [Act.put, List.setIfInBounds_toArray, List.set_cons_zero, List.set_cons_succ])
  refine take_at (v := ?_) 5 (some 28) rfl (by kernel_rfl) (by kernel_rfl) (by kernel_rfl) (by kernel_rfl) (fun _ _ _ h => h) (Or.inl ⟨by rfl, ?_⟩) (by assumption) ?_
  rotate_left
  · intro w hSw; (try dsimp only at hSw); go_simp; try (with_reducible rfl)
  (try simp only [Act.put, List.setIfInBounds_toArray, List.set_cons_zero, List.set_cons_succ])
  refine take_at (v := ?_) 6 (some 29) rfl (by kernel_rfl) (by kernel_rfl) (by kernel_rfl) (by kernel_rfl) (fun _ _ _ h => h) (Or.inl ⟨by rfl, ?_⟩) (by assumption) ?_
  rotate_left
  · intro w hSw; (try dsimp only at hSw); go_simp; try (with_reducible rfl)
  (try simp only [Act.put, List.setIfInBounds_toArray, List.set_cons_zero, List.set_cons_succ])
  refine take_at (v := ?_) 7 (some 30) rfl (by kernel_rfl) (by kernel_rfl) (by kernel_rfl) (by kernel_rfl) (fun _ _ _ h => h) (Or.inl ⟨by rfl, ?_⟩) (by assumption) ?_
  rotate_left
  · intro w hSw; (try dsimp only at hSw); go_simp; try (with_reducible rfl)
  (try simp only [Act.put, List.setIfInBounds_toArray, List.set_cons_zero, List.set_cons_succ])
  refine take_at (v := ?_) 8 (some 31) rfl (by kernel_rfl) (by kernel_rfl) (by kernel_rfl) (by kernel_rfl) (fun _ _ _ h => h) (Or.inl ⟨by rfl, ?_⟩) (by assumption) ?_
  rotate_left
  · intro w hSw; (try dsimp only at hSw); go_simp; try (with_reducible rfl)
  (try simp only [Act.put, List.setIfInBounds_toArray, List.set_cons_zero, List.set_cons_succ])
  refine take_at (v := ?_) 9 (some 32) rfl (by kernel_rfl) (by kernel_rfl) (by kernel_rfl) (by kernel_rfl) (fun _ _ _ h => h) (Or.inl ⟨by rfl, ?_⟩) (by assumption) ?_
  rotate_left
  · intro w hSw; (try dsimp only at hSw); go_simp; try (with_reducible rfl)
  (try simp only [Act.put, List.setIfInBounds_toArray, List.set_cons_zero, List.set_cons_succ])
  refine take_at (v := ?_) 10 (some 33) rfl (by kernel_rfl) (by kernel_rfl) (by kernel_rfl) (by kernel_rfl) (fun _ _ _ h => h) (Or.inl ⟨by rfl, ?_⟩) (by assumption) ?_
  rotate_left
  · intro w hSw; (try dsimp only at hSw); go_simp; try (with_reducible rfl)
  (try simp only [Act.put, List.setIfInBounds_toArray, List.set_cons_zero, List.set_cons_succ])
  refine take_at (v := ?_) 11 (some 34) rfl (by kernel_rfl) (by kernel_rfl) (by kernel_rfl) (by kernel_rfl) (fun _ _ _ h => h) (Or.inl ⟨by rfl, ?_⟩) (by assumption) ?_
  rotate_left
  · intro w hSw; (try dsimp only at hSw); go_simp; try (with_reducible rfl)
  (try simp only [Act.put, List.setIfInBounds_toArray, List.set_cons_zero, List.set_cons_succ])
  refine take_at (v := ?_) 12 (some 35) rfl (by kernel_rfl) (by kernel_rfl) (by kernel_rfl) (by kernel_rfl) (fun _ _ _ h => h) (Or.inl ⟨by rfl, ?_⟩) (by assumption) ?_
  rotate_left
  · intro w hSw; (try dsimp only at hSw); go_simp; try (with_reducible rfl)
  (try simp only [Act.put, List.setIfInBounds_toArray, List.set_cons_zero, List.set_cons_succ])
  refine wpAnyH_ready (rs := [13]) (by kernel_rfl) (by simp) ?_
  refine AllReadyH.cons rfl (fun K' hK => ?_) AllReadyH.nil
  have x1 := H1.out.rp.cell (Q k) (by omega)
  have x2 := H1.out.rp.frozen (Q k)
  go_simp
  clear x1 x2
  have H2 := Lib.hid (H1.out.setPub (Q k) hp)
  have C2 : Hid (Ch R w (wd.setCell ⟨g1, Q k, none⟩ (.bool true))) := C1.out.set (p := ⟨g1, _, none⟩) (fun _ => r1) _
  have x3 : (wd.setCell ⟨g1, Q k, none⟩ (.bool true)).cell? ⟨g, k * 2 + 1, none⟩ = some (.int .i64 (Q k)) := (H2.out.rt.cell (k * 2 + 1) (by omega)).trans (by rw [tkCell_pos])
  generalize wd.setCell ⟨g1, Q k, none⟩ (.bool true) = w2 at H2 C2 x3 ⊢
  refine hK.out _ _ ⟨⟨H2.out.p, H2.out.t⟩, x3⟩ (fun _ => ?_)
  clear hK K' hHeld x3 H1 C1
  (try simp only [Act.put, List.setIfInBounds_toArray, List.set_cons_zero, List.set_cons_succ])
  refine wpAnyH_done (by kernel_rfl) ?_ _
  go_wp2
  have hS : (w2.drew.cell? ⟨c, 2, none⟩ = some (.slice (some ⟨g2, 0, none⟩) nx k2) ∧ w2.drew.cell? ⟨c, 4, none⟩ = some (.slice (some ⟨g, 0, none⟩) q k3)) ∧ w2.drew.cell? ⟨g, k * 2 + 1, none⟩ = some (.int .i64 (Q k)) := ⟨⟨H2.out.v, H2.out.t⟩, (H2.out.rt.cell (k * 2 + 1) (by omega)).trans (by rw [tkCell_pos])⟩
  refine wp_region_held_drew (S := fun w' => (w'.cell? ⟨c, 2, none⟩ = some (.slice (some ⟨g2, 0, none⟩) nx k2) ∧ w'.cell? ⟨c, 4, none⟩ = some (.slice (some ⟨g, 0, none⟩) q k3)) ∧ w'.cell? ⟨g, k * 2 + 1, none⟩ = some (.int .i64 (Q k))) (by kernel_rfl) hS (fun hHeld => ?_)
  clear hS
  have H3 := Lib.hid (H2.out.kept (S := Nil) (Ch.refl _ _).drew (fun _ _ e => e))
  have C3 := Lib.hid C2.out.drew
  clear H2 C2
  generalize w2.drew = we at hHeld H3 C3 ⊢
  refine take_at (v := ?_) 0 (some 36) rfl (by kernel_rfl) (by kernel_rfl) (by kernel_rfl) (by kernel_rfl) (fun _ _ _ h => h) (Or.inl ⟨by rfl, ?_⟩) (by assumption) ?_
  rotate_left
  · intro w hSw; (try dsimp only at hSw); go_simp; try (with_reducible rfl)
  (try simp only [Act.put, List.setIfInBounds_toArray, List.set_cons_zero, List.set_cons_succ])
  refine take_at (v := ?_) 1 (some 37) rfl (by kernel_rfl) (by kernel_rfl) (by kernel_rfl) (by kernel_rfl) (fun _ _ _ h => h) (Or.inl ⟨by rfl, ?_⟩) (by assumption) ?_
  rotate_left
  · intro w hSw; (try dsimp only at hSw); go_simp; try (with_reducible rfl)
  (try simp only [Act.put, List.setIfInBounds_toArray, List.set_cons_zero, List.set_cons_succ])
  refine take_at (v := ?_) 2 (some 38) rfl (by kernel_rfl) (by kernel_rfl) (by kernel_rfl) (by kernel_rfl) (fun _ _ _ h => h) (Or.inl ⟨by rfl, ?_⟩) (by assumption) ?_
  rotate_left
  · intro w hSw; (try dsimp only at hSw); go_simp; try (with_reducible rfl)
  (try simp only [Act.put, List.setIfInBounds_toArray, List.set_cons_zero, List.set_cons_succ])
  refine take_at (v := ?_) 3 (some 39) rfl (by kernel_rfl) (by kernel_rfl) (by kernel_rfl) (by kernel_rfl) (fun _ _ _ h => h) (Or.inl ⟨by rfl, ?_⟩) (by assumption) ?_
  rotate_left
  · intro w hSw; (try dsimp only at hSw); go_simp; try (with_reducible rfl)
  (try simp only [Act.put, List.setIfInBounds_toArray, List.set_cons_zero, List.set_cons_succ])
  refine take_at (v := ?_) 4 (some 40) rfl (by kernel_rfl) (by kernel_rfl) (by kernel_rfl) (by kernel_rfl) (fun _ _ _ h => h) (Or.inl ⟨by rfl, ?_⟩) (by assumption) ?_
  rotate_left
  · intro w hSw; (try dsimp only at hSw); go_simp; try (with_reducible rfl)
  (try simp only [Act.put, List.setIfInBounds_toArray, List.set_cons_zero, List.set_cons_succ])
  refine take_at (v := ?_) 5 (some 41) rfl (by kernel_rfl) (by kernel_rfl) (by kernel_rfl) (by kernel_rfl) (fun _ _ _ h => h) (Or.inl ⟨by rfl, ?_⟩) (by assumption) ?_
  rotate_left
  · intro w hSw; (try dsimp only at hSw); go_simp; try (with_reducible rfl)
  (try simp only [Act.put, List.setIfInBounds_toArray, List.set_cons_zero, List.set_cons_succ])
  refine take_at (v := ?_) 6 (some 42) rfl (by kernel_rfl) (by kernel_rfl) (by kernel_rfl) (by kernel_rfl) (fun _ _ _ h => h) (Or.inl ⟨by rfl, ?_⟩) (by assumption) ?_
  rotate_left
  · intro w hSw; (try dsimp only at hSw); go_simp; try (with_reducible rfl)
  (try simp only [Act.put, List.setIfInBounds_toArray, List.set_cons_zero, List.set_cons_succ])
  refine take_at (v := ?_) 7 (some 43) rfl (by kernel_rfl) (by kernel_rfl) (by kernel_rfl) (by kernel_rfl) (fun _ _ _ h => h) (Or.inl ⟨by rfl, ?_⟩) (by assumption) ?_
  rotate_left
  · intro w hSw; (try dsimp only at hSw); go_simp; try (with_reducible rfl)
  (try simp only [Act.put, List.setIfInBounds_toArray, List.set_cons_zero, List.set_cons_succ])
  refine take_at (v := ?_) 8 (some 44) rfl (by kernel_rfl) (by kernel_rfl) (by kernel_rfl) (by kernel_rfl) (fun _ _ _ h => h) (Or.inl ⟨by rfl, ?_⟩) (by assumption) ?_
  rotate_left
  · intro w hSw; (try dsimp only at hSw); go_simp; try (with_reducible rfl)
  (try simp only [Act.put, List.setIfInBounds_toArray, List.set_cons_zero, List.set_cons_succ])
  refine take_at (v := ?_) 9 (some 45) rfl (by kernel_rfl) (by kernel_rfl) (by kernel_rfl) (by kernel_rfl) (fun _ _ _ h => h) (Or.inl ⟨by rfl, ?_⟩) (by assumption) ?_
  rotate_left
  · intro w hSw; (try dsimp only at hSw); go_simp; try (with_reducible rfl)
  (try simp only [Act.put, List.setIfInBounds_toArray, List.set_cons_zero, List.set_cons_succ])
  refine take_at (v := ?_) 10 (some 46) rfl (by kernel_rfl) (by kernel_rfl) (by kernel_rfl) (by kernel_rfl) (fun _ _ _ h => h) (Or.inl ⟨by rfl, ?_⟩) (by assumption) ?_
  rotate_left
  · intro w hSw; (try dsimp only at hSw); go_simp; try (with_reducible rfl)
  (try simp only [Act.put, List.setIfInBounds_toArray, List.set_cons_zero, List.set_cons_succ])
  refine take_at (v := ?_) 11 (some 47) rfl (by kernel_rfl) (by kernel_rfl) (by kernel_rfl) (by kernel_rfl) (fun _ _ _ h => h) (Or.inl ⟨by rfl, ?_⟩) (by assumption) ?_
  rotate_left
  · intro w hSw; (try dsimp only at hSw); go_simp; try (with_reducible rfl)
  (try simp only [Act.put, List.setIfInBounds_toArray, List.set_cons_zero, List.set_cons_succ])
  refine take_at (v := ?_) 12 (some 48) rfl (by kernel_rfl) (by kernel_rfl) (by kernel_rfl) (by kernel_rfl) (fun _ _ _ h => h) (Or.inl ⟨by rfl, ?_⟩) (by assumption) ?_
  rotate_left
  · intro w hSw; (try dsimp only at hSw); go_simp; try (with_reducible rfl)
  (try simp only [Act.put, List.setIfInBounds_toArray, List.set_cons_zero, List.set_cons_succ])
  refine take_at (v := ?_) 13 (some 49) rfl (by kernel_rfl) (by kernel_rfl) (by kernel_rfl) (by kernel_rfl) (fun _ _ _ h => h) (Or.inl ⟨by rfl, ?_⟩) (by assumption) ?_
  rotate_left
  · intro w hSw; (try dsimp only at hSw); go_simp; try (with_reducible rfl)
  (try simp only [Act.put, List.setIfInBounds_toArray, List.set_cons_zero, List.set_cons_succ])
  refine wpAnyH_ready (rs := [14]) (by kernel_rfl) (by simp) ?_
  refine AllReadyH.cons rfl (fun K' hK => ?_) AllReadyH.nil
  have x1 := H3.out.rv.cell (Q k) (by omega)
  have x2 := H3.out.rv.frozen (Q k)
  go_simp
  clear x1 x2
  have H4 := Lib.hid (H3.out.setVal (Q k) hp v)
  have C4 : Hid (Ch R w (we.setCell ⟨g2, Q k, none⟩ (.int .i64 v))) := C3.out.set (p := ⟨g2, _, none⟩) (fun _ => r2) _
  have x3 : (we.setCell ⟨g2, Q k, none⟩ (.int .i64 v)).cell? ⟨g, k * 2 + 1, none⟩ = some (.int .i64 (Q k)) := (H4.out.rt.cell (k * 2 + 1) (by omega)).trans (by rw [tkCell_pos])
  generalize we.setCell ⟨g2, Q k, none⟩ (.int .i64 v) = w4 at H4 C4 x3 ⊢
  refine hK.out _ _ ⟨⟨H4.out.v, H4.out.t⟩, x3⟩ (fun _ => ?_)
  clear hK K' hHeld x3 H3 C3
  (try simp only [Act.put, List.setIfInBounds_toArray, List.set_cons_zero, List.set_cons_succ])
  refine wpAnyH_done (by kernel_rfl) ?_ _
  go_wp2
  go_ret
  exact ⟨rfl, ⟨_, _, _, _, _, _, H4.out⟩, C4.out⟩
end
end Go.Proofs.Ytklgmecmgbfhgaa
