import Derived.Test.YtnbdafmjcmmfpaaGreatK13
/-
  Contracts of package slab: Try.
-/
namespace Go.Proofs.YtnbdafmjcmmfpaaGreat
open Go.RowKit Verge
attribute [local go_sem] Oper.semAt_some
set_option linter.unusedVariables false
set_option linter.unusedSimpArgs false
theorem try_nil (k : Int) (old : Nat) (ev : Int) (w : World) :
    Calls Tryz.prog 129 #[.pointer none, .int .i64 k, .int .u64 (old : Nat), .int .i64 ev] w fun e w' => e = .returned (.tuple #[.int .u64 0, .int .i64 6]) ∧ Ch Nil w w' := by
  go_enter Tryz.func129, Tryz.ntmps129
  go_wp2_with fail
  refine (word_nil k _).mono ?_
  rintro e w1 ⟨rfl, rfl⟩
  go_wp2
  go_ret2
  exact ⟨rfl, (Ch.refl _ _).alloc _⟩
theorem try_out {b rb n cnt : Nat} {R : Nat → Rec} (k : Int) (old : Nat) (ev : Int) {w : World} (h : IsS w b rb n cnt R) (hk : ¬ (0 ≤ k ∧ k < n)) :
    Calls Tryz.prog 129 #[.pointer (some ⟨b, 0, none⟩), .int .i64 k, .int .u64 (old : Nat), .int .i64 ev] w fun e w' => e = .returned (.tuple #[.int .u64 0, .int .i64 4]) ∧ IsS w' b rb n cnt R ∧ Ch Nil w w' := by
  have HK := Lib.hid hk
  have cA : Ch Nil w (w.alloc (.cells #[.int .u64 (old : Nat)] 58)) := (Ch.refl _ _).alloc _
  have H := Lib.hid (h.quiet cA)
  have C := Lib.hid cA
  clear h hk cA
  go_enter Tryz.func129, Tryz.ntmps129
  go_wp2_with fail
  generalize w.alloc (.cells #[.int .u64 (old : Nat)] 58) = wa at H C ⊢
  refine (word_out k H.out HK.out).mono ?_
  rintro e w1 ⟨rfl, rfl⟩
  go_wp2
  go_ret2
  exact ⟨rfl, H.out, C.out⟩
set_option maxRecDepth 100000 in
set_option maxHeartbeats 4000000 in
theorem try_err {b rb n cnt : Nat} {R : Nat → Rec} (k : Nat) (old : Nat) (ev : Int) {w : World} (h : IsS w b rb n cnt R) (hk : k < n) (ho : old < 18446744073709551616) (hx : (nxZ old ev ((R k).pd != 0)).2 ≠ 0) :
    Calls Tryz.prog 129 #[.pointer (some ⟨b, 0, none⟩), .int .i64 k, .int .u64 (old : Nat), .int .i64 ev] w fun e w' => e = .returned (.tuple #[.int .u64 ((R k).wd : Nat), .int .i64 ((nxZ old ev ((R k).pd != 0)).2 : Nat)]) ∧ IsS w' b rb n cnt R ∧ Ch (One rb) w w' := by
  have hBr : ¬ w.heap.size = rb := by have := h.lt2; omega
  have cA : Ch Nil w (w.alloc (.cells #[.int .u64 (old : Nat)] 58)) := (Ch.refl _ _).alloc _
  have H := Lib.hid (h.quiet cA)
  have C : Hid (Ch (One rb) w (w.alloc (.cells #[.int .u64 (old : Nat)] 58))) := Lib.hid (Ch_any cA)
  have hb0 : (w.alloc (.cells #[.int .u64 (old : Nat)] 58)).cell? ⟨w.heap.size, 0, none⟩ = some (.int .u64 (old : Nat)) := by simp [go_sem]
  have n1 := h.n1
  obtain ⟨p, hp⟩ : ∃ p, p = (R k).pd := ⟨_, rfl⟩
  obtain ⟨per, hper⟩ : ∃ per, per = (p != 0) := ⟨_, rfl⟩
  have HP := Lib.hid hp
  rw [← hp, ← hper] at hx
  have e1 : ((p : Int) != 0) = per := by rw [hper, Bool.eq_iff_iff, bne_iff_ne, bne_iff_ne]; omega
  obtain ⟨x, hxx⟩ : ∃ x, nxZ old ev per = x := ⟨_, rfl⟩
  have XX := Lib.hid hxx
  rw [hxx] at hx
  have HX := Lib.hid hx
  clear hx hp hper hxx
  clear h cA
  go_enter Tryz.func129, Tryz.ntmps129
  go_wp2_with fail
  obtain ⟨B, hB⟩ : ∃ B, B = w.heap.size := ⟨_, rfl⟩
  have hlB : B < (w.alloc (.cells #[.int .u64 (old : Nat)] 58)).heap.size := by rw [hB]; simp
  generalize w.alloc (.cells #[.int .u64 (old : Nat)] 58) = wa at H C hb0 hlB ⊢
  rw [← hB] at hb0 hBr ⊢
  clear hB
  refine (word_in k H.out hk).mono ?_
  rintro e w1 ⟨rfl, s1, c1⟩
  have H1 := Lib.hid s1
  have C1 : Hid (Ch (One rb) w w1) := Lib.hid (C.out.trans c1)
  have b1 := c1.keeps hb0 hBr
  have l1 : B < w1.heap.size := Nat.lt_of_lt_of_le hlB c1.size
  clear s1 c1 H C hb0 hlB
  go_upto_region 4 with (fail)
  have H2 := Lib.hid (H1.out.quiet ((Ch.refl Nil w1).drew))
  have C2 : Hid (Ch (One rb) w w1.drew) := Lib.hid C1.out.drew
  have b2 : w1.drew.cell? ⟨B, 0, none⟩ = some (.int .u64 (old : Nat)) := b1
  have l2 : B < w1.drew.heap.size := l1
  refine wp_region_held_drew (S := fun w' => w'.cell? ⟨B, 0, none⟩ = some (.int .u64 (old : Nat))) (by kernel_rfl) b2 (fun hHeld => ?_)
  clear H1 C1 b1 l1
  generalize w1.drew = X at H2 C2 b2 l2 hHeld ⊢
  refine take_at (v := ?_) 0 (some 24) rfl (by kernel_rfl) (by kernel_rfl) (by kernel_rfl) (by kernel_rfl) (fun _ _ _ h => h) (Or.inl ⟨by rfl, ?_⟩) (by assumption) ?_
  rotate_left
  · intro w hSw; (try dsimp only at hSw); go_simp; try (with_reducible rfl)
  (try simp only [Act.put, List.setIfInBounds_toArray, List.set_cons_zero, List.set_cons_succ])
  refine take_at (v := ?_) 1 (some 25) rfl (by kernel_rfl) (by kernel_rfl) (by kernel_rfl) (by kernel_rfl) (fun _ _ _ h => h) (Or.inl ⟨by rfl, ?_⟩) (by assumption) ?_
  rotate_left
  · intro w hSw; (try dsimp only at hSw); go_simp; try (with_reducible rfl)
  (try simp only [Act.put, List.setIfInBounds_toArray, List.set_cons_zero, List.set_cons_succ])
  refine take_at (v := ?_) 2 (some 26) rfl (by kernel_rfl) (by kernel_rfl) (by kernel_rfl) (by kernel_rfl) (fun _ _ _ h => h) (Or.inl ⟨by rfl, ?_⟩) (by assumption) ?_
  rotate_left
  · intro w hSw; (try dsimp only at hSw); go_simp; try (with_reducible rfl)
  (try simp only [Act.put, List.setIfInBounds_toArray, List.set_cons_zero, List.set_cons_succ])
  refine take_at (v := ?_) 3 (some 27) rfl (by kernel_rfl) (by kernel_rfl) (by kernel_rfl) (by kernel_rfl) (fun _ _ _ h => h) (Or.inl ⟨by rfl, ?_⟩) (by assumption) ?_
  rotate_left
  · intro w hSw; (try dsimp only at hSw); go_simp; try (with_reducible rfl)
  (try simp only [Act.put, List.setIfInBounds_toArray, List.set_cons_zero, List.set_cons_succ])
  have cB : Ch Nil X (X.alloc (.cells #[.int .u64 0] 58)) := (Ch.refl _ _).alloc _
  have H3 := Lib.hid (H2.out.quiet cB)
  have b3 := cB.keeps b2 (fun e => e)
  have BN : Hid (¬ X.heap.size = B) := Lib.hid (by omega)
  refine wpAnyH_ready (rs := [4, 10]) (by kernel_rfl) (by simp) ?_
  refine AllReadyH.cons rfl (fun K hK => ?_) ?_
  go_simp
  refine (period_in k H2.out hk).mono ?_
  rintro e w2 ⟨rfl, rfl⟩
  rw [← HP.out]
  refine hK.out _ _ b2 (fun hHeld => ?_)
  clear hK K
  (try simp only [Act.put, List.setIfInBounds_toArray, List.set_cons_zero, List.set_cons_succ])
  refine take_at (v := ?_) 5 (some 29) rfl (by kernel_rfl) (by kernel_rfl) (by kernel_rfl) (by kernel_rfl) (fun _ _ _ h => h) (Or.inl ⟨by rfl, ?_⟩) (by assumption) ?_
  rotate_left
  · intro w hSw; (try dsimp only at hSw); go_simp; try (with_reducible rfl)
  (try simp only [Act.put, List.setIfInBounds_toArray, List.set_cons_zero, List.set_cons_succ])
  refine wpAnyH_ready (rs := [6, 10]) (by kernel_rfl) (by simp) ?_
  refine AllReadyH.cons rfl (fun K hK => ?_) ?_
  go_simp
  refine (next_any old ev per ho _).mono ?_
  rintro e w2 ⟨rfl, rfl⟩
  rw [XX.out]
  refine hK.out _ _ b2 (fun hHeld => ?_)
  clear hK K
  (try simp only [Act.put, List.setIfInBounds_toArray, List.set_cons_zero, List.set_cons_succ])
  refine take_at (v := ?_) 7 (some 23) rfl (by kernel_rfl) (by kernel_rfl) (by kernel_rfl) (by kernel_rfl) (fun _ _ _ h => h) (Or.inl ⟨by rfl, ?_⟩) (by assumption) ?_
  rotate_left
  · intro w hSw; (try dsimp only at hSw); go_simp; try (with_reducible rfl)
  (try simp only [Act.put, List.setIfInBounds_toArray, List.set_cons_zero, List.set_cons_succ])
  refine take_at (v := ?_) 8 (some 31) rfl (by kernel_rfl) (by kernel_rfl) (by kernel_rfl) (by kernel_rfl) (fun _ _ _ h => h) (Or.inl ⟨by rfl, ?_⟩) (by assumption) ?_
  rotate_left
  · intro w hSw; (try dsimp only at hSw); go_simp; try (with_reducible rfl)
  (try simp only [Act.put, List.setIfInBounds_toArray, List.set_cons_zero, List.set_cons_succ])
  refine take_at (v := ?_) 9 (some 32) rfl (by kernel_rfl) (by kernel_rfl) (by kernel_rfl) (by kernel_rfl) (fun _ _ _ h => h) (Or.inl ⟨by rfl, ?_⟩) (by assumption) ?_
  rotate_left
  · intro w hSw; (try dsimp only at hSw); go_simp; try (with_reducible rfl)
  (try simp only [Act.put, List.setIfInBounds_toArray, List.set_cons_zero, List.set_cons_succ])
  refine wpAnyH_ready (rs := [10]) (by kernel_rfl) (by simp) ?_
  refine AllReadyH.cons rfl (fun K hK => ?_) AllReadyH.nil
  go_simp
  refine hK.out _ _ b3 (fun hHeld => ?_)
  clear hK K
  (try simp only [Act.put, List.setIfInBounds_toArray, List.set_cons_zero, List.set_cons_succ])
  clear hHeld
  clear hHeld
  clear hHeld
  refine ?tail
  rotate_left
  refine AllReadyH.cons rfl (fun K hK => ?_) AllReadyH.nil
  go_simp
  refine hK.out _ _ b3 (fun hHeld => ?_)
  clear hK K
  (try simp only [Act.put, List.setIfInBounds_toArray, List.set_cons_zero, List.set_cons_succ])
  refine wpAnyH_ready (rs := [6]) (by kernel_rfl) (by simp) ?_
  refine AllReadyH.cons rfl (fun K hK => ?_) AllReadyH.nil
  go_simp
  refine (next_any old ev per ho _).mono ?_
  rintro e w2 ⟨rfl, rfl⟩
  rw [XX.out]
  refine hK.out _ _ b3 (fun hHeld => ?_)
  clear hK K
  (try simp only [Act.put, List.setIfInBounds_toArray, List.set_cons_zero, List.set_cons_succ])
  refine take_at (v := ?_) 7 (some 23) rfl (by kernel_rfl) (by kernel_rfl) (by kernel_rfl) (by kernel_rfl) (fun _ _ _ h => h) (Or.inl ⟨by rfl, ?_⟩) (by assumption) ?_
  rotate_left
  · intro w hSw; (try dsimp only at hSw); go_simp; try (with_reducible rfl)
  (try simp only [Act.put, List.setIfInBounds_toArray, List.set_cons_zero, List.set_cons_succ])
  refine take_at (v := ?_) 8 (some 31) rfl (by kernel_rfl) (by kernel_rfl) (by kernel_rfl) (by kernel_rfl) (fun _ _ _ h => h) (Or.inl ⟨by rfl, ?_⟩) (by assumption) ?_
  rotate_left
  · intro w hSw; (try dsimp only at hSw); go_simp; try (with_reducible rfl)
  (try simp only [Act.put, List.setIfInBounds_toArray, List.set_cons_zero, List.set_cons_succ])
  refine take_at (v := ?_) 9 (some 32) rfl (by kernel_rfl) (by kernel_rfl) (by kernel_rfl) (by kernel_rfl) (fun _ _ _ h => h) (Or.inl ⟨by rfl, ?_⟩) (by assumption) ?_
  rotate_left
  · intro w hSw; (try dsimp only at hSw); go_simp; try (with_reducible rfl)
  (try simp only [Act.put, List.setIfInBounds_toArray, List.set_cons_zero, List.set_cons_succ])
  exact ?tail
  refine AllReadyH.cons rfl (fun K hK => ?_) AllReadyH.nil
  go_simp
  refine hK.out _ _ b3 (fun hHeld => ?_)
  clear hK K
  (try simp only [Act.put, List.setIfInBounds_toArray, List.set_cons_zero, List.set_cons_succ])
  refine wpAnyH_ready (rs := [4]) (by kernel_rfl) (by simp) ?_
  refine AllReadyH.cons rfl (fun K hK => ?_) AllReadyH.nil
  go_simp
  refine (period_in k H3.out hk).mono ?_
  rintro e w2 ⟨rfl, rfl⟩
  rw [← HP.out]
  refine hK.out _ _ b3 (fun hHeld => ?_)
  clear hK K
  (try simp only [Act.put, List.setIfInBounds_toArray, List.set_cons_zero, List.set_cons_succ])
  refine take_at (v := ?_) 5 (some 29) rfl (by kernel_rfl) (by kernel_rfl) (by kernel_rfl) (by kernel_rfl) (fun _ _ _ h => h) (Or.inl ⟨by rfl, ?_⟩) (by assumption) ?_
  rotate_left
  · intro w hSw; (try dsimp only at hSw); go_simp; try (with_reducible rfl)
  (try simp only [Act.put, List.setIfInBounds_toArray, List.set_cons_zero, List.set_cons_succ])
  refine wpAnyH_ready (rs := [6]) (by kernel_rfl) (by simp) ?_
  refine AllReadyH.cons rfl (fun K hK => ?_) AllReadyH.nil
  go_simp
  refine (next_any old ev per ho _).mono ?_
  rintro e w2 ⟨rfl, rfl⟩
  rw [XX.out]
  refine hK.out _ _ b3 (fun hHeld => ?_)
  clear hK K
  (try simp only [Act.put, List.setIfInBounds_toArray, List.set_cons_zero, List.set_cons_succ])
  refine take_at (v := ?_) 7 (some 23) rfl (by kernel_rfl) (by kernel_rfl) (by kernel_rfl) (by kernel_rfl) (fun _ _ _ h => h) (Or.inl ⟨by rfl, ?_⟩) (by assumption) ?_
  rotate_left
  · intro w hSw; (try dsimp only at hSw); go_simp; try (with_reducible rfl)
  (try simp only [Act.put, List.setIfInBounds_toArray, List.set_cons_zero, List.set_cons_succ])
  refine take_at (v := ?_) 8 (some 31) rfl (by kernel_rfl) (by kernel_rfl) (by kernel_rfl) (by kernel_rfl) (fun _ _ _ h => h) (Or.inl ⟨by rfl, ?_⟩) (by assumption) ?_
  rotate_left
  · intro w hSw; (try dsimp only at hSw); go_simp; try (with_reducible rfl)
  (try simp only [Act.put, List.setIfInBounds_toArray, List.set_cons_zero, List.set_cons_succ])
  refine take_at (v := ?_) 9 (some 32) rfl (by kernel_rfl) (by kernel_rfl) (by kernel_rfl) (by kernel_rfl) (fun _ _ _ h => h) (Or.inl ⟨by rfl, ?_⟩) (by assumption) ?_
  rotate_left
  · intro w hSw; (try dsimp only at hSw); go_simp; try (with_reducible rfl)
  (try simp only [Act.put, List.setIfInBounds_toArray, List.set_cons_zero, List.set_cons_succ])
  exact ?tail
  have cY : Ch Nil X (X.alloc (.cells #[.int .u64 (x.1 : Nat)] 58)) := (Ch.refl _ _).alloc _
  have H4 := Lib.hid (H2.out.quiet cY)
  have C4 : Hid (Ch (One rb) w (X.alloc (.cells #[.int .u64 (x.1 : Nat)] 58))) := Lib.hid (C2.out.trans (Ch_any cY))
  have b4 := cY.keeps b2 (fun e => e)
  have d4 : (X.alloc (.cells #[.int .u64 (x.1 : Nat)] 58)).cell? ⟨X.heap.size, 0, none⟩ = some (.int .u64 (x.1 : Nat)) := by simp [go_sem]
  have hB2 : ¬ X.heap.size = rb := by have := H2.out.lt2; omega
  refine wpAnyH_ready (rs := [11]) (by kernel_rfl) (by simp) ?_
  refine AllReadyH.cons rfl (fun K hK => ?_) AllReadyH.nil
  go_simp
  refine hK.out _ _ b4 (fun hHeld => ?_)
  clear hK K
  (try simp only [Act.put, List.setIfInBounds_toArray, List.set_cons_zero, List.set_cons_succ])
  refine take_at (v := ?_) 12 (some 11) rfl (by kernel_rfl) (by kernel_rfl) (by kernel_rfl) (by kernel_rfl) (fun _ _ _ h => h) (Or.inl ⟨by rfl, ?_⟩) (by assumption) ?_
  rotate_left
  · intro w hSw; (try dsimp only at hSw); go_simp; try (with_reducible rfl)
  (try simp only [Act.put, List.setIfInBounds_toArray, List.set_cons_zero, List.set_cons_succ])
  refine wpAnyH_done (by kernel_rfl) ?_ _
  clear hHeld
  clear cB cY H3 b3 BN H2 C2 b2 l2
  generalize X.alloc (.cells #[.int .u64 (x.1 : Nat)] 58) = Y at H4 C4 b4 d4 ⊢
  obtain ⟨B2, hB2e⟩ : ∃ B2, B2 = X.heap.size := ⟨_, rfl⟩
  rw [← hB2e] at d4 hB2 ⊢
  clear hB2e
  obtain ⟨y, hy⟩ : ∃ y, y = x.2 := ⟨_, rfl⟩
  have z1 : ((y : Int) != 0) = true := by rw [bne_iff_ne]; have := HX.out; omega
  have HY := Lib.hid hy
  rw [← hy]
  clear hy
  go_wp2
  go_ret2
  refine ⟨?_, H4.out, C4.out⟩
  rw [← HP.out]
  have e2 : (p != 0) = per := by rw [← e1, Bool.eq_iff_iff, bne_iff_ne, bne_iff_ne]; omega
  rw [e2, XX.out, HY.out]
  rfl
set_option maxRecDepth 100000 in
set_option maxHeartbeats 4000000 in
theorem try_busy {b rb n cnt : Nat} {R : Nat → Rec} (k : Nat) (old : Nat) (ev : Int) {w : World} (h : IsS w b rb n cnt R) (hk : k < n) (ho : old < 18446744073709551616) (hx : (nxZ old ev ((R k).pd != 0)).2 = 0) (hv : (R k).wd ≠ old) :
    Calls Tryz.prog 129 #[.pointer (some ⟨b, 0, none⟩), .int .i64 k, .int .u64 (old : Nat), .int .i64 ev] w fun e w' => e = .returned (.tuple #[.int .u64 ((R k).wd : Nat), .int .i64 10]) ∧ IsS w' b rb n cnt R ∧ Ch (One rb) w w' := by
  have hBr : ¬ w.heap.size = rb := by have := h.lt2; omega
  have cA : Ch Nil w (w.alloc (.cells #[.int .u64 (old : Nat)] 58)) := (Ch.refl _ _).alloc _
  have H := Lib.hid (h.quiet cA)
  have C : Hid (Ch (One rb) w (w.alloc (.cells #[.int .u64 (old : Nat)] 58))) := Lib.hid (Ch_any cA)
  have hb0 : (w.alloc (.cells #[.int .u64 (old : Nat)] 58)).cell? ⟨w.heap.size, 0, none⟩ = some (.int .u64 (old : Nat)) := by simp [go_sem]
  have n1 := h.n1
  obtain ⟨p, hp⟩ : ∃ p, p = (R k).pd := ⟨_, rfl⟩
  obtain ⟨per, hper⟩ : ∃ per, per = (p != 0) := ⟨_, rfl⟩
  have HP := Lib.hid hp
  rw [← hp, ← hper] at hx
  have e1 : ((p : Int) != 0) = per := by rw [hper, Bool.eq_iff_iff, bne_iff_ne, bne_iff_ne]; omega
  obtain ⟨x, hxx⟩ : ∃ x, nxZ old ev per = x := ⟨_, rfl⟩
  have XX := Lib.hid hxx
  rw [hxx] at hx
  have HX := Lib.hid hx
  clear hx hp hper hxx
  have HV : Hid ((((R k).wd : Int) == (old : Int)) = false) := Lib.hid (by rw [beq_eq_false_iff_ne]; omega)
  clear hv
  clear h cA
  go_enter Tryz.func129, Tryz.ntmps129
  go_wp2_with fail
  obtain ⟨B, hB⟩ : ∃ B, B = w.heap.size := ⟨_, rfl⟩
  have hlB : B < (w.alloc (.cells #[.int .u64 (old : Nat)] 58)).heap.size := by rw [hB]; simp
  generalize w.alloc (.cells #[.int .u64 (old : Nat)] 58) = wa at H C hb0 hlB ⊢
  rw [← hB] at hb0 hBr ⊢
  clear hB
  refine (word_in k H.out hk).mono ?_
  rintro e w1 ⟨rfl, s1, c1⟩
  have H1 := Lib.hid s1
  have C1 : Hid (Ch (One rb) w w1) := Lib.hid (C.out.trans c1)
  have b1 := c1.keeps hb0 hBr
  have l1 : B < w1.heap.size := Nat.lt_of_lt_of_le hlB c1.size
  clear s1 c1 H C hb0 hlB
  go_upto_region 4 with (fail)
  have H2 := Lib.hid (H1.out.quiet ((Ch.refl Nil w1).drew))
  have C2 : Hid (Ch (One rb) w w1.drew) := Lib.hid C1.out.drew
  have b2 : w1.drew.cell? ⟨B, 0, none⟩ = some (.int .u64 (old : Nat)) := b1
  have l2 : B < w1.drew.heap.size := l1
  refine wp_region_held_drew (S := fun w' => w'.cell? ⟨B, 0, none⟩ = some (.int .u64 (old : Nat))) (by kernel_rfl) b2 (fun hHeld => ?_)
  clear H1 C1 b1 l1
  generalize w1.drew = X at H2 C2 b2 l2 hHeld ⊢
  refine take_at (v := ?_) 0 (some 24) rfl (by kernel_rfl) (by kernel_rfl) (by kernel_rfl) (by kernel_rfl) (fun _ _ _ h => h) (Or.inl ⟨by rfl, ?_⟩) (by assumption) ?_
  rotate_left
  · intro w hSw; (try dsimp only at hSw); go_simp; try (with_reducible rfl)
  (try simp only [Act.put, List.setIfInBounds_toArray, List.set_cons_zero, List.set_cons_succ])
  refine take_at (v := ?_) 1 (some 25) rfl (by kernel_rfl) (by kernel_rfl) (by kernel_rfl) (by kernel_rfl) (fun _ _ _ h => h) (Or.inl ⟨by rfl, ?_⟩) (by assumption) ?_
  rotate_left
  · intro w hSw; (try dsimp only at hSw); go_simp; try (with_reducible rfl)
  (try simp only [Act.put, List.setIfInBounds_toArray, List.set_cons_zero, List.set_cons_succ])
  refine take_at (v := ?_) 2 (some 26) rfl (by kernel_rfl) (by kernel_rfl) (by kernel_rfl) (by kernel_rfl) (fun _ _ _ h => h) (Or.inl ⟨by rfl, ?_⟩) (by assumption) ?_
  rotate_left
  · intro w hSw; (try dsimp only at hSw); go_simp; try (with_reducible rfl)
  (try simp only [Act.put, List.setIfInBounds_toArray, List.set_cons_zero, List.set_cons_succ])
  refine take_at (v := ?_) 3 (some 27) rfl (by kernel_rfl) (by kernel_rfl) (by kernel_rfl) (by kernel_rfl) (fun _ _ _ h => h) (Or.inl ⟨by rfl, ?_⟩) (by assumption) ?_
  rotate_left
  · intro w hSw; (try dsimp only at hSw); go_simp; try (with_reducible rfl)
  (try simp only [Act.put, List.setIfInBounds_toArray, List.set_cons_zero, List.set_cons_succ])
  have cB : Ch Nil X (X.alloc (.cells #[.int .u64 0] 58)) := (Ch.refl _ _).alloc _
  have H3 := Lib.hid (H2.out.quiet cB)
  have b3 := cB.keeps b2 (fun e => e)
  have BN : Hid (¬ X.heap.size = B) := Lib.hid (by omega)
  refine wpAnyH_ready (rs := [4, 10]) (by kernel_rfl) (by simp) ?_
  refine AllReadyH.cons rfl (fun K hK => ?_) ?_
  go_simp
  refine (period_in k H2.out hk).mono ?_
  rintro e w2 ⟨rfl, rfl⟩
  rw [← HP.out]
  refine hK.out _ _ b2 (fun hHeld => ?_)
  clear hK K
  (try simp only [Act.put, List.setIfInBounds_toArray, List.set_cons_zero, List.set_cons_succ])
  refine take_at (v := ?_) 5 (some 29) rfl (by kernel_rfl) (by kernel_rfl) (by kernel_rfl) (by kernel_rfl) (fun _ _ _ h => h) (Or.inl ⟨by rfl, ?_⟩) (by assumption) ?_
  rotate_left
  · intro w hSw; (try dsimp only at hSw); go_simp; try (with_reducible rfl)
  (try simp only [Act.put, List.setIfInBounds_toArray, List.set_cons_zero, List.set_cons_succ])
  refine wpAnyH_ready (rs := [6, 10]) (by kernel_rfl) (by simp) ?_
  refine AllReadyH.cons rfl (fun K hK => ?_) ?_
  go_simp
  refine (next_any old ev per ho _).mono ?_
  rintro e w2 ⟨rfl, rfl⟩
  rw [XX.out]
  refine hK.out _ _ b2 (fun hHeld => ?_)
  clear hK K
  (try simp only [Act.put, List.setIfInBounds_toArray, List.set_cons_zero, List.set_cons_succ])
  refine take_at (v := ?_) 7 (some 23) rfl (by kernel_rfl) (by kernel_rfl) (by kernel_rfl) (by kernel_rfl) (fun _ _ _ h => h) (Or.inl ⟨by rfl, ?_⟩) (by assumption) ?_
  rotate_left
  · intro w hSw; (try dsimp only at hSw); go_simp; try (with_reducible rfl)
  (try simp only [Act.put, List.setIfInBounds_toArray, List.set_cons_zero, List.set_cons_succ])
  refine take_at (v := ?_) 8 (some 31) rfl (by kernel_rfl) (by kernel_rfl) (by kernel_rfl) (by kernel_rfl) (fun _ _ _ h => h) (Or.inl ⟨by rfl, ?_⟩) (by assumption) ?_
  rotate_left
  · intro w hSw; (try dsimp only at hSw); go_simp; try (with_reducible rfl)
  (try simp only [Act.put, List.setIfInBounds_toArray, List.set_cons_zero, List.set_cons_succ])
  refine take_at (v := ?_) 9 (some 32) rfl (by kernel_rfl) (by kernel_rfl) (by kernel_rfl) (by kernel_rfl) (fun _ _ _ h => h) (Or.inl ⟨by rfl, ?_⟩) (by assumption) ?_
  rotate_left
  · intro w hSw; (try dsimp only at hSw); go_simp; try (with_reducible rfl)
  (try simp only [Act.put, List.setIfInBounds_toArray, List.set_cons_zero, List.set_cons_succ])
  refine wpAnyH_ready (rs := [10]) (by kernel_rfl) (by simp) ?_
  refine AllReadyH.cons rfl (fun K hK => ?_) AllReadyH.nil
  go_simp
  refine hK.out _ _ b3 (fun hHeld => ?_)
  clear hK K
  (try simp only [Act.put, List.setIfInBounds_toArray, List.set_cons_zero, List.set_cons_succ])
  clear hHeld
  clear hHeld
  clear hHeld
  refine ?tail
  rotate_left
  refine AllReadyH.cons rfl (fun K hK => ?_) AllReadyH.nil
  go_simp
  refine hK.out _ _ b3 (fun hHeld => ?_)
  clear hK K
  (try simp only [Act.put, List.setIfInBounds_toArray, List.set_cons_zero, List.set_cons_succ])
  refine wpAnyH_ready (rs := [6]) (by kernel_rfl) (by simp) ?_
  refine AllReadyH.cons rfl (fun K hK => ?_) AllReadyH.nil
  go_simp
  refine (next_any old ev per ho _).mono ?_
  rintro e w2 ⟨rfl, rfl⟩
  rw [XX.out]
  refine hK.out _ _ b3 (fun hHeld => ?_)
  clear hK K
  (try simp only [Act.put, List.setIfInBounds_toArray, List.set_cons_zero, List.set_cons_succ])
  refine take_at (v := ?_) 7 (some 23) rfl (by kernel_rfl) (by kernel_rfl) (by kernel_rfl) (by kernel_rfl) (fun _ _ _ h => h) (Or.inl ⟨by rfl, ?_⟩) (by assumption) ?_
  rotate_left
  · intro w hSw; (try dsimp only at hSw); go_simp; try (with_reducible rfl)
  (try simp only [Act.put, List.setIfInBounds_toArray, List.set_cons_zero, List.set_cons_succ])
  refine take_at (v := ?_) 8 (some 31) rfl (by kernel_rfl) (by kernel_rfl) (by kernel_rfl) (by kernel_rfl) (fun _ _ _ h => h) (Or.inl ⟨by rfl, ?_⟩) (by assumption) ?_
  rotate_left
  · intro w hSw; (try dsimp only at hSw); go_simp; try (with_reducible rfl)
  (try simp only [Act.put, List.setIfInBounds_toArray, List.set_cons_zero, List.set_cons_succ])
  refine take_at (v := ?_) 9 (some 32) rfl (by kernel_rfl) (by kernel_rfl) (by kernel_rfl) (by kernel_rfl) (fun _ _ _ h => h) (Or.inl ⟨by rfl, ?_⟩) (by assumption) ?_
  rotate_left
  · intro w hSw; (try dsimp only at hSw); go_simp; try (with_reducible rfl)
  (try simp only [Act.put, List.setIfInBounds_toArray, List.set_cons_zero, List.set_cons_succ])
  exact ?tail
  refine AllReadyH.cons rfl (fun K hK => ?_) AllReadyH.nil
  go_simp
  refine hK.out _ _ b3 (fun hHeld => ?_)
  clear hK K
  (try simp only [Act.put, List.setIfInBounds_toArray, List.set_cons_zero, List.set_cons_succ])
  refine wpAnyH_ready (rs := [4]) (by kernel_rfl) (by simp) ?_
  refine AllReadyH.cons rfl (fun K hK => ?_) AllReadyH.nil
  go_simp
  refine (period_in k H3.out hk).mono ?_
  rintro e w2 ⟨rfl, rfl⟩
  rw [← HP.out]
  refine hK.out _ _ b3 (fun hHeld => ?_)
  clear hK K
  (try simp only [Act.put, List.setIfInBounds_toArray, List.set_cons_zero, List.set_cons_succ])
  refine take_at (v := ?_) 5 (some 29) rfl (by kernel_rfl) (by kernel_rfl) (by kernel_rfl) (by kernel_rfl) (fun _ _ _ h => h) (Or.inl ⟨by rfl, ?_⟩) (by assumption) ?_
  rotate_left
  · intro w hSw; (try dsimp only at hSw); go_simp; try (with_reducible rfl)
  (try simp only [Act.put, List.setIfInBounds_toArray, List.set_cons_zero, List.set_cons_succ])
  refine wpAnyH_ready (rs := [6]) (by kernel_rfl) (by simp) ?_
  refine AllReadyH.cons rfl (fun K hK => ?_) AllReadyH.nil
  go_simp
  refine (next_any old ev per ho _).mono ?_
  rintro e w2 ⟨rfl, rfl⟩
  rw [XX.out]
  refine hK.out _ _ b3 (fun hHeld => ?_)
  clear hK K
  (try simp only [Act.put, List.setIfInBounds_toArray, List.set_cons_zero, List.set_cons_succ])
  refine take_at (v := ?_) 7 (some 23) rfl (by kernel_rfl) (by kernel_rfl) (by kernel_rfl) (by kernel_rfl) (fun _ _ _ h => h) (Or.inl ⟨by rfl, ?_⟩) (by assumption) ?_
  rotate_left
  · intro w hSw; (try dsimp only at hSw); go_simp; try (with_reducible rfl)
  (try simp only [Act.put, List.setIfInBounds_toArray, List.set_cons_zero, List.set_cons_succ])
  refine take_at (v := ?_) 8 (some 31) rfl (by kernel_rfl) (by kernel_rfl) (by kernel_rfl) (by kernel_rfl) (fun _ _ _ h => h) (Or.inl ⟨by rfl, ?_⟩) (by assumption) ?_
  rotate_left
  · intro w hSw; (try dsimp only at hSw); go_simp; try (with_reducible rfl)
  (try simp only [Act.put, List.setIfInBounds_toArray, List.set_cons_zero, List.set_cons_succ])
  refine take_at (v := ?_) 9 (some 32) rfl (by kernel_rfl) (by kernel_rfl) (by kernel_rfl) (by kernel_rfl) (fun _ _ _ h => h) (Or.inl ⟨by rfl, ?_⟩) (by assumption) ?_
  rotate_left
  · intro w hSw; (try dsimp only at hSw); go_simp; try (with_reducible rfl)
  (try simp only [Act.put, List.setIfInBounds_toArray, List.set_cons_zero, List.set_cons_succ])
  exact ?tail
  have cY : Ch Nil X (X.alloc (.cells #[.int .u64 (x.1 : Nat)] 58)) := (Ch.refl _ _).alloc _
  have H4 := Lib.hid (H2.out.quiet cY)
  have C4 : Hid (Ch (One rb) w (X.alloc (.cells #[.int .u64 (x.1 : Nat)] 58))) := Lib.hid (C2.out.trans (Ch_any cY))
  have b4 := cY.keeps b2 (fun e => e)
  have d4 : (X.alloc (.cells #[.int .u64 (x.1 : Nat)] 58)).cell? ⟨X.heap.size, 0, none⟩ = some (.int .u64 (x.1 : Nat)) := by simp [go_sem]
  have hB2 : ¬ X.heap.size = rb := by have := H2.out.lt2; omega
  refine wpAnyH_ready (rs := [11]) (by kernel_rfl) (by simp) ?_
  refine AllReadyH.cons rfl (fun K hK => ?_) AllReadyH.nil
  go_simp
  refine hK.out _ _ b4 (fun hHeld => ?_)
  clear hK K
  (try simp only [Act.put, List.setIfInBounds_toArray, List.set_cons_zero, List.set_cons_succ])
  refine take_at (v := ?_) 12 (some 11) rfl (by kernel_rfl) (by kernel_rfl) (by kernel_rfl) (by kernel_rfl) (fun _ _ _ h => h) (Or.inl ⟨by rfl, ?_⟩) (by assumption) ?_
  rotate_left
  · intro w hSw; (try dsimp only at hSw); go_simp; try (with_reducible rfl)
  (try simp only [Act.put, List.setIfInBounds_toArray, List.set_cons_zero, List.set_cons_succ])
  refine wpAnyH_done (by kernel_rfl) ?_ _
  clear hHeld
  clear cB cY H3 b3 BN H2 C2 b2 l2
  generalize X.alloc (.cells #[.int .u64 (x.1 : Nat)] 58) = Y at H4 C4 b4 d4 ⊢
  obtain ⟨B2, hB2e⟩ : ∃ B2, B2 = X.heap.size := ⟨_, rfl⟩
  rw [← hB2e] at d4 hB2 ⊢
  clear hB2e
  have z0 : ((x.2 : Nat) : Int) = 0 := by rw [HX.out]; rfl
  rw [z0]
  have e0 : ((k : Int)).toNat = k := by omega
  have hs := H4.out.recs
  go_wp2_with fail
  refine (turn_try rb (k * 6) _ (x.1 : Nat) (old : Nat) B2 B _ (H4.out.rc k hk).c d4 b4 hB2 hBr).mono ?_
  rintro e w6 ⟨rfl, hu, c6⟩
  rw [HV.out] at hu ⊢
  rw [if_neg (by simp)] at hu
  have NX := Lib.hid (H4.out.same hk (c6.wide (Nat.le_refl _) (by omega)) ((H4.out.rc k hk).turn c6 hu))
  clear hu
  go_wp2
  go_ret2
  exact ⟨rfl, NX.out, C4.out.trans c6.ch⟩
set_option maxRecDepth 100000 in
set_option maxHeartbeats 4000000 in
theorem try_go {b rb n cnt : Nat} {R : Nat → Rec} (k : Nat) (old : Nat) (ev : Int) {w : World} (h : IsS w b rb n cnt R) (hk : k < n) (ho : old < 18446744073709551616) (hx : (nxZ old ev ((R k).pd != 0)).2 = 0) (hv : (R k).wd = old) :
    Calls Tryz.prog 129 #[.pointer (some ⟨b, 0, none⟩), .int .i64 k, .int .u64 (old : Nat), .int .i64 ev] w fun e w' => e = .returned (.tuple #[.int .u64 ((nxZ old ev ((R k).pd != 0)).1 : Nat), .int .i64 0]) ∧ IsS w' b rb n cnt (upR R k ⟨(nxZ old ev ((R k).pd != 0)).1, (R k).gv, (R k).pd⟩) ∧ Ch (One rb) w w' := by
  have hBr : ¬ w.heap.size = rb := by have := h.lt2; omega
  have cA : Ch Nil w (w.alloc (.cells #[.int .u64 (old : Nat)] 58)) := (Ch.refl _ _).alloc _
  have H := Lib.hid (h.quiet cA)
  have C : Hid (Ch (One rb) w (w.alloc (.cells #[.int .u64 (old : Nat)] 58))) := Lib.hid (Ch_any cA)
  have hb0 : (w.alloc (.cells #[.int .u64 (old : Nat)] 58)).cell? ⟨w.heap.size, 0, none⟩ = some (.int .u64 (old : Nat)) := by simp [go_sem]
  have n1 := h.n1
  obtain ⟨p, hp⟩ : ∃ p, p = (R k).pd := ⟨_, rfl⟩
  obtain ⟨per, hper⟩ : ∃ per, per = (p != 0) := ⟨_, rfl⟩
  have HP := Lib.hid hp
  rw [← hp, ← hper] at hx
  have e1 : ((p : Int) != 0) = per := by rw [hper, Bool.eq_iff_iff, bne_iff_ne, bne_iff_ne]; omega
  obtain ⟨x, hxx⟩ : ∃ x, nxZ old ev per = x := ⟨_, rfl⟩
  have XX := Lib.hid hxx
  rw [hxx] at hx
  have HX := Lib.hid hx
  clear hx hp hper hxx
  have HV : Hid ((((R k).wd : Int) == (old : Int)) = true) := Lib.hid (by rw [beq_iff_eq]; omega)
  clear hv
  clear h cA
  go_enter Tryz.func129, Tryz.ntmps129
  go_wp2_with fail
  obtain ⟨B, hB⟩ : ∃ B, B = w.heap.size := ⟨_, rfl⟩
  have hlB : B < (w.alloc (.cells #[.int .u64 (old : Nat)] 58)).heap.size := by rw [hB]; simp
  generalize w.alloc (.cells #[.int .u64 (old : Nat)] 58) = wa at H C hb0 hlB ⊢
  rw [← hB] at hb0 hBr ⊢
  clear hB
  refine (word_in k H.out hk).mono ?_
  rintro e w1 ⟨rfl, s1, c1⟩
  have H1 := Lib.hid s1
  have C1 : Hid (Ch (One rb) w w1) := Lib.hid (C.out.trans c1)
  have b1 := c1.keeps hb0 hBr
  have l1 : B < w1.heap.size := Nat.lt_of_lt_of_le hlB c1.size
  clear s1 c1 H C hb0 hlB
  go_upto_region 4 with (fail)
  have H2 := Lib.hid (H1.out.quiet ((Ch.refl Nil w1).drew))
  have C2 : Hid (Ch (One rb) w w1.drew) := Lib.hid C1.out.drew
  have b2 : w1.drew.cell? ⟨B, 0, none⟩ = some (.int .u64 (old : Nat)) := b1
  have l2 : B < w1.drew.heap.size := l1
  refine wp_region_held_drew (S := fun w' => w'.cell? ⟨B, 0, none⟩ = some (.int .u64 (old : Nat))) (by kernel_rfl) b2 (fun hHeld => ?_)
  clear H1 C1 b1 l1
  generalize w1.drew = X at H2 C2 b2 l2 hHeld ⊢
  refine take_at (v := ?_) 0 (some 24) rfl (by kernel_rfl) (by kernel_rfl) (by kernel_rfl) (by kernel_rfl) (fun _ _ _ h => h) (Or.inl ⟨by rfl, ?_⟩) (by assumption) ?_
  rotate_left
  · intro w hSw; (try dsimp only at hSw); go_simp; try (with_reducible rfl)
  (try simp only [Act.put, List.setIfInBounds_toArray, List.set_cons_zero, List.set_cons_succ])
  refine take_at (v := ?_) 1 (some 25) rfl (by kernel_rfl) (by kernel_rfl) (by kernel_rfl) (by kernel_rfl) (fun _ _ _ h => h) (Or.inl ⟨by rfl, ?_⟩) (by assumption) ?_
  rotate_left
  · intro w hSw; (try dsimp only at hSw); go_simp; try (with_reducible rfl)
  (try simp only [Act.put, List.setIfInBounds_toArray, List.set_cons_zero, List.set_cons_succ])
  refine take_at (v := ?_) 2 (some 26) rfl (by kernel_rfl) (by kernel_rfl) (by kernel_rfl) (by kernel_rfl) (fun _ _ _ h => h) (Or.inl ⟨by rfl, ?_⟩) (by assumption) ?_
  rotate_left
  · intro w hSw; (try dsimp only at hSw); go_simp; try (with_reducible rfl)
  (try simp only [Act.put, List.setIfInBounds_toArray, List.set_cons_zero, List.set_cons_succ])
  refine take_at (v := ?_) 3 (some 27) rfl (by kernel_rfl) (by kernel_rfl) (by kernel_rfl) (by kernel_rfl) (fun _ _ _ h => h) (Or.inl ⟨by rfl, ?_⟩) (by assumption) ?_
  rotate_left
  · intro w hSw; (try dsimp only at hSw); go_simp; try (with_reducible rfl)
  (try simp only [Act.put, List.setIfInBounds_toArray, List.set_cons_zero, List.set_cons_succ])
  have cB : Ch Nil X (X.alloc (.cells #[.int .u64 0] 58)) := (Ch.refl _ _).alloc _
  have H3 := Lib.hid (H2.out.quiet cB)
  have b3 := cB.keeps b2 (fun e => e)
  have BN : Hid (¬ X.heap.size = B) := Lib.hid (by omega)
  refine wpAnyH_ready (rs := [4, 10]) (by kernel_rfl) (by simp) ?_
  refine AllReadyH.cons rfl (fun K hK => ?_) ?_
  go_simp
  refine (period_in k H2.out hk).mono ?_
  rintro e w2 ⟨rfl, rfl⟩
  rw [← HP.out]
  refine hK.out _ _ b2 (fun hHeld => ?_)
  clear hK K
  (try simp only [Act.put, List.setIfInBounds_toArray, List.set_cons_zero, List.set_cons_succ])
  refine take_at (v := ?_) 5 (some 29) rfl (by kernel_rfl) (by kernel_rfl) (by kernel_rfl) (by kernel_rfl) (fun _ _ _ h => h) (Or.inl ⟨by rfl, ?_⟩) (by assumption) ?_
  rotate_left
  · intro w hSw; (try dsimp only at hSw); go_simp; try (with_reducible rfl)
  (try simp only [Act.put, List.setIfInBounds_toArray, List.set_cons_zero, List.set_cons_succ])
  refine wpAnyH_ready (rs := [6, 10]) (by kernel_rfl) (by simp) ?_
  refine AllReadyH.cons rfl (fun K hK => ?_) ?_
  go_simp
  refine (next_any old ev per ho _).mono ?_
  rintro e w2 ⟨rfl, rfl⟩
  rw [XX.out]
  refine hK.out _ _ b2 (fun hHeld => ?_)
  clear hK K
  (try simp only [Act.put, List.setIfInBounds_toArray, List.set_cons_zero, List.set_cons_succ])
  refine take_at (v := ?_) 7 (some 23) rfl (by kernel_rfl) (by kernel_rfl) (by kernel_rfl) (by kernel_rfl) (fun _ _ _ h => h) (Or.inl ⟨by rfl, ?_⟩) (by assumption) ?_
  rotate_left
  · intro w hSw; (try dsimp only at hSw); go_simp; try (with_reducible rfl)
  (try simp only [Act.put, List.setIfInBounds_toArray, List.set_cons_zero, List.set_cons_succ])
  refine take_at (v := ?_) 8 (some 31) rfl (by kernel_rfl) (by kernel_rfl) (by kernel_rfl) (by kernel_rfl) (fun _ _ _ h => h) (Or.inl ⟨by rfl, ?_⟩) (by assumption) ?_
  rotate_left
  · intro w hSw; (try dsimp only at hSw); go_simp; try (with_reducible rfl)
  (try simp only [Act.put, List.setIfInBounds_toArray, List.set_cons_zero, List.set_cons_succ])
  refine take_at (v := ?_) 9 (some 32) rfl (by kernel_rfl) (by kernel_rfl) (by kernel_rfl) (by kernel_rfl) (fun _ _ _ h => h) (Or.inl ⟨by rfl, ?_⟩) (by assumption) ?_
  rotate_left
  · intro w hSw; (try dsimp only at hSw); go_simp; try (with_reducible rfl)
  (try simp only [Act.put, List.setIfInBounds_toArray, List.set_cons_zero, List.set_cons_succ])
  refine wpAnyH_ready (rs := [10]) (by kernel_rfl) (by simp) ?_
  refine AllReadyH.cons rfl (fun K hK => ?_) AllReadyH.nil
  go_simp
  refine hK.out _ _ b3 (fun hHeld => ?_)
  clear hK K
  (try simp only [Act.put, List.setIfInBounds_toArray, List.set_cons_zero, List.set_cons_succ])
  clear hHeld
  clear hHeld
  clear hHeld
  refine ?tail
  rotate_left
  refine AllReadyH.cons rfl (fun K hK => ?_) AllReadyH.nil
  go_simp
  refine hK.out _ _ b3 (fun hHeld => ?_)
  clear hK K
  (try simp only [Act.put, List.setIfInBounds_toArray, List.set_cons_zero, List.set_cons_succ])
  refine wpAnyH_ready (rs := [6]) (by kernel_rfl) (by simp) ?_
  refine AllReadyH.cons rfl (fun K hK => ?_) AllReadyH.nil
  go_simp
  refine (next_any old ev per ho _).mono ?_
  rintro e w2 ⟨rfl, rfl⟩
  rw [XX.out]
  refine hK.out _ _ b3 (fun hHeld => ?_)
  clear hK K
  (try simp only [Act.put, List.setIfInBounds_toArray, List.set_cons_zero, List.set_cons_succ])
  refine take_at (v := ?_) 7 (some 23) rfl (by kernel_rfl) (by kernel_rfl) (by kernel_rfl) (by kernel_rfl) (fun _ _ _ h => h) (Or.inl ⟨by rfl, ?_⟩) (by assumption) ?_
  rotate_left
  · intro w hSw; (try dsimp only at hSw); go_simp; try (with_reducible rfl)
  (try simp only [Act.put, List.setIfInBounds_toArray, List.set_cons_zero, List.set_cons_succ])
  refine take_at (v := ?_) 8 (some 31) rfl (by kernel_rfl) (by kernel_rfl) (by kernel_rfl) (by kernel_rfl) (fun _ _ _ h => h) (Or.inl ⟨by rfl, ?_⟩) (by assumption) ?_
  rotate_left
  · intro w hSw; (try dsimp only at hSw); go_simp; try (with_reducible rfl)
  (try simp only [Act.put, List.setIfInBounds_toArray, List.set_cons_zero, List.set_cons_succ])
  refine take_at (v := ?_) 9 (some 32) rfl (by kernel_rfl) (by kernel_rfl) (by kernel_rfl) (by kernel_rfl) (fun _ _ _ h => h) (Or.inl ⟨by rfl, ?_⟩) (by assumption) ?_
  rotate_left
  · intro w hSw; (try dsimp only at hSw); go_simp; try (with_reducible rfl)
  (try simp only [Act.put, List.setIfInBounds_toArray, List.set_cons_zero, List.set_cons_succ])
  exact ?tail
  refine AllReadyH.cons rfl (fun K hK => ?_) AllReadyH.nil
  go_simp
  refine hK.out _ _ b3 (fun hHeld => ?_)
  clear hK K
  (try simp only [Act.put, List.setIfInBounds_toArray, List.set_cons_zero, List.set_cons_succ])
  refine wpAnyH_ready (rs := [4]) (by kernel_rfl) (by simp) ?_
  refine AllReadyH.cons rfl (fun K hK => ?_) AllReadyH.nil
  go_simp
  refine (period_in k H3.out hk).mono ?_
  rintro e w2 ⟨rfl, rfl⟩
  rw [← HP.out]
  refine hK.out _ _ b3 (fun hHeld => ?_)
  clear hK K
  (try simp only [Act.put, List.setIfInBounds_toArray, List.set_cons_zero, List.set_cons_succ])
  refine take_at (v := ?_) 5 (some 29) rfl (by kernel_rfl) (by kernel_rfl) (by kernel_rfl) (by kernel_rfl) (fun _ _ _ h => h) (Or.inl ⟨by rfl, ?_⟩) (by assumption) ?_
  rotate_left
  · intro w hSw; (try dsimp only at hSw); go_simp; try (with_reducible rfl)
  (try simp only [Act.put, List.setIfInBounds_toArray, List.set_cons_zero, List.set_cons_succ])
  refine wpAnyH_ready (rs := [6]) (by kernel_rfl) (by simp) ?_
  refine AllReadyH.cons rfl (fun K hK => ?_) AllReadyH.nil
  go_simp
  refine (next_any old ev per ho _).mono ?_
  rintro e w2 ⟨rfl, rfl⟩
  rw [XX.out]
  refine hK.out _ _ b3 (fun hHeld => ?_)
  clear hK K
  (try simp only [Act.put, List.setIfInBounds_toArray, List.set_cons_zero, List.set_cons_succ])
  refine take_at (v := ?_) 7 (some 23) rfl (by kernel_rfl) (by kernel_rfl) (by kernel_rfl) (by kernel_rfl) (fun _ _ _ h => h) (Or.inl ⟨by rfl, ?_⟩) (by assumption) ?_
  rotate_left
  · intro w hSw; (try dsimp only at hSw); go_simp; try (with_reducible rfl)
  (try simp only [Act.put, List.setIfInBounds_toArray, List.set_cons_zero, List.set_cons_succ])
  refine take_at (v := ?_) 8 (some 31) rfl (by kernel_rfl) (by kernel_rfl) (by kernel_rfl) (by kernel_rfl) (fun _ _ _ h => h) (Or.inl ⟨by rfl, ?_⟩) (by assumption) ?_
  rotate_left
  · intro w hSw; (try dsimp only at hSw); go_simp; try (with_reducible rfl)
  (try simp only [Act.put, List.setIfInBounds_toArray, List.set_cons_zero, List.set_cons_succ])
  refine take_at (v := ?_) 9 (some 32) rfl (by kernel_rfl) (by kernel_rfl) (by kernel_rfl) (by kernel_rfl) (fun _ _ _ h => h) (Or.inl ⟨by rfl, ?_⟩) (by assumption) ?_
  rotate_left
  · intro w hSw; (try dsimp only at hSw); go_simp; try (with_reducible rfl)
  (try simp only [Act.put, List.setIfInBounds_toArray, List.set_cons_zero, List.set_cons_succ])
  exact ?tail
  have cY : Ch Nil X (X.alloc (.cells #[.int .u64 (x.1 : Nat)] 58)) := (Ch.refl _ _).alloc _
  have H4 := Lib.hid (H2.out.quiet cY)
  have C4 : Hid (Ch (One rb) w (X.alloc (.cells #[.int .u64 (x.1 : Nat)] 58))) := Lib.hid (C2.out.trans (Ch_any cY))
  have b4 := cY.keeps b2 (fun e => e)
  have d4 : (X.alloc (.cells #[.int .u64 (x.1 : Nat)] 58)).cell? ⟨X.heap.size, 0, none⟩ = some (.int .u64 (x.1 : Nat)) := by simp [go_sem]
  have hB2 : ¬ X.heap.size = rb := by have := H2.out.lt2; omega
  refine wpAnyH_ready (rs := [11]) (by kernel_rfl) (by simp) ?_
  refine AllReadyH.cons rfl (fun K hK => ?_) AllReadyH.nil
  go_simp
  refine hK.out _ _ b4 (fun hHeld => ?_)
  clear hK K
  (try simp only [Act.put, List.setIfInBounds_toArray, List.set_cons_zero, List.set_cons_succ])
  refine take_at (v := ?_) 12 (some 11) rfl (by kernel_rfl) (by kernel_rfl) (by kernel_rfl) (by kernel_rfl) (fun _ _ _ h => h) (Or.inl ⟨by rfl, ?_⟩) (by assumption) ?_
  rotate_left
  · intro w hSw; (try dsimp only at hSw); go_simp; try (with_reducible rfl)
  (try simp only [Act.put, List.setIfInBounds_toArray, List.set_cons_zero, List.set_cons_succ])
  refine wpAnyH_done (by kernel_rfl) ?_ _
  clear hHeld
  clear cB cY H3 b3 BN H2 C2 b2 l2
  generalize X.alloc (.cells #[.int .u64 (x.1 : Nat)] 58) = Y at H4 C4 b4 d4 ⊢
  obtain ⟨B2, hB2e⟩ : ∃ B2, B2 = X.heap.size := ⟨_, rfl⟩
  rw [← hB2e] at d4 hB2 ⊢
  clear hB2e
  have z0 : ((x.2 : Nat) : Int) = 0 := by rw [HX.out]; rfl
  rw [z0]
  have e0 : ((k : Int)).toNat = k := by omega
  have hs := H4.out.recs
  go_wp2_with fail
  refine (turn_try rb (k * 6) _ (x.1 : Nat) (old : Nat) B2 B _ (H4.out.rc k hk).c d4 b4 hB2 hBr).mono ?_
  rintro e w6 ⟨rfl, hu, c6⟩
  rw [HV.out] at hu ⊢
  rw [if_pos rfl] at hu
  have NX := Lib.hid (H4.out.turn hk (c6.wide (Nat.le_refl _) (by omega)) ((H4.out.rc k hk).turn c6 hu))
  have d6 := c6.ch.keeps d4 hB2
  clear hu
  go_wp2
  go_ret2
  have e2 : (p != 0) = per := by rw [← e1, Bool.eq_iff_iff, bne_iff_ne, bne_iff_ne]; omega
  rw [← HP.out, e2, XX.out]
  have F := NX.out
  rw [← HP.out] at F
  exact ⟨rfl, F, C4.out.trans c6.ch⟩
end Go.Proofs.YtnbdafmjcmmfpaaGreat
