import Derived.Test.YtnbdafmjcmmfpaaGreatK17
/-
  The later stages of a Schedule and a Periodic.
-/
namespace Go.Proofs.YtnbdafmjcmmfpaaGreat
open Go.RowKit Verge
attribute [local go_sem] Oper.semAt_some
set_option linter.unusedVariables false
set_option linter.unusedSimpArgs false
section
variable {E : Ee} {S S0 : Nat → Prop} {w0 W W' : World} {σ σ' : Wd} {n n' : Nat} {X X' : Mx} {k k' : Wk} {B : Nat} {r : List (Nat × List Value)}
set_option maxHeartbeats 4000000 in
theorem Bo.lineUp (h : Bo E S0 w0 W σ n X k) (hk : k.kd ≤ 2) (hx : X.t = none) {q : Nat} (hq : X.q = some q) (hs : k.q.ss = 2) (hid : k.q.id < 18446744073709551616) (hw : wasW E.N σ.R k.q.id = true) {s : Nat} (hsd : Hid (k.q.id % 64 = s)) :
    Calls Tryz.prog 113 #[ptr X.ab] W fun e W' => ∃ t, e = .returned (.agg #[.nilFunc, .func (.func 137) #[ptr X.ab] #[]]) ∧ Bo E S0 w0 W' σ n { X with t := some t } { k with aid := k.q.id, asl := s, t := t0 } := by
  have hmf := mk_func
  have hpt : ∀ (P : Program) (w : World) (a : Addr) (m : Mode) (x : Option Nat), (store a (pt x) m).run P w = stored P w a (pt x) m := fun P w a m x => by cases x <;> exact run_store P w a _ m rfl
  have H1 := Lib.hid h.box
  have HL := Lib.hid (fun p (hp : p ∈ X.bx) => h.blt hp)
  clear h
  go_enter Tryz.func113, Tryz.ntmps113
  go_upto_region 1 with (fail)
  generalize W.alloc (.cells #[.nilFunc, .nilFunc] 103) = w1 at H1 ⊢
  obtain ⟨B, hB⟩ : ∃ B, B = W.heap.size := ⟨_, rfl⟩
  rw [← hB] at H1 ⊢
  have HB := Lib.hid hB
  clear hB
  have c2 : w1.cell? ⟨X.ab, 2, none⟩ = some (ptr q) := by have := H1.out.a2 hk; dsimp only at this; rw [hq] at this; exact this
  go_wp2_with fail
  refine (H1.out.qid hq hs).mono ?_
  rintro en w2 ⟨rfl, rfl⟩
  have c4 := H1.out.a4 hk
  have z4 := H1.out.az 4
  go_upto_region 2 with (fail)
  have h2 := H1.out.setAid hk hx k.q.id
  dsimp only at h2
  clear c4 z4 c2 H1
  generalize w1.setCell ⟨X.ab, 4, none⟩ (.int .u64 (k.q.id : Nat)) = w2 at h2 ⊢
  have H2 := Lib.hid h2
  clear h2
  have D1 : Ch Nil w2 w2.drew := (Ch.refl _ _).drew
  have H3 := Lib.hid (H2.out.quiet D1)
  refine wp_region_held_drew (S := fun w' => w'.cell? ⟨X.ab, 0, none⟩ = some (ptr X.kb) ∧ w'.cell? ⟨X.kb, 0, none⟩ = some (ptr E.F.f) ∧ w'.cell? ⟨X.ab, 4, none⟩ = some (.int .u64 (k.q.id : Nat))) (by kernel_rfl) ⟨H3.out.a0, H3.out.k0, H3.out.a4 hk⟩ (fun hHeld => ?_)
  clear D1 H2
  generalize w2.drew = w3 at *
  refine take_at (v := ?_) 0 (some 15) rfl (by kernel_rfl) (by kernel_rfl) (by kernel_rfl) (by kernel_rfl) (fun _ _ _ h => h) (Or.inl ⟨by rfl, ?_⟩) (by assumption) ?_
  rotate_left
  · intro w hSw; (try dsimp only at hSw); go_simp; try (with_reducible rfl)
  (try simp only [Act.put, List.setIfInBounds_toArray, List.set_cons_zero, List.set_cons_succ])
  refine take_at (v := ?_) 1 (some 16) rfl (by kernel_rfl) (by kernel_rfl) (by kernel_rfl) (by kernel_rfl) (fun _ _ _ h => h) (Or.inl ⟨by rfl, ?_⟩) (by assumption) ?_
  rotate_left
  · intro w hSw; (try dsimp only at hSw); go_simp; try (with_reducible rfl)
  (try simp only [Act.put, List.setIfInBounds_toArray, List.set_cons_zero, List.set_cons_succ])
  refine take_at (v := ?_) 2 (some 17) rfl (by kernel_rfl) (by kernel_rfl) (by kernel_rfl) (by kernel_rfl) (fun _ _ _ h => h) (Or.inl ⟨by rfl, ?_⟩) (by assumption) ?_
  rotate_left
  · intro w hSw; (try dsimp only at hSw); go_simp; try (with_reducible rfl)
  (try simp only [Act.put, List.setIfInBounds_toArray, List.set_cons_zero, List.set_cons_succ])
  refine take_at (v := ?_) 3 (some 18) rfl (by kernel_rfl) (by kernel_rfl) (by kernel_rfl) (by kernel_rfl) (fun _ _ _ h => h) (Or.inl ⟨by rfl, ?_⟩) (by assumption) ?_
  rotate_left
  · intro w hSw; (try dsimp only at hSw); go_simp; try (with_reducible rfl)
  (try simp only [Act.put, List.setIfInBounds_toArray, List.set_cons_zero, List.set_cons_succ])
  refine take_at (v := ?_) 4 (some 19) rfl (by kernel_rfl) (by kernel_rfl) (by kernel_rfl) (by kernel_rfl) (fun _ _ _ h => h) (Or.inl ⟨by rfl, ?_⟩) (by assumption) ?_
  rotate_left
  · intro w hSw; (try dsimp only at hSw); go_simp; try (with_reducible rfl)
  (try simp only [Act.put, List.setIfInBounds_toArray, List.set_cons_zero, List.set_cons_succ])
  refine take_at (v := ?_) 5 (some 20) rfl (by kernel_rfl) (by kernel_rfl) (by kernel_rfl) (by kernel_rfl) (fun _ _ _ h => h) (Or.inl ⟨by rfl, ?_⟩) (by assumption) ?_
  rotate_left
  · intro w hSw; (try dsimp only at hSw); go_simp; try (with_reducible rfl)
  (try simp only [Act.put, List.setIfInBounds_toArray, List.set_cons_zero, List.set_cons_succ])
  refine take_at (v := ?_) 6 (some 21) rfl (by kernel_rfl) (by kernel_rfl) (by kernel_rfl) (by kernel_rfl) (fun _ _ _ h => h) (Or.inl ⟨by rfl, ?_⟩) (by assumption) ?_
  rotate_left
  · intro w hSw; (try dsimp only at hSw); go_simp; try (with_reducible rfl)
  (try simp only [Act.put, List.setIfInBounds_toArray, List.set_cons_zero, List.set_cons_succ])
  refine take_at (v := ?_) 7 (some 22) rfl (by kernel_rfl) (by kernel_rfl) (by kernel_rfl) (by kernel_rfl) (fun _ _ _ h => h) (Or.inl ⟨by rfl, ?_⟩) (by assumption) ?_
  rotate_left
  · intro w hSw; (try dsimp only at hSw); go_simp; try (with_reducible rfl)
  (try simp only [Act.put, List.setIfInBounds_toArray, List.set_cons_zero, List.set_cons_succ])
  refine take_at (v := ?_) 9 (some 24) rfl (by kernel_rfl) (by kernel_rfl) (by kernel_rfl) (by kernel_rfl) (fun _ _ _ h => h) (Or.inl ⟨by rfl, ?_⟩) (by assumption) ?_
  rotate_left
  · intro w hSw; (try dsimp only at hSw); go_simp; try (with_reducible rfl)
  (try simp only [Act.put, List.setIfInBounds_toArray, List.set_cons_zero, List.set_cons_succ])
  refine take_at (v := ?_) 10 (some 25) rfl (by kernel_rfl) (by kernel_rfl) (by kernel_rfl) (by kernel_rfl) (fun _ _ _ h => h) (Or.inl ⟨by rfl, ?_⟩) (by assumption) ?_
  rotate_left
  · intro w hSw; (try dsimp only at hSw); go_simp; try (with_reducible rfl)
  (try simp only [Act.put, List.setIfInBounds_toArray, List.set_cons_zero, List.set_cons_succ])
  refine take_at (v := ?_) 11 (some 26) rfl (by kernel_rfl) (by kernel_rfl) (by kernel_rfl) (by kernel_rfl) (fun _ _ _ h => h) (Or.inl ⟨by rfl, ?_⟩) (by assumption) ?_
  rotate_left
  · intro w hSw; (try dsimp only at hSw); go_simp; try (with_reducible rfl)
  (try simp only [Act.put, List.setIfInBounds_toArray, List.set_cons_zero, List.set_cons_succ])
  refine take_at (v := ?_) 12 (some 27) rfl (by kernel_rfl) (by kernel_rfl) (by kernel_rfl) (by kernel_rfl) (fun _ _ _ h => h) (Or.inl ⟨by rfl, ?_⟩) (by assumption) ?_
  rotate_left
  · intro w hSw; (try dsimp only at hSw); go_simp; try (with_reducible rfl)
  (try simp only [Act.put, List.setIfInBounds_toArray, List.set_cons_zero, List.set_cons_succ])
  refine wpAnyH_ready (rs := [8]) (by kernel_rfl) (by simp) ?_
  refine AllReadyH.cons rfl (fun K hK => ?_) AllReadyH.nil
  go_simp
  refine (H3.out.slabOf).mono ?_
  rintro e w4 ⟨rfl, h4⟩
  have H4 := Lib.hid h4
  refine hK.out _ _ ⟨h4.a0, h4.k0, h4.a4 hk⟩ (fun hHeld2 => ?_)
  clear hK K hHeld
  have hHeld := hHeld2
  clear hHeld2
  (try simp only [Act.put, List.setIfInBounds_toArray, List.set_cons_zero, List.set_cons_succ])
  clear h4 H3
  refine wpAnyH_ready (rs := [13]) (by kernel_rfl) (by simp) ?_
  refine AllReadyH.cons rfl (fun K hK => ?_) AllReadyH.nil
  go_simp
  have SY := H4.out.slotYes k.q.id hid hw
  rw [hsd.out] at SY
  refine SY.mono ?_
  clear SY
  rintro e w5 ⟨rfl, rfl⟩
  refine hK.out _ _ hHeld (fun hHeld2 => ?_)
  clear hK K hHeld
  have hHeld := hHeld2
  clear hHeld2
  (try simp only [Act.put, List.setIfInBounds_toArray, List.set_cons_zero, List.set_cons_succ])
  refine take_at (v := ?_) 14 (some 14) rfl (by kernel_rfl) (by kernel_rfl) (by kernel_rfl) (by kernel_rfl) (fun _ _ _ h => h) (Or.inl ⟨by rfl, ?_⟩) (by assumption) ?_
  rotate_left
  · intro w hSw; (try dsimp only at hSw); go_simp; try (with_reducible rfl)
  (try simp only [Act.put, List.setIfInBounds_toArray, List.set_cons_zero, List.set_cons_succ])
  refine take_at (v := ?_) 15 (some 29) rfl (by kernel_rfl) (by kernel_rfl) (by kernel_rfl) (by kernel_rfl) (fun _ _ _ h => h) (Or.inl ⟨by rfl, ?_⟩) (by assumption) ?_
  rotate_left
  · intro w hSw; (try dsimp only at hSw); go_simp; try (with_reducible rfl)
  (try simp only [Act.put, List.setIfInBounds_toArray, List.set_cons_zero, List.set_cons_succ])
  refine take_at (v := ?_) 16 (some 30) rfl (by kernel_rfl) (by kernel_rfl) (by kernel_rfl) (by kernel_rfl) (fun _ _ _ h => h) (Or.inl ⟨by rfl, ?_⟩) (by assumption) ?_
  rotate_left
  · intro w hSw; (try dsimp only at hSw); go_simp; try (with_reducible rfl)
  (try simp only [Act.put, List.setIfInBounds_toArray, List.set_cons_zero, List.set_cons_succ])
  refine take_at (v := ?_) 17 (some 31) rfl (by kernel_rfl) (by kernel_rfl) (by kernel_rfl) (by kernel_rfl) (fun _ _ _ h => h) (Or.inl ⟨by rfl, ?_⟩) (by assumption) ?_
  rotate_left
  · intro w hSw; (try dsimp only at hSw); go_simp; try (with_reducible rfl)
  (try simp only [Act.put, List.setIfInBounds_toArray, List.set_cons_zero, List.set_cons_succ])
  refine take_at (v := ?_) 18 (some 32) rfl (by kernel_rfl) (by kernel_rfl) (by kernel_rfl) (by kernel_rfl) (fun _ _ _ h => h) (Or.inl ⟨by rfl, ?_⟩) (by assumption) ?_
  rotate_left
  · intro w hSw; (try dsimp only at hSw); go_simp; try (with_reducible rfl)
  (try simp only [Act.put, List.setIfInBounds_toArray, List.set_cons_zero, List.set_cons_succ])
  have c5 := H4.out.a5 hk
  have z5 := H4.out.az 5
  refine wpAnyH_ready (rs := [19]) (by kernel_rfl) (by simp) ?_
  refine AllReadyH.cons rfl (fun K hK => ?_) AllReadyH.nil
  go_simp
  have h5 := H4.out.setAsl hk hx s
  dsimp only at h5
  refine hK.out _ _ ⟨h5.a0, h5.k0, h5.a4 hk⟩ (fun hHeld2 => ?_)
  clear hK K c5 z5 hHeld hHeld2 H4
  generalize w4.setCell ⟨X.ab, 5, none⟩ (.int .i64 (s : Nat)) = w6 at *
  have H6 := Lib.hid h5
  clear h5
  (try simp only [Act.put, List.setIfInBounds_toArray, List.set_cons_zero, List.set_cons_succ])
  refine wpAnyH_done (by kernel_rfl) ?_ _
  go_upto_region 3 with (fail)
  have D1 : Ch Nil w6 w6.drew := (Ch.refl _ _).drew
  have H7 := Lib.hid (H6.out.quiet D1)
  refine wp_region_held_drew (S := fun w' => w'.cell? ⟨X.ab, 0, none⟩ = some (ptr X.kb) ∧ w'.cell? ⟨X.kb, 0, none⟩ = some (ptr E.F.f) ∧ w'.cell? ⟨X.ab, 5, none⟩ = some (.int .i64 (s : Nat))) (by kernel_rfl) ⟨H7.out.a0, H7.out.k0, H7.out.a5 hk⟩ (fun hHeld => ?_)
  clear D1 H6
  generalize w6.drew = w7 at *
  refine take_at (v := ?_) 0 (some 33) rfl (by kernel_rfl) (by kernel_rfl) (by kernel_rfl) (by kernel_rfl) (fun _ _ _ h => h) (Or.inl ⟨by rfl, ?_⟩) (by assumption) ?_
  rotate_left
  · intro w hSw; (try dsimp only at hSw); go_simp; try (with_reducible rfl)
  (try simp only [Act.put, List.setIfInBounds_toArray, List.set_cons_zero, List.set_cons_succ])
  refine take_at (v := ?_) 1 (some 34) rfl (by kernel_rfl) (by kernel_rfl) (by kernel_rfl) (by kernel_rfl) (fun _ _ _ h => h) (Or.inl ⟨by rfl, ?_⟩) (by assumption) ?_
  rotate_left
  · intro w hSw; (try dsimp only at hSw); go_simp; try (with_reducible rfl)
  (try simp only [Act.put, List.setIfInBounds_toArray, List.set_cons_zero, List.set_cons_succ])
  refine take_at (v := ?_) 2 (some 35) rfl (by kernel_rfl) (by kernel_rfl) (by kernel_rfl) (by kernel_rfl) (fun _ _ _ h => h) (Or.inl ⟨by rfl, ?_⟩) (by assumption) ?_
  rotate_left
  · intro w hSw; (try dsimp only at hSw); go_simp; try (with_reducible rfl)
  (try simp only [Act.put, List.setIfInBounds_toArray, List.set_cons_zero, List.set_cons_succ])
  refine take_at (v := ?_) 3 (some 36) rfl (by kernel_rfl) (by kernel_rfl) (by kernel_rfl) (by kernel_rfl) (fun _ _ _ h => h) (Or.inl ⟨by rfl, ?_⟩) (by assumption) ?_
  rotate_left
  · intro w hSw; (try dsimp only at hSw); go_simp; try (with_reducible rfl)
  (try simp only [Act.put, List.setIfInBounds_toArray, List.set_cons_zero, List.set_cons_succ])
  refine take_at (v := ?_) 4 (some 37) rfl (by kernel_rfl) (by kernel_rfl) (by kernel_rfl) (by kernel_rfl) (fun _ _ _ h => h) (Or.inl ⟨by rfl, ?_⟩) (by assumption) ?_
  rotate_left
  · intro w hSw; (try dsimp only at hSw); go_simp; try (with_reducible rfl)
  (try simp only [Act.put, List.setIfInBounds_toArray, List.set_cons_zero, List.set_cons_succ])
  refine take_at (v := ?_) 5 (some 38) rfl (by kernel_rfl) (by kernel_rfl) (by kernel_rfl) (by kernel_rfl) (fun _ _ _ h => h) (Or.inl ⟨by rfl, ?_⟩) (by assumption) ?_
  rotate_left
  · intro w hSw; (try dsimp only at hSw); go_simp; try (with_reducible rfl)
  (try simp only [Act.put, List.setIfInBounds_toArray, List.set_cons_zero, List.set_cons_succ])
  refine take_at (v := ?_) 6 (some 39) rfl (by kernel_rfl) (by kernel_rfl) (by kernel_rfl) (by kernel_rfl) (fun _ _ _ h => h) (Or.inl ⟨by rfl, ?_⟩) (by assumption) ?_
  rotate_left
  · intro w hSw; (try dsimp only at hSw); go_simp; try (with_reducible rfl)
  (try simp only [Act.put, List.setIfInBounds_toArray, List.set_cons_zero, List.set_cons_succ])
  refine take_at (v := ?_) 7 (some 40) rfl (by kernel_rfl) (by kernel_rfl) (by kernel_rfl) (by kernel_rfl) (fun _ _ _ h => h) (Or.inl ⟨by rfl, ?_⟩) (by assumption) ?_
  rotate_left
  · intro w hSw; (try dsimp only at hSw); go_simp; try (with_reducible rfl)
  (try simp only [Act.put, List.setIfInBounds_toArray, List.set_cons_zero, List.set_cons_succ])
  refine take_at (v := ?_) 8 (some 41) rfl (by kernel_rfl) (by kernel_rfl) (by kernel_rfl) (by kernel_rfl) (fun _ _ _ h => h) (Or.inl ⟨by rfl, ?_⟩) (by assumption) ?_
  rotate_left
  · intro w hSw; (try dsimp only at hSw); go_simp; try (with_reducible rfl)
  (try simp only [Act.put, List.setIfInBounds_toArray, List.set_cons_zero, List.set_cons_succ])
  refine take_at (v := ?_) 9 (some 42) rfl (by kernel_rfl) (by kernel_rfl) (by kernel_rfl) (by kernel_rfl) (fun _ _ _ h => h) (Or.inl ⟨by rfl, ?_⟩) (by assumption) ?_
  rotate_left
  · intro w hSw; (try dsimp only at hSw); go_simp; try (with_reducible rfl)
  (try simp only [Act.put, List.setIfInBounds_toArray, List.set_cons_zero, List.set_cons_succ])
  refine take_at (v := ?_) 10 (some 43) rfl (by kernel_rfl) (by kernel_rfl) (by kernel_rfl) (by kernel_rfl) (fun _ _ _ h => h) (Or.inl ⟨by rfl, ?_⟩) (by assumption) ?_
  rotate_left
  · intro w hSw; (try dsimp only at hSw); go_simp; try (with_reducible rfl)
  (try simp only [Act.put, List.setIfInBounds_toArray, List.set_cons_zero, List.set_cons_succ])
  refine take_at (v := ?_) 11 (some 44) rfl (by kernel_rfl) (by kernel_rfl) (by kernel_rfl) (by kernel_rfl) (fun _ _ _ h => h) (Or.inl ⟨by rfl, ?_⟩) (by assumption) ?_
  rotate_left
  · intro w hSw; (try dsimp only at hSw); go_simp; try (with_reducible rfl)
  (try simp only [Act.put, List.setIfInBounds_toArray, List.set_cons_zero, List.set_cons_succ])
  refine wpAnyH_ready (rs := [12]) (by kernel_rfl) (by simp) ?_
  refine AllReadyH.cons rfl (fun K hK => ?_) AllReadyH.nil
  go_simp
  refine (H7.out.home s).mono ?_
  rintro e w8 ⟨rfl, h8⟩
  have H8 := Lib.hid h8
  refine hK.out _ _ ⟨h8.a0, h8.k0, h8.a5 hk⟩ (fun hHeld2 => ?_)
  clear hK K hHeld
  have hHeld := hHeld2
  clear hHeld2
  (try simp only [Act.put, List.setIfInBounds_toArray, List.set_cons_zero, List.set_cons_succ])
  clear h8 H7
  refine wpAnyH_ready (rs := [13]) (by kernel_rfl) (by simp) ?_
  refine AllReadyH.cons rfl (fun K hK => ?_) AllReadyH.nil
  go_simp
  refine (H8.out.tlinkA hk).mono ?_
  rintro e w9 ⟨t, rfl, h9, h10⟩
  have H9 := Lib.hid h9
  have H10 := Lib.hid h10
  refine hK.out _ _ ⟨h9.a0, h9.k0, h9.a5 hk⟩ (fun hHeld2 => ?_)
  clear hK K hHeld
  have hHeld := hHeld2
  clear hHeld2
  (try simp only [Act.put, List.setIfInBounds_toArray, List.set_cons_zero, List.set_cons_succ])
  clear h9 h10
  refine take_at (v := ?_) 14 (some 47) rfl (by kernel_rfl) (by kernel_rfl) (by kernel_rfl) (by kernel_rfl) (fun _ _ _ h => h) (Or.inl ⟨by rfl, ?_⟩) (by assumption) ?_
  rotate_left
  · intro w hSw; (try dsimp only at hSw); go_simp; try (with_reducible rfl)
  (try simp only [Act.put, List.setIfInBounds_toArray, List.set_cons_zero, List.set_cons_succ])
  refine take_at (v := ?_) 15 (some 48) rfl (by kernel_rfl) (by kernel_rfl) (by kernel_rfl) (by kernel_rfl) (fun _ _ _ h => h) (Or.inl ⟨by rfl, ?_⟩) (by assumption) ?_
  rotate_left
  · intro w hSw; (try dsimp only at hSw); go_simp; try (with_reducible rfl)
  (try simp only [Act.put, List.setIfInBounds_toArray, List.set_cons_zero, List.set_cons_succ])
  have c3 := H9.out.a3 hk
  have z3 := H9.out.az 3
  refine wpAnyH_ready (rs := [16]) (by kernel_rfl) (by simp) ?_
  refine AllReadyH.cons rfl (fun K hK => ?_) AllReadyH.nil
  go_simp
  refine hK.out _ _ ⟨H10.out.a0, H10.out.k0, H10.out.a5 hk⟩ (fun hHeld2 => ?_)
  clear hK K c3 z3 hHeld hHeld2
  generalize w9.setCell ⟨X.ab, 3, none⟩ (ptr t) = w10 at *
  (try simp only [Act.put, List.setIfInBounds_toArray, List.set_cons_zero, List.set_cons_succ])
  refine wpAnyH_done (by kernel_rfl) ?_ _
  clear H9 H8
  go_wp2_with fail
  refine (next_fn _ (.inr ⟨_, _, _, rfl⟩) _).mono ?_
  rintro en w11 ⟨rfl, c4⟩
  have H11 := Lib.hid (H10.out.quiet c4)
  clear c4 H10
  have b4 := H11.out.bk (B := B) (vs := [.nilFunc, .nilFunc]) (List.mem_cons_self)
  have x0 := H11.out.b (B := B) (vs := [.nilFunc, .nilFunc]) (List.mem_cons_self) 0 _ rfl
  have x1 := H11.out.b (B := B) (vs := [.nilFunc, .nilFunc]) (List.mem_cons_self) 1 _ rfl
  have fz := b4.fz
  have st0 := IsFn.store (v := .nilFunc) (.inl rfl)
  have st2 := IsFn.store (v := .func (.func 137) #[ptr X.ab] #[]) (.inr ⟨_, _, _, rfl⟩)
  clear b4
  go_wp2
  obtain ⟨h5, r0, r1⟩ := H11.out.ret (B := B) (r := X.bx) (fun p hp => hp) (fun p hp => by have := HL.out p hp; have := HB.out; omega) .nilFunc (.func (.func 137) #[ptr X.ab] #[])
  (try simp only [Exit.inBlock, Exit.then])
  refine bodyPost_ret (v := .agg #[.nilFunc, .func (.func 137) #[ptr X.ab] #[]]) ?hr rfl ?hx
  case hx => exact ⟨t, rfl, h5⟩
  case hr =>
    generalize ((w11.setCell ⟨B, 0, none⟩ .nilFunc).setCell ⟨B, 1, none⟩ (.func (.func 137) #[ptr X.ab] #[])) = W5 at r0 r1 ⊢
    simp [results, Tryz.results113, go_sem, r0, r1]
set_option maxHeartbeats 4000000 in
theorem st_aTakeF (h : Bo E S0 w0 W σ n X k) (hn : n ≤ 80000) (hk : k.kd ≤ 2) (hx : X.t = none) {q : Nat} (hq : X.q = some q) (h1 : k.q.st ≤ 2) (h2 : k.q.seen ≤ 64) (h3 : k.q.slot < E.N.n) {z : Nat × (Nat → Rec) × Rq} (hz : Hid (stepM E.N.n σ.cnt σ.R k.q = z)) (hf : Hid (z.2.2.ss = 1)) :
    Calls Tryz.prog 98 #[ptr X.ab] W (Res E S0 w0 X (n + 2) ({ σ with cnt := z.1, R := z.2.1 }, refW { k with q := z.2.2 } 2 .leave)) := by
  have hmf := mk_func
  have H1 := Lib.hid h.box
  have HL := Lib.hid (fun p (hp : p ∈ X.bx) => h.blt hp)
  clear h
  go_enter Tryz.func98, Tryz.ntmps98
  go_upto_region 1 with (fail)
  generalize W.alloc (.cells #[.nilFunc, .nilFunc] 103) = w1 at H1 ⊢
  obtain ⟨B, hB⟩ : ∃ B, B = W.heap.size := ⟨_, rfl⟩
  rw [← hB] at H1 ⊢
  have HB := Lib.hid hB
  clear hB
  have c2 : w1.cell? ⟨X.ab, 2, none⟩ = some (ptr q) := by have := H1.out.a2 hk; dsimp only at this; rw [hq] at this; exact this
  go_wp2_with fail
  have hq1 := H1.out.qstep hq h1 h2 h3 (by omega)
  rw [hz.out, hf.out] at hq1
  refine hq1.mono ?_
  clear hq1
  rintro en w2 ⟨rfl, hb⟩
  have H2 := Lib.hid hb
  clear hb H1 c2
  go_upto_region 3 with (fail)
  have D1 : Ch Nil w2 w2.drew := (Ch.refl _ _).drew
  have HX := Lib.hid (H2.out.quiet D1)
  refine wp_region_held_drew (S := fun w' => w'.cell? ⟨X.ab, 0, none⟩ = some (ptr X.kb)) (by kernel_rfl) HX.out.a0 (fun hHeld => ?_)
  clear D1 H2
  generalize w2.drew = w7 at *
  refine take_at (v := ?_) 0 (some 10) rfl (by kernel_rfl) (by kernel_rfl) (by kernel_rfl) (by kernel_rfl) (fun _ _ _ h => h) (Or.inl ⟨by rfl, ?_⟩) (by assumption) ?_
  rotate_left
  · intro w hSw; (try dsimp only at hSw); go_simp; try (with_reducible rfl)
  (try simp only [Act.put, List.setIfInBounds_toArray, List.set_cons_zero, List.set_cons_succ])
  refine take_at (v := ?_) 1 (some 11) rfl (by kernel_rfl) (by kernel_rfl) (by kernel_rfl) (by kernel_rfl) (fun _ _ _ h => h) (Or.inl ⟨by rfl, ?_⟩) (by assumption) ?_
  rotate_left
  · intro w hSw; (try dsimp only at hSw); go_simp; try (with_reducible rfl)
  (try simp only [Act.put, List.setIfInBounds_toArray, List.set_cons_zero, List.set_cons_succ])
  refine take_at (v := ?_) 2 (some 12) rfl (by kernel_rfl) (by kernel_rfl) (by kernel_rfl) (by kernel_rfl) (fun _ _ _ h => h) (Or.inl ⟨by rfl, ?_⟩) (by assumption) ?_
  rotate_left
  · intro w hSw; (try dsimp only at hSw); go_simp; try (with_reducible rfl)
  (try simp only [Act.put, List.setIfInBounds_toArray, List.set_cons_zero, List.set_cons_succ])
  refine take_at (v := ?_) 3 (some 13) rfl (by kernel_rfl) (by kernel_rfl) (by kernel_rfl) (by kernel_rfl) (fun _ _ _ h => h) (Or.inl ⟨by rfl, ?_⟩) (by assumption) ?_
  rotate_left
  · intro w hSw; (try dsimp only at hSw); go_simp; try (with_reducible rfl)
  (try simp only [Act.put, List.setIfInBounds_toArray, List.set_cons_zero, List.set_cons_succ])
  refine take_at (v := ?_) 4 (some 14) rfl (by kernel_rfl) (by kernel_rfl) (by kernel_rfl) (by kernel_rfl) (fun _ _ _ h => h) (Or.inl ⟨by rfl, ?_⟩) (by assumption) ?_
  rotate_left
  · intro w hSw; (try dsimp only at hSw); go_simp; try (with_reducible rfl)
  (try simp only [Act.put, List.setIfInBounds_toArray, List.set_cons_zero, List.set_cons_succ])
  refine take_at (v := ?_) 5 (some 15) rfl (by kernel_rfl) (by kernel_rfl) (by kernel_rfl) (by kernel_rfl) (fun _ _ _ h => h) (Or.inl ⟨by rfl, ?_⟩) (by assumption) ?_
  rotate_left
  · intro w hSw; (try dsimp only at hSw); go_simp; try (with_reducible rfl)
  (try simp only [Act.put, List.setIfInBounds_toArray, List.set_cons_zero, List.set_cons_succ])
  refine take_at (v := ?_) 6 (some 16) rfl (by kernel_rfl) (by kernel_rfl) (by kernel_rfl) (by kernel_rfl) (fun _ _ _ h => h) (Or.inl ⟨by rfl, ?_⟩) (by assumption) ?_
  rotate_left
  · intro w hSw; (try dsimp only at hSw); go_simp; try (with_reducible rfl)
  (try simp only [Act.put, List.setIfInBounds_toArray, List.set_cons_zero, List.set_cons_succ])
  refine take_at (v := ?_) 7 (some 17) rfl (by kernel_rfl) (by kernel_rfl) (by kernel_rfl) (by kernel_rfl) (fun _ _ _ h => h) (Or.inl ⟨by rfl, ?_⟩) (by assumption) ?_
  rotate_left
  · intro w hSw; (try dsimp only at hSw); go_simp; try (with_reducible rfl)
  (try simp only [Act.put, List.setIfInBounds_toArray, List.set_cons_zero, List.set_cons_succ])
  refine take_at (v := ?_) 8 (some 18) rfl (by kernel_rfl) (by kernel_rfl) (by kernel_rfl) (by kernel_rfl) (fun _ _ _ h => h) (Or.inl ⟨by rfl, ?_⟩) (by assumption) ?_
  rotate_left
  · intro w hSw; (try dsimp only at hSw); go_simp; try (with_reducible rfl)
  (try simp only [Act.put, List.setIfInBounds_toArray, List.set_cons_zero, List.set_cons_succ])
  refine wpAnyH_ready (rs := [9]) (by kernel_rfl) (by simp) ?_
  refine AllReadyH.cons rfl (fun K hK => ?_) AllReadyH.nil
  go_simp
  refine (HX.out.refuse (by omega) 2 _ _ _).mono ?_
  rintro e w8 ⟨rfl, h8⟩
  have H8 := Lib.hid h8
  refine hK.out _ _ h8.a0 (fun hHeld2 => ?_)
  clear hK K hHeld
  have hHeld := hHeld2
  clear hHeld2
  (try simp only [Act.put, List.setIfInBounds_toArray, List.set_cons_zero, List.set_cons_succ])
  clear h8 hHeld HX
  have b4 := H8.out.bk (B := B) (vs := [.nilFunc, .nilFunc]) (List.mem_cons_self)
  have x0 := H8.out.b (B := B) (vs := [.nilFunc, .nilFunc]) (List.mem_cons_self) 0 _ rfl
  have x1 := H8.out.b (B := B) (vs := [.nilFunc, .nilFunc]) (List.mem_cons_self) 1 _ rfl
  have fz := b4.fz
  have st0 := IsFn.store (v := .nilFunc) (.inl rfl)
  have st2 := IsFn.store (v := .func (.func 91) #[ptr X.kb] #[]) (.inr ⟨_, _, _, rfl⟩)
  clear b4
  refine wpAnyH_ready (rs := [10]) (by kernel_rfl) (by simp) ?_
  refine AllReadyH.cons rfl (fun K hK => ?_) AllReadyH.nil
  go_simp
  obtain ⟨h5, r0, r1⟩ := H8.out.ret (B := B) (r := X.bx) (fun p hp => hp) (fun p hp => by have := HL.out p hp; have := HB.out; omega) .nilFunc (.func (.func 91) #[ptr X.kb] #[])
  refine hK.out _ _ h5.a0 (fun hHeld => ?_)
  clear hK K
  (try simp only [Act.put, List.setIfInBounds_toArray, List.set_cons_zero, List.set_cons_succ])
  refine wpAnyH_done (by kernel_rfl) ?_ _
  (try go_wp2)
  (try simp only [Exit.inBlock, Exit.then])
  refine bodyPost_ret (v := .agg #[.nilFunc, .func (.func 91) #[ptr X.kb] #[]]) ?hr rfl ?hx
  case hx => exact ⟨_, _, rfl, h5.sg .leave, rfl, ⟨rfl, rfl, rfl, rfl, rfl, rfl, rfl⟩⟩
  case hr =>
    generalize ((w8.setCell ⟨B, 0, none⟩ .nilFunc).setCell ⟨B, 1, none⟩ (.func (.func 91) #[ptr X.kb] #[])) = W5 at r0 r1 ⊢
    simp [results, Tryz.results98, go_sem, r0, r1]
set_option maxHeartbeats 4000000 in
theorem st_aTakeW (h : Bo E S0 w0 W σ n X k) (hn : n ≤ 80000) (hk : k.kd ≤ 2) (hx : X.t = none) {q : Nat} (hq : X.q = some q) (h1 : k.q.st ≤ 2) (h2 : k.q.seen ≤ 64) (h3 : k.q.slot < E.N.n) {z : Nat × (Nat → Rec) × Rq} (hz : Hid (stepM E.N.n σ.cnt σ.R k.q = z)) (hf : Hid (z.2.2.ss = 0)) :
    Calls Tryz.prog 98 #[ptr X.ab] W (Res E S0 w0 X (n + 1) ({ σ with cnt := z.1, R := z.2.1 }, { k with q := z.2.2, sg := .aTake })) := by
  have hmf := mk_func
  have H1 := Lib.hid h.box
  have HL := Lib.hid (fun p (hp : p ∈ X.bx) => h.blt hp)
  clear h
  go_enter Tryz.func98, Tryz.ntmps98
  go_upto_region 1 with (fail)
  generalize W.alloc (.cells #[.nilFunc, .nilFunc] 103) = w1 at H1 ⊢
  obtain ⟨B, hB⟩ : ∃ B, B = W.heap.size := ⟨_, rfl⟩
  rw [← hB] at H1 ⊢
  have HB := Lib.hid hB
  clear hB
  have c2 : w1.cell? ⟨X.ab, 2, none⟩ = some (ptr q) := by have := H1.out.a2 hk; dsimp only at this; rw [hq] at this; exact this
  go_wp2_with fail
  have hq1 := H1.out.qstep hq h1 h2 h3 (by omega)
  rw [hz.out, hf.out] at hq1
  refine hq1.mono ?_
  clear hq1
  rintro en w2 ⟨rfl, hb⟩
  have H2 := Lib.hid hb
  clear hb H1 c2
  go_wp2_with fail
  refine (next_fn _ (.inr ⟨_, _, _, rfl⟩) _).mono ?_
  rintro en w4 ⟨rfl, c4⟩
  have H4 := Lib.hid (H2.out.quiet c4)
  clear c4 H2
  have b4 := H4.out.bk (B := B) (vs := [.nilFunc, .nilFunc]) (List.mem_cons_self)
  have x0 := H4.out.b (B := B) (vs := [.nilFunc, .nilFunc]) (List.mem_cons_self) 0 _ rfl
  have x1 := H4.out.b (B := B) (vs := [.nilFunc, .nilFunc]) (List.mem_cons_self) 1 _ rfl
  have fz := b4.fz
  have st0 := IsFn.store (v := .nilFunc) (.inl rfl)
  have st2 := IsFn.store (v := .func (.func 98) #[ptr X.ab] #[]) (.inr ⟨_, _, _, rfl⟩)
  clear b4
  go_wp2
  obtain ⟨h5, r0, r1⟩ := H4.out.ret (B := B) (r := X.bx) (fun p hp => hp) (fun p hp => by have := HL.out p hp; have := HB.out; omega) .nilFunc (.func (.func 98) #[ptr X.ab] #[])
  (try simp only [Exit.inBlock, Exit.then])
  refine bodyPost_ret (v := .agg #[.nilFunc, .func (.func 98) #[ptr X.ab] #[]]) ?hr rfl ?hx
  case hx => exact ⟨_, _, rfl, h5.sg .aTake, ⟨rfl, hx, _, hq⟩, ⟨rfl, rfl, rfl, rfl, rfl, rfl, rfl⟩⟩
  case hr =>
    generalize ((w4.setCell ⟨B, 0, none⟩ .nilFunc).setCell ⟨B, 1, none⟩ (.func (.func 98) #[ptr X.ab] #[])) = W5 at r0 r1 ⊢
    simp [results, Tryz.results98, go_sem, r0, r1]
set_option maxHeartbeats 4000000 in
theorem st_aTakeH (h : Bo E S0 w0 W σ n X k) (hn : n ≤ 80000) (hk : k.kd ≤ 2) (hx : X.t = none) {q : Nat} (hq : X.q = some q) (h1 : k.q.st ≤ 2) (h2 : k.q.seen ≤ 64) (h3 : k.q.slot < E.N.n) {z : Nat × (Nat → Rec) × Rq} (hz : Hid (stepM E.N.n σ.cnt σ.R k.q = z)) (hf : Hid (z.2.2.ss = 2)) (hid : z.2.2.id < 18446744073709551616) (hw : wasW E.N z.2.1 z.2.2.id = true) :
    Calls Tryz.prog 98 #[ptr X.ab] W (Res E S0 w0 X (n + 1) ({ σ with cnt := z.1, R := z.2.1 }, { k with q := z.2.2, aid := z.2.2.id, asl := z.2.2.id % 64, t := t0, sg := .aWait })) := by
  have hmf := mk_func
  have H1 := Lib.hid h.box
  have HL := Lib.hid (fun p (hp : p ∈ X.bx) => h.blt hp)
  clear h
  go_enter Tryz.func98, Tryz.ntmps98
  go_upto_region 1 with (fail)
  generalize W.alloc (.cells #[.nilFunc, .nilFunc] 103) = w1 at H1 ⊢
  obtain ⟨B, hB⟩ : ∃ B, B = W.heap.size := ⟨_, rfl⟩
  rw [← hB] at H1 ⊢
  have HB := Lib.hid hB
  clear hB
  have c2 : w1.cell? ⟨X.ab, 2, none⟩ = some (ptr q) := by have := H1.out.a2 hk; dsimp only at this; rw [hq] at this; exact this
  go_wp2_with fail
  have hq1 := H1.out.qstep hq h1 h2 h3 (by omega)
  rw [hz.out, hf.out] at hq1
  refine hq1.mono ?_
  clear hq1
  rintro en w2 ⟨rfl, hb⟩
  have H2 := Lib.hid hb
  clear hb H1 c2
  go_wp2_with fail
  refine (H2.out.lineUp hk hx hq hf.out hid hw (Lib.hid rfl)).mono ?_
  rintro en w4 ⟨t, rfl, h4⟩
  have H4 := Lib.hid h4
  clear h4 H2
  have b4 := H4.out.bk (B := B) (vs := [.nilFunc, .nilFunc]) (List.mem_cons_self)
  have x0 := H4.out.b (B := B) (vs := [.nilFunc, .nilFunc]) (List.mem_cons_self) 0 _ rfl
  have x1 := H4.out.b (B := B) (vs := [.nilFunc, .nilFunc]) (List.mem_cons_self) 1 _ rfl
  have fz := b4.fz
  have st0 := IsFn.store (v := .nilFunc) (.inl rfl)
  have st2 := IsFn.store (v := .func (.func 137) #[ptr X.ab] #[]) (.inr ⟨_, _, _, rfl⟩)
  clear b4
  go_wp2
  obtain ⟨h5, r0, r1⟩ := H4.out.ret (B := B) (r := X.bx) (fun p hp => hp) (fun p hp => by have := HL.out p hp; have := HB.out; omega) .nilFunc (.func (.func 137) #[ptr X.ab] #[])
  (try simp only [Exit.inBlock, Exit.then])
  refine bodyPost_ret (v := .agg #[.nilFunc, .func (.func 137) #[ptr X.ab] #[]]) ?hr rfl ?hx
  case hx => exact ⟨_, _, rfl, h5.sg .aWait, ⟨rfl, _, rfl⟩, ⟨rfl, rfl, rfl, rfl, rfl, rfl, rfl⟩⟩
  case hr =>
    generalize ((w4.setCell ⟨B, 0, none⟩ .nilFunc).setCell ⟨B, 1, none⟩ (.func (.func 137) #[ptr X.ab] #[])) = W5 at r0 r1 ⊢
    simp [results, Tryz.results98, go_sem, r0, r1]
set_option maxHeartbeats 4000000 in
theorem st_aWait0 (h : Bo E S0 w0 W σ n X k) (hn : n ≤ 80000) (hk : k.kd ≤ 2) {t : Nat} (ht : X.t = some t) (hp : k.t.pos ≤ 90000) (hst : k.t.st = 0 ∨ k.t.st = 1 ∨ k.t.st = 2) {z : Nat × TSt} (hz : Hid (tickW E.N σ (k.h E.N) k.t = z)) (hf : Hid (z.2.su = 0)) :
    Calls Tryz.prog 137 #[ptr X.ab] W (Res E S0 w0 X (n + 1) (setNx σ (k.h E.N) z.1, { k with t := z.2, sg := .aWait })) := by
  have hmf := mk_func
  have H1 := Lib.hid h.box
  have HL := Lib.hid (fun p (hp : p ∈ X.bx) => h.blt hp)
  clear h
  go_enter Tryz.func137, Tryz.ntmps137
  go_upto_region 1 with (fail)
  generalize W.alloc (.cells #[.nilFunc, .nilFunc] 103) = w1 at H1 ⊢
  obtain ⟨B, hB⟩ : ∃ B, B = W.heap.size := ⟨_, rfl⟩
  rw [← hB] at H1 ⊢
  have HB := Lib.hid hB
  clear hB
  have c3 : w1.cell? ⟨X.ab, 3, none⟩ = some (ptr t) := by have := H1.out.a3 hk; dsimp only at this; rw [ht] at this; exact this
  go_wp2_with fail
  have hq1 := H1.out.tstep ht hp hst
  rw [hz.out, hf.out] at hq1
  refine hq1.mono ?_
  clear hq1
  rintro en w2 ⟨rfl, hb⟩
  have H2 := Lib.hid hb
  clear hb H1 c3
  go_wp2_with fail
  refine (next_fn _ (.inr ⟨_, _, _, rfl⟩) _).mono ?_
  rintro en w4 ⟨rfl, c4⟩
  have H4 := Lib.hid (H2.out.quiet c4)
  clear c4 H2
  have b4 := H4.out.bk (B := B) (vs := [.nilFunc, .nilFunc]) (List.mem_cons_self)
  have x0 := H4.out.b (B := B) (vs := [.nilFunc, .nilFunc]) (List.mem_cons_self) 0 _ rfl
  have x1 := H4.out.b (B := B) (vs := [.nilFunc, .nilFunc]) (List.mem_cons_self) 1 _ rfl
  have fz := b4.fz
  have st0 := IsFn.store (v := .nilFunc) (.inl rfl)
  have st2 := IsFn.store (v := .func (.func 137) #[ptr X.ab] #[]) (.inr ⟨_, _, _, rfl⟩)
  clear b4
  go_wp2
  obtain ⟨h5, r0, r1⟩ := H4.out.ret (B := B) (r := X.bx) (fun p hp => hp) (fun p hp => by have := HL.out p hp; have := HB.out; omega) .nilFunc (.func (.func 137) #[ptr X.ab] #[])
  (try simp only [Exit.inBlock, Exit.then])
  refine bodyPost_ret (v := .agg #[.nilFunc, .func (.func 137) #[ptr X.ab] #[]]) ?hr rfl ?hx
  case hx => exact ⟨_, _, rfl, h5.sg .aWait, ⟨rfl, _, ht⟩, ⟨rfl, rfl, rfl, rfl, rfl, rfl, rfl⟩⟩
  case hr =>
    generalize ((w4.setCell ⟨B, 0, none⟩ .nilFunc).setCell ⟨B, 1, none⟩ (.func (.func 137) #[ptr X.ab] #[])) = W5 at r0 r1 ⊢
    simp [results, Tryz.results137, go_sem, r0, r1]
set_option maxHeartbeats 4000000 in
theorem st_aWait1 (h : Bo E S0 w0 W σ n X k) (hn : n ≤ 80000) (hk : k.kd ≤ 2) {t : Nat} (ht : X.t = some t) (hp : k.t.pos ≤ 90000) (hst : k.t.st = 0 ∨ k.t.st = 1 ∨ k.t.st = 2) {z : Nat × TSt} (hz : Hid (tickW E.N σ (k.h E.N) k.t = z)) (hf : Hid (z.2.su = 1)) :
    Calls Tryz.prog 137 #[ptr X.ab] W (Res E S0 w0 X (n + 1) (setNx σ (k.h E.N) z.1, { k with t := z.2, sg := .aGive })) := by
  have hmf := mk_func
  have H1 := Lib.hid h.box
  have HL := Lib.hid (fun p (hp : p ∈ X.bx) => h.blt hp)
  clear h
  go_enter Tryz.func137, Tryz.ntmps137
  go_upto_region 1 with (fail)
  generalize W.alloc (.cells #[.nilFunc, .nilFunc] 103) = w1 at H1 ⊢
  obtain ⟨B, hB⟩ : ∃ B, B = W.heap.size := ⟨_, rfl⟩
  rw [← hB] at H1 ⊢
  have HB := Lib.hid hB
  clear hB
  have c3 : w1.cell? ⟨X.ab, 3, none⟩ = some (ptr t) := by have := H1.out.a3 hk; dsimp only at this; rw [ht] at this; exact this
  go_wp2_with fail
  have hq1 := H1.out.tstep ht hp hst
  rw [hz.out, hf.out] at hq1
  refine hq1.mono ?_
  clear hq1
  rintro en w2 ⟨rfl, hb⟩
  have H2 := Lib.hid hb
  clear hb H1 c3
  go_wp2_with fail
  refine (next_fn _ (.inr ⟨_, _, _, rfl⟩) _).mono ?_
  rintro en w4 ⟨rfl, c4⟩
  have H4 := Lib.hid (H2.out.quiet c4)
  clear c4 H2
  have b4 := H4.out.bk (B := B) (vs := [.nilFunc, .nilFunc]) (List.mem_cons_self)
  have x0 := H4.out.b (B := B) (vs := [.nilFunc, .nilFunc]) (List.mem_cons_self) 0 _ rfl
  have x1 := H4.out.b (B := B) (vs := [.nilFunc, .nilFunc]) (List.mem_cons_self) 1 _ rfl
  have fz := b4.fz
  have st0 := IsFn.store (v := .nilFunc) (.inl rfl)
  have st2 := IsFn.store (v := .func (.func 150) #[ptr X.ab] #[]) (.inr ⟨_, _, _, rfl⟩)
  clear b4
  go_wp2
  obtain ⟨h5, r0, r1⟩ := H4.out.ret (B := B) (r := X.bx) (fun p hp => hp) (fun p hp => by have := HL.out p hp; have := HB.out; omega) .nilFunc (.func (.func 150) #[ptr X.ab] #[])
  (try simp only [Exit.inBlock, Exit.then])
  refine bodyPost_ret (v := .agg #[.nilFunc, .func (.func 150) #[ptr X.ab] #[]]) ?hr rfl ?hx
  case hx => exact ⟨_, _, rfl, h5.sg .aGive, rfl, ⟨rfl, rfl, rfl, rfl, rfl, rfl, rfl⟩⟩
  case hr =>
    generalize ((w4.setCell ⟨B, 0, none⟩ .nilFunc).setCell ⟨B, 1, none⟩ (.func (.func 150) #[ptr X.ab] #[])) = W5 at r0 r1 ⊢
    simp [results, Tryz.results137, go_sem, r0, r1]
set_option maxHeartbeats 4000000 in
theorem st_aWait2 (h : Bo E S0 w0 W σ n X k) (hn : n ≤ 80000) (hk : k.kd ≤ 2) {t : Nat} (ht : X.t = some t) (hp : k.t.pos ≤ 90000) (hst : k.t.st = 0 ∨ k.t.st = 1 ∨ k.t.st = 2) {z : Nat × TSt} (hz : Hid (tickW E.N σ (k.h E.N) k.t = z)) (hf : Hid (z.2.su = 2)) :
    Calls Tryz.prog 137 #[ptr X.ab] W (Res E S0 w0 X (n + 1) (setNx σ (k.h E.N) z.1, { k with t := z.2, sg := .aSubmit })) := by
  have hmf := mk_func
  have H1 := Lib.hid h.box
  have HL := Lib.hid (fun p (hp : p ∈ X.bx) => h.blt hp)
  clear h
  go_enter Tryz.func137, Tryz.ntmps137
  go_upto_region 1 with (fail)
  generalize W.alloc (.cells #[.nilFunc, .nilFunc] 103) = w1 at H1 ⊢
  obtain ⟨B, hB⟩ : ∃ B, B = W.heap.size := ⟨_, rfl⟩
  rw [← hB] at H1 ⊢
  have HB := Lib.hid hB
  clear hB
  have c3 : w1.cell? ⟨X.ab, 3, none⟩ = some (ptr t) := by have := H1.out.a3 hk; dsimp only at this; rw [ht] at this; exact this
  go_wp2_with fail
  have hq1 := H1.out.tstep ht hp hst
  rw [hz.out, hf.out] at hq1
  refine hq1.mono ?_
  clear hq1
  rintro en w2 ⟨rfl, hb⟩
  have H2 := Lib.hid hb
  clear hb H1 c3
  go_wp2_with fail
  refine (next_fn _ (.inr ⟨_, _, _, rfl⟩) _).mono ?_
  rintro en w4 ⟨rfl, c4⟩
  have H4 := Lib.hid (H2.out.quiet c4)
  clear c4 H2
  have b4 := H4.out.bk (B := B) (vs := [.nilFunc, .nilFunc]) (List.mem_cons_self)
  have x0 := H4.out.b (B := B) (vs := [.nilFunc, .nilFunc]) (List.mem_cons_self) 0 _ rfl
  have x1 := H4.out.b (B := B) (vs := [.nilFunc, .nilFunc]) (List.mem_cons_self) 1 _ rfl
  have fz := b4.fz
  have st0 := IsFn.store (v := .nilFunc) (.inl rfl)
  have st2 := IsFn.store (v := .func (.func 151) #[ptr X.ab] #[]) (.inr ⟨_, _, _, rfl⟩)
  clear b4
  go_wp2
  obtain ⟨h5, r0, r1⟩ := H4.out.ret (B := B) (r := X.bx) (fun p hp => hp) (fun p hp => by have := HL.out p hp; have := HB.out; omega) .nilFunc (.func (.func 151) #[ptr X.ab] #[])
  (try simp only [Exit.inBlock, Exit.then])
  refine bodyPost_ret (v := .agg #[.nilFunc, .func (.func 151) #[ptr X.ab] #[]]) ?hr rfl ?hx
  case hx => exact ⟨_, _, rfl, h5.sg .aSubmit, ⟨rfl, _, ht⟩, ⟨rfl, rfl, rfl, rfl, rfl, rfl, rfl⟩⟩
  case hr =>
    generalize ((w4.setCell ⟨B, 0, none⟩ .nilFunc).setCell ⟨B, 1, none⟩ (.func (.func 151) #[ptr X.ab] #[])) = W5 at r0 r1 ⊢
    simp [results, Tryz.results137, go_sem, r0, r1]
set_option maxHeartbeats 4000000 in
theorem st_aGive (h : Bo E S0 w0 W σ n X k) (hn : n ≤ 80000) (hk : k.kd ≤ 2) (hs : k.asl < E.N.n) :
    Calls Tryz.prog 150 #[ptr X.ab] W (Res E S0 w0 X (n + 1) ({ σ with R := hapR σ.R k.asl 9 }, refW k 2 .aDrop)) := by
  have hmf := mk_func
  have H1 := Lib.hid h.box
  have HL := Lib.hid (fun p (hp : p ∈ X.bx) => h.blt hp)
  clear h
  go_enter Tryz.func150, Tryz.ntmps150
  go_upto_region 1 with (fail)
  generalize W.alloc (.cells #[.nilFunc, .nilFunc] 103) = w1 at H1 ⊢
  obtain ⟨B, hB⟩ : ∃ B, B = W.heap.size := ⟨_, rfl⟩
  rw [← hB] at H1 ⊢
  have HB := Lib.hid hB
  clear hB
  have D1 : Ch Nil w1 w1.drew := (Ch.refl _ _).drew
  have H2 := Lib.hid (H1.out.quiet D1)
  refine wp_region_held_drew (S := fun w' => w'.cell? ⟨X.ab, 0, none⟩ = some (ptr X.kb) ∧ w'.cell? ⟨X.ab, 5, none⟩ = some (.int .i64 (k.asl : Nat))) (by kernel_rfl) ⟨H2.out.a0, H2.out.a5 hk⟩ (fun hHeld => ?_)
  clear D1 H1
  generalize w1.drew = w2 at *
  refine take_at (v := ?_) 0 (some 3) rfl (by kernel_rfl) (by kernel_rfl) (by kernel_rfl) (by kernel_rfl) (fun _ _ _ h => h) (Or.inl ⟨by rfl, ?_⟩) (by assumption) ?_
  rotate_left
  · intro w hSw; (try dsimp only at hSw); go_simp; try (with_reducible rfl)
  (try simp only [Act.put, List.setIfInBounds_toArray, List.set_cons_zero, List.set_cons_succ])
  refine take_at (v := ?_) 1 (some 4) rfl (by kernel_rfl) (by kernel_rfl) (by kernel_rfl) (by kernel_rfl) (fun _ _ _ h => h) (Or.inl ⟨by rfl, ?_⟩) (by assumption) ?_
  rotate_left
  · intro w hSw; (try dsimp only at hSw); go_simp; try (with_reducible rfl)
  (try simp only [Act.put, List.setIfInBounds_toArray, List.set_cons_zero, List.set_cons_succ])
  refine take_at (v := ?_) 2 (some 5) rfl (by kernel_rfl) (by kernel_rfl) (by kernel_rfl) (by kernel_rfl) (fun _ _ _ h => h) (Or.inl ⟨by rfl, ?_⟩) (by assumption) ?_
  rotate_left
  · intro w hSw; (try dsimp only at hSw); go_simp; try (with_reducible rfl)
  (try simp only [Act.put, List.setIfInBounds_toArray, List.set_cons_zero, List.set_cons_succ])
  refine take_at (v := ?_) 3 (some 6) rfl (by kernel_rfl) (by kernel_rfl) (by kernel_rfl) (by kernel_rfl) (fun _ _ _ h => h) (Or.inl ⟨by rfl, ?_⟩) (by assumption) ?_
  rotate_left
  · intro w hSw; (try dsimp only at hSw); go_simp; try (with_reducible rfl)
  (try simp only [Act.put, List.setIfInBounds_toArray, List.set_cons_zero, List.set_cons_succ])
  refine take_at (v := ?_) 4 (some 7) rfl (by kernel_rfl) (by kernel_rfl) (by kernel_rfl) (by kernel_rfl) (fun _ _ _ h => h) (Or.inl ⟨by rfl, ?_⟩) (by assumption) ?_
  rotate_left
  · intro w hSw; (try dsimp only at hSw); go_simp; try (with_reducible rfl)
  (try simp only [Act.put, List.setIfInBounds_toArray, List.set_cons_zero, List.set_cons_succ])
  refine take_at (v := ?_) 5 (some 8) rfl (by kernel_rfl) (by kernel_rfl) (by kernel_rfl) (by kernel_rfl) (fun _ _ _ h => h) (Or.inl ⟨by rfl, ?_⟩) (by assumption) ?_
  rotate_left
  · intro w hSw; (try dsimp only at hSw); go_simp; try (with_reducible rfl)
  (try simp only [Act.put, List.setIfInBounds_toArray, List.set_cons_zero, List.set_cons_succ])
  refine take_at (v := ?_) 6 (some 9) rfl (by kernel_rfl) (by kernel_rfl) (by kernel_rfl) (by kernel_rfl) (fun _ _ _ h => h) (Or.inl ⟨by rfl, ?_⟩) (by assumption) ?_
  rotate_left
  · intro w hSw; (try dsimp only at hSw); go_simp; try (with_reducible rfl)
  (try simp only [Act.put, List.setIfInBounds_toArray, List.set_cons_zero, List.set_cons_succ])
  refine take_at (v := ?_) 7 (some 10) rfl (by kernel_rfl) (by kernel_rfl) (by kernel_rfl) (by kernel_rfl) (fun _ _ _ h => h) (Or.inl ⟨by rfl, ?_⟩) (by assumption) ?_
  rotate_left
  · intro w hSw; (try dsimp only at hSw); go_simp; try (with_reducible rfl)
  (try simp only [Act.put, List.setIfInBounds_toArray, List.set_cons_zero, List.set_cons_succ])
  refine wpAnyH_ready (rs := [8]) (by kernel_rfl) (by simp) ?_
  refine AllReadyH.cons rfl (fun K hK => ?_) AllReadyH.nil
  go_simp
  refine (H2.out.happen k.asl hs 9).mono ?_
  rintro e w3 ⟨rfl, h3⟩
  have H3 := Lib.hid h3
  refine hK.out _ _ ⟨h3.a0, h3.a5 hk⟩ (fun hHeld2 => ?_)
  clear hK K hHeld
  have hHeld := hHeld2
  clear hHeld2
  (try simp only [Act.put, List.setIfInBounds_toArray, List.set_cons_zero, List.set_cons_succ])
  clear h3 hHeld H2
  refine wpAnyH_done (by kernel_rfl) ?_ _
  have c0 := H3.out.a0
  go_wp2_with fail
  clear c0
  refine (H3.out.refuse (by omega) 2 _ _ _).mono ?_
  rintro en w4 ⟨rfl, h4⟩
  have H4 := Lib.hid h4
  clear h4 H3
  have b4 := H4.out.bk (B := B) (vs := [.nilFunc, .nilFunc]) (List.mem_cons_self)
  have x0 := H4.out.b (B := B) (vs := [.nilFunc, .nilFunc]) (List.mem_cons_self) 0 _ rfl
  have x1 := H4.out.b (B := B) (vs := [.nilFunc, .nilFunc]) (List.mem_cons_self) 1 _ rfl
  have fz := b4.fz
  have st0 := IsFn.store (v := .nilFunc) (.inl rfl)
  have st2 := IsFn.store (v := .func (.func 159) #[ptr X.ab] #[]) (.inr ⟨_, _, _, rfl⟩)
  clear b4
  go_wp2
  obtain ⟨h5, r0, r1⟩ := H4.out.ret (B := B) (r := X.bx) (fun p hp => hp) (fun p hp => by have := HL.out p hp; have := HB.out; omega) .nilFunc (.func (.func 159) #[ptr X.ab] #[])
  (try simp only [Exit.inBlock, Exit.then])
  refine bodyPost_ret (v := .agg #[.nilFunc, .func (.func 159) #[ptr X.ab] #[]]) ?hr rfl ?hx
  case hx => exact ⟨_, _, rfl, h5.sg .aDrop, rfl, ⟨rfl, rfl, rfl, rfl, rfl, rfl, rfl⟩⟩
  case hr =>
    generalize ((w4.setCell ⟨B, 0, none⟩ .nilFunc).setCell ⟨B, 1, none⟩ (.func (.func 159) #[ptr X.ab] #[])) = W5 at r0 r1 ⊢
    simp [results, Tryz.results150, go_sem, r0, r1]
set_option maxHeartbeats 4000000 in
theorem st_aDrop (h : Bo E S0 w0 W σ n X k) (hn : n ≤ 80000) :
    Calls Tryz.prog 159 #[ptr X.ab] W (Res E S0 w0 X n ({ σ with cnt := σ.cnt - 1 }, { k with sg := .leave })) := by
  have hmf := mk_func
  have H1 := Lib.hid h.box
  have HL := Lib.hid (fun p (hp : p ∈ X.bx) => h.blt hp)
  clear h
  go_enter Tryz.func159, Tryz.ntmps159
  go_upto_region 1 with (fail)
  generalize W.alloc (.cells #[.nilFunc, .nilFunc] 103) = w1 at H1 ⊢
  obtain ⟨B, hB⟩ : ∃ B, B = W.heap.size := ⟨_, rfl⟩
  rw [← hB] at H1 ⊢
  have HB := Lib.hid hB
  clear hB
  have c0 := H1.out.a0
  have c1 := H1.out.k0
  go_wp2_with fail
  clear c0 c1
  refine (H1.out.slabOf).mono ?_
  rintro en w2 ⟨rfl, h2⟩
  have H2 := Lib.hid h2
  clear h2 H1
  go_wp2_with fail
  refine (H2.out.drop (by omega)).mono ?_
  rintro en w3 ⟨x, rfl, h3⟩
  have H3 := Lib.hid h3
  have c0 := h3.a0
  clear h3 H2
  go_wp2_with fail
  refine (next_fn _ (.inr ⟨_, _, _, rfl⟩) _).mono ?_
  rintro en w4 ⟨rfl, c4⟩
  have H4 := Lib.hid (H3.out.quiet c4)
  clear c4 H3
  clear c0
  have b4 := H4.out.bk (B := B) (vs := [.nilFunc, .nilFunc]) (List.mem_cons_self)
  have x0 := H4.out.b (B := B) (vs := [.nilFunc, .nilFunc]) (List.mem_cons_self) 0 _ rfl
  have x1 := H4.out.b (B := B) (vs := [.nilFunc, .nilFunc]) (List.mem_cons_self) 1 _ rfl
  have fz := b4.fz
  have st0 := IsFn.store (v := .nilFunc) (.inl rfl)
  have st2 := IsFn.store (v := .func (.func 91) #[ptr X.kb] #[]) (.inr ⟨_, _, _, rfl⟩)
  clear b4
  go_wp2
  obtain ⟨h5, r0, r1⟩ := H4.out.ret (B := B) (r := X.bx) (fun p hp => hp) (fun p hp => by have := HL.out p hp; have := HB.out; omega) .nilFunc (.func (.func 91) #[ptr X.kb] #[])
  (try simp only [Exit.inBlock, Exit.then])
  refine bodyPost_ret (v := .agg #[.nilFunc, .func (.func 91) #[ptr X.kb] #[]]) ?hr rfl ?hx
  case hx => exact ⟨_, _, rfl, h5.sg .leave, rfl, ⟨rfl, rfl, rfl, rfl, rfl, rfl, rfl⟩⟩
  case hr =>
    generalize ((w4.setCell ⟨B, 0, none⟩ .nilFunc).setCell ⟨B, 1, none⟩ (.func (.func 91) #[ptr X.kb] #[])) = W5 at r0 r1 ⊢
    simp [results, Tryz.results159, go_sem, r0, r1]
set_option maxHeartbeats 4000000 in
theorem st_eDrop (h : Bo E S0 w0 W σ n X k) (hn : n ≤ 80000) :
    Calls Tryz.prog 132 #[ptr X.ab] W (Res E S0 w0 X n ({ σ with cnt := σ.cnt - 1 }, { k with sg := .fin })) := by
  have hmf := mk_func
  have H1 := Lib.hid h.box
  have HL := Lib.hid (fun p (hp : p ∈ X.bx) => h.blt hp)
  clear h
  go_enter Tryz.func132, Tryz.ntmps132
  go_upto_region 1 with (fail)
  generalize W.alloc (.cells #[.nilFunc, .nilFunc] 103) = w1 at H1 ⊢
  obtain ⟨B, hB⟩ : ∃ B, B = W.heap.size := ⟨_, rfl⟩
  rw [← hB] at H1 ⊢
  have HB := Lib.hid hB
  clear hB
  have c0 := H1.out.a0
  have c1 := H1.out.k0
  go_wp2_with fail
  clear c0 c1
  refine (H1.out.slabOf).mono ?_
  rintro en w2 ⟨rfl, h2⟩
  have H2 := Lib.hid h2
  clear h2 H1
  go_wp2_with fail
  refine (H2.out.drop (by omega)).mono ?_
  rintro en w3 ⟨x, rfl, h3⟩
  have H3 := Lib.hid h3
  have c0 := h3.a0
  clear h3 H2
  go_wp2_with fail
  refine (next_fn _ (.inr ⟨_, _, _, rfl⟩) _).mono ?_
  rintro en w4 ⟨rfl, c4⟩
  have H4 := Lib.hid (H3.out.quiet c4)
  clear c4 H3
  clear c0
  have b4 := H4.out.bk (B := B) (vs := [.nilFunc, .nilFunc]) (List.mem_cons_self)
  have x0 := H4.out.b (B := B) (vs := [.nilFunc, .nilFunc]) (List.mem_cons_self) 0 _ rfl
  have x1 := H4.out.b (B := B) (vs := [.nilFunc, .nilFunc]) (List.mem_cons_self) 1 _ rfl
  have fz := b4.fz
  have st0 := IsFn.store (v := .nilFunc) (.inl rfl)
  have st2 := IsFn.store (v := .func (.func 81) #[ptr X.kb] #[]) (.inr ⟨_, _, _, rfl⟩)
  clear b4
  go_wp2
  obtain ⟨h5, r0, r1⟩ := H4.out.ret (B := B) (r := X.bx) (fun p hp => hp) (fun p hp => by have := HL.out p hp; have := HB.out; omega) .nilFunc (.func (.func 81) #[ptr X.kb] #[])
  (try simp only [Exit.inBlock, Exit.then])
  refine bodyPost_ret (v := .agg #[.nilFunc, .func (.func 81) #[ptr X.kb] #[]]) ?hr rfl ?hx
  case hx => exact ⟨_, _, rfl, h5.sg .fin, rfl, ⟨rfl, rfl, rfl, rfl, rfl, rfl, rfl⟩⟩
  case hr =>
    generalize ((w4.setCell ⟨B, 0, none⟩ .nilFunc).setCell ⟨B, 1, none⟩ (.func (.func 81) #[ptr X.kb] #[])) = W5 at r0 r1 ⊢
    simp [results, Tryz.results132, go_sem, r0, r1]
set_option maxHeartbeats 4000000 in
theorem st_aSubmit (h : Bo E S0 w0 W σ n X k) (hn : n ≤ 80000) (hk : k.kd ≤ 2) {t : Nat} (ht : X.t = some t) (hs : k.asl < E.N.n) :
    Calls Tryz.prog 151 #[ptr X.ab] W (Res E S0 w0 X (n + 1) ({ σ with R := hapR σ.R k.asl 2 }, { k with sg := .aFill (gnW (hapW σ.R k.asl 2)) })) := by
  have hmf := mk_func
  have hwd : hapW σ.R k.asl 2 < 18446744073709551616 := by
    have := h.bd.w _ hs
    unfold hapW
    split
    · exact okW_lt64 (nxZ_ok this)
    · exact okW_lt64 this
  have GN : ∀ w, Calls Tryz.prog 122 #[.int .u64 (hapW σ.R k.asl 2 : Nat)] w fun e w' => e = .returned (.int .u64 (gnW (hapW σ.R k.asl 2) : Nat)) ∧ w = w' := fun w => gen_any _ hwd w
  obtain ⟨g, hg⟩ : ∃ g, g = gnW (hapW σ.R k.asl 2) := ⟨_, rfl⟩
  rw [← hg] at GN ⊢
  clear hg
  have GNH := Lib.hid GN
  clear GN hwd
  have H1 := Lib.hid h.box
  have HL := Lib.hid (fun p (hp : p ∈ X.bx) => h.blt hp)
  clear h
  go_enter Tryz.func151, Tryz.ntmps151
  go_upto_region 1 with (fail)
  generalize W.alloc (.cells #[.nilFunc, .nilFunc] 103) = w1 at H1 ⊢
  obtain ⟨B, hB⟩ : ∃ B, B = W.heap.size := ⟨_, rfl⟩
  rw [← hB] at H1 ⊢
  have HB := Lib.hid hB
  clear hB
  have D1 : Ch Nil w1 w1.drew := (Ch.refl _ _).drew
  have H2 := Lib.hid (H1.out.quiet D1)
  refine wp_region_held_drew (S := fun w' => w'.cell? ⟨X.ab, 0, none⟩ = some (ptr X.kb) ∧ w'.cell? ⟨X.ab, 1, none⟩ = some (.int .u64 (k.per : Nat)) ∧ w'.cell? ⟨X.ab, 4, none⟩ = some (.int .u64 (k.aid : Nat)) ∧ w'.cell? ⟨X.ab, 5, none⟩ = some (.int .i64 (k.asl : Nat)) ∧ w'.cell? ⟨X.kb, 5, none⟩ = some (.int .u64 (k.d : Nat))) (by kernel_rfl) ⟨H2.out.a0, H2.out.a1 hk, H2.out.a4 hk, H2.out.a5 hk, H2.out.k5⟩ (fun hHeld => ?_)
  clear D1 H1
  generalize w1.drew = w2 at *
  refine take_at (v := ?_) 0 (some 4) rfl (by kernel_rfl) (by kernel_rfl) (by kernel_rfl) (by kernel_rfl) (fun _ _ _ h => h) (Or.inl ⟨by rfl, ?_⟩) (by assumption) ?_
  rotate_left
  · intro w hSw; (try dsimp only at hSw); go_simp; try (with_reducible rfl)
  (try simp only [Act.put, List.setIfInBounds_toArray, List.set_cons_zero, List.set_cons_succ])
  refine take_at (v := ?_) 1 (some 5) rfl (by kernel_rfl) (by kernel_rfl) (by kernel_rfl) (by kernel_rfl) (fun _ _ _ h => h) (Or.inl ⟨by rfl, ?_⟩) (by assumption) ?_
  rotate_left
  · intro w hSw; (try dsimp only at hSw); go_simp; try (with_reducible rfl)
  (try simp only [Act.put, List.setIfInBounds_toArray, List.set_cons_zero, List.set_cons_succ])
  refine take_at (v := ?_) 2 (some 6) rfl (by kernel_rfl) (by kernel_rfl) (by kernel_rfl) (by kernel_rfl) (fun _ _ _ h => h) (Or.inl ⟨by rfl, ?_⟩) (by assumption) ?_
  rotate_left
  · intro w hSw; (try dsimp only at hSw); go_simp; try (with_reducible rfl)
  (try simp only [Act.put, List.setIfInBounds_toArray, List.set_cons_zero, List.set_cons_succ])
  refine take_at (v := ?_) 3 (some 7) rfl (by kernel_rfl) (by kernel_rfl) (by kernel_rfl) (by kernel_rfl) (fun _ _ _ h => h) (Or.inl ⟨by rfl, ?_⟩) (by assumption) ?_
  rotate_left
  · intro w hSw; (try dsimp only at hSw); go_simp; try (with_reducible rfl)
  (try simp only [Act.put, List.setIfInBounds_toArray, List.set_cons_zero, List.set_cons_succ])
  refine take_at (v := ?_) 4 (some 8) rfl (by kernel_rfl) (by kernel_rfl) (by kernel_rfl) (by kernel_rfl) (fun _ _ _ h => h) (Or.inl ⟨by rfl, ?_⟩) (by assumption) ?_
  rotate_left
  · intro w hSw; (try dsimp only at hSw); go_simp; try (with_reducible rfl)
  (try simp only [Act.put, List.setIfInBounds_toArray, List.set_cons_zero, List.set_cons_succ])
  refine take_at (v := ?_) 5 (some 9) rfl (by kernel_rfl) (by kernel_rfl) (by kernel_rfl) (by kernel_rfl) (fun _ _ _ h => h) (Or.inl ⟨by rfl, ?_⟩) (by assumption) ?_
  rotate_left
  · intro w hSw; (try dsimp only at hSw); go_simp; try (with_reducible rfl)
  (try simp only [Act.put, List.setIfInBounds_toArray, List.set_cons_zero, List.set_cons_succ])
  refine take_at (v := ?_) 6 (some 10) rfl (by kernel_rfl) (by kernel_rfl) (by kernel_rfl) (by kernel_rfl) (fun _ _ _ h => h) (Or.inl ⟨by rfl, ?_⟩) (by assumption) ?_
  rotate_left
  · intro w hSw; (try dsimp only at hSw); go_simp; try (with_reducible rfl)
  (try simp only [Act.put, List.setIfInBounds_toArray, List.set_cons_zero, List.set_cons_succ])
  refine take_at (v := ?_) 7 (some 11) rfl (by kernel_rfl) (by kernel_rfl) (by kernel_rfl) (by kernel_rfl) (fun _ _ _ h => h) (Or.inl ⟨by rfl, ?_⟩) (by assumption) ?_
  rotate_left
  · intro w hSw; (try dsimp only at hSw); go_simp; try (with_reducible rfl)
  (try simp only [Act.put, List.setIfInBounds_toArray, List.set_cons_zero, List.set_cons_succ])
  refine wpAnyH_ready (rs := [8]) (by kernel_rfl) (by simp) ?_
  refine AllReadyH.cons rfl (fun K hK => ?_) AllReadyH.nil
  go_simp
  refine (H2.out.happen k.asl hs 2).mono ?_
  rintro e w3 ⟨rfl, h3⟩
  have H3 := Lib.hid h3
  refine hK.out _ _ ⟨h3.a0, h3.a1 hk, h3.a4 hk, h3.a5 hk, h3.k5⟩ (fun hHeld2 => ?_)
  clear hK K hHeld
  have hHeld := hHeld2
  clear hHeld2
  (try simp only [Act.put, List.setIfInBounds_toArray, List.set_cons_zero, List.set_cons_succ])
  clear h3 H2
  refine wpAnyH_ready (rs := [9]) (by kernel_rfl) (by simp) ?_
  refine AllReadyH.cons rfl (fun K hK => ?_) AllReadyH.nil
  go_simp
  refine (GNH.out _).mono ?_
  rintro e w4 ⟨rfl, rfl⟩
  refine hK.out _ _ hHeld (fun hHeld2 => ?_)
  clear hK K hHeld
  have hHeld := hHeld2
  clear hHeld2
  (try simp only [Act.put, List.setIfInBounds_toArray, List.set_cons_zero, List.set_cons_succ])
  refine take_at (v := ?_) 10 (some 3) rfl (by kernel_rfl) (by kernel_rfl) (by kernel_rfl) (by kernel_rfl) (fun _ _ _ h => h) (Or.inl ⟨by rfl, ?_⟩) (by assumption) ?_
  rotate_left
  · intro w hSw; (try dsimp only at hSw); go_simp; try (with_reducible rfl)
  (try simp only [Act.put, List.setIfInBounds_toArray, List.set_cons_zero, List.set_cons_succ])
  refine wpAnyH_done (by kernel_rfl) ?_ _
  clear hHeld
  go_upto_region 2 with (fail)
  have D1 : Ch Nil w3 w3.drew := (Ch.refl _ _).drew
  have H5 := Lib.hid (H3.out.quiet D1)
  refine wp_region_held_drew (S := fun w' => w'.cell? ⟨X.ab, 0, none⟩ = some (ptr X.kb) ∧ w'.cell? ⟨X.ab, 1, none⟩ = some (.int .u64 (k.per : Nat)) ∧ w'.cell? ⟨X.ab, 4, none⟩ = some (.int .u64 (k.aid : Nat)) ∧ w'.cell? ⟨X.ab, 5, none⟩ = some (.int .i64 (k.asl : Nat)) ∧ w'.cell? ⟨X.kb, 5, none⟩ = some (.int .u64 (k.d : Nat))) (by kernel_rfl) ⟨H5.out.a0, H5.out.a1 hk, H5.out.a4 hk, H5.out.a5 hk, H5.out.k5⟩ (fun hHeld => ?_)
  clear D1 H3
  generalize w3.drew = w5 at *
  refine take_at (v := ?_) 0 (some 14) rfl (by kernel_rfl) (by kernel_rfl) (by kernel_rfl) (by kernel_rfl) (fun _ _ _ h => h) (Or.inl ⟨by rfl, ?_⟩) (by assumption) ?_
  rotate_left
  · intro w hSw; (try dsimp only at hSw); go_simp; try (with_reducible rfl)
  (try simp only [Act.put, List.setIfInBounds_toArray, List.set_cons_zero, List.set_cons_succ])
  refine take_at (v := ?_) 1 (some 15) rfl (by kernel_rfl) (by kernel_rfl) (by kernel_rfl) (by kernel_rfl) (fun _ _ _ h => h) (Or.inl ⟨by rfl, ?_⟩) (by assumption) ?_
  rotate_left
  · intro w hSw; (try dsimp only at hSw); go_simp; try (with_reducible rfl)
  (try simp only [Act.put, List.setIfInBounds_toArray, List.set_cons_zero, List.set_cons_succ])
  refine take_at (v := ?_) 2 (some 16) rfl (by kernel_rfl) (by kernel_rfl) (by kernel_rfl) (by kernel_rfl) (fun _ _ _ h => h) (Or.inl ⟨by rfl, ?_⟩) (by assumption) ?_
  rotate_left
  · intro w hSw; (try dsimp only at hSw); go_simp; try (with_reducible rfl)
  (try simp only [Act.put, List.setIfInBounds_toArray, List.set_cons_zero, List.set_cons_succ])
  refine take_at (v := ?_) 3 (some 17) rfl (by kernel_rfl) (by kernel_rfl) (by kernel_rfl) (by kernel_rfl) (fun _ _ _ h => h) (Or.inl ⟨by rfl, ?_⟩) (by assumption) ?_
  rotate_left
  · intro w hSw; (try dsimp only at hSw); go_simp; try (with_reducible rfl)
  (try simp only [Act.put, List.setIfInBounds_toArray, List.set_cons_zero, List.set_cons_succ])
  refine take_at (v := ?_) 4 (some 18) rfl (by kernel_rfl) (by kernel_rfl) (by kernel_rfl) (by kernel_rfl) (fun _ _ _ h => h) (Or.inl ⟨by rfl, ?_⟩) (by assumption) ?_
  rotate_left
  · intro w hSw; (try dsimp only at hSw); go_simp; try (with_reducible rfl)
  (try simp only [Act.put, List.setIfInBounds_toArray, List.set_cons_zero, List.set_cons_succ])
  refine take_at (v := ?_) 5 (some 19) rfl (by kernel_rfl) (by kernel_rfl) (by kernel_rfl) (by kernel_rfl) (fun _ _ _ h => h) (Or.inl ⟨by rfl, ?_⟩) (by assumption) ?_
  rotate_left
  · intro w hSw; (try dsimp only at hSw); go_simp; try (with_reducible rfl)
  (try simp only [Act.put, List.setIfInBounds_toArray, List.set_cons_zero, List.set_cons_succ])
  refine take_at (v := ?_) 6 (some 20) rfl (by kernel_rfl) (by kernel_rfl) (by kernel_rfl) (by kernel_rfl) (fun _ _ _ h => h) (Or.inl ⟨by rfl, ?_⟩) (by assumption) ?_
  rotate_left
  · intro w hSw; (try dsimp only at hSw); go_simp; try (with_reducible rfl)
  (try simp only [Act.put, List.setIfInBounds_toArray, List.set_cons_zero, List.set_cons_succ])
  refine take_at (v := ?_) 7 (some 21) rfl (by kernel_rfl) (by kernel_rfl) (by kernel_rfl) (by kernel_rfl) (fun _ _ _ h => h) (Or.inl ⟨by rfl, ?_⟩) (by assumption) ?_
  rotate_left
  · intro w hSw; (try dsimp only at hSw); go_simp; try (with_reducible rfl)
  (try simp only [Act.put, List.setIfInBounds_toArray, List.set_cons_zero, List.set_cons_succ])
  refine take_at (v := ?_) 8 (some 22) rfl (by kernel_rfl) (by kernel_rfl) (by kernel_rfl) (by kernel_rfl) (fun _ _ _ h => h) (Or.inl ⟨by rfl, ?_⟩) (by assumption) ?_
  rotate_left
  · intro w hSw; (try dsimp only at hSw); go_simp; try (with_reducible rfl)
  (try simp only [Act.put, List.setIfInBounds_toArray, List.set_cons_zero, List.set_cons_succ])
  refine take_at (v := ?_) 9 (some 23) rfl (by kernel_rfl) (by kernel_rfl) (by kernel_rfl) (by kernel_rfl) (fun _ _ _ h => h) (Or.inl ⟨by rfl, ?_⟩) (by assumption) ?_
  rotate_left
  · intro w hSw; (try dsimp only at hSw); go_simp; try (with_reducible rfl)
  (try simp only [Act.put, List.setIfInBounds_toArray, List.set_cons_zero, List.set_cons_succ])
  refine take_at (v := ?_) 10 (some 24) rfl (by kernel_rfl) (by kernel_rfl) (by kernel_rfl) (by kernel_rfl) (fun _ _ _ h => h) (Or.inl ⟨by rfl, ?_⟩) (by assumption) ?_
  rotate_left
  · intro w hSw; (try dsimp only at hSw); go_simp; try (with_reducible rfl)
  (try simp only [Act.put, List.setIfInBounds_toArray, List.set_cons_zero, List.set_cons_succ])
  refine take_at (v := ?_) 11 (some 25) rfl (by kernel_rfl) (by kernel_rfl) (by kernel_rfl) (by kernel_rfl) (fun _ _ _ h => h) (Or.inl ⟨by rfl, ?_⟩) (by assumption) ?_
  rotate_left
  · intro w hSw; (try dsimp only at hSw); go_simp; try (with_reducible rfl)
  (try simp only [Act.put, List.setIfInBounds_toArray, List.set_cons_zero, List.set_cons_succ])
  refine take_at (v := ?_) 12 (some 26) rfl (by kernel_rfl) (by kernel_rfl) (by kernel_rfl) (by kernel_rfl) (fun _ _ _ h => h) (Or.inl ⟨by rfl, ?_⟩) (by assumption) ?_
  rotate_left
  · intro w hSw; (try dsimp only at hSw); go_simp; try (with_reducible rfl)
  (try simp only [Act.put, List.setIfInBounds_toArray, List.set_cons_zero, List.set_cons_succ])
  refine take_at (v := ?_) 13 (some 27) rfl (by kernel_rfl) (by kernel_rfl) (by kernel_rfl) (by kernel_rfl) (fun _ _ _ h => h) (Or.inl ⟨by rfl, ?_⟩) (by assumption) ?_
  rotate_left
  · intro w hSw; (try dsimp only at hSw); go_simp; try (with_reducible rfl)
  (try simp only [Act.put, List.setIfInBounds_toArray, List.set_cons_zero, List.set_cons_succ])
  refine take_at (v := ?_) 14 (some 28) rfl (by kernel_rfl) (by kernel_rfl) (by kernel_rfl) (by kernel_rfl) (fun _ _ _ h => h) (Or.inl ⟨by rfl, ?_⟩) (by assumption) ?_
  rotate_left
  · intro w hSw; (try dsimp only at hSw); go_simp; try (with_reducible rfl)
  (try simp only [Act.put, List.setIfInBounds_toArray, List.set_cons_zero, List.set_cons_succ])
  refine take_at (v := ?_) 15 (some 29) rfl (by kernel_rfl) (by kernel_rfl) (by kernel_rfl) (by kernel_rfl) (fun _ _ _ h => h) (Or.inl ⟨by rfl, ?_⟩) (by assumption) ?_
  rotate_left
  · intro w hSw; (try dsimp only at hSw); go_simp; try (with_reducible rfl)
  (try simp only [Act.put, List.setIfInBounds_toArray, List.set_cons_zero, List.set_cons_succ])
  refine take_at (v := ?_) 16 (some 30) rfl (by kernel_rfl) (by kernel_rfl) (by kernel_rfl) (by kernel_rfl) (fun _ _ _ h => h) (Or.inl ⟨by rfl, ?_⟩) (by assumption) ?_
  rotate_left
  · intro w hSw; (try dsimp only at hSw); go_simp; try (with_reducible rfl)
  (try simp only [Act.put, List.setIfInBounds_toArray, List.set_cons_zero, List.set_cons_succ])
  refine take_at (v := ?_) 17 (some 31) rfl (by kernel_rfl) (by kernel_rfl) (by kernel_rfl) (by kernel_rfl) (fun _ _ _ h => h) (Or.inl ⟨by rfl, ?_⟩) (by assumption) ?_
  rotate_left
  · intro w hSw; (try dsimp only at hSw); go_simp; try (with_reducible rfl)
  (try simp only [Act.put, List.setIfInBounds_toArray, List.set_cons_zero, List.set_cons_succ])
  refine take_at (v := ?_) 18 (some 32) rfl (by kernel_rfl) (by kernel_rfl) (by kernel_rfl) (by kernel_rfl) (fun _ _ _ h => h) (Or.inl ⟨by rfl, ?_⟩) (by assumption) ?_
  rotate_left
  · intro w hSw; (try dsimp only at hSw); go_simp; try (with_reducible rfl)
  (try simp only [Act.put, List.setIfInBounds_toArray, List.set_cons_zero, List.set_cons_succ])
  refine take_at (v := ?_) 19 (some 33) rfl (by kernel_rfl) (by kernel_rfl) (by kernel_rfl) (by kernel_rfl) (fun _ _ _ h => h) (Or.inl ⟨by rfl, ?_⟩) (by assumption) ?_
  rotate_left
  · intro w hSw; (try dsimp only at hSw); go_simp; try (with_reducible rfl)
  (try simp only [Act.put, List.setIfInBounds_toArray, List.set_cons_zero, List.set_cons_succ])
  refine take_at (v := ?_) 20 (some 34) rfl (by kernel_rfl) (by kernel_rfl) (by kernel_rfl) (by kernel_rfl) (fun _ _ _ h => h) (Or.inl ⟨by rfl, ?_⟩) (by assumption) ?_
  rotate_left
  · intro w hSw; (try dsimp only at hSw); go_simp; try (with_reducible rfl)
  (try simp only [Act.put, List.setIfInBounds_toArray, List.set_cons_zero, List.set_cons_succ])
  refine take_at (v := ?_) 21 (some 35) rfl (by kernel_rfl) (by kernel_rfl) (by kernel_rfl) (by kernel_rfl) (fun _ _ _ h => h) (Or.inl ⟨by rfl, ?_⟩) (by assumption) ?_
  rotate_left
  · intro w hSw; (try dsimp only at hSw); go_simp; try (with_reducible rfl)
  (try simp only [Act.put, List.setIfInBounds_toArray, List.set_cons_zero, List.set_cons_succ])
  refine wpAnyH_ready (rs := [22]) (by kernel_rfl) (by simp) ?_
  refine AllReadyH.cons rfl (fun K hK => ?_) AllReadyH.nil
  go_simp
  refine (H5.out.knote (by omega) ⟨3, 0, 0, 0, (k.aid : Nat), (g : Nat), (k.d : Nat), (k.per : Nat), 0, 0⟩).mono ?_
  rintro e w6 ⟨rfl, h6⟩
  have H6 := Lib.hid h6
  refine hK.out _ _ ⟨h6.a0, h6.a1 hk, h6.a4 hk, h6.a5 hk, h6.k5⟩ (fun hHeld2 => ?_)
  clear hK K hHeld
  have hHeld := hHeld2
  clear hHeld2
  (try simp only [Act.put, List.setIfInBounds_toArray, List.set_cons_zero, List.set_cons_succ])
  clear h6 hHeld H5
  refine wpAnyH_done (by kernel_rfl) ?_ _
  go_wp2_with fail
  refine (fillA_any X.ab g _).mono ?_
  rintro en w7 ⟨rfl, i1, i2, c7⟩
  have H7 := Lib.hid (H6.out.pushs c7 [(w6.heap.size, [ptr X.ab]), (w6.heap.size + 1, [.int .u64 (g : Nat)])] (fun p hp => by
    rcases List.mem_cons.1 hp with rfl | hp
    · exact ⟨Nat.le_refl _, i1⟩
    · rcases List.mem_cons.1 hp with rfl | hp
      · exact ⟨Nat.le_succ _, i2⟩
      · cases hp))
  have hB6 : B < w6.heap.size := H6.out.blt (p := (B, [.nilFunc, .nilFunc])) List.mem_cons_self
  obtain ⟨b1, hb1⟩ : ∃ b1, b1 = w6.heap.size := ⟨_, rfl⟩
  rw [← hb1] at H7 hB6 ⊢
  obtain ⟨b2, hb2⟩ : ∃ b2, b2 = b1 + 1 := ⟨_, rfl⟩
  rw [← hb2] at H7 ⊢
  have hb : B < b1 ∧ B < b2 := by omega
  clear i1 i2 c7 H6 hb1 hb2 hB6
  have HBB := Lib.hid hb
  clear hb
  go_wp2_with fail
  refine (next_fn _ (.inr ⟨_, _, _, rfl⟩) _).mono ?_
  rintro en w8 ⟨rfl, c4⟩
  have H8 := Lib.hid (H7.out.quiet c4)
  clear c4 H7
  have b4 := H8.out.bk (B := B) (vs := [.nilFunc, .nilFunc]) (List.mem_cons_of_mem _ (List.mem_cons_of_mem _ List.mem_cons_self))
  have x0 := H8.out.b (B := B) (vs := [.nilFunc, .nilFunc]) (List.mem_cons_of_mem _ (List.mem_cons_of_mem _ List.mem_cons_self)) 0 _ rfl
  have x1 := H8.out.b (B := B) (vs := [.nilFunc, .nilFunc]) (List.mem_cons_of_mem _ (List.mem_cons_of_mem _ List.mem_cons_self)) 1 _ rfl
  have fz := b4.fz
  have st0 := IsFn.store (v := .nilFunc) (.inl rfl)
  have st2 := IsFn.store (v := .func (.func 165) #[] #[ptr b1, ptr b2]) (.inr ⟨_, _, _, rfl⟩)
  clear b4
  go_wp2
  obtain ⟨h5, r0, r1⟩ := H8.out.ret (B := B) (r := [(b1, [ptr X.ab]), (b2, [.int .u64 (g : Nat)])]) (fun p hp => by
    rcases List.mem_cons.1 hp with rfl | hp
    · exact List.mem_cons_of_mem _ (List.mem_cons_of_mem _ List.mem_cons_self)
    · rcases List.mem_cons.1 hp with rfl | hp
      · exact List.mem_cons_self
      · rcases List.mem_cons.1 hp with rfl | hp
        · exact List.mem_cons_of_mem _ List.mem_cons_self
        · cases hp) (fun p hp => by
    have := HBB.out
    rcases List.mem_cons.1 hp with rfl | hp
    · dsimp only; omega
    · rcases List.mem_cons.1 hp with rfl | hp
      · dsimp only; omega
      · cases hp) .nilFunc (.func (.func 165) #[] #[ptr b1, ptr b2])
  (try simp only [Exit.inBlock, Exit.then])
  refine bodyPost_ret (v := .agg #[.nilFunc, .func (.func 165) #[] #[ptr b1, ptr b2]]) ?hr rfl ?hx
  case hx => exact ⟨_, _, rfl, h5.sg (.aFill g), ⟨b1, b2, rfl, List.mem_cons_self, List.mem_cons_of_mem _ List.mem_cons_self, _, ht⟩, ⟨rfl, rfl, rfl, rfl, rfl, rfl, rfl⟩⟩
  case hr =>
    generalize ((w8.setCell ⟨B, 0, none⟩ .nilFunc).setCell ⟨B, 1, none⟩ (.func (.func 165) #[] #[ptr b1, ptr b2])) = W5 at r0 r1 ⊢
    simp [results, Tryz.results151, go_sem, r0, r1]
set_option maxHeartbeats 4000000 in
theorem st_aFill (h : Bo E S0 w0 W σ n X k) (hn : n ≤ 80000) (hk : k.kd ≤ 2) {b1 b2 g t : Nat} (hm1 : (b1, [ptr X.ab]) ∈ X.bx) (hm2 : (b2, [.int .u64 (g : Nat)]) ∈ X.bx) (ht : X.t = some t) (hsu : k.t.su = 2) (hfl : k.t.fl = false) (hp : k.t.pos ≤ 90000) (hwi : (σ.g (k.h E.N)).fi ≤ k.t.pos ∧ k.t.pos < (σ.g (k.h E.N)).fi + E.N.r) :
    Calls Tryz.prog 165 #[ptr b1, ptr b2] W (Res E S0 w0 X n (fillW σ (k.h E.N) k.t.pos ⟨k.aid, k.asl, g, k.d, k.per⟩, { k with t := filled k.t, a := ⟨0, true, k.aid, g⟩, sg := .leave })) := by
  have hmf := mk_func
  have H1 := Lib.hid h.box
  have HL := Lib.hid (fun p (hp : p ∈ X.bx) => h.blt hp)
  clear h
  go_enter Tryz.func165, Tryz.ntmps165
  go_upto_region 1 with (fail)
  generalize W.alloc (.cells #[.nilFunc, .nilFunc] 103) = w1 at H1 ⊢
  obtain ⟨B, hB⟩ : ∃ B, B = W.heap.size := ⟨_, rfl⟩
  rw [← hB] at H1 ⊢
  have HB := Lib.hid hB
  clear hB
  have D1 : Ch Nil w1 w1.drew := (Ch.refl _ _).drew
  have H2 := Lib.hid (H1.out.quiet D1)
  refine wp_region_held_drew (S := fun w' => w'.cell? ⟨b1, 0, none⟩ = some (ptr X.ab) ∧ w'.cell? ⟨b2, 0, none⟩ = some (.int .u64 (g : Nat)) ∧ w'.cell? ⟨X.ab, 0, none⟩ = some (ptr X.kb) ∧ w'.cell? ⟨X.ab, 1, none⟩ = some (.int .u64 (k.per : Nat)) ∧ w'.cell? ⟨X.ab, 3, none⟩ = some (ptr t) ∧ w'.cell? ⟨X.ab, 4, none⟩ = some (.int .u64 (k.aid : Nat)) ∧ w'.cell? ⟨X.ab, 5, none⟩ = some (.int .i64 (k.asl : Nat)) ∧ w'.cell? ⟨X.kb, 5, none⟩ = some (.int .u64 (k.d : Nat))) (by kernel_rfl) ⟨H2.out.b (List.mem_cons_of_mem _ hm1) 0 _ rfl, H2.out.b (List.mem_cons_of_mem _ hm2) 0 _ rfl, H2.out.a0, H2.out.a1 hk, (by have := H2.out.a3 hk; dsimp only at this; rw [ht] at this; exact this), H2.out.a4 hk, H2.out.a5 hk, H2.out.k5⟩ (fun hHeld => ?_)
  clear D1 H1
  generalize w1.drew = w2 at *
  refine take_at (v := ?_) 0 (some 3) rfl (by kernel_rfl) (by kernel_rfl) (by kernel_rfl) (by kernel_rfl) (fun _ _ _ h => h) (Or.inl ⟨by rfl, ?_⟩) (by assumption) ?_
  rotate_left
  · intro w hSw; (try dsimp only at hSw); go_simp; try (with_reducible rfl)
  (try simp only [Act.put, List.setIfInBounds_toArray, List.set_cons_zero, List.set_cons_succ])
  refine take_at (v := ?_) 1 (some 4) rfl (by kernel_rfl) (by kernel_rfl) (by kernel_rfl) (by kernel_rfl) (fun _ _ _ h => h) (Or.inl ⟨by rfl, ?_⟩) (by assumption) ?_
  rotate_left
  · intro w hSw; (try dsimp only at hSw); go_simp; try (with_reducible rfl)
  (try simp only [Act.put, List.setIfInBounds_toArray, List.set_cons_zero, List.set_cons_succ])
  refine take_at (v := ?_) 2 (some 5) rfl (by kernel_rfl) (by kernel_rfl) (by kernel_rfl) (by kernel_rfl) (fun _ _ _ h => h) (Or.inl ⟨by rfl, ?_⟩) (by assumption) ?_
  rotate_left
  · intro w hSw; (try dsimp only at hSw); go_simp; try (with_reducible rfl)
  (try simp only [Act.put, List.setIfInBounds_toArray, List.set_cons_zero, List.set_cons_succ])
  refine take_at (v := ?_) 3 (some 6) rfl (by kernel_rfl) (by kernel_rfl) (by kernel_rfl) (by kernel_rfl) (fun _ _ _ h => h) (Or.inl ⟨by rfl, ?_⟩) (by assumption) ?_
  rotate_left
  · intro w hSw; (try dsimp only at hSw); go_simp; try (with_reducible rfl)
  (try simp only [Act.put, List.setIfInBounds_toArray, List.set_cons_zero, List.set_cons_succ])
  refine take_at (v := ?_) 4 (some 7) rfl (by kernel_rfl) (by kernel_rfl) (by kernel_rfl) (by kernel_rfl) (fun _ _ _ h => h) (Or.inl ⟨by rfl, ?_⟩) (by assumption) ?_
  rotate_left
  · intro w hSw; (try dsimp only at hSw); go_simp; try (with_reducible rfl)
  (try simp only [Act.put, List.setIfInBounds_toArray, List.set_cons_zero, List.set_cons_succ])
  refine take_at (v := ?_) 5 (some 8) rfl (by kernel_rfl) (by kernel_rfl) (by kernel_rfl) (by kernel_rfl) (fun _ _ _ h => h) (Or.inl ⟨by rfl, ?_⟩) (by assumption) ?_
  rotate_left
  · intro w hSw; (try dsimp only at hSw); go_simp; try (with_reducible rfl)
  (try simp only [Act.put, List.setIfInBounds_toArray, List.set_cons_zero, List.set_cons_succ])
  refine take_at (v := ?_) 6 (some 9) rfl (by kernel_rfl) (by kernel_rfl) (by kernel_rfl) (by kernel_rfl) (fun _ _ _ h => h) (Or.inl ⟨by rfl, ?_⟩) (by assumption) ?_
  rotate_left
  · intro w hSw; (try dsimp only at hSw); go_simp; try (with_reducible rfl)
  (try simp only [Act.put, List.setIfInBounds_toArray, List.set_cons_zero, List.set_cons_succ])
  refine take_at (v := ?_) 7 (some 10) rfl (by kernel_rfl) (by kernel_rfl) (by kernel_rfl) (by kernel_rfl) (fun _ _ _ h => h) (Or.inl ⟨by rfl, ?_⟩) (by assumption) ?_
  rotate_left
  · intro w hSw; (try dsimp only at hSw); go_simp; try (with_reducible rfl)
  (try simp only [Act.put, List.setIfInBounds_toArray, List.set_cons_zero, List.set_cons_succ])
  refine take_at (v := ?_) 8 (some 11) rfl (by kernel_rfl) (by kernel_rfl) (by kernel_rfl) (by kernel_rfl) (fun _ _ _ h => h) (Or.inl ⟨by rfl, ?_⟩) (by assumption) ?_
  rotate_left
  · intro w hSw; (try dsimp only at hSw); go_simp; try (with_reducible rfl)
  (try simp only [Act.put, List.setIfInBounds_toArray, List.set_cons_zero, List.set_cons_succ])
  refine take_at (v := ?_) 9 (some 12) rfl (by kernel_rfl) (by kernel_rfl) (by kernel_rfl) (by kernel_rfl) (fun _ _ _ h => h) (Or.inl ⟨by rfl, ?_⟩) (by assumption) ?_
  rotate_left
  · intro w hSw; (try dsimp only at hSw); go_simp; try (with_reducible rfl)
  (try simp only [Act.put, List.setIfInBounds_toArray, List.set_cons_zero, List.set_cons_succ])
  refine take_at (v := ?_) 10 (some 13) rfl (by kernel_rfl) (by kernel_rfl) (by kernel_rfl) (by kernel_rfl) (fun _ _ _ h => h) (Or.inl ⟨by rfl, ?_⟩) (by assumption) ?_
  rotate_left
  · intro w hSw; (try dsimp only at hSw); go_simp; try (with_reducible rfl)
  (try simp only [Act.put, List.setIfInBounds_toArray, List.set_cons_zero, List.set_cons_succ])
  refine take_at (v := ?_) 11 (some 14) rfl (by kernel_rfl) (by kernel_rfl) (by kernel_rfl) (by kernel_rfl) (fun _ _ _ h => h) (Or.inl ⟨by rfl, ?_⟩) (by assumption) ?_
  rotate_left
  · intro w hSw; (try dsimp only at hSw); go_simp; try (with_reducible rfl)
  (try simp only [Act.put, List.setIfInBounds_toArray, List.set_cons_zero, List.set_cons_succ])
  refine take_at (v := ?_) 12 (some 15) rfl (by kernel_rfl) (by kernel_rfl) (by kernel_rfl) (by kernel_rfl) (fun _ _ _ h => h) (Or.inl ⟨by rfl, ?_⟩) (by assumption) ?_
  rotate_left
  · intro w hSw; (try dsimp only at hSw); go_simp; try (with_reducible rfl)
  (try simp only [Act.put, List.setIfInBounds_toArray, List.set_cons_zero, List.set_cons_succ])
  refine take_at (v := ?_) 13 (some 16) rfl (by kernel_rfl) (by kernel_rfl) (by kernel_rfl) (by kernel_rfl) (fun _ _ _ h => h) (Or.inl ⟨by rfl, ?_⟩) (by assumption) ?_
  rotate_left
  · intro w hSw; (try dsimp only at hSw); go_simp; try (with_reducible rfl)
  (try simp only [Act.put, List.setIfInBounds_toArray, List.set_cons_zero, List.set_cons_succ])
  refine take_at (v := ?_) 14 (some 17) rfl (by kernel_rfl) (by kernel_rfl) (by kernel_rfl) (by kernel_rfl) (fun _ _ _ h => h) (Or.inl ⟨by rfl, ?_⟩) (by assumption) ?_
  rotate_left
  · intro w hSw; (try dsimp only at hSw); go_simp; try (with_reducible rfl)
  (try simp only [Act.put, List.setIfInBounds_toArray, List.set_cons_zero, List.set_cons_succ])
  refine take_at (v := ?_) 15 (some 18) rfl (by kernel_rfl) (by kernel_rfl) (by kernel_rfl) (by kernel_rfl) (fun _ _ _ h => h) (Or.inl ⟨by rfl, ?_⟩) (by assumption) ?_
  rotate_left
  · intro w hSw; (try dsimp only at hSw); go_simp; try (with_reducible rfl)
  (try simp only [Act.put, List.setIfInBounds_toArray, List.set_cons_zero, List.set_cons_succ])
  refine take_at (v := ?_) 16 (some 19) rfl (by kernel_rfl) (by kernel_rfl) (by kernel_rfl) (by kernel_rfl) (fun _ _ _ h => h) (Or.inl ⟨by rfl, ?_⟩) (by assumption) ?_
  rotate_left
  · intro w hSw; (try dsimp only at hSw); go_simp; try (with_reducible rfl)
  (try simp only [Act.put, List.setIfInBounds_toArray, List.set_cons_zero, List.set_cons_succ])
  refine take_at (v := ?_) 17 (some 20) rfl (by kernel_rfl) (by kernel_rfl) (by kernel_rfl) (by kernel_rfl) (fun _ _ _ h => h) (Or.inl ⟨by rfl, ?_⟩) (by assumption) ?_
  rotate_left
  · intro w hSw; (try dsimp only at hSw); go_simp; try (with_reducible rfl)
  (try simp only [Act.put, List.setIfInBounds_toArray, List.set_cons_zero, List.set_cons_succ])
  refine take_at (v := ?_) 18 (some 21) rfl (by kernel_rfl) (by kernel_rfl) (by kernel_rfl) (by kernel_rfl) (fun _ _ _ h => h) (Or.inl ⟨by rfl, ?_⟩) (by assumption) ?_
  rotate_left
  · intro w hSw; (try dsimp only at hSw); go_simp; try (with_reducible rfl)
  (try simp only [Act.put, List.setIfInBounds_toArray, List.set_cons_zero, List.set_cons_succ])
  refine take_at (v := ?_) 19 (some 22) rfl (by kernel_rfl) (by kernel_rfl) (by kernel_rfl) (by kernel_rfl) (fun _ _ _ h => h) (Or.inl ⟨by rfl, ?_⟩) (by assumption) ?_
  rotate_left
  · intro w hSw; (try dsimp only at hSw); go_simp; try (with_reducible rfl)
  (try simp only [Act.put, List.setIfInBounds_toArray, List.set_cons_zero, List.set_cons_succ])
  refine take_at (v := ?_) 20 (some 23) rfl (by kernel_rfl) (by kernel_rfl) (by kernel_rfl) (by kernel_rfl) (fun _ _ _ h => h) (Or.inl ⟨by rfl, ?_⟩) (by assumption) ?_
  rotate_left
  · intro w hSw; (try dsimp only at hSw); go_simp; try (with_reducible rfl)
  (try simp only [Act.put, List.setIfInBounds_toArray, List.set_cons_zero, List.set_cons_succ])
  refine take_at (v := ?_) 21 (some 24) rfl (by kernel_rfl) (by kernel_rfl) (by kernel_rfl) (by kernel_rfl) (fun _ _ _ h => h) (Or.inl ⟨by rfl, ?_⟩) (by assumption) ?_
  rotate_left
  · intro w hSw; (try dsimp only at hSw); go_simp; try (with_reducible rfl)
  (try simp only [Act.put, List.setIfInBounds_toArray, List.set_cons_zero, List.set_cons_succ])
  refine take_at (v := ?_) 22 (some 25) rfl (by kernel_rfl) (by kernel_rfl) (by kernel_rfl) (by kernel_rfl) (fun _ _ _ h => h) (Or.inl ⟨by rfl, ?_⟩) (by assumption) ?_
  rotate_left
  · intro w hSw; (try dsimp only at hSw); go_simp; try (with_reducible rfl)
  (try simp only [Act.put, List.setIfInBounds_toArray, List.set_cons_zero, List.set_cons_succ])
  refine take_at (v := ?_) 23 (some 26) rfl (by kernel_rfl) (by kernel_rfl) (by kernel_rfl) (by kernel_rfl) (fun _ _ _ h => h) (Or.inl ⟨by rfl, ?_⟩) (by assumption) ?_
  rotate_left
  · intro w hSw; (try dsimp only at hSw); go_simp; try (with_reducible rfl)
  (try simp only [Act.put, List.setIfInBounds_toArray, List.set_cons_zero, List.set_cons_succ])
  refine take_at (v := ?_) 24 (some 27) rfl (by kernel_rfl) (by kernel_rfl) (by kernel_rfl) (by kernel_rfl) (fun _ _ _ h => h) (Or.inl ⟨by rfl, ?_⟩) (by assumption) ?_
  rotate_left
  · intro w hSw; (try dsimp only at hSw); go_simp; try (with_reducible rfl)
  (try simp only [Act.put, List.setIfInBounds_toArray, List.set_cons_zero, List.set_cons_succ])
  refine take_at (v := ?_) 25 (some 28) rfl (by kernel_rfl) (by kernel_rfl) (by kernel_rfl) (by kernel_rfl) (fun _ _ _ h => h) (Or.inl ⟨by rfl, ?_⟩) (by assumption) ?_
  rotate_left
  · intro w hSw; (try dsimp only at hSw); go_simp; try (with_reducible rfl)
  (try simp only [Act.put, List.setIfInBounds_toArray, List.set_cons_zero, List.set_cons_succ])
  refine wpAnyH_ready (rs := [26]) (by kernel_rfl) (by simp) ?_
  refine AllReadyH.cons rfl (fun K hK => ?_) AllReadyH.nil
  go_simp
  refine (H2.out.fill ht hsu hfl hp hwi ⟨k.aid, k.asl, g, k.d, k.per⟩).mono ?_
  rintro e w3 ⟨rfl, h3⟩
  have H3 := Lib.hid h3
  refine hK.out _ _ ⟨h3.b (List.mem_cons_of_mem _ hm1) 0 _ rfl, h3.b (List.mem_cons_of_mem _ hm2) 0 _ rfl, h3.a0, h3.a1 hk, (by have := h3.a3 hk; dsimp only at this; rw [ht] at this; exact this), h3.a4 hk, h3.a5 hk, h3.k5⟩ (fun hHeld2 => ?_)
  clear hK K hHeld
  have hHeld := hHeld2
  clear hHeld2
  (try simp only [Act.put, List.setIfInBounds_toArray, List.set_cons_zero, List.set_cons_succ])
  clear h3 hHeld H2
  refine wpAnyH_done (by kernel_rfl) ?_ _
  go_upto_region 2 with (fail)
  have D1 : Ch Nil w3 w3.drew := (Ch.refl _ _).drew
  have H4 := Lib.hid (H3.out.quiet D1)
  refine wp_region_held_drew (S := fun w' => w'.cell? ⟨b1, 0, none⟩ = some (ptr X.ab) ∧ w'.cell? ⟨b2, 0, none⟩ = some (.int .u64 (g : Nat)) ∧ w'.cell? ⟨X.ab, 0, none⟩ = some (ptr X.kb) ∧ w'.cell? ⟨X.ab, 1, none⟩ = some (.int .u64 (k.per : Nat)) ∧ w'.cell? ⟨X.ab, 3, none⟩ = some (ptr t) ∧ w'.cell? ⟨X.ab, 4, none⟩ = some (.int .u64 (k.aid : Nat)) ∧ w'.cell? ⟨X.ab, 5, none⟩ = some (.int .i64 (k.asl : Nat)) ∧ w'.cell? ⟨X.kb, 5, none⟩ = some (.int .u64 (k.d : Nat))) (by kernel_rfl) ⟨H4.out.b (List.mem_cons_of_mem _ hm1) 0 _ rfl, H4.out.b (List.mem_cons_of_mem _ hm2) 0 _ rfl, H4.out.a0, H4.out.a1 hk, (by have := H4.out.a3 hk; dsimp only at this; rw [ht] at this; exact this), H4.out.a4 hk, H4.out.a5 hk, H4.out.k5⟩ (fun hHeld => ?_)
  clear D1 H3
  generalize w3.drew = w4 at *
  refine take_at (v := ?_) 0 (some 30) rfl (by kernel_rfl) (by kernel_rfl) (by kernel_rfl) (by kernel_rfl) (fun _ _ _ h => h) (Or.inl ⟨by rfl, ?_⟩) (by assumption) ?_
  rotate_left
  · intro w hSw; (try dsimp only at hSw); go_simp; try (with_reducible rfl)
  (try simp only [Act.put, List.setIfInBounds_toArray, List.set_cons_zero, List.set_cons_succ])
  refine take_at (v := ?_) 1 (some 31) rfl (by kernel_rfl) (by kernel_rfl) (by kernel_rfl) (by kernel_rfl) (fun _ _ _ h => h) (Or.inl ⟨by rfl, ?_⟩) (by assumption) ?_
  rotate_left
  · intro w hSw; (try dsimp only at hSw); go_simp; try (with_reducible rfl)
  (try simp only [Act.put, List.setIfInBounds_toArray, List.set_cons_zero, List.set_cons_succ])
  refine take_at (v := ?_) 2 (some 32) rfl (by kernel_rfl) (by kernel_rfl) (by kernel_rfl) (by kernel_rfl) (fun _ _ _ h => h) (Or.inl ⟨by rfl, ?_⟩) (by assumption) ?_
  rotate_left
  · intro w hSw; (try dsimp only at hSw); go_simp; try (with_reducible rfl)
  (try simp only [Act.put, List.setIfInBounds_toArray, List.set_cons_zero, List.set_cons_succ])
  refine take_at (v := ?_) 3 (some 33) rfl (by kernel_rfl) (by kernel_rfl) (by kernel_rfl) (by kernel_rfl) (fun _ _ _ h => h) (Or.inl ⟨by rfl, ?_⟩) (by assumption) ?_
  rotate_left
  · intro w hSw; (try dsimp only at hSw); go_simp; try (with_reducible rfl)
  (try simp only [Act.put, List.setIfInBounds_toArray, List.set_cons_zero, List.set_cons_succ])
  refine take_at (v := ?_) 4 (some 34) rfl (by kernel_rfl) (by kernel_rfl) (by kernel_rfl) (by kernel_rfl) (fun _ _ _ h => h) (Or.inl ⟨by rfl, ?_⟩) (by assumption) ?_
  rotate_left
  · intro w hSw; (try dsimp only at hSw); go_simp; try (with_reducible rfl)
  (try simp only [Act.put, List.setIfInBounds_toArray, List.set_cons_zero, List.set_cons_succ])
  refine take_at (v := ?_) 5 (some 35) rfl (by kernel_rfl) (by kernel_rfl) (by kernel_rfl) (by kernel_rfl) (fun _ _ _ h => h) (Or.inl ⟨by rfl, ?_⟩) (by assumption) ?_
  rotate_left
  · intro w hSw; (try dsimp only at hSw); go_simp; try (with_reducible rfl)
  (try simp only [Act.put, List.setIfInBounds_toArray, List.set_cons_zero, List.set_cons_succ])
  refine take_at (v := ?_) 6 (some 36) rfl (by kernel_rfl) (by kernel_rfl) (by kernel_rfl) (by kernel_rfl) (fun _ _ _ h => h) (Or.inl ⟨by rfl, ?_⟩) (by assumption) ?_
  rotate_left
  · intro w hSw; (try dsimp only at hSw); go_simp; try (with_reducible rfl)
  (try simp only [Act.put, List.setIfInBounds_toArray, List.set_cons_zero, List.set_cons_succ])
  refine take_at (v := ?_) 7 (some 37) rfl (by kernel_rfl) (by kernel_rfl) (by kernel_rfl) (by kernel_rfl) (fun _ _ _ h => h) (Or.inl ⟨by rfl, ?_⟩) (by assumption) ?_
  rotate_left
  · intro w hSw; (try dsimp only at hSw); go_simp; try (with_reducible rfl)
  (try simp only [Act.put, List.setIfInBounds_toArray, List.set_cons_zero, List.set_cons_succ])
  refine take_at (v := ?_) 8 (some 38) rfl (by kernel_rfl) (by kernel_rfl) (by kernel_rfl) (by kernel_rfl) (fun _ _ _ h => h) (Or.inl ⟨by rfl, ?_⟩) (by assumption) ?_
  rotate_left
  · intro w hSw; (try dsimp only at hSw); go_simp; try (with_reducible rfl)
  (try simp only [Act.put, List.setIfInBounds_toArray, List.set_cons_zero, List.set_cons_succ])
  refine take_at (v := ?_) 9 (some 39) rfl (by kernel_rfl) (by kernel_rfl) (by kernel_rfl) (by kernel_rfl) (fun _ _ _ h => h) (Or.inl ⟨by rfl, ?_⟩) (by assumption) ?_
  rotate_left
  · intro w hSw; (try dsimp only at hSw); go_simp; try (with_reducible rfl)
  (try simp only [Act.put, List.setIfInBounds_toArray, List.set_cons_zero, List.set_cons_succ])
  refine take_at (v := ?_) 10 (some 40) rfl (by kernel_rfl) (by kernel_rfl) (by kernel_rfl) (by kernel_rfl) (fun _ _ _ h => h) (Or.inl ⟨by rfl, ?_⟩) (by assumption) ?_
  rotate_left
  · intro w hSw; (try dsimp only at hSw); go_simp; try (with_reducible rfl)
  (try simp only [Act.put, List.setIfInBounds_toArray, List.set_cons_zero, List.set_cons_succ])
  refine take_at (v := ?_) 11 (some 41) rfl (by kernel_rfl) (by kernel_rfl) (by kernel_rfl) (by kernel_rfl) (fun _ _ _ h => h) (Or.inl ⟨by rfl, ?_⟩) (by assumption) ?_
  rotate_left
  · intro w hSw; (try dsimp only at hSw); go_simp; try (with_reducible rfl)
  (try simp only [Act.put, List.setIfInBounds_toArray, List.set_cons_zero, List.set_cons_succ])
  have c7 := H4.out.kc 7 _ rfl
  have c8 := H4.out.kc 8 _ rfl
  have c9 := H4.out.kc 9 _ rfl
  have c10 := H4.out.kc 10 _ rfl
  have c11 := H4.out.kc 11 _ rfl
  have fz := H4.out.kz
  refine wpAnyH_ready (rs := [12]) (by kernel_rfl) (by simp) ?_
  refine AllReadyH.cons rfl (fun K hK => ?_) AllReadyH.nil
  go_simp
  have h5 := H4.out.ans ⟨0, true, k.aid, g⟩
  dsimp only at h5
  refine hK.out _ _ ⟨h5.b (List.mem_cons_of_mem _ hm1) 0 _ rfl, h5.b (List.mem_cons_of_mem _ hm2) 0 _ rfl, h5.a0, h5.a1 hk, (by have := h5.a3 hk; dsimp only at this; rw [ht] at this; exact this), h5.a4 hk, h5.a5 hk, h5.k5⟩ (fun hHeld2 => ?_)
  clear hK K hHeld hHeld2 c7 c8 c9 c10 c11 fz H4
  generalize ((((w4.setCell ⟨X.kb, 7, none⟩ (.int .i64 ((0 : Nat) : Int))).setCell ⟨X.kb, 8, none⟩ (.bool true)).setCell ⟨X.kb, 9, none⟩ (.int .u64 (k.aid : Nat))).setCell ⟨X.kb, 10, none⟩ (.int .u64 (g : Nat))).setCell ⟨X.kb, 11, none⟩ (.slice none 0 0) = w5 at *
  have H5 := Lib.hid h5
  clear h5
  (try simp only [Act.put, List.setIfInBounds_toArray, List.set_cons_zero, List.set_cons_succ])
  refine wpAnyH_done (by kernel_rfl) ?_ _
  have c0 := H5.out.a0
  have c1 := H5.out.b (List.mem_cons_of_mem _ hm1) 0 _ rfl
  go_wp2_with fail
  refine (next_fn _ (.inr ⟨_, _, _, rfl⟩) _).mono ?_
  rintro en w6 ⟨rfl, c4⟩
  have H6 := Lib.hid (H5.out.quiet c4)
  clear c4 H5
  clear c0 c1
  have b4 := H6.out.bk (B := B) (vs := [.nilFunc, .nilFunc]) (List.mem_cons_self)
  have x0 := H6.out.b (B := B) (vs := [.nilFunc, .nilFunc]) (List.mem_cons_self) 0 _ rfl
  have x1 := H6.out.b (B := B) (vs := [.nilFunc, .nilFunc]) (List.mem_cons_self) 1 _ rfl
  have fz := b4.fz
  have st0 := IsFn.store (v := .nilFunc) (.inl rfl)
  have st2 := IsFn.store (v := .func (.func 91) #[ptr X.kb] #[]) (.inr ⟨_, _, _, rfl⟩)
  clear b4
  go_wp2
  obtain ⟨h5, r0, r1⟩ := H6.out.ret (B := B) (r := X.bx) (fun p hp => hp) (fun p hp => by have := HL.out p hp; have := HB.out; omega) .nilFunc (.func (.func 91) #[ptr X.kb] #[])
  (try simp only [Exit.inBlock, Exit.then])
  refine bodyPost_ret (v := .agg #[.nilFunc, .func (.func 91) #[ptr X.kb] #[]]) ?hr rfl ?hx
  case hx => exact ⟨_, _, rfl, h5.sg .leave, rfl, ⟨rfl, rfl, rfl, rfl, rfl, rfl, rfl⟩⟩
  case hr =>
    generalize ((w6.setCell ⟨B, 0, none⟩ .nilFunc).setCell ⟨B, 1, none⟩ (.func (.func 91) #[ptr X.kb] #[])) = W5 at r0 r1 ⊢
    simp [results, Tryz.results165, go_sem, r0, r1]
end
end Go.Proofs.YtnbdafmjcmmfpaaGreat
