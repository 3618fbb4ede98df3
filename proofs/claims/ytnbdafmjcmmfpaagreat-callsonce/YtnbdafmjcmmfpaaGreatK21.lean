import Derived.Test.YtnbdafmjcmmfpaaGreatK19
import Derived.Test.YtnbdafmjcmmfpaaGreatK20
/-
  The looks of a Cancel, a Stop and a Reset.
-/
namespace Go.Proofs.YtnbdafmjcmmfpaaGreat
open Go.RowKit Verge
attribute [local go_sem] Oper.semAt_some
set_option linter.unusedVariables false
set_option linter.unusedSimpArgs false
section
variable {E : Ee} {S S0 : Nat → Prop} {w0 W W' : World} {σ σ' : Wd} {n n' : Nat} {X X' : Mx} {k k' : Wk} {B : Nat} {r : List (Nat × List Value)}
set_option maxHeartbeats 4000000 in
theorem st_eFindInv (h : Bo E S0 w0 W σ n X k) (hn : n ≤ 80000) (hk : 4 ≤ k.kd) (hid : k.id < 18446744073709551616) (hw : wasW E.N σ.R k.id = false) :
    Calls Tryz.prog 85 #[ptr X.ab] W (Res E S0 w0 X (n + 1) (σ, refW k 1 .fin)) := by
  have hmf := mk_func
  obtain ⟨i1, i2, cA⟩ := boxes2 W [ptr X.ab] [.nilFunc, .nilFunc] 155 103 _ rfl
  have H1 := Lib.hid (h.pushs cA [(W.heap.size + 1, [.nilFunc, .nilFunc]), (W.heap.size, [ptr X.ab])] (fun p hp => by
    rcases List.mem_cons.1 hp with rfl | hp
    · exact ⟨Nat.le_succ _, i2⟩
    · rcases List.mem_cons.1 hp with rfl | hp
      · exact ⟨Nat.le_refl _, i1⟩
      · cases hp))
  have HL := Lib.hid (fun p (hp : p ∈ X.bx) => h.blt hp)
  clear h i1 i2 cA
  go_enter Tryz.func85, Tryz.ntmps85
  go_upto_region 1 with (fail)
  change Hid (Bo E S0 w0 ((W.alloc (.cells #[ptr X.ab] 155)).alloc (.cells #[.nilFunc, .nilFunc] 103)) σ n _ k) at H1
  generalize (W.alloc (.cells #[ptr X.ab] 155)).alloc (.cells #[.nilFunc, .nilFunc] 103) = w1 at H1 ⊢
  obtain ⟨b1, hb1⟩ : ∃ b1, b1 = W.heap.size := ⟨_, rfl⟩
  rw [← hb1] at H1 ⊢
  obtain ⟨B, hb2⟩ : ∃ B, B = b1 + 1 := ⟨_, rfl⟩
  rw [← hb2] at H1 ⊢
  have HB := Lib.hid (And.intro hb1 hb2)
  clear hb1 hb2
  have D1 : Ch Nil w1 w1.drew := (Ch.refl _ _).drew
  have H2 := Lib.hid (H1.out.quiet D1)
  refine wp_region_held_drew (S := fun w' => w'.cell? ⟨b1, 0, none⟩ = some (ptr X.ab) ∧ w'.cell? ⟨X.ab, 0, none⟩ = some (ptr X.kb) ∧ w'.cell? ⟨X.ab, 1, none⟩ = some (.int .i64 k.ev)) (by kernel_rfl) ⟨H2.out.b (List.mem_cons_of_mem _ List.mem_cons_self) 0 _ rfl, H2.out.a0, H2.out.e1 hk⟩ (fun hHeld => ?_)
  clear D1 H1
  generalize w1.drew = w2 at *
  refine take_at (v := ?_) 0 (some 3) rfl (by kernel_rfl) (by kernel_rfl) (by kernel_rfl) (by kernel_rfl) (fun _ _ _ h => h) (Or.inl ⟨by rfl, ?_⟩) (by assumption) ?_
  rotate_left
  · intro w hSw; (try dsimp only at hSw); go_simp; try (with_reducible rfl)
  (try simp only [Act.put, List.setIfInBounds_toArray, List.set_cons_zero, List.set_cons_succ])
  refine take_at (v := ?_) 1 (some 4) rfl (by kernel_rfl) (by kernel_rfl) (by kernel_rfl) (by kernel_rfl) (fun _ _ _ h => h) (Or.inl ⟨by rfl, ?_⟩) (by assumption) ?_
  rotate_left
  · intro w hSw; (try dsimp only at hSw); go_simp; try (with_reducible rfl)
  (try simp only [Act.put, List.setIfInBounds_toArray, List.set_cons_zero, List.set_cons_succ])
  refine take_at (v := ?_) 2 (some 5) rfl (by kernel_rfl) (by kernel_rfl) (by kernel_rfl) (by kernel_rfl) (fun _ _ _ h => h) (Or.inl ⟨by rfl, ?_⟩) (by assumption) ?_
  rotate_left
  · intro w hSw; (try dsimp only at hSw); go_simp; try (with_reducible rfl)
  (try simp only [Act.put, List.setIfInBounds_toArray, List.set_cons_zero, List.set_cons_succ])
  refine take_at (v := ?_) 3 (some 6) rfl (by kernel_rfl) (by kernel_rfl) (by kernel_rfl) (by kernel_rfl) (fun _ _ _ h => h) (Or.inl ⟨by rfl, ?_⟩) (by assumption) ?_
  rotate_left
  · intro w hSw; (try dsimp only at hSw); go_simp; try (with_reducible rfl)
  (try simp only [Act.put, List.setIfInBounds_toArray, List.set_cons_zero, List.set_cons_succ])
  refine take_at (v := ?_) 4 (some 7) rfl (by kernel_rfl) (by kernel_rfl) (by kernel_rfl) (by kernel_rfl) (fun _ _ _ h => h) (Or.inl ⟨by rfl, ?_⟩) (by assumption) ?_
  rotate_left
  · intro w hSw; (try dsimp only at hSw); go_simp; try (with_reducible rfl)
  (try simp only [Act.put, List.setIfInBounds_toArray, List.set_cons_zero, List.set_cons_succ])
  refine take_at (v := ?_) 5 (some 8) rfl (by kernel_rfl) (by kernel_rfl) (by kernel_rfl) (by kernel_rfl) (fun _ _ _ h => h) (Or.inl ⟨by rfl, ?_⟩) (by assumption) ?_
  rotate_left
  · intro w hSw; (try dsimp only at hSw); go_simp; try (with_reducible rfl)
  (try simp only [Act.put, List.setIfInBounds_toArray, List.set_cons_zero, List.set_cons_succ])
  refine take_at (v := ?_) 6 (some 9) rfl (by kernel_rfl) (by kernel_rfl) (by kernel_rfl) (by kernel_rfl) (fun _ _ _ h => h) (Or.inl ⟨by rfl, ?_⟩) (by assumption) ?_
  rotate_left
  · intro w hSw; (try dsimp only at hSw); go_simp; try (with_reducible rfl)
  (try simp only [Act.put, List.setIfInBounds_toArray, List.set_cons_zero, List.set_cons_succ])
  refine take_at (v := ?_) 7 (some 10) rfl (by kernel_rfl) (by kernel_rfl) (by kernel_rfl) (by kernel_rfl) (fun _ _ _ h => h) (Or.inl ⟨by rfl, ?_⟩) (by assumption) ?_
  rotate_left
  · intro w hSw; (try dsimp only at hSw); go_simp; try (with_reducible rfl)
  (try simp only [Act.put, List.setIfInBounds_toArray, List.set_cons_zero, List.set_cons_succ])
  refine take_at (v := ?_) 8 (some 11) rfl (by kernel_rfl) (by kernel_rfl) (by kernel_rfl) (by kernel_rfl) (fun _ _ _ h => h) (Or.inl ⟨by rfl, ?_⟩) (by assumption) ?_
  rotate_left
  · intro w hSw; (try dsimp only at hSw); go_simp; try (with_reducible rfl)
  (try simp only [Act.put, List.setIfInBounds_toArray, List.set_cons_zero, List.set_cons_succ])
  refine take_at (v := ?_) 9 (some 12) rfl (by kernel_rfl) (by kernel_rfl) (by kernel_rfl) (by kernel_rfl) (fun _ _ _ h => h) (Or.inl ⟨by rfl, ?_⟩) (by assumption) ?_
  rotate_left
  · intro w hSw; (try dsimp only at hSw); go_simp; try (with_reducible rfl)
  (try simp only [Act.put, List.setIfInBounds_toArray, List.set_cons_zero, List.set_cons_succ])
  refine take_at (v := ?_) 10 (some 13) rfl (by kernel_rfl) (by kernel_rfl) (by kernel_rfl) (by kernel_rfl) (fun _ _ _ h => h) (Or.inl ⟨by rfl, ?_⟩) (by assumption) ?_
  rotate_left
  · intro w hSw; (try dsimp only at hSw); go_simp; try (with_reducible rfl)
  (try simp only [Act.put, List.setIfInBounds_toArray, List.set_cons_zero, List.set_cons_succ])
  refine take_at (v := ?_) 11 (some 14) rfl (by kernel_rfl) (by kernel_rfl) (by kernel_rfl) (by kernel_rfl) (fun _ _ _ h => h) (Or.inl ⟨by rfl, ?_⟩) (by assumption) ?_
  rotate_left
  · intro w hSw; (try dsimp only at hSw); go_simp; try (with_reducible rfl)
  (try simp only [Act.put, List.setIfInBounds_toArray, List.set_cons_zero, List.set_cons_succ])
  refine take_at (v := ?_) 12 (some 15) rfl (by kernel_rfl) (by kernel_rfl) (by kernel_rfl) (by kernel_rfl) (fun _ _ _ h => h) (Or.inl ⟨by rfl, ?_⟩) (by assumption) ?_
  rotate_left
  · intro w hSw; (try dsimp only at hSw); go_simp; try (with_reducible rfl)
  (try simp only [Act.put, List.setIfInBounds_toArray, List.set_cons_zero, List.set_cons_succ])
  refine take_at (v := ?_) 13 (some 16) rfl (by kernel_rfl) (by kernel_rfl) (by kernel_rfl) (by kernel_rfl) (fun _ _ _ h => h) (Or.inl ⟨by rfl, ?_⟩) (by assumption) ?_
  rotate_left
  · intro w hSw; (try dsimp only at hSw); go_simp; try (with_reducible rfl)
  (try simp only [Act.put, List.setIfInBounds_toArray, List.set_cons_zero, List.set_cons_succ])
  refine wpAnyH_ready (rs := [14]) (by kernel_rfl) (by simp) ?_
  refine AllReadyH.cons rfl (fun K hK => ?_) AllReadyH.nil
  go_simp
  refine (H2.out.lookInv (by omega) k.ev _ _ _ _ _ _ hid hw).mono ?_
  rintro e w3 ⟨rfl, h3⟩
  have H3 := Lib.hid h3
  refine hK.out _ _ ⟨h3.b (List.mem_cons_of_mem _ List.mem_cons_self) 0 _ rfl, h3.a0, h3.e1 hk⟩ (fun hHeld2 => ?_)
  clear hK K hHeld
  have hHeld := hHeld2
  clear hHeld2
  (try simp only [Act.put, List.setIfInBounds_toArray, List.set_cons_zero, List.set_cons_succ])
  clear h3 H2 hHeld
  have b4 := H3.out.bk (B := B) (vs := [.nilFunc, .nilFunc]) (List.mem_cons_self)
  have x0 := H3.out.b (B := B) (vs := [.nilFunc, .nilFunc]) (List.mem_cons_self) 0 _ rfl
  have x1 := H3.out.b (B := B) (vs := [.nilFunc, .nilFunc]) (List.mem_cons_self) 1 _ rfl
  have fz := b4.fz
  have st0 := IsFn.store (v := .nilFunc) (.inl rfl)
  have st2 := IsFn.store (v := .func (.func 81) #[ptr X.kb] #[]) (.inr ⟨_, _, _, rfl⟩)
  clear b4
  refine wpAnyH_ready (rs := [15]) (by kernel_rfl) (by simp) ?_
  refine AllReadyH.cons rfl (fun K hK => ?_) AllReadyH.nil
  go_simp
  obtain ⟨h5, r0, r1⟩ := H3.out.ret (B := B) (r := (b1, [ptr X.ab]) :: X.bx) (fun p hp => hp) (fun p hp => by
    have := HB.out
    rcases List.mem_cons.1 hp with rfl | hp
    · dsimp only; omega
    · have := HL.out p hp; omega) .nilFunc (.func (.func 81) #[ptr X.kb] #[])
  refine hK.out _ _ ⟨h5.b (List.mem_cons_self) 0 _ rfl, h5.a0, h5.e1 hk⟩ (fun hHeld => ?_)
  clear hK K
  (try simp only [Act.put, List.setIfInBounds_toArray, List.set_cons_zero, List.set_cons_succ])
  refine wpAnyH_done (by kernel_rfl) ?_ _
  (try go_wp2)
  (try simp only [Exit.inBlock, Exit.then])
  refine bodyPost_ret (v := .agg #[.nilFunc, .func (.func 81) #[ptr X.kb] #[]]) ?hr rfl ?hx
  case hx => exact ⟨_, _, rfl, (h5.pops (r := X.bx) (fun p hp => List.mem_cons_of_mem _ hp)).sg .fin, rfl, ⟨rfl, rfl, rfl, rfl, rfl, rfl, rfl⟩⟩
  case hr =>
    generalize ((w3.setCell ⟨B, 0, none⟩ .nilFunc).setCell ⟨B, 1, none⟩ (.func (.func 81) #[ptr X.kb] #[])) = W5 at r0 r1 ⊢
    simp [results, Tryz.results85, go_sem, r0, r1]
set_option maxHeartbeats 4000000 in
theorem st_eFindRef (h : Bo E S0 w0 W σ n X k) (hn : n ≤ 80000) (hk : 4 ≤ k.kd) (hid : k.id < 18446744073709551616) (hw : wasW E.N σ.R k.id = true) {s : Nat} (hsd : Hid (k.id % 64 = s)) (hs : s < E.N.n) (hx : (nxZ (σ.R s).wd k.ev ((σ.R s).pd != 0)).2 ≠ 0) :
    Calls Tryz.prog 85 #[ptr X.ab] W (Res E S0 w0 X (n + 1) (σ, refW k 0 .fin)) := by
  have hmf := mk_func
  obtain ⟨i1, i2, cA⟩ := boxes2 W [ptr X.ab] [.nilFunc, .nilFunc] 155 103 _ rfl
  have H1 := Lib.hid (h.pushs cA [(W.heap.size + 1, [.nilFunc, .nilFunc]), (W.heap.size, [ptr X.ab])] (fun p hp => by
    rcases List.mem_cons.1 hp with rfl | hp
    · exact ⟨Nat.le_succ _, i2⟩
    · rcases List.mem_cons.1 hp with rfl | hp
      · exact ⟨Nat.le_refl _, i1⟩
      · cases hp))
  have HL := Lib.hid (fun p (hp : p ∈ X.bx) => h.blt hp)
  clear h i1 i2 cA
  go_enter Tryz.func85, Tryz.ntmps85
  go_upto_region 1 with (fail)
  change Hid (Bo E S0 w0 ((W.alloc (.cells #[ptr X.ab] 155)).alloc (.cells #[.nilFunc, .nilFunc] 103)) σ n _ k) at H1
  generalize (W.alloc (.cells #[ptr X.ab] 155)).alloc (.cells #[.nilFunc, .nilFunc] 103) = w1 at H1 ⊢
  obtain ⟨b1, hb1⟩ : ∃ b1, b1 = W.heap.size := ⟨_, rfl⟩
  rw [← hb1] at H1 ⊢
  obtain ⟨B, hb2⟩ : ∃ B, B = b1 + 1 := ⟨_, rfl⟩
  rw [← hb2] at H1 ⊢
  have HB := Lib.hid (And.intro hb1 hb2)
  clear hb1 hb2
  have D1 : Ch Nil w1 w1.drew := (Ch.refl _ _).drew
  have H2 := Lib.hid (H1.out.quiet D1)
  refine wp_region_held_drew (S := fun w' => w'.cell? ⟨b1, 0, none⟩ = some (ptr X.ab) ∧ w'.cell? ⟨X.ab, 0, none⟩ = some (ptr X.kb) ∧ w'.cell? ⟨X.ab, 1, none⟩ = some (.int .i64 k.ev)) (by kernel_rfl) ⟨H2.out.b (List.mem_cons_of_mem _ List.mem_cons_self) 0 _ rfl, H2.out.a0, H2.out.e1 hk⟩ (fun hHeld => ?_)
  clear D1 H1
  generalize w1.drew = w2 at *
  refine take_at (v := ?_) 0 (some 3) rfl (by kernel_rfl) (by kernel_rfl) (by kernel_rfl) (by kernel_rfl) (fun _ _ _ h => h) (Or.inl ⟨by rfl, ?_⟩) (by assumption) ?_
  rotate_left
  · intro w hSw; (try dsimp only at hSw); go_simp; try (with_reducible rfl)
  (try simp only [Act.put, List.setIfInBounds_toArray, List.set_cons_zero, List.set_cons_succ])
  refine take_at (v := ?_) 1 (some 4) rfl (by kernel_rfl) (by kernel_rfl) (by kernel_rfl) (by kernel_rfl) (fun _ _ _ h => h) (Or.inl ⟨by rfl, ?_⟩) (by assumption) ?_
  rotate_left
  · intro w hSw; (try dsimp only at hSw); go_simp; try (with_reducible rfl)
  (try simp only [Act.put, List.setIfInBounds_toArray, List.set_cons_zero, List.set_cons_succ])
  refine take_at (v := ?_) 2 (some 5) rfl (by kernel_rfl) (by kernel_rfl) (by kernel_rfl) (by kernel_rfl) (fun _ _ _ h => h) (Or.inl ⟨by rfl, ?_⟩) (by assumption) ?_
  rotate_left
  · intro w hSw; (try dsimp only at hSw); go_simp; try (with_reducible rfl)
  (try simp only [Act.put, List.setIfInBounds_toArray, List.set_cons_zero, List.set_cons_succ])
  refine take_at (v := ?_) 3 (some 6) rfl (by kernel_rfl) (by kernel_rfl) (by kernel_rfl) (by kernel_rfl) (fun _ _ _ h => h) (Or.inl ⟨by rfl, ?_⟩) (by assumption) ?_
  rotate_left
  · intro w hSw; (try dsimp only at hSw); go_simp; try (with_reducible rfl)
  (try simp only [Act.put, List.setIfInBounds_toArray, List.set_cons_zero, List.set_cons_succ])
  refine take_at (v := ?_) 4 (some 7) rfl (by kernel_rfl) (by kernel_rfl) (by kernel_rfl) (by kernel_rfl) (fun _ _ _ h => h) (Or.inl ⟨by rfl, ?_⟩) (by assumption) ?_
  rotate_left
  · intro w hSw; (try dsimp only at hSw); go_simp; try (with_reducible rfl)
  (try simp only [Act.put, List.setIfInBounds_toArray, List.set_cons_zero, List.set_cons_succ])
  refine take_at (v := ?_) 5 (some 8) rfl (by kernel_rfl) (by kernel_rfl) (by kernel_rfl) (by kernel_rfl) (fun _ _ _ h => h) (Or.inl ⟨by rfl, ?_⟩) (by assumption) ?_
  rotate_left
  · intro w hSw; (try dsimp only at hSw); go_simp; try (with_reducible rfl)
  (try simp only [Act.put, List.setIfInBounds_toArray, List.set_cons_zero, List.set_cons_succ])
  refine take_at (v := ?_) 6 (some 9) rfl (by kernel_rfl) (by kernel_rfl) (by kernel_rfl) (by kernel_rfl) (fun _ _ _ h => h) (Or.inl ⟨by rfl, ?_⟩) (by assumption) ?_
  rotate_left
  · intro w hSw; (try dsimp only at hSw); go_simp; try (with_reducible rfl)
  (try simp only [Act.put, List.setIfInBounds_toArray, List.set_cons_zero, List.set_cons_succ])
  refine take_at (v := ?_) 7 (some 10) rfl (by kernel_rfl) (by kernel_rfl) (by kernel_rfl) (by kernel_rfl) (fun _ _ _ h => h) (Or.inl ⟨by rfl, ?_⟩) (by assumption) ?_
  rotate_left
  · intro w hSw; (try dsimp only at hSw); go_simp; try (with_reducible rfl)
  (try simp only [Act.put, List.setIfInBounds_toArray, List.set_cons_zero, List.set_cons_succ])
  refine take_at (v := ?_) 8 (some 11) rfl (by kernel_rfl) (by kernel_rfl) (by kernel_rfl) (by kernel_rfl) (fun _ _ _ h => h) (Or.inl ⟨by rfl, ?_⟩) (by assumption) ?_
  rotate_left
  · intro w hSw; (try dsimp only at hSw); go_simp; try (with_reducible rfl)
  (try simp only [Act.put, List.setIfInBounds_toArray, List.set_cons_zero, List.set_cons_succ])
  refine take_at (v := ?_) 9 (some 12) rfl (by kernel_rfl) (by kernel_rfl) (by kernel_rfl) (by kernel_rfl) (fun _ _ _ h => h) (Or.inl ⟨by rfl, ?_⟩) (by assumption) ?_
  rotate_left
  · intro w hSw; (try dsimp only at hSw); go_simp; try (with_reducible rfl)
  (try simp only [Act.put, List.setIfInBounds_toArray, List.set_cons_zero, List.set_cons_succ])
  refine take_at (v := ?_) 10 (some 13) rfl (by kernel_rfl) (by kernel_rfl) (by kernel_rfl) (by kernel_rfl) (fun _ _ _ h => h) (Or.inl ⟨by rfl, ?_⟩) (by assumption) ?_
  rotate_left
  · intro w hSw; (try dsimp only at hSw); go_simp; try (with_reducible rfl)
  (try simp only [Act.put, List.setIfInBounds_toArray, List.set_cons_zero, List.set_cons_succ])
  refine take_at (v := ?_) 11 (some 14) rfl (by kernel_rfl) (by kernel_rfl) (by kernel_rfl) (by kernel_rfl) (fun _ _ _ h => h) (Or.inl ⟨by rfl, ?_⟩) (by assumption) ?_
  rotate_left
  · intro w hSw; (try dsimp only at hSw); go_simp; try (with_reducible rfl)
  (try simp only [Act.put, List.setIfInBounds_toArray, List.set_cons_zero, List.set_cons_succ])
  refine take_at (v := ?_) 12 (some 15) rfl (by kernel_rfl) (by kernel_rfl) (by kernel_rfl) (by kernel_rfl) (fun _ _ _ h => h) (Or.inl ⟨by rfl, ?_⟩) (by assumption) ?_
  rotate_left
  · intro w hSw; (try dsimp only at hSw); go_simp; try (with_reducible rfl)
  (try simp only [Act.put, List.setIfInBounds_toArray, List.set_cons_zero, List.set_cons_succ])
  refine take_at (v := ?_) 13 (some 16) rfl (by kernel_rfl) (by kernel_rfl) (by kernel_rfl) (by kernel_rfl) (fun _ _ _ h => h) (Or.inl ⟨by rfl, ?_⟩) (by assumption) ?_
  rotate_left
  · intro w hSw; (try dsimp only at hSw); go_simp; try (with_reducible rfl)
  (try simp only [Act.put, List.setIfInBounds_toArray, List.set_cons_zero, List.set_cons_succ])
  refine wpAnyH_ready (rs := [14]) (by kernel_rfl) (by simp) ?_
  refine AllReadyH.cons rfl (fun K hK => ?_) AllReadyH.nil
  go_simp
  refine (H2.out.lookRef (by omega) k.ev _ _ _ _ _ _ hid hw hsd hs hx).mono ?_
  rintro e w3 ⟨rfl, h3⟩
  have H3 := Lib.hid h3
  refine hK.out _ _ ⟨h3.b (List.mem_cons_of_mem _ List.mem_cons_self) 0 _ rfl, h3.a0, h3.e1 hk⟩ (fun hHeld2 => ?_)
  clear hK K hHeld
  have hHeld := hHeld2
  clear hHeld2
  (try simp only [Act.put, List.setIfInBounds_toArray, List.set_cons_zero, List.set_cons_succ])
  clear h3 H2 hHeld
  have b4 := H3.out.bk (B := B) (vs := [.nilFunc, .nilFunc]) (List.mem_cons_self)
  have x0 := H3.out.b (B := B) (vs := [.nilFunc, .nilFunc]) (List.mem_cons_self) 0 _ rfl
  have x1 := H3.out.b (B := B) (vs := [.nilFunc, .nilFunc]) (List.mem_cons_self) 1 _ rfl
  have fz := b4.fz
  have st0 := IsFn.store (v := .nilFunc) (.inl rfl)
  have st2 := IsFn.store (v := .func (.func 81) #[ptr X.kb] #[]) (.inr ⟨_, _, _, rfl⟩)
  clear b4
  refine wpAnyH_ready (rs := [15]) (by kernel_rfl) (by simp) ?_
  refine AllReadyH.cons rfl (fun K hK => ?_) AllReadyH.nil
  go_simp
  obtain ⟨h5, r0, r1⟩ := H3.out.ret (B := B) (r := (b1, [ptr X.ab]) :: X.bx) (fun p hp => hp) (fun p hp => by
    have := HB.out
    rcases List.mem_cons.1 hp with rfl | hp
    · dsimp only; omega
    · have := HL.out p hp; omega) .nilFunc (.func (.func 81) #[ptr X.kb] #[])
  refine hK.out _ _ ⟨h5.b (List.mem_cons_self) 0 _ rfl, h5.a0, h5.e1 hk⟩ (fun hHeld => ?_)
  clear hK K
  (try simp only [Act.put, List.setIfInBounds_toArray, List.set_cons_zero, List.set_cons_succ])
  refine wpAnyH_done (by kernel_rfl) ?_ _
  (try go_wp2)
  (try simp only [Exit.inBlock, Exit.then])
  refine bodyPost_ret (v := .agg #[.nilFunc, .func (.func 81) #[ptr X.kb] #[]]) ?hr rfl ?hx
  case hx => exact ⟨_, _, rfl, (h5.pops (r := X.bx) (fun p hp => List.mem_cons_of_mem _ hp)).sg .fin, rfl, ⟨rfl, rfl, rfl, rfl, rfl, rfl, rfl⟩⟩
  case hr =>
    generalize ((w3.setCell ⟨B, 0, none⟩ .nilFunc).setCell ⟨B, 1, none⟩ (.func (.func 81) #[ptr X.kb] #[])) = W5 at r0 r1 ⊢
    simp [results, Tryz.results85, go_sem, r0, r1]
set_option maxHeartbeats 4000000 in
theorem st_eFindOld (h : Bo E S0 w0 W σ n X k) (hn : n ≤ 80000) (hk : 4 ≤ k.kd) (hid : k.id < 18446744073709551616) (hw : wasW E.N σ.R k.id = true) {s : Nat} (hsd : Hid (k.id % 64 = s)) (hs : s < E.N.n) (hx : (nxZ (σ.R s).wd k.ev ((σ.R s).pd != 0)).2 = 0) (hm : k.id / 64 ≠ (σ.R s).gv) :
    Calls Tryz.prog 85 #[ptr X.ab] W (Res E S0 w0 X (n + 1) (σ, refW k 0 .fin)) := by
  have hmf := mk_func
  obtain ⟨i1, i2, cA⟩ := boxes2 W [ptr X.ab] [.nilFunc, .nilFunc] 155 103 _ rfl
  have H1 := Lib.hid (h.pushs cA [(W.heap.size + 1, [.nilFunc, .nilFunc]), (W.heap.size, [ptr X.ab])] (fun p hp => by
    rcases List.mem_cons.1 hp with rfl | hp
    · exact ⟨Nat.le_succ _, i2⟩
    · rcases List.mem_cons.1 hp with rfl | hp
      · exact ⟨Nat.le_refl _, i1⟩
      · cases hp))
  have HL := Lib.hid (fun p (hp : p ∈ X.bx) => h.blt hp)
  clear h i1 i2 cA
  go_enter Tryz.func85, Tryz.ntmps85
  go_upto_region 1 with (fail)
  change Hid (Bo E S0 w0 ((W.alloc (.cells #[ptr X.ab] 155)).alloc (.cells #[.nilFunc, .nilFunc] 103)) σ n _ k) at H1
  generalize (W.alloc (.cells #[ptr X.ab] 155)).alloc (.cells #[.nilFunc, .nilFunc] 103) = w1 at H1 ⊢
  obtain ⟨b1, hb1⟩ : ∃ b1, b1 = W.heap.size := ⟨_, rfl⟩
  rw [← hb1] at H1 ⊢
  obtain ⟨B, hb2⟩ : ∃ B, B = b1 + 1 := ⟨_, rfl⟩
  rw [← hb2] at H1 ⊢
  have HB := Lib.hid (And.intro hb1 hb2)
  clear hb1 hb2
  have D1 : Ch Nil w1 w1.drew := (Ch.refl _ _).drew
  have H2 := Lib.hid (H1.out.quiet D1)
  refine wp_region_held_drew (S := fun w' => w'.cell? ⟨b1, 0, none⟩ = some (ptr X.ab) ∧ w'.cell? ⟨X.ab, 0, none⟩ = some (ptr X.kb) ∧ w'.cell? ⟨X.ab, 1, none⟩ = some (.int .i64 k.ev)) (by kernel_rfl) ⟨H2.out.b (List.mem_cons_of_mem _ List.mem_cons_self) 0 _ rfl, H2.out.a0, H2.out.e1 hk⟩ (fun hHeld => ?_)
  clear D1 H1
  generalize w1.drew = w2 at *
  refine take_at (v := ?_) 0 (some 3) rfl (by kernel_rfl) (by kernel_rfl) (by kernel_rfl) (by kernel_rfl) (fun _ _ _ h => h) (Or.inl ⟨by rfl, ?_⟩) (by assumption) ?_
  rotate_left
  · intro w hSw; (try dsimp only at hSw); go_simp; try (with_reducible rfl)
  (try simp only [Act.put, List.setIfInBounds_toArray, List.set_cons_zero, List.set_cons_succ])
  refine take_at (v := ?_) 1 (some 4) rfl (by kernel_rfl) (by kernel_rfl) (by kernel_rfl) (by kernel_rfl) (fun _ _ _ h => h) (Or.inl ⟨by rfl, ?_⟩) (by assumption) ?_
  rotate_left
  · intro w hSw; (try dsimp only at hSw); go_simp; try (with_reducible rfl)
  (try simp only [Act.put, List.setIfInBounds_toArray, List.set_cons_zero, List.set_cons_succ])
  refine take_at (v := ?_) 2 (some 5) rfl (by kernel_rfl) (by kernel_rfl) (by kernel_rfl) (by kernel_rfl) (fun _ _ _ h => h) (Or.inl ⟨by rfl, ?_⟩) (by assumption) ?_
  rotate_left
  · intro w hSw; (try dsimp only at hSw); go_simp; try (with_reducible rfl)
  (try simp only [Act.put, List.setIfInBounds_toArray, List.set_cons_zero, List.set_cons_succ])
  refine take_at (v := ?_) 3 (some 6) rfl (by kernel_rfl) (by kernel_rfl) (by kernel_rfl) (by kernel_rfl) (fun _ _ _ h => h) (Or.inl ⟨by rfl, ?_⟩) (by assumption) ?_
  rotate_left
  · intro w hSw; (try dsimp only at hSw); go_simp; try (with_reducible rfl)
  (try simp only [Act.put, List.setIfInBounds_toArray, List.set_cons_zero, List.set_cons_succ])
  refine take_at (v := ?_) 4 (some 7) rfl (by kernel_rfl) (by kernel_rfl) (by kernel_rfl) (by kernel_rfl) (fun _ _ _ h => h) (Or.inl ⟨by rfl, ?_⟩) (by assumption) ?_
  rotate_left
  · intro w hSw; (try dsimp only at hSw); go_simp; try (with_reducible rfl)
  (try simp only [Act.put, List.setIfInBounds_toArray, List.set_cons_zero, List.set_cons_succ])
  refine take_at (v := ?_) 5 (some 8) rfl (by kernel_rfl) (by kernel_rfl) (by kernel_rfl) (by kernel_rfl) (fun _ _ _ h => h) (Or.inl ⟨by rfl, ?_⟩) (by assumption) ?_
  rotate_left
  · intro w hSw; (try dsimp only at hSw); go_simp; try (with_reducible rfl)
  (try simp only [Act.put, List.setIfInBounds_toArray, List.set_cons_zero, List.set_cons_succ])
  refine take_at (v := ?_) 6 (some 9) rfl (by kernel_rfl) (by kernel_rfl) (by kernel_rfl) (by kernel_rfl) (fun _ _ _ h => h) (Or.inl ⟨by rfl, ?_⟩) (by assumption) ?_
  rotate_left
  · intro w hSw; (try dsimp only at hSw); go_simp; try (with_reducible rfl)
  (try simp only [Act.put, List.setIfInBounds_toArray, List.set_cons_zero, List.set_cons_succ])
  refine take_at (v := ?_) 7 (some 10) rfl (by kernel_rfl) (by kernel_rfl) (by kernel_rfl) (by kernel_rfl) (fun _ _ _ h => h) (Or.inl ⟨by rfl, ?_⟩) (by assumption) ?_
  rotate_left
  · intro w hSw; (try dsimp only at hSw); go_simp; try (with_reducible rfl)
  (try simp only [Act.put, List.setIfInBounds_toArray, List.set_cons_zero, List.set_cons_succ])
  refine take_at (v := ?_) 8 (some 11) rfl (by kernel_rfl) (by kernel_rfl) (by kernel_rfl) (by kernel_rfl) (fun _ _ _ h => h) (Or.inl ⟨by rfl, ?_⟩) (by assumption) ?_
  rotate_left
  · intro w hSw; (try dsimp only at hSw); go_simp; try (with_reducible rfl)
  (try simp only [Act.put, List.setIfInBounds_toArray, List.set_cons_zero, List.set_cons_succ])
  refine take_at (v := ?_) 9 (some 12) rfl (by kernel_rfl) (by kernel_rfl) (by kernel_rfl) (by kernel_rfl) (fun _ _ _ h => h) (Or.inl ⟨by rfl, ?_⟩) (by assumption) ?_
  rotate_left
  · intro w hSw; (try dsimp only at hSw); go_simp; try (with_reducible rfl)
  (try simp only [Act.put, List.setIfInBounds_toArray, List.set_cons_zero, List.set_cons_succ])
  refine take_at (v := ?_) 10 (some 13) rfl (by kernel_rfl) (by kernel_rfl) (by kernel_rfl) (by kernel_rfl) (fun _ _ _ h => h) (Or.inl ⟨by rfl, ?_⟩) (by assumption) ?_
  rotate_left
  · intro w hSw; (try dsimp only at hSw); go_simp; try (with_reducible rfl)
  (try simp only [Act.put, List.setIfInBounds_toArray, List.set_cons_zero, List.set_cons_succ])
  refine take_at (v := ?_) 11 (some 14) rfl (by kernel_rfl) (by kernel_rfl) (by kernel_rfl) (by kernel_rfl) (fun _ _ _ h => h) (Or.inl ⟨by rfl, ?_⟩) (by assumption) ?_
  rotate_left
  · intro w hSw; (try dsimp only at hSw); go_simp; try (with_reducible rfl)
  (try simp only [Act.put, List.setIfInBounds_toArray, List.set_cons_zero, List.set_cons_succ])
  refine take_at (v := ?_) 12 (some 15) rfl (by kernel_rfl) (by kernel_rfl) (by kernel_rfl) (by kernel_rfl) (fun _ _ _ h => h) (Or.inl ⟨by rfl, ?_⟩) (by assumption) ?_
  rotate_left
  · intro w hSw; (try dsimp only at hSw); go_simp; try (with_reducible rfl)
  (try simp only [Act.put, List.setIfInBounds_toArray, List.set_cons_zero, List.set_cons_succ])
  refine take_at (v := ?_) 13 (some 16) rfl (by kernel_rfl) (by kernel_rfl) (by kernel_rfl) (by kernel_rfl) (fun _ _ _ h => h) (Or.inl ⟨by rfl, ?_⟩) (by assumption) ?_
  rotate_left
  · intro w hSw; (try dsimp only at hSw); go_simp; try (with_reducible rfl)
  (try simp only [Act.put, List.setIfInBounds_toArray, List.set_cons_zero, List.set_cons_succ])
  refine wpAnyH_ready (rs := [14]) (by kernel_rfl) (by simp) ?_
  refine AllReadyH.cons rfl (fun K hK => ?_) AllReadyH.nil
  go_simp
  refine (H2.out.lookOld (by omega) k.ev _ _ _ _ _ _ hid hw hsd hs hx hm).mono ?_
  rintro e w3 ⟨rfl, h3⟩
  have H3 := Lib.hid h3
  refine hK.out _ _ ⟨h3.b (List.mem_cons_of_mem _ List.mem_cons_self) 0 _ rfl, h3.a0, h3.e1 hk⟩ (fun hHeld2 => ?_)
  clear hK K hHeld
  have hHeld := hHeld2
  clear hHeld2
  (try simp only [Act.put, List.setIfInBounds_toArray, List.set_cons_zero, List.set_cons_succ])
  clear h3 H2 hHeld
  have b4 := H3.out.bk (B := B) (vs := [.nilFunc, .nilFunc]) (List.mem_cons_self)
  have x0 := H3.out.b (B := B) (vs := [.nilFunc, .nilFunc]) (List.mem_cons_self) 0 _ rfl
  have x1 := H3.out.b (B := B) (vs := [.nilFunc, .nilFunc]) (List.mem_cons_self) 1 _ rfl
  have fz := b4.fz
  have st0 := IsFn.store (v := .nilFunc) (.inl rfl)
  have st2 := IsFn.store (v := .func (.func 81) #[ptr X.kb] #[]) (.inr ⟨_, _, _, rfl⟩)
  clear b4
  refine wpAnyH_ready (rs := [15]) (by kernel_rfl) (by simp) ?_
  refine AllReadyH.cons rfl (fun K hK => ?_) AllReadyH.nil
  go_simp
  obtain ⟨h5, r0, r1⟩ := H3.out.ret (B := B) (r := (b1, [ptr X.ab]) :: X.bx) (fun p hp => hp) (fun p hp => by
    have := HB.out
    rcases List.mem_cons.1 hp with rfl | hp
    · dsimp only; omega
    · have := HL.out p hp; omega) .nilFunc (.func (.func 81) #[ptr X.kb] #[])
  refine hK.out _ _ ⟨h5.b (List.mem_cons_self) 0 _ rfl, h5.a0, h5.e1 hk⟩ (fun hHeld => ?_)
  clear hK K
  (try simp only [Act.put, List.setIfInBounds_toArray, List.set_cons_zero, List.set_cons_succ])
  refine wpAnyH_done (by kernel_rfl) ?_ _
  (try go_wp2)
  (try simp only [Exit.inBlock, Exit.then])
  refine bodyPost_ret (v := .agg #[.nilFunc, .func (.func 81) #[ptr X.kb] #[]]) ?hr rfl ?hx
  case hx => exact ⟨_, _, rfl, (h5.pops (r := X.bx) (fun p hp => List.mem_cons_of_mem _ hp)).sg .fin, rfl, ⟨rfl, rfl, rfl, rfl, rfl, rfl, rfl⟩⟩
  case hr =>
    generalize ((w3.setCell ⟨B, 0, none⟩ .nilFunc).setCell ⟨B, 1, none⟩ (.func (.func 81) #[ptr X.kb] #[])) = W5 at r0 r1 ⊢
    simp [results, Tryz.results85, go_sem, r0, r1]
set_option maxHeartbeats 4000000 in
theorem eFind1 (h : Bo E S0 w0 W σ n X k) {b1 s v : Nat} (hm : (b1, [ptr X.ab]) ∈ X.bx) :
    Calls Tryz.prog 95 (#[] ++ #[.agg #[.int .i64 (s : Nat), .int .u64 (v : Nat)]] ++ #[ptr b1]) W fun e W2 => ∃ d bx2 t2, e = .returned (.agg #[.nilFunc, d]) ∧ IsFn d ∧ Bo E S0 w0 W2 σ n { X with bx := bx2 ++ X.bx, t := t2 } k ∧ (∃ b2 b3, d = .func (.func 109) #[] #[ptr b2, ptr b3] ∧ bx2 = [(b2, [ptr X.ab]), (b3, [.int .i64 (s : Nat), .int .u64 (v : Nat)])] ∧ t2 = X.t) ∧ ∀ p ∈ bx2, W.heap.size ≤ p.1 := by
  have hmf := mk_func
  show Calls _ _ #[.agg #[.int .i64 (s : Nat), .int .u64 (v : Nat)], ptr b1] W _
  obtain ⟨i1, i2, cA⟩ := boxes2 W [.int .i64 (s : Nat), .int .u64 (v : Nat)] [.nilFunc, .nilFunc] 207 103 _ rfl
  have HL := Lib.hid (fun p (hp : p ∈ X.bx) => h.blt hp)
  have H1 := Lib.hid (h.pushs cA [(W.heap.size + 1, [.nilFunc, .nilFunc]), (W.heap.size, [.int .i64 (s : Nat), .int .u64 (v : Nat)])] (fun p hp => by
    rcases List.mem_cons.1 hp with rfl | hp
    · exact ⟨Nat.le_succ _, i2⟩
    · rcases List.mem_cons.1 hp with rfl | hp
      · exact ⟨Nat.le_refl _, i1⟩
      · cases hp))
  clear h i1 i2 cA
  go_enter Tryz.func95, Tryz.ntmps95
  go_upto_region 1 with (fail)
  change Hid (Bo E S0 w0 ((W.alloc (.cells #[.int .i64 (s : Nat), .int .u64 (v : Nat)] 207)).alloc (.cells #[.nilFunc, .nilFunc] 103)) σ n _ k) at H1
  generalize (W.alloc (.cells #[.int .i64 (s : Nat), .int .u64 (v : Nat)] 207)).alloc (.cells #[.nilFunc, .nilFunc] 103) = w1 at H1 ⊢
  obtain ⟨b0, hb1⟩ : ∃ b0, b0 = W.heap.size := ⟨_, rfl⟩
  rw [← hb1] at H1 ⊢
  obtain ⟨B, hb2⟩ : ∃ B, B = b0 + 1 := ⟨_, rfl⟩
  rw [← hb2] at H1 ⊢
  have HB := Lib.hid (And.intro hb1 hb2)
  clear hb1 hb2
  have c0 := H1.out.b (List.mem_cons_of_mem _ (List.mem_cons_of_mem _ hm)) 0 _ rfl
  have c1 := H1.out.b (List.mem_cons_of_mem _ List.mem_cons_self) 0 _ rfl
  have c2 := H1.out.b (List.mem_cons_of_mem _ List.mem_cons_self) 1 _ rfl
  go_wp2_with fail
  clear c0 c1 c2
  refine (strike_any X.ab s v _).mono ?_
  rintro en w2 ⟨rfl, j1, j2, c2⟩
  have H2 := Lib.hid (H1.out.pushs c2 [(w1.heap.size, [ptr X.ab]), (w1.heap.size + 1, [.int .i64 (s : Nat), .int .u64 (v : Nat)])] (fun p hp => by
    rcases List.mem_cons.1 hp with rfl | hp
    · exact ⟨Nat.le_refl _, j1⟩
    · rcases List.mem_cons.1 hp with rfl | hp
      · exact ⟨Nat.le_succ _, j2⟩
      · cases hp))
  have hB6 : B < w1.heap.size := H1.out.blt (p := (B, [.nilFunc, .nilFunc])) List.mem_cons_self
  obtain ⟨b2, hb1⟩ : ∃ b2, b2 = w1.heap.size := ⟨_, rfl⟩
  rw [← hb1] at H2 hB6 ⊢
  obtain ⟨b3, hb2⟩ : ∃ b3, b3 = b2 + 1 := ⟨_, rfl⟩
  rw [← hb2] at H2 ⊢
  have hb : B < b2 ∧ B < b3 := by omega
  clear j1 j2 c2 H1 hb1 hb2 hB6
  have HBB := Lib.hid hb
  clear hb
  go_wp2_with fail
  refine (next_fn _ (.inr ⟨_, _, _, rfl⟩) _).mono ?_
  rintro en w3 ⟨rfl, c4⟩
  have H3 := Lib.hid (H2.out.quiet c4)
  clear c4 H2
  have b4 := H3.out.bk (B := B) (vs := [.nilFunc, .nilFunc]) (List.mem_cons_of_mem _ (List.mem_cons_of_mem _ List.mem_cons_self))
  have x0 := H3.out.b (B := B) (vs := [.nilFunc, .nilFunc]) (List.mem_cons_of_mem _ (List.mem_cons_of_mem _ List.mem_cons_self)) 0 _ rfl
  have x1 := H3.out.b (B := B) (vs := [.nilFunc, .nilFunc]) (List.mem_cons_of_mem _ (List.mem_cons_of_mem _ List.mem_cons_self)) 1 _ rfl
  have fz := b4.fz
  have st0 := IsFn.store (v := .nilFunc) (.inl rfl)
  have st2 := IsFn.store (v := .func (.func 109) #[] #[ptr b2, ptr b3]) (.inr ⟨_, _, _, rfl⟩)
  clear b4
  go_wp2
  obtain ⟨h5, r0, r1⟩ := H3.out.ret (B := B) (r := [(b2, [ptr X.ab]), (b3, [.int .i64 (s : Nat), .int .u64 (v : Nat)])] ++ X.bx) (fun p hp => by
    rcases List.mem_cons.1 hp with rfl | hp
    · exact List.mem_cons_of_mem _ (List.mem_cons_of_mem _ List.mem_cons_self)
    · rcases List.mem_cons.1 hp with rfl | hp
      · exact List.mem_cons_self
      · rcases List.mem_cons.1 hp with rfl | hp
        · exact List.mem_cons_of_mem _ List.mem_cons_self
        · exact List.mem_cons_of_mem _ (List.mem_cons_of_mem _ (List.mem_cons_of_mem _ (List.mem_cons_of_mem _ hp)))) (fun p hp => by
    have := HBB.out
    have := HB.out
    rcases List.mem_cons.1 hp with rfl | hp
    · dsimp only; omega
    · rcases List.mem_cons.1 hp with rfl | hp
      · dsimp only; omega
      · have := HL.out p hp; omega) .nilFunc (.func (.func 109) #[] #[ptr b2, ptr b3])
  (try simp only [Exit.inBlock, Exit.then])
  refine bodyPost_ret (v := .agg #[.nilFunc, .func (.func 109) #[] #[ptr b2, ptr b3]]) ?hr rfl ?hx
  case hx => exact ⟨_, [(b2, [ptr X.ab]), (b3, [.int .i64 (s : Nat), .int .u64 (v : Nat)])], X.t, rfl, .inr ⟨_, _, _, rfl⟩, h5, ⟨b2, b3, rfl, rfl, rfl⟩, ge2 (by have := HB.out; have := HBB.out; omega) (by have := HB.out; have := HBB.out; omega)⟩
  case hr =>
    generalize ((w3.setCell ⟨B, 0, none⟩ .nilFunc).setCell ⟨B, 1, none⟩ (.func (.func 109) #[] #[ptr b2, ptr b3])) = W5 at r0 r1 ⊢
    simp [results, Tryz.results95, go_sem, r0, r1]
set_option maxHeartbeats 4000000 in
theorem rAgain1 (h : Bo E S0 w0 W σ n X k) {b1 s v : Nat} (hm : (b1, [ptr X.ab]) ∈ X.bx) :
    Calls Tryz.prog 141 (#[] ++ #[.agg #[.int .i64 (s : Nat), .int .u64 (v : Nat)]] ++ #[ptr b1]) W fun e W2 => ∃ d bx2 t2, e = .returned (.agg #[.nilFunc, d]) ∧ IsFn d ∧ Bo E S0 w0 W2 σ n { X with bx := bx2 ++ X.bx, t := t2 } k ∧ (∃ b2 b3, d = .func (.func 153) #[] #[ptr b2, ptr b3] ∧ bx2 = [(b2, [ptr X.ab]), (b3, [.int .i64 (s : Nat), .int .u64 (v : Nat)])] ∧ t2 = X.t) ∧ ∀ p ∈ bx2, W.heap.size ≤ p.1 := by
  have hmf := mk_func
  show Calls _ _ #[.agg #[.int .i64 (s : Nat), .int .u64 (v : Nat)], ptr b1] W _
  obtain ⟨i1, i2, cA⟩ := boxes2 W [.int .i64 (s : Nat), .int .u64 (v : Nat)] [.nilFunc, .nilFunc] 207 103 _ rfl
  have HL := Lib.hid (fun p (hp : p ∈ X.bx) => h.blt hp)
  have H1 := Lib.hid (h.pushs cA [(W.heap.size + 1, [.nilFunc, .nilFunc]), (W.heap.size, [.int .i64 (s : Nat), .int .u64 (v : Nat)])] (fun p hp => by
    rcases List.mem_cons.1 hp with rfl | hp
    · exact ⟨Nat.le_succ _, i2⟩
    · rcases List.mem_cons.1 hp with rfl | hp
      · exact ⟨Nat.le_refl _, i1⟩
      · cases hp))
  clear h i1 i2 cA
  go_enter Tryz.func141, Tryz.ntmps141
  go_upto_region 1 with (fail)
  change Hid (Bo E S0 w0 ((W.alloc (.cells #[.int .i64 (s : Nat), .int .u64 (v : Nat)] 207)).alloc (.cells #[.nilFunc, .nilFunc] 103)) σ n _ k) at H1
  generalize (W.alloc (.cells #[.int .i64 (s : Nat), .int .u64 (v : Nat)] 207)).alloc (.cells #[.nilFunc, .nilFunc] 103) = w1 at H1 ⊢
  obtain ⟨b0, hb1⟩ : ∃ b0, b0 = W.heap.size := ⟨_, rfl⟩
  rw [← hb1] at H1 ⊢
  obtain ⟨B, hb2⟩ : ∃ B, B = b0 + 1 := ⟨_, rfl⟩
  rw [← hb2] at H1 ⊢
  have HB := Lib.hid (And.intro hb1 hb2)
  clear hb1 hb2
  have c0 := H1.out.b (List.mem_cons_of_mem _ (List.mem_cons_of_mem _ hm)) 0 _ rfl
  have c1 := H1.out.b (List.mem_cons_of_mem _ List.mem_cons_self) 0 _ rfl
  have c2 := H1.out.b (List.mem_cons_of_mem _ List.mem_cons_self) 1 _ rfl
  go_wp2_with fail
  clear c0 c1 c2
  refine (change_any X.ab s v _).mono ?_
  rintro en w2 ⟨rfl, j1, j2, c2⟩
  have H2 := Lib.hid (H1.out.pushs c2 [(w1.heap.size, [ptr X.ab]), (w1.heap.size + 1, [.int .i64 (s : Nat), .int .u64 (v : Nat)])] (fun p hp => by
    rcases List.mem_cons.1 hp with rfl | hp
    · exact ⟨Nat.le_refl _, j1⟩
    · rcases List.mem_cons.1 hp with rfl | hp
      · exact ⟨Nat.le_succ _, j2⟩
      · cases hp))
  have hB6 : B < w1.heap.size := H1.out.blt (p := (B, [.nilFunc, .nilFunc])) List.mem_cons_self
  obtain ⟨b2, hb1⟩ : ∃ b2, b2 = w1.heap.size := ⟨_, rfl⟩
  rw [← hb1] at H2 hB6 ⊢
  obtain ⟨b3, hb2⟩ : ∃ b3, b3 = b2 + 1 := ⟨_, rfl⟩
  rw [← hb2] at H2 ⊢
  have hb : B < b2 ∧ B < b3 := by omega
  clear j1 j2 c2 H1 hb1 hb2 hB6
  have HBB := Lib.hid hb
  clear hb
  go_wp2_with fail
  refine (next_fn _ (.inr ⟨_, _, _, rfl⟩) _).mono ?_
  rintro en w3 ⟨rfl, c4⟩
  have H3 := Lib.hid (H2.out.quiet c4)
  clear c4 H2
  have b4 := H3.out.bk (B := B) (vs := [.nilFunc, .nilFunc]) (List.mem_cons_of_mem _ (List.mem_cons_of_mem _ List.mem_cons_self))
  have x0 := H3.out.b (B := B) (vs := [.nilFunc, .nilFunc]) (List.mem_cons_of_mem _ (List.mem_cons_of_mem _ List.mem_cons_self)) 0 _ rfl
  have x1 := H3.out.b (B := B) (vs := [.nilFunc, .nilFunc]) (List.mem_cons_of_mem _ (List.mem_cons_of_mem _ List.mem_cons_self)) 1 _ rfl
  have fz := b4.fz
  have st0 := IsFn.store (v := .nilFunc) (.inl rfl)
  have st2 := IsFn.store (v := .func (.func 153) #[] #[ptr b2, ptr b3]) (.inr ⟨_, _, _, rfl⟩)
  clear b4
  go_wp2
  obtain ⟨h5, r0, r1⟩ := H3.out.ret (B := B) (r := [(b2, [ptr X.ab]), (b3, [.int .i64 (s : Nat), .int .u64 (v : Nat)])] ++ X.bx) (fun p hp => by
    rcases List.mem_cons.1 hp with rfl | hp
    · exact List.mem_cons_of_mem _ (List.mem_cons_of_mem _ List.mem_cons_self)
    · rcases List.mem_cons.1 hp with rfl | hp
      · exact List.mem_cons_self
      · rcases List.mem_cons.1 hp with rfl | hp
        · exact List.mem_cons_of_mem _ List.mem_cons_self
        · exact List.mem_cons_of_mem _ (List.mem_cons_of_mem _ (List.mem_cons_of_mem _ (List.mem_cons_of_mem _ hp)))) (fun p hp => by
    have := HBB.out
    have := HB.out
    rcases List.mem_cons.1 hp with rfl | hp
    · dsimp only; omega
    · rcases List.mem_cons.1 hp with rfl | hp
      · dsimp only; omega
      · have := HL.out p hp; omega) .nilFunc (.func (.func 153) #[] #[ptr b2, ptr b3])
  (try simp only [Exit.inBlock, Exit.then])
  refine bodyPost_ret (v := .agg #[.nilFunc, .func (.func 153) #[] #[ptr b2, ptr b3]]) ?hr rfl ?hx
  case hx => exact ⟨_, [(b2, [ptr X.ab]), (b3, [.int .i64 (s : Nat), .int .u64 (v : Nat)])], X.t, rfl, .inr ⟨_, _, _, rfl⟩, h5, ⟨b2, b3, rfl, rfl, rfl⟩, ge2 (by have := HB.out; have := HBB.out; omega) (by have := HB.out; have := HBB.out; omega)⟩
  case hr =>
    generalize ((w3.setCell ⟨B, 0, none⟩ .nilFunc).setCell ⟨B, 1, none⟩ (.func (.func 153) #[] #[ptr b2, ptr b3])) = W5 at r0 r1 ⊢
    simp [results, Tryz.results141, go_sem, r0, r1]
set_option maxHeartbeats 4000000 in
theorem st_eFindOn (h : Bo E S0 w0 W σ n X k) (hn : n ≤ 80000) (hk : 4 ≤ k.kd) (hid : k.id < 18446744073709551616) (hw : wasW E.N σ.R k.id = true) {s : Nat} (hsd : Hid (k.id % 64 = s)) (hs : s < E.N.n) (hx : (nxZ (σ.R s).wd k.ev ((σ.R s).pd != 0)).2 = 0) (hm : k.id / 64 = (σ.R s).gv) {v : Nat} (hvv : Hid (v = (σ.R s).wd)) :
    Calls Tryz.prog 85 #[ptr X.ab] W (Res E S0 w0 X n (σ, { k with sg := .eStrike s v })) := by
  have hmf := mk_func
  obtain ⟨i1, i2, cA⟩ := boxes2 W [ptr X.ab] [.nilFunc, .nilFunc] 155 103 _ rfl
  have H1 := Lib.hid (h.pushs cA [(W.heap.size + 1, [.nilFunc, .nilFunc]), (W.heap.size, [ptr X.ab])] (fun p hp => by
    rcases List.mem_cons.1 hp with rfl | hp
    · exact ⟨Nat.le_succ _, i2⟩
    · rcases List.mem_cons.1 hp with rfl | hp
      · exact ⟨Nat.le_refl _, i1⟩
      · cases hp))
  have HL := Lib.hid (fun p (hp : p ∈ X.bx) => h.blt hp)
  clear h i1 i2 cA
  go_enter Tryz.func85, Tryz.ntmps85
  go_upto_region 1 with (fail)
  change Hid (Bo E S0 w0 ((W.alloc (.cells #[ptr X.ab] 155)).alloc (.cells #[.nilFunc, .nilFunc] 103)) σ n _ k) at H1
  generalize (W.alloc (.cells #[ptr X.ab] 155)).alloc (.cells #[.nilFunc, .nilFunc] 103) = w1 at H1 ⊢
  obtain ⟨b1, hb1⟩ : ∃ b1, b1 = W.heap.size := ⟨_, rfl⟩
  rw [← hb1] at H1 ⊢
  obtain ⟨B, hb2⟩ : ∃ B, B = b1 + 1 := ⟨_, rfl⟩
  rw [← hb2] at H1 ⊢
  have HB := Lib.hid (And.intro hb1 hb2)
  clear hb1 hb2
  have D1 : Ch Nil w1 w1.drew := (Ch.refl _ _).drew
  have H2 := Lib.hid (H1.out.quiet D1)
  refine wp_region_held_drew (S := fun w' => w'.cell? ⟨b1, 0, none⟩ = some (ptr X.ab) ∧ w'.cell? ⟨X.ab, 0, none⟩ = some (ptr X.kb) ∧ w'.cell? ⟨X.ab, 1, none⟩ = some (.int .i64 k.ev)) (by kernel_rfl) ⟨H2.out.b (List.mem_cons_of_mem _ List.mem_cons_self) 0 _ rfl, H2.out.a0, H2.out.e1 hk⟩ (fun hHeld => ?_)
  clear D1 H1
  generalize w1.drew = w2 at *
  refine take_at (v := ?_) 0 (some 3) rfl (by kernel_rfl) (by kernel_rfl) (by kernel_rfl) (by kernel_rfl) (fun _ _ _ h => h) (Or.inl ⟨by rfl, ?_⟩) (by assumption) ?_
  rotate_left
  · intro w hSw; (try dsimp only at hSw); go_simp; try (with_reducible rfl)
  (try simp only [Act.put, List.setIfInBounds_toArray, List.set_cons_zero, List.set_cons_succ])
  refine take_at (v := ?_) 1 (some 4) rfl (by kernel_rfl) (by kernel_rfl) (by kernel_rfl) (by kernel_rfl) (fun _ _ _ h => h) (Or.inl ⟨by rfl, ?_⟩) (by assumption) ?_
  rotate_left
  · intro w hSw; (try dsimp only at hSw); go_simp; try (with_reducible rfl)
  (try simp only [Act.put, List.setIfInBounds_toArray, List.set_cons_zero, List.set_cons_succ])
  refine take_at (v := ?_) 2 (some 5) rfl (by kernel_rfl) (by kernel_rfl) (by kernel_rfl) (by kernel_rfl) (fun _ _ _ h => h) (Or.inl ⟨by rfl, ?_⟩) (by assumption) ?_
  rotate_left
  · intro w hSw; (try dsimp only at hSw); go_simp; try (with_reducible rfl)
  (try simp only [Act.put, List.setIfInBounds_toArray, List.set_cons_zero, List.set_cons_succ])
  refine take_at (v := ?_) 3 (some 6) rfl (by kernel_rfl) (by kernel_rfl) (by kernel_rfl) (by kernel_rfl) (fun _ _ _ h => h) (Or.inl ⟨by rfl, ?_⟩) (by assumption) ?_
  rotate_left
  · intro w hSw; (try dsimp only at hSw); go_simp; try (with_reducible rfl)
  (try simp only [Act.put, List.setIfInBounds_toArray, List.set_cons_zero, List.set_cons_succ])
  refine take_at (v := ?_) 4 (some 7) rfl (by kernel_rfl) (by kernel_rfl) (by kernel_rfl) (by kernel_rfl) (fun _ _ _ h => h) (Or.inl ⟨by rfl, ?_⟩) (by assumption) ?_
  rotate_left
  · intro w hSw; (try dsimp only at hSw); go_simp; try (with_reducible rfl)
  (try simp only [Act.put, List.setIfInBounds_toArray, List.set_cons_zero, List.set_cons_succ])
  refine take_at (v := ?_) 5 (some 8) rfl (by kernel_rfl) (by kernel_rfl) (by kernel_rfl) (by kernel_rfl) (fun _ _ _ h => h) (Or.inl ⟨by rfl, ?_⟩) (by assumption) ?_
  rotate_left
  · intro w hSw; (try dsimp only at hSw); go_simp; try (with_reducible rfl)
  (try simp only [Act.put, List.setIfInBounds_toArray, List.set_cons_zero, List.set_cons_succ])
  refine take_at (v := ?_) 6 (some 9) rfl (by kernel_rfl) (by kernel_rfl) (by kernel_rfl) (by kernel_rfl) (fun _ _ _ h => h) (Or.inl ⟨by rfl, ?_⟩) (by assumption) ?_
  rotate_left
  · intro w hSw; (try dsimp only at hSw); go_simp; try (with_reducible rfl)
  (try simp only [Act.put, List.setIfInBounds_toArray, List.set_cons_zero, List.set_cons_succ])
  refine take_at (v := ?_) 7 (some 10) rfl (by kernel_rfl) (by kernel_rfl) (by kernel_rfl) (by kernel_rfl) (fun _ _ _ h => h) (Or.inl ⟨by rfl, ?_⟩) (by assumption) ?_
  rotate_left
  · intro w hSw; (try dsimp only at hSw); go_simp; try (with_reducible rfl)
  (try simp only [Act.put, List.setIfInBounds_toArray, List.set_cons_zero, List.set_cons_succ])
  refine take_at (v := ?_) 8 (some 11) rfl (by kernel_rfl) (by kernel_rfl) (by kernel_rfl) (by kernel_rfl) (fun _ _ _ h => h) (Or.inl ⟨by rfl, ?_⟩) (by assumption) ?_
  rotate_left
  · intro w hSw; (try dsimp only at hSw); go_simp; try (with_reducible rfl)
  (try simp only [Act.put, List.setIfInBounds_toArray, List.set_cons_zero, List.set_cons_succ])
  refine take_at (v := ?_) 9 (some 12) rfl (by kernel_rfl) (by kernel_rfl) (by kernel_rfl) (by kernel_rfl) (fun _ _ _ h => h) (Or.inl ⟨by rfl, ?_⟩) (by assumption) ?_
  rotate_left
  · intro w hSw; (try dsimp only at hSw); go_simp; try (with_reducible rfl)
  (try simp only [Act.put, List.setIfInBounds_toArray, List.set_cons_zero, List.set_cons_succ])
  refine take_at (v := ?_) 10 (some 13) rfl (by kernel_rfl) (by kernel_rfl) (by kernel_rfl) (by kernel_rfl) (fun _ _ _ h => h) (Or.inl ⟨by rfl, ?_⟩) (by assumption) ?_
  rotate_left
  · intro w hSw; (try dsimp only at hSw); go_simp; try (with_reducible rfl)
  (try simp only [Act.put, List.setIfInBounds_toArray, List.set_cons_zero, List.set_cons_succ])
  refine take_at (v := ?_) 11 (some 14) rfl (by kernel_rfl) (by kernel_rfl) (by kernel_rfl) (by kernel_rfl) (fun _ _ _ h => h) (Or.inl ⟨by rfl, ?_⟩) (by assumption) ?_
  rotate_left
  · intro w hSw; (try dsimp only at hSw); go_simp; try (with_reducible rfl)
  (try simp only [Act.put, List.setIfInBounds_toArray, List.set_cons_zero, List.set_cons_succ])
  refine take_at (v := ?_) 12 (some 15) rfl (by kernel_rfl) (by kernel_rfl) (by kernel_rfl) (by kernel_rfl) (fun _ _ _ h => h) (Or.inl ⟨by rfl, ?_⟩) (by assumption) ?_
  rotate_left
  · intro w hSw; (try dsimp only at hSw); go_simp; try (with_reducible rfl)
  (try simp only [Act.put, List.setIfInBounds_toArray, List.set_cons_zero, List.set_cons_succ])
  refine take_at (v := ?_) 13 (some 16) rfl (by kernel_rfl) (by kernel_rfl) (by kernel_rfl) (by kernel_rfl) (fun _ _ _ h => h) (Or.inl ⟨by rfl, ?_⟩) (by assumption) ?_
  rotate_left
  · intro w hSw; (try dsimp only at hSw); go_simp; try (with_reducible rfl)
  (try simp only [Act.put, List.setIfInBounds_toArray, List.set_cons_zero, List.set_cons_succ])
  refine wpAnyH_ready (rs := [14]) (by kernel_rfl) (by simp) ?_
  refine AllReadyH.cons rfl (fun K hK => ?_) AllReadyH.nil
  go_simp
  have LO := H2.out.lookOn (k2 := k) (Q := fun d bx2 t2 => ∃ b2 b3, d = .func (.func 109) #[] #[ptr b2, ptr b3] ∧ bx2 = [(b2, [ptr X.ab]), (b3, [.int .i64 (s : Nat), .int .u64 (v : Nat)])] ∧ t2 = X.t) (by omega) k.ev 95 81 #[] #[ptr b1] #[ptr X.kb] #[] hid hw hsd hs hx hm en_e_find1 hvv (fun B2 W1 hB2 hW1 => eFind1 hW1 (List.mem_cons_of_mem _ (List.mem_cons_of_mem _ List.mem_cons_self)))
  refine LO.mono ?_
  clear LO
  rintro e w3 ⟨d, bx2, t2, rfl, hd, h3, ⟨b2, b3, rfl, rfl, rfl⟩, hb2⟩
  have SZ := Lib.hid (show B < w2.heap.size from H2.out.blt (p := (B, [.nilFunc, .nilFunc])) List.mem_cons_self)
  have H3 := Lib.hid h3
  have HB3 := Lib.hid hb2
  refine hK.out _ _ ⟨h3.b (List.mem_append.2 (.inr (List.mem_cons_of_mem _ List.mem_cons_self))) 0 _ rfl, h3.a0, h3.e1 hk⟩ (fun hHeld2 => ?_)
  clear hK K hHeld hHeld2 h3 hb2 hd H2
  (try simp only [Act.put, List.setIfInBounds_toArray, List.set_cons_zero, List.set_cons_succ])
  have b4 := H3.out.bk (B := B) (vs := [.nilFunc, .nilFunc]) (List.mem_append.2 (.inr List.mem_cons_self))
  have x0 := H3.out.b (B := B) (vs := [.nilFunc, .nilFunc]) (List.mem_append.2 (.inr List.mem_cons_self)) 0 _ rfl
  have x1 := H3.out.b (B := B) (vs := [.nilFunc, .nilFunc]) (List.mem_append.2 (.inr List.mem_cons_self)) 1 _ rfl
  have fz := b4.fz
  have st0 := IsFn.store (v := .nilFunc) (.inl rfl)
  have st2 := IsFn.store (v := .func (.func 109) #[] #[ptr b2, ptr b3]) (.inr ⟨_, _, _, rfl⟩)
  clear b4
  refine wpAnyH_ready (rs := [15]) (by kernel_rfl) (by simp) ?_
  refine AllReadyH.cons rfl (fun K hK => ?_) AllReadyH.nil
  go_simp
  obtain ⟨h5, r0, r1⟩ := H3.out.ret (B := B) (r := [(b2, [ptr X.ab]), (b3, [.int .i64 (s : Nat), .int .u64 (v : Nat)])] ++ (b1, [ptr X.ab]) :: X.bx) (fun p hp => by
    rcases List.mem_cons.1 hp with rfl | hp
    · exact List.mem_append.2 (.inr List.mem_cons_self)
    · rcases List.mem_append.1 hp with hp | hp
      · exact List.mem_append.2 (.inl hp)
      · exact List.mem_append.2 (.inr (List.mem_cons_of_mem _ hp))) (fun p hp => by
    have := SZ.out
    have := HB.out
    rcases List.mem_append.1 hp with hp | hp
    · have := HB3.out p hp; omega
    · rcases List.mem_cons.1 hp with rfl | hp
      · dsimp only; omega
      · have := HL.out p hp; omega) .nilFunc (.func (.func 109) #[] #[ptr b2, ptr b3])
  refine hK.out _ _ ⟨h5.b (List.mem_append.2 (.inr List.mem_cons_self)) 0 _ rfl, h5.a0, h5.e1 hk⟩ (fun hHeld => ?_)
  clear hK K
  (try simp only [Act.put, List.setIfInBounds_toArray, List.set_cons_zero, List.set_cons_succ])
  refine wpAnyH_done (by kernel_rfl) ?_ _
  (try go_wp2)
  (try simp only [Exit.inBlock, Exit.then])
  refine bodyPost_ret (v := .agg #[.nilFunc, .func (.func 109) #[] #[ptr b2, ptr b3]]) ?hr rfl ?hx
  case hx => exact ⟨_, { X with bx := [(b2, [ptr X.ab]), (b3, [.int .i64 (s : Nat), .int .u64 (v : Nat)])] }, rfl, (h5.pops (r := [(b2, [ptr X.ab]), (b3, [.int .i64 (s : Nat), .int .u64 (v : Nat)])]) (fun p hp => List.mem_append.2 (.inl hp))).sg (.eStrike s v), ⟨b2, b3, rfl, List.mem_cons_self, List.mem_cons_of_mem _ List.mem_cons_self⟩, ⟨rfl, rfl, rfl, rfl, rfl, rfl, rfl⟩⟩
  case hr =>
    generalize ((w3.setCell ⟨B, 0, none⟩ .nilFunc).setCell ⟨B, 1, none⟩ (.func (.func 109) #[] #[ptr b2, ptr b3])) = W5 at r0 r1 ⊢
    simp [results, Tryz.results85, go_sem, r0, r1]
set_option maxHeartbeats 4000000 in
theorem st_rAgainInv (h : Bo E S0 w0 W σ n X k) (hn : n ≤ 80000) (hk0 : Hid (k.kd = 3)) (hid : k.id < 18446744073709551616) {t : Nat} (ht : X.t = some t) (hw : wasW E.N σ.R k.id = false) :
    Calls Tryz.prog 119 #[ptr X.ab] W (Res E S0 w0 X (n + 1) (σ, refW k 1 .rNone)) := by
  have hmf := mk_func
  obtain ⟨i1, i2, cA⟩ := boxes2 W [ptr X.ab] [.nilFunc, .nilFunc] 152 103 _ rfl
  have H1 := Lib.hid (h.pushs cA [(W.heap.size + 1, [.nilFunc, .nilFunc]), (W.heap.size, [ptr X.ab])] (fun p hp => by
    rcases List.mem_cons.1 hp with rfl | hp
    · exact ⟨Nat.le_succ _, i2⟩
    · rcases List.mem_cons.1 hp with rfl | hp
      · exact ⟨Nat.le_refl _, i1⟩
      · cases hp))
  have HL := Lib.hid (fun p (hp : p ∈ X.bx) => h.blt hp)
  clear h i1 i2 cA
  go_enter Tryz.func119, Tryz.ntmps119
  go_upto_region 1 with (fail)
  change Hid (Bo E S0 w0 ((W.alloc (.cells #[ptr X.ab] 152)).alloc (.cells #[.nilFunc, .nilFunc] 103)) σ n _ k) at H1
  generalize (W.alloc (.cells #[ptr X.ab] 152)).alloc (.cells #[.nilFunc, .nilFunc] 103) = w1 at H1 ⊢
  obtain ⟨b1, hb1⟩ : ∃ b1, b1 = W.heap.size := ⟨_, rfl⟩
  rw [← hb1] at H1 ⊢
  obtain ⟨B, hb2⟩ : ∃ B, B = b1 + 1 := ⟨_, rfl⟩
  rw [← hb2] at H1 ⊢
  have HB := Lib.hid (And.intro hb1 hb2)
  clear hb1 hb2
  have D1 : Ch Nil w1 w1.drew := (Ch.refl _ _).drew
  have H2 := Lib.hid (H1.out.quiet D1)
  refine wp_region_held_drew (S := fun w' => w'.cell? ⟨b1, 0, none⟩ = some (ptr X.ab) ∧ w'.cell? ⟨X.ab, 0, none⟩ = some (ptr X.kb)) (by kernel_rfl) ⟨H2.out.b (List.mem_cons_of_mem _ List.mem_cons_self) 0 _ rfl, H2.out.a0⟩ (fun hHeld => ?_)
  clear D1 H1
  generalize w1.drew = w2 at *
  refine take_at (v := ?_) 0 (some 3) rfl (by kernel_rfl) (by kernel_rfl) (by kernel_rfl) (by kernel_rfl) (fun _ _ _ h => h) (Or.inl ⟨by rfl, ?_⟩) (by assumption) ?_
  rotate_left
  · intro w hSw; (try dsimp only at hSw); go_simp; try (with_reducible rfl)
  (try simp only [Act.put, List.setIfInBounds_toArray, List.set_cons_zero, List.set_cons_succ])
  refine take_at (v := ?_) 1 (some 4) rfl (by kernel_rfl) (by kernel_rfl) (by kernel_rfl) (by kernel_rfl) (fun _ _ _ h => h) (Or.inl ⟨by rfl, ?_⟩) (by assumption) ?_
  rotate_left
  · intro w hSw; (try dsimp only at hSw); go_simp; try (with_reducible rfl)
  (try simp only [Act.put, List.setIfInBounds_toArray, List.set_cons_zero, List.set_cons_succ])
  refine take_at (v := ?_) 2 (some 5) rfl (by kernel_rfl) (by kernel_rfl) (by kernel_rfl) (by kernel_rfl) (fun _ _ _ h => h) (Or.inl ⟨by rfl, ?_⟩) (by assumption) ?_
  rotate_left
  · intro w hSw; (try dsimp only at hSw); go_simp; try (with_reducible rfl)
  (try simp only [Act.put, List.setIfInBounds_toArray, List.set_cons_zero, List.set_cons_succ])
  refine take_at (v := ?_) 3 (some 6) rfl (by kernel_rfl) (by kernel_rfl) (by kernel_rfl) (by kernel_rfl) (fun _ _ _ h => h) (Or.inl ⟨by rfl, ?_⟩) (by assumption) ?_
  rotate_left
  · intro w hSw; (try dsimp only at hSw); go_simp; try (with_reducible rfl)
  (try simp only [Act.put, List.setIfInBounds_toArray, List.set_cons_zero, List.set_cons_succ])
  refine take_at (v := ?_) 4 (some 7) rfl (by kernel_rfl) (by kernel_rfl) (by kernel_rfl) (by kernel_rfl) (fun _ _ _ h => h) (Or.inl ⟨by rfl, ?_⟩) (by assumption) ?_
  rotate_left
  · intro w hSw; (try dsimp only at hSw); go_simp; try (with_reducible rfl)
  (try simp only [Act.put, List.setIfInBounds_toArray, List.set_cons_zero, List.set_cons_succ])
  refine take_at (v := ?_) 5 (some 8) rfl (by kernel_rfl) (by kernel_rfl) (by kernel_rfl) (by kernel_rfl) (fun _ _ _ h => h) (Or.inl ⟨by rfl, ?_⟩) (by assumption) ?_
  rotate_left
  · intro w hSw; (try dsimp only at hSw); go_simp; try (with_reducible rfl)
  (try simp only [Act.put, List.setIfInBounds_toArray, List.set_cons_zero, List.set_cons_succ])
  refine take_at (v := ?_) 6 (some 9) rfl (by kernel_rfl) (by kernel_rfl) (by kernel_rfl) (by kernel_rfl) (fun _ _ _ h => h) (Or.inl ⟨by rfl, ?_⟩) (by assumption) ?_
  rotate_left
  · intro w hSw; (try dsimp only at hSw); go_simp; try (with_reducible rfl)
  (try simp only [Act.put, List.setIfInBounds_toArray, List.set_cons_zero, List.set_cons_succ])
  refine wpAnyH_ready (rs := [7]) (by kernel_rfl) (by simp) ?_
  refine AllReadyH.cons rfl (fun K hK => ?_) AllReadyH.nil
  go_simp
  refine (H2.out.lookInv (by omega) 8 _ _ _ _ _ _ hid hw).mono ?_
  rintro e w3 ⟨rfl, h3⟩
  have H3 := Lib.hid h3
  refine hK.out _ _ ⟨h3.b (List.mem_cons_of_mem _ List.mem_cons_self) 0 _ rfl, h3.a0⟩ (fun hHeld2 => ?_)
  clear hK K hHeld
  have hHeld := hHeld2
  clear hHeld2
  (try simp only [Act.put, List.setIfInBounds_toArray, List.set_cons_zero, List.set_cons_succ])
  clear h3 H2 hHeld
  have b4 := H3.out.bk (B := B) (vs := [.nilFunc, .nilFunc]) (List.mem_cons_self)
  have x0 := H3.out.b (B := B) (vs := [.nilFunc, .nilFunc]) (List.mem_cons_self) 0 _ rfl
  have x1 := H3.out.b (B := B) (vs := [.nilFunc, .nilFunc]) (List.mem_cons_self) 1 _ rfl
  have fz := b4.fz
  have st0 := IsFn.store (v := .nilFunc) (.inl rfl)
  have st2 := IsFn.store (v := .func (.func 143) #[ptr X.ab] #[]) (.inr ⟨_, _, _, rfl⟩)
  clear b4
  refine wpAnyH_ready (rs := [8]) (by kernel_rfl) (by simp) ?_
  refine AllReadyH.cons rfl (fun K hK => ?_) AllReadyH.nil
  go_simp
  obtain ⟨h5, r0, r1⟩ := H3.out.ret (B := B) (r := (b1, [ptr X.ab]) :: X.bx) (fun p hp => hp) (fun p hp => by
    have := HB.out
    rcases List.mem_cons.1 hp with rfl | hp
    · dsimp only; omega
    · have := HL.out p hp; omega) .nilFunc (.func (.func 143) #[ptr X.ab] #[])
  refine hK.out _ _ ⟨h5.b (List.mem_cons_self) 0 _ rfl, h5.a0⟩ (fun hHeld => ?_)
  clear hK K
  (try simp only [Act.put, List.setIfInBounds_toArray, List.set_cons_zero, List.set_cons_succ])
  refine wpAnyH_done (by kernel_rfl) ?_ _
  (try go_wp2)
  (try simp only [Exit.inBlock, Exit.then])
  refine bodyPost_ret (v := .agg #[.nilFunc, .func (.func 143) #[ptr X.ab] #[]]) ?hr rfl ?hx
  case hx => exact ⟨_, _, rfl, (h5.pops (r := X.bx) (fun p hp => List.mem_cons_of_mem _ hp)).sg .rNone, ⟨rfl, _, ht⟩, ⟨rfl, rfl, rfl, rfl, rfl, rfl, rfl⟩⟩
  case hr =>
    generalize ((w3.setCell ⟨B, 0, none⟩ .nilFunc).setCell ⟨B, 1, none⟩ (.func (.func 143) #[ptr X.ab] #[])) = W5 at r0 r1 ⊢
    simp [results, Tryz.results119, go_sem, r0, r1]
set_option maxHeartbeats 4000000 in
theorem st_rAgainRef (h : Bo E S0 w0 W σ n X k) (hn : n ≤ 80000) (hk0 : Hid (k.kd = 3)) (hid : k.id < 18446744073709551616) {t : Nat} (ht : X.t = some t) (hw : wasW E.N σ.R k.id = true) {s : Nat} (hsd : Hid (k.id % 64 = s)) (hs : s < E.N.n) (hx : (nxZ (σ.R s).wd 8 ((σ.R s).pd != 0)).2 ≠ 0) :
    Calls Tryz.prog 119 #[ptr X.ab] W (Res E S0 w0 X (n + 1) (σ, refW k 0 .rNone)) := by
  have hmf := mk_func
  obtain ⟨i1, i2, cA⟩ := boxes2 W [ptr X.ab] [.nilFunc, .nilFunc] 152 103 _ rfl
  have H1 := Lib.hid (h.pushs cA [(W.heap.size + 1, [.nilFunc, .nilFunc]), (W.heap.size, [ptr X.ab])] (fun p hp => by
    rcases List.mem_cons.1 hp with rfl | hp
    · exact ⟨Nat.le_succ _, i2⟩
    · rcases List.mem_cons.1 hp with rfl | hp
      · exact ⟨Nat.le_refl _, i1⟩
      · cases hp))
  have HL := Lib.hid (fun p (hp : p ∈ X.bx) => h.blt hp)
  clear h i1 i2 cA
  go_enter Tryz.func119, Tryz.ntmps119
  go_upto_region 1 with (fail)
  change Hid (Bo E S0 w0 ((W.alloc (.cells #[ptr X.ab] 152)).alloc (.cells #[.nilFunc, .nilFunc] 103)) σ n _ k) at H1
  generalize (W.alloc (.cells #[ptr X.ab] 152)).alloc (.cells #[.nilFunc, .nilFunc] 103) = w1 at H1 ⊢
  obtain ⟨b1, hb1⟩ : ∃ b1, b1 = W.heap.size := ⟨_, rfl⟩
  rw [← hb1] at H1 ⊢
  obtain ⟨B, hb2⟩ : ∃ B, B = b1 + 1 := ⟨_, rfl⟩
  rw [← hb2] at H1 ⊢
  have HB := Lib.hid (And.intro hb1 hb2)
  clear hb1 hb2
  have D1 : Ch Nil w1 w1.drew := (Ch.refl _ _).drew
  have H2 := Lib.hid (H1.out.quiet D1)
  refine wp_region_held_drew (S := fun w' => w'.cell? ⟨b1, 0, none⟩ = some (ptr X.ab) ∧ w'.cell? ⟨X.ab, 0, none⟩ = some (ptr X.kb)) (by kernel_rfl) ⟨H2.out.b (List.mem_cons_of_mem _ List.mem_cons_self) 0 _ rfl, H2.out.a0⟩ (fun hHeld => ?_)
  clear D1 H1
  generalize w1.drew = w2 at *
  refine take_at (v := ?_) 0 (some 3) rfl (by kernel_rfl) (by kernel_rfl) (by kernel_rfl) (by kernel_rfl) (fun _ _ _ h => h) (Or.inl ⟨by rfl, ?_⟩) (by assumption) ?_
  rotate_left
  · intro w hSw; (try dsimp only at hSw); go_simp; try (with_reducible rfl)
  (try simp only [Act.put, List.setIfInBounds_toArray, List.set_cons_zero, List.set_cons_succ])
  refine take_at (v := ?_) 1 (some 4) rfl (by kernel_rfl) (by kernel_rfl) (by kernel_rfl) (by kernel_rfl) (fun _ _ _ h => h) (Or.inl ⟨by rfl, ?_⟩) (by assumption) ?_
  rotate_left
  · intro w hSw; (try dsimp only at hSw); go_simp; try (with_reducible rfl)
  (try simp only [Act.put, List.setIfInBounds_toArray, List.set_cons_zero, List.set_cons_succ])
  refine take_at (v := ?_) 2 (some 5) rfl (by kernel_rfl) (by kernel_rfl) (by kernel_rfl) (by kernel_rfl) (fun _ _ _ h => h) (Or.inl ⟨by rfl, ?_⟩) (by assumption) ?_
  rotate_left
  · intro w hSw; (try dsimp only at hSw); go_simp; try (with_reducible rfl)
  (try simp only [Act.put, List.setIfInBounds_toArray, List.set_cons_zero, List.set_cons_succ])
  refine take_at (v := ?_) 3 (some 6) rfl (by kernel_rfl) (by kernel_rfl) (by kernel_rfl) (by kernel_rfl) (fun _ _ _ h => h) (Or.inl ⟨by rfl, ?_⟩) (by assumption) ?_
  rotate_left
  · intro w hSw; (try dsimp only at hSw); go_simp; try (with_reducible rfl)
  (try simp only [Act.put, List.setIfInBounds_toArray, List.set_cons_zero, List.set_cons_succ])
  refine take_at (v := ?_) 4 (some 7) rfl (by kernel_rfl) (by kernel_rfl) (by kernel_rfl) (by kernel_rfl) (fun _ _ _ h => h) (Or.inl ⟨by rfl, ?_⟩) (by assumption) ?_
  rotate_left
  · intro w hSw; (try dsimp only at hSw); go_simp; try (with_reducible rfl)
  (try simp only [Act.put, List.setIfInBounds_toArray, List.set_cons_zero, List.set_cons_succ])
  refine take_at (v := ?_) 5 (some 8) rfl (by kernel_rfl) (by kernel_rfl) (by kernel_rfl) (by kernel_rfl) (fun _ _ _ h => h) (Or.inl ⟨by rfl, ?_⟩) (by assumption) ?_
  rotate_left
  · intro w hSw; (try dsimp only at hSw); go_simp; try (with_reducible rfl)
  (try simp only [Act.put, List.setIfInBounds_toArray, List.set_cons_zero, List.set_cons_succ])
  refine take_at (v := ?_) 6 (some 9) rfl (by kernel_rfl) (by kernel_rfl) (by kernel_rfl) (by kernel_rfl) (fun _ _ _ h => h) (Or.inl ⟨by rfl, ?_⟩) (by assumption) ?_
  rotate_left
  · intro w hSw; (try dsimp only at hSw); go_simp; try (with_reducible rfl)
  (try simp only [Act.put, List.setIfInBounds_toArray, List.set_cons_zero, List.set_cons_succ])
  refine wpAnyH_ready (rs := [7]) (by kernel_rfl) (by simp) ?_
  refine AllReadyH.cons rfl (fun K hK => ?_) AllReadyH.nil
  go_simp
  refine (H2.out.lookRef (by omega) 8 _ _ _ _ _ _ hid hw hsd hs hx).mono ?_
  rintro e w3 ⟨rfl, h3⟩
  have H3 := Lib.hid h3
  refine hK.out _ _ ⟨h3.b (List.mem_cons_of_mem _ List.mem_cons_self) 0 _ rfl, h3.a0⟩ (fun hHeld2 => ?_)
  clear hK K hHeld
  have hHeld := hHeld2
  clear hHeld2
  (try simp only [Act.put, List.setIfInBounds_toArray, List.set_cons_zero, List.set_cons_succ])
  clear h3 H2 hHeld
  have b4 := H3.out.bk (B := B) (vs := [.nilFunc, .nilFunc]) (List.mem_cons_self)
  have x0 := H3.out.b (B := B) (vs := [.nilFunc, .nilFunc]) (List.mem_cons_self) 0 _ rfl
  have x1 := H3.out.b (B := B) (vs := [.nilFunc, .nilFunc]) (List.mem_cons_self) 1 _ rfl
  have fz := b4.fz
  have st0 := IsFn.store (v := .nilFunc) (.inl rfl)
  have st2 := IsFn.store (v := .func (.func 143) #[ptr X.ab] #[]) (.inr ⟨_, _, _, rfl⟩)
  clear b4
  refine wpAnyH_ready (rs := [8]) (by kernel_rfl) (by simp) ?_
  refine AllReadyH.cons rfl (fun K hK => ?_) AllReadyH.nil
  go_simp
  obtain ⟨h5, r0, r1⟩ := H3.out.ret (B := B) (r := (b1, [ptr X.ab]) :: X.bx) (fun p hp => hp) (fun p hp => by
    have := HB.out
    rcases List.mem_cons.1 hp with rfl | hp
    · dsimp only; omega
    · have := HL.out p hp; omega) .nilFunc (.func (.func 143) #[ptr X.ab] #[])
  refine hK.out _ _ ⟨h5.b (List.mem_cons_self) 0 _ rfl, h5.a0⟩ (fun hHeld => ?_)
  clear hK K
  (try simp only [Act.put, List.setIfInBounds_toArray, List.set_cons_zero, List.set_cons_succ])
  refine wpAnyH_done (by kernel_rfl) ?_ _
  (try go_wp2)
  (try simp only [Exit.inBlock, Exit.then])
  refine bodyPost_ret (v := .agg #[.nilFunc, .func (.func 143) #[ptr X.ab] #[]]) ?hr rfl ?hx
  case hx => exact ⟨_, _, rfl, (h5.pops (r := X.bx) (fun p hp => List.mem_cons_of_mem _ hp)).sg .rNone, ⟨rfl, _, ht⟩, ⟨rfl, rfl, rfl, rfl, rfl, rfl, rfl⟩⟩
  case hr =>
    generalize ((w3.setCell ⟨B, 0, none⟩ .nilFunc).setCell ⟨B, 1, none⟩ (.func (.func 143) #[ptr X.ab] #[])) = W5 at r0 r1 ⊢
    simp [results, Tryz.results119, go_sem, r0, r1]
set_option maxHeartbeats 4000000 in
theorem st_rAgainOld (h : Bo E S0 w0 W σ n X k) (hn : n ≤ 80000) (hk0 : Hid (k.kd = 3)) (hid : k.id < 18446744073709551616) {t : Nat} (ht : X.t = some t) (hw : wasW E.N σ.R k.id = true) {s : Nat} (hsd : Hid (k.id % 64 = s)) (hs : s < E.N.n) (hx : (nxZ (σ.R s).wd 8 ((σ.R s).pd != 0)).2 = 0) (hm : k.id / 64 ≠ (σ.R s).gv) :
    Calls Tryz.prog 119 #[ptr X.ab] W (Res E S0 w0 X (n + 1) (σ, refW k 0 .rNone)) := by
  have hmf := mk_func
  obtain ⟨i1, i2, cA⟩ := boxes2 W [ptr X.ab] [.nilFunc, .nilFunc] 152 103 _ rfl
  have H1 := Lib.hid (h.pushs cA [(W.heap.size + 1, [.nilFunc, .nilFunc]), (W.heap.size, [ptr X.ab])] (fun p hp => by
    rcases List.mem_cons.1 hp with rfl | hp
    · exact ⟨Nat.le_succ _, i2⟩
    · rcases List.mem_cons.1 hp with rfl | hp
      · exact ⟨Nat.le_refl _, i1⟩
      · cases hp))
  have HL := Lib.hid (fun p (hp : p ∈ X.bx) => h.blt hp)
  clear h i1 i2 cA
  go_enter Tryz.func119, Tryz.ntmps119
  go_upto_region 1 with (fail)
  change Hid (Bo E S0 w0 ((W.alloc (.cells #[ptr X.ab] 152)).alloc (.cells #[.nilFunc, .nilFunc] 103)) σ n _ k) at H1
  generalize (W.alloc (.cells #[ptr X.ab] 152)).alloc (.cells #[.nilFunc, .nilFunc] 103) = w1 at H1 ⊢
  obtain ⟨b1, hb1⟩ : ∃ b1, b1 = W.heap.size := ⟨_, rfl⟩
  rw [← hb1] at H1 ⊢
  obtain ⟨B, hb2⟩ : ∃ B, B = b1 + 1 := ⟨_, rfl⟩
  rw [← hb2] at H1 ⊢
  have HB := Lib.hid (And.intro hb1 hb2)
  clear hb1 hb2
  have D1 : Ch Nil w1 w1.drew := (Ch.refl _ _).drew
  have H2 := Lib.hid (H1.out.quiet D1)
  refine wp_region_held_drew (S := fun w' => w'.cell? ⟨b1, 0, none⟩ = some (ptr X.ab) ∧ w'.cell? ⟨X.ab, 0, none⟩ = some (ptr X.kb)) (by kernel_rfl) ⟨H2.out.b (List.mem_cons_of_mem _ List.mem_cons_self) 0 _ rfl, H2.out.a0⟩ (fun hHeld => ?_)
  clear D1 H1
  generalize w1.drew = w2 at *
  refine take_at (v := ?_) 0 (some 3) rfl (by kernel_rfl) (by kernel_rfl) (by kernel_rfl) (by kernel_rfl) (fun _ _ _ h => h) (Or.inl ⟨by rfl, ?_⟩) (by assumption) ?_
  rotate_left
  · intro w hSw; (try dsimp only at hSw); go_simp; try (with_reducible rfl)
  (try simp only [Act.put, List.setIfInBounds_toArray, List.set_cons_zero, List.set_cons_succ])
  refine take_at (v := ?_) 1 (some 4) rfl (by kernel_rfl) (by kernel_rfl) (by kernel_rfl) (by kernel_rfl) (fun _ _ _ h => h) (Or.inl ⟨by rfl, ?_⟩) (by assumption) ?_
  rotate_left
  · intro w hSw; (try dsimp only at hSw); go_simp; try (with_reducible rfl)
  (try simp only [Act.put, List.setIfInBounds_toArray, List.set_cons_zero, List.set_cons_succ])
  refine take_at (v := ?_) 2 (some 5) rfl (by kernel_rfl) (by kernel_rfl) (by kernel_rfl) (by kernel_rfl) (fun _ _ _ h => h) (Or.inl ⟨by rfl, ?_⟩) (by assumption) ?_
  rotate_left
  · intro w hSw; (try dsimp only at hSw); go_simp; try (with_reducible rfl)
  (try simp only [Act.put, List.setIfInBounds_toArray, List.set_cons_zero, List.set_cons_succ])
  refine take_at (v := ?_) 3 (some 6) rfl (by kernel_rfl) (by kernel_rfl) (by kernel_rfl) (by kernel_rfl) (fun _ _ _ h => h) (Or.inl ⟨by rfl, ?_⟩) (by assumption) ?_
  rotate_left
  · intro w hSw; (try dsimp only at hSw); go_simp; try (with_reducible rfl)
  (try simp only [Act.put, List.setIfInBounds_toArray, List.set_cons_zero, List.set_cons_succ])
  refine take_at (v := ?_) 4 (some 7) rfl (by kernel_rfl) (by kernel_rfl) (by kernel_rfl) (by kernel_rfl) (fun _ _ _ h => h) (Or.inl ⟨by rfl, ?_⟩) (by assumption) ?_
  rotate_left
  · intro w hSw; (try dsimp only at hSw); go_simp; try (with_reducible rfl)
  (try simp only [Act.put, List.setIfInBounds_toArray, List.set_cons_zero, List.set_cons_succ])
  refine take_at (v := ?_) 5 (some 8) rfl (by kernel_rfl) (by kernel_rfl) (by kernel_rfl) (by kernel_rfl) (fun _ _ _ h => h) (Or.inl ⟨by rfl, ?_⟩) (by assumption) ?_
  rotate_left
  · intro w hSw; (try dsimp only at hSw); go_simp; try (with_reducible rfl)
  (try simp only [Act.put, List.setIfInBounds_toArray, List.set_cons_zero, List.set_cons_succ])
  refine take_at (v := ?_) 6 (some 9) rfl (by kernel_rfl) (by kernel_rfl) (by kernel_rfl) (by kernel_rfl) (fun _ _ _ h => h) (Or.inl ⟨by rfl, ?_⟩) (by assumption) ?_
  rotate_left
  · intro w hSw; (try dsimp only at hSw); go_simp; try (with_reducible rfl)
  (try simp only [Act.put, List.setIfInBounds_toArray, List.set_cons_zero, List.set_cons_succ])
  refine wpAnyH_ready (rs := [7]) (by kernel_rfl) (by simp) ?_
  refine AllReadyH.cons rfl (fun K hK => ?_) AllReadyH.nil
  go_simp
  refine (H2.out.lookOld (by omega) 8 _ _ _ _ _ _ hid hw hsd hs hx hm).mono ?_
  rintro e w3 ⟨rfl, h3⟩
  have H3 := Lib.hid h3
  refine hK.out _ _ ⟨h3.b (List.mem_cons_of_mem _ List.mem_cons_self) 0 _ rfl, h3.a0⟩ (fun hHeld2 => ?_)
  clear hK K hHeld
  have hHeld := hHeld2
  clear hHeld2
  (try simp only [Act.put, List.setIfInBounds_toArray, List.set_cons_zero, List.set_cons_succ])
  clear h3 H2 hHeld
  have b4 := H3.out.bk (B := B) (vs := [.nilFunc, .nilFunc]) (List.mem_cons_self)
  have x0 := H3.out.b (B := B) (vs := [.nilFunc, .nilFunc]) (List.mem_cons_self) 0 _ rfl
  have x1 := H3.out.b (B := B) (vs := [.nilFunc, .nilFunc]) (List.mem_cons_self) 1 _ rfl
  have fz := b4.fz
  have st0 := IsFn.store (v := .nilFunc) (.inl rfl)
  have st2 := IsFn.store (v := .func (.func 143) #[ptr X.ab] #[]) (.inr ⟨_, _, _, rfl⟩)
  clear b4
  refine wpAnyH_ready (rs := [8]) (by kernel_rfl) (by simp) ?_
  refine AllReadyH.cons rfl (fun K hK => ?_) AllReadyH.nil
  go_simp
  obtain ⟨h5, r0, r1⟩ := H3.out.ret (B := B) (r := (b1, [ptr X.ab]) :: X.bx) (fun p hp => hp) (fun p hp => by
    have := HB.out
    rcases List.mem_cons.1 hp with rfl | hp
    · dsimp only; omega
    · have := HL.out p hp; omega) .nilFunc (.func (.func 143) #[ptr X.ab] #[])
  refine hK.out _ _ ⟨h5.b (List.mem_cons_self) 0 _ rfl, h5.a0⟩ (fun hHeld => ?_)
  clear hK K
  (try simp only [Act.put, List.setIfInBounds_toArray, List.set_cons_zero, List.set_cons_succ])
  refine wpAnyH_done (by kernel_rfl) ?_ _
  (try go_wp2)
  (try simp only [Exit.inBlock, Exit.then])
  refine bodyPost_ret (v := .agg #[.nilFunc, .func (.func 143) #[ptr X.ab] #[]]) ?hr rfl ?hx
  case hx => exact ⟨_, _, rfl, (h5.pops (r := X.bx) (fun p hp => List.mem_cons_of_mem _ hp)).sg .rNone, ⟨rfl, _, ht⟩, ⟨rfl, rfl, rfl, rfl, rfl, rfl, rfl⟩⟩
  case hr =>
    generalize ((w3.setCell ⟨B, 0, none⟩ .nilFunc).setCell ⟨B, 1, none⟩ (.func (.func 143) #[ptr X.ab] #[])) = W5 at r0 r1 ⊢
    simp [results, Tryz.results119, go_sem, r0, r1]
set_option maxHeartbeats 4000000 in
theorem st_rAgainOn (h : Bo E S0 w0 W σ n X k) (hn : n ≤ 80000) (hk0 : Hid (k.kd = 3)) (hid : k.id < 18446744073709551616) {t : Nat} (ht : X.t = some t) (hw : wasW E.N σ.R k.id = true) {s : Nat} (hsd : Hid (k.id % 64 = s)) (hs : s < E.N.n) (hx : (nxZ (σ.R s).wd 8 ((σ.R s).pd != 0)).2 = 0) (hm : k.id / 64 = (σ.R s).gv) {v : Nat} (hvv : Hid (v = (σ.R s).wd)) :
    Calls Tryz.prog 119 #[ptr X.ab] W (Res E S0 w0 X n (σ, { k with sg := .rChange s v })) := by
  have hmf := mk_func
  obtain ⟨i1, i2, cA⟩ := boxes2 W [ptr X.ab] [.nilFunc, .nilFunc] 152 103 _ rfl
  have H1 := Lib.hid (h.pushs cA [(W.heap.size + 1, [.nilFunc, .nilFunc]), (W.heap.size, [ptr X.ab])] (fun p hp => by
    rcases List.mem_cons.1 hp with rfl | hp
    · exact ⟨Nat.le_succ _, i2⟩
    · rcases List.mem_cons.1 hp with rfl | hp
      · exact ⟨Nat.le_refl _, i1⟩
      · cases hp))
  have HL := Lib.hid (fun p (hp : p ∈ X.bx) => h.blt hp)
  clear h i1 i2 cA
  go_enter Tryz.func119, Tryz.ntmps119
  go_upto_region 1 with (fail)
  change Hid (Bo E S0 w0 ((W.alloc (.cells #[ptr X.ab] 152)).alloc (.cells #[.nilFunc, .nilFunc] 103)) σ n _ k) at H1
  generalize (W.alloc (.cells #[ptr X.ab] 152)).alloc (.cells #[.nilFunc, .nilFunc] 103) = w1 at H1 ⊢
  obtain ⟨b1, hb1⟩ : ∃ b1, b1 = W.heap.size := ⟨_, rfl⟩
  rw [← hb1] at H1 ⊢
  obtain ⟨B, hb2⟩ : ∃ B, B = b1 + 1 := ⟨_, rfl⟩
  rw [← hb2] at H1 ⊢
  have HB := Lib.hid (And.intro hb1 hb2)
  clear hb1 hb2
  have D1 : Ch Nil w1 w1.drew := (Ch.refl _ _).drew
  have H2 := Lib.hid (H1.out.quiet D1)
  refine wp_region_held_drew (S := fun w' => w'.cell? ⟨b1, 0, none⟩ = some (ptr X.ab) ∧ w'.cell? ⟨X.ab, 0, none⟩ = some (ptr X.kb)) (by kernel_rfl) ⟨H2.out.b (List.mem_cons_of_mem _ List.mem_cons_self) 0 _ rfl, H2.out.a0⟩ (fun hHeld => ?_)
  clear D1 H1
  generalize w1.drew = w2 at *
  refine take_at (v := ?_) 0 (some 3) rfl (by kernel_rfl) (by kernel_rfl) (by kernel_rfl) (by kernel_rfl) (fun _ _ _ h => h) (Or.inl ⟨by rfl, ?_⟩) (by assumption) ?_
  rotate_left
  · intro w hSw; (try dsimp only at hSw); go_simp; try (with_reducible rfl)
  (try simp only [Act.put, List.setIfInBounds_toArray, List.set_cons_zero, List.set_cons_succ])
  refine take_at (v := ?_) 1 (some 4) rfl (by kernel_rfl) (by kernel_rfl) (by kernel_rfl) (by kernel_rfl) (fun _ _ _ h => h) (Or.inl ⟨by rfl, ?_⟩) (by assumption) ?_
  rotate_left
  · intro w hSw; (try dsimp only at hSw); go_simp; try (with_reducible rfl)
  (try simp only [Act.put, List.setIfInBounds_toArray, List.set_cons_zero, List.set_cons_succ])
  refine take_at (v := ?_) 2 (some 5) rfl (by kernel_rfl) (by kernel_rfl) (by kernel_rfl) (by kernel_rfl) (fun _ _ _ h => h) (Or.inl ⟨by rfl, ?_⟩) (by assumption) ?_
  rotate_left
  · intro w hSw; (try dsimp only at hSw); go_simp; try (with_reducible rfl)
  (try simp only [Act.put, List.setIfInBounds_toArray, List.set_cons_zero, List.set_cons_succ])
  refine take_at (v := ?_) 3 (some 6) rfl (by kernel_rfl) (by kernel_rfl) (by kernel_rfl) (by kernel_rfl) (fun _ _ _ h => h) (Or.inl ⟨by rfl, ?_⟩) (by assumption) ?_
  rotate_left
  · intro w hSw; (try dsimp only at hSw); go_simp; try (with_reducible rfl)
  (try simp only [Act.put, List.setIfInBounds_toArray, List.set_cons_zero, List.set_cons_succ])
  refine take_at (v := ?_) 4 (some 7) rfl (by kernel_rfl) (by kernel_rfl) (by kernel_rfl) (by kernel_rfl) (fun _ _ _ h => h) (Or.inl ⟨by rfl, ?_⟩) (by assumption) ?_
  rotate_left
  · intro w hSw; (try dsimp only at hSw); go_simp; try (with_reducible rfl)
  (try simp only [Act.put, List.setIfInBounds_toArray, List.set_cons_zero, List.set_cons_succ])
  refine take_at (v := ?_) 5 (some 8) rfl (by kernel_rfl) (by kernel_rfl) (by kernel_rfl) (by kernel_rfl) (fun _ _ _ h => h) (Or.inl ⟨by rfl, ?_⟩) (by assumption) ?_
  rotate_left
  · intro w hSw; (try dsimp only at hSw); go_simp; try (with_reducible rfl)
  (try simp only [Act.put, List.setIfInBounds_toArray, List.set_cons_zero, List.set_cons_succ])
  refine take_at (v := ?_) 6 (some 9) rfl (by kernel_rfl) (by kernel_rfl) (by kernel_rfl) (by kernel_rfl) (fun _ _ _ h => h) (Or.inl ⟨by rfl, ?_⟩) (by assumption) ?_
  rotate_left
  · intro w hSw; (try dsimp only at hSw); go_simp; try (with_reducible rfl)
  (try simp only [Act.put, List.setIfInBounds_toArray, List.set_cons_zero, List.set_cons_succ])
  refine wpAnyH_ready (rs := [7]) (by kernel_rfl) (by simp) ?_
  refine AllReadyH.cons rfl (fun K hK => ?_) AllReadyH.nil
  go_simp
  have LO := H2.out.lookOn (k2 := k) (Q := fun d bx2 t2 => ∃ b2 b3, d = .func (.func 153) #[] #[ptr b2, ptr b3] ∧ bx2 = [(b2, [ptr X.ab]), (b3, [.int .i64 (s : Nat), .int .u64 (v : Nat)])] ∧ t2 = X.t) (by omega) 8 141 143 #[] #[ptr b1] #[ptr X.ab] #[] hid hw hsd hs hx hm en_r_findAgain1 hvv (fun B2 W1 hB2 hW1 => rAgain1 hW1 (List.mem_cons_of_mem _ (List.mem_cons_of_mem _ List.mem_cons_self)))
  refine LO.mono ?_
  clear LO
  rintro e w3 ⟨d, bx2, t2, rfl, hd, h3, ⟨b2, b3, rfl, rfl, rfl⟩, hb2⟩
  have SZ := Lib.hid (show B < w2.heap.size from H2.out.blt (p := (B, [.nilFunc, .nilFunc])) List.mem_cons_self)
  have H3 := Lib.hid h3
  have HB3 := Lib.hid hb2
  refine hK.out _ _ ⟨h3.b (List.mem_append.2 (.inr (List.mem_cons_of_mem _ List.mem_cons_self))) 0 _ rfl, h3.a0⟩ (fun hHeld2 => ?_)
  clear hK K hHeld hHeld2 h3 hb2 hd H2
  (try simp only [Act.put, List.setIfInBounds_toArray, List.set_cons_zero, List.set_cons_succ])
  have b4 := H3.out.bk (B := B) (vs := [.nilFunc, .nilFunc]) (List.mem_append.2 (.inr List.mem_cons_self))
  have x0 := H3.out.b (B := B) (vs := [.nilFunc, .nilFunc]) (List.mem_append.2 (.inr List.mem_cons_self)) 0 _ rfl
  have x1 := H3.out.b (B := B) (vs := [.nilFunc, .nilFunc]) (List.mem_append.2 (.inr List.mem_cons_self)) 1 _ rfl
  have fz := b4.fz
  have st0 := IsFn.store (v := .nilFunc) (.inl rfl)
  have st2 := IsFn.store (v := .func (.func 153) #[] #[ptr b2, ptr b3]) (.inr ⟨_, _, _, rfl⟩)
  clear b4
  refine wpAnyH_ready (rs := [8]) (by kernel_rfl) (by simp) ?_
  refine AllReadyH.cons rfl (fun K hK => ?_) AllReadyH.nil
  go_simp
  obtain ⟨h5, r0, r1⟩ := H3.out.ret (B := B) (r := [(b2, [ptr X.ab]), (b3, [.int .i64 (s : Nat), .int .u64 (v : Nat)])] ++ (b1, [ptr X.ab]) :: X.bx) (fun p hp => by
    rcases List.mem_cons.1 hp with rfl | hp
    · exact List.mem_append.2 (.inr List.mem_cons_self)
    · rcases List.mem_append.1 hp with hp | hp
      · exact List.mem_append.2 (.inl hp)
      · exact List.mem_append.2 (.inr (List.mem_cons_of_mem _ hp))) (fun p hp => by
    have := SZ.out
    have := HB.out
    rcases List.mem_append.1 hp with hp | hp
    · have := HB3.out p hp; omega
    · rcases List.mem_cons.1 hp with rfl | hp
      · dsimp only; omega
      · have := HL.out p hp; omega) .nilFunc (.func (.func 153) #[] #[ptr b2, ptr b3])
  refine hK.out _ _ ⟨h5.b (List.mem_append.2 (.inr List.mem_cons_self)) 0 _ rfl, h5.a0⟩ (fun hHeld => ?_)
  clear hK K
  (try simp only [Act.put, List.setIfInBounds_toArray, List.set_cons_zero, List.set_cons_succ])
  refine wpAnyH_done (by kernel_rfl) ?_ _
  (try go_wp2)
  (try simp only [Exit.inBlock, Exit.then])
  refine bodyPost_ret (v := .agg #[.nilFunc, .func (.func 153) #[] #[ptr b2, ptr b3]]) ?hr rfl ?hx
  case hx => exact ⟨_, { X with bx := [(b2, [ptr X.ab]), (b3, [.int .i64 (s : Nat), .int .u64 (v : Nat)])] }, rfl, (h5.pops (r := [(b2, [ptr X.ab]), (b3, [.int .i64 (s : Nat), .int .u64 (v : Nat)])]) (fun p hp => List.mem_append.2 (.inl hp))).sg (.rChange s v), ⟨b2, b3, rfl, List.mem_cons_self, List.mem_cons_of_mem _ List.mem_cons_self, _, ht⟩, ⟨rfl, rfl, rfl, rfl, rfl, rfl, rfl⟩⟩
  case hr =>
    generalize ((w3.setCell ⟨B, 0, none⟩ .nilFunc).setCell ⟨B, 1, none⟩ (.func (.func 153) #[] #[ptr b2, ptr b3])) = W5 at r0 r1 ⊢
    simp [results, Tryz.results119, go_sem, r0, r1]
set_option maxHeartbeats 4000000 in
theorem st_rFindInv (h : Bo E S0 w0 W σ n X k) (hn : n ≤ 80000) (hk0 : Hid (k.kd = 3)) (hid : k.id < 18446744073709551616) (hw : wasW E.N σ.R k.id = false) :
    Calls Tryz.prog 92 #[ptr X.ab] W (Res E S0 w0 X (n + 1) (σ, refW k 1 .leave)) := by
  have hmf := mk_func
  obtain ⟨i1, i2, cA⟩ := boxes2 W [ptr X.ab] [.nilFunc, .nilFunc] 152 103 _ rfl
  have H1 := Lib.hid (h.pushs cA [(W.heap.size + 1, [.nilFunc, .nilFunc]), (W.heap.size, [ptr X.ab])] (fun p hp => by
    rcases List.mem_cons.1 hp with rfl | hp
    · exact ⟨Nat.le_succ _, i2⟩
    · rcases List.mem_cons.1 hp with rfl | hp
      · exact ⟨Nat.le_refl _, i1⟩
      · cases hp))
  have HL := Lib.hid (fun p (hp : p ∈ X.bx) => h.blt hp)
  clear h i1 i2 cA
  go_enter Tryz.func92, Tryz.ntmps92
  go_upto_region 1 with (fail)
  change Hid (Bo E S0 w0 ((W.alloc (.cells #[ptr X.ab] 152)).alloc (.cells #[.nilFunc, .nilFunc] 103)) σ n _ k) at H1
  generalize (W.alloc (.cells #[ptr X.ab] 152)).alloc (.cells #[.nilFunc, .nilFunc] 103) = w1 at H1 ⊢
  obtain ⟨b1, hb1⟩ : ∃ b1, b1 = W.heap.size := ⟨_, rfl⟩
  rw [← hb1] at H1 ⊢
  obtain ⟨B, hb2⟩ : ∃ B, B = b1 + 1 := ⟨_, rfl⟩
  rw [← hb2] at H1 ⊢
  have HB := Lib.hid (And.intro hb1 hb2)
  clear hb1 hb2
  have D1 : Ch Nil w1 w1.drew := (Ch.refl _ _).drew
  have H2 := Lib.hid (H1.out.quiet D1)
  refine wp_region_held_drew (S := fun w' => w'.cell? ⟨b1, 0, none⟩ = some (ptr X.ab) ∧ w'.cell? ⟨X.ab, 0, none⟩ = some (ptr X.kb)) (by kernel_rfl) ⟨H2.out.b (List.mem_cons_of_mem _ List.mem_cons_self) 0 _ rfl, H2.out.a0⟩ (fun hHeld => ?_)
  clear D1 H1
  generalize w1.drew = w2 at *
  refine take_at (v := ?_) 0 (some 3) rfl (by kernel_rfl) (by kernel_rfl) (by kernel_rfl) (by kernel_rfl) (fun _ _ _ h => h) (Or.inl ⟨by rfl, ?_⟩) (by assumption) ?_
  rotate_left
  · intro w hSw; (try dsimp only at hSw); go_simp; try (with_reducible rfl)
  (try simp only [Act.put, List.setIfInBounds_toArray, List.set_cons_zero, List.set_cons_succ])
  refine take_at (v := ?_) 1 (some 4) rfl (by kernel_rfl) (by kernel_rfl) (by kernel_rfl) (by kernel_rfl) (fun _ _ _ h => h) (Or.inl ⟨by rfl, ?_⟩) (by assumption) ?_
  rotate_left
  · intro w hSw; (try dsimp only at hSw); go_simp; try (with_reducible rfl)
  (try simp only [Act.put, List.setIfInBounds_toArray, List.set_cons_zero, List.set_cons_succ])
  refine take_at (v := ?_) 2 (some 5) rfl (by kernel_rfl) (by kernel_rfl) (by kernel_rfl) (by kernel_rfl) (fun _ _ _ h => h) (Or.inl ⟨by rfl, ?_⟩) (by assumption) ?_
  rotate_left
  · intro w hSw; (try dsimp only at hSw); go_simp; try (with_reducible rfl)
  (try simp only [Act.put, List.setIfInBounds_toArray, List.set_cons_zero, List.set_cons_succ])
  refine take_at (v := ?_) 3 (some 6) rfl (by kernel_rfl) (by kernel_rfl) (by kernel_rfl) (by kernel_rfl) (fun _ _ _ h => h) (Or.inl ⟨by rfl, ?_⟩) (by assumption) ?_
  rotate_left
  · intro w hSw; (try dsimp only at hSw); go_simp; try (with_reducible rfl)
  (try simp only [Act.put, List.setIfInBounds_toArray, List.set_cons_zero, List.set_cons_succ])
  refine take_at (v := ?_) 4 (some 7) rfl (by kernel_rfl) (by kernel_rfl) (by kernel_rfl) (by kernel_rfl) (fun _ _ _ h => h) (Or.inl ⟨by rfl, ?_⟩) (by assumption) ?_
  rotate_left
  · intro w hSw; (try dsimp only at hSw); go_simp; try (with_reducible rfl)
  (try simp only [Act.put, List.setIfInBounds_toArray, List.set_cons_zero, List.set_cons_succ])
  refine take_at (v := ?_) 5 (some 8) rfl (by kernel_rfl) (by kernel_rfl) (by kernel_rfl) (by kernel_rfl) (fun _ _ _ h => h) (Or.inl ⟨by rfl, ?_⟩) (by assumption) ?_
  rotate_left
  · intro w hSw; (try dsimp only at hSw); go_simp; try (with_reducible rfl)
  (try simp only [Act.put, List.setIfInBounds_toArray, List.set_cons_zero, List.set_cons_succ])
  refine take_at (v := ?_) 6 (some 9) rfl (by kernel_rfl) (by kernel_rfl) (by kernel_rfl) (by kernel_rfl) (fun _ _ _ h => h) (Or.inl ⟨by rfl, ?_⟩) (by assumption) ?_
  rotate_left
  · intro w hSw; (try dsimp only at hSw); go_simp; try (with_reducible rfl)
  (try simp only [Act.put, List.setIfInBounds_toArray, List.set_cons_zero, List.set_cons_succ])
  refine take_at (v := ?_) 7 (some 10) rfl (by kernel_rfl) (by kernel_rfl) (by kernel_rfl) (by kernel_rfl) (fun _ _ _ h => h) (Or.inl ⟨by rfl, ?_⟩) (by assumption) ?_
  rotate_left
  · intro w hSw; (try dsimp only at hSw); go_simp; try (with_reducible rfl)
  (try simp only [Act.put, List.setIfInBounds_toArray, List.set_cons_zero, List.set_cons_succ])
  refine take_at (v := ?_) 8 (some 11) rfl (by kernel_rfl) (by kernel_rfl) (by kernel_rfl) (by kernel_rfl) (fun _ _ _ h => h) (Or.inl ⟨by rfl, ?_⟩) (by assumption) ?_
  rotate_left
  · intro w hSw; (try dsimp only at hSw); go_simp; try (with_reducible rfl)
  (try simp only [Act.put, List.setIfInBounds_toArray, List.set_cons_zero, List.set_cons_succ])
  refine take_at (v := ?_) 9 (some 12) rfl (by kernel_rfl) (by kernel_rfl) (by kernel_rfl) (by kernel_rfl) (fun _ _ _ h => h) (Or.inl ⟨by rfl, ?_⟩) (by assumption) ?_
  rotate_left
  · intro w hSw; (try dsimp only at hSw); go_simp; try (with_reducible rfl)
  (try simp only [Act.put, List.setIfInBounds_toArray, List.set_cons_zero, List.set_cons_succ])
  refine wpAnyH_ready (rs := [10]) (by kernel_rfl) (by simp) ?_
  refine AllReadyH.cons rfl (fun K hK => ?_) AllReadyH.nil
  go_simp
  refine (H2.out.lookInv (by omega) 8 _ _ _ _ _ _ hid hw).mono ?_
  rintro e w3 ⟨rfl, h3⟩
  have H3 := Lib.hid h3
  refine hK.out _ _ ⟨h3.b (List.mem_cons_of_mem _ List.mem_cons_self) 0 _ rfl, h3.a0⟩ (fun hHeld2 => ?_)
  clear hK K hHeld
  have hHeld := hHeld2
  clear hHeld2
  (try simp only [Act.put, List.setIfInBounds_toArray, List.set_cons_zero, List.set_cons_succ])
  clear h3 H2 hHeld
  have b4 := H3.out.bk (B := B) (vs := [.nilFunc, .nilFunc]) (List.mem_cons_self)
  have x0 := H3.out.b (B := B) (vs := [.nilFunc, .nilFunc]) (List.mem_cons_self) 0 _ rfl
  have x1 := H3.out.b (B := B) (vs := [.nilFunc, .nilFunc]) (List.mem_cons_self) 1 _ rfl
  have fz := b4.fz
  have st0 := IsFn.store (v := .nilFunc) (.inl rfl)
  have st2 := IsFn.store (v := .func (.func 91) #[ptr X.kb] #[]) (.inr ⟨_, _, _, rfl⟩)
  clear b4
  refine wpAnyH_ready (rs := [11]) (by kernel_rfl) (by simp) ?_
  refine AllReadyH.cons rfl (fun K hK => ?_) AllReadyH.nil
  go_simp
  obtain ⟨h5, r0, r1⟩ := H3.out.ret (B := B) (r := (b1, [ptr X.ab]) :: X.bx) (fun p hp => hp) (fun p hp => by
    have := HB.out
    rcases List.mem_cons.1 hp with rfl | hp
    · dsimp only; omega
    · have := HL.out p hp; omega) .nilFunc (.func (.func 91) #[ptr X.kb] #[])
  refine hK.out _ _ ⟨h5.b (List.mem_cons_self) 0 _ rfl, h5.a0⟩ (fun hHeld => ?_)
  clear hK K
  (try simp only [Act.put, List.setIfInBounds_toArray, List.set_cons_zero, List.set_cons_succ])
  refine wpAnyH_done (by kernel_rfl) ?_ _
  (try go_wp2)
  (try simp only [Exit.inBlock, Exit.then])
  refine bodyPost_ret (v := .agg #[.nilFunc, .func (.func 91) #[ptr X.kb] #[]]) ?hr rfl ?hx
  case hx => exact ⟨_, _, rfl, (h5.pops (r := X.bx) (fun p hp => List.mem_cons_of_mem _ hp)).sg .leave, rfl, ⟨rfl, rfl, rfl, rfl, rfl, rfl, rfl⟩⟩
  case hr =>
    generalize ((w3.setCell ⟨B, 0, none⟩ .nilFunc).setCell ⟨B, 1, none⟩ (.func (.func 91) #[ptr X.kb] #[])) = W5 at r0 r1 ⊢
    simp [results, Tryz.results92, go_sem, r0, r1]
set_option maxHeartbeats 4000000 in
theorem st_rFindRef (h : Bo E S0 w0 W σ n X k) (hn : n ≤ 80000) (hk0 : Hid (k.kd = 3)) (hid : k.id < 18446744073709551616) (hw : wasW E.N σ.R k.id = true) {s : Nat} (hsd : Hid (k.id % 64 = s)) (hs : s < E.N.n) (hx : (nxZ (σ.R s).wd 8 ((σ.R s).pd != 0)).2 ≠ 0) :
    Calls Tryz.prog 92 #[ptr X.ab] W (Res E S0 w0 X (n + 1) (σ, refW k 0 .leave)) := by
  have hmf := mk_func
  obtain ⟨i1, i2, cA⟩ := boxes2 W [ptr X.ab] [.nilFunc, .nilFunc] 152 103 _ rfl
  have H1 := Lib.hid (h.pushs cA [(W.heap.size + 1, [.nilFunc, .nilFunc]), (W.heap.size, [ptr X.ab])] (fun p hp => by
    rcases List.mem_cons.1 hp with rfl | hp
    · exact ⟨Nat.le_succ _, i2⟩
    · rcases List.mem_cons.1 hp with rfl | hp
      · exact ⟨Nat.le_refl _, i1⟩
      · cases hp))
  have HL := Lib.hid (fun p (hp : p ∈ X.bx) => h.blt hp)
  clear h i1 i2 cA
  go_enter Tryz.func92, Tryz.ntmps92
  go_upto_region 1 with (fail)
  change Hid (Bo E S0 w0 ((W.alloc (.cells #[ptr X.ab] 152)).alloc (.cells #[.nilFunc, .nilFunc] 103)) σ n _ k) at H1
  generalize (W.alloc (.cells #[ptr X.ab] 152)).alloc (.cells #[.nilFunc, .nilFunc] 103) = w1 at H1 ⊢
  obtain ⟨b1, hb1⟩ : ∃ b1, b1 = W.heap.size := ⟨_, rfl⟩
  rw [← hb1] at H1 ⊢
  obtain ⟨B, hb2⟩ : ∃ B, B = b1 + 1 := ⟨_, rfl⟩
  rw [← hb2] at H1 ⊢
  have HB := Lib.hid (And.intro hb1 hb2)
  clear hb1 hb2
  have D1 : Ch Nil w1 w1.drew := (Ch.refl _ _).drew
  have H2 := Lib.hid (H1.out.quiet D1)
  refine wp_region_held_drew (S := fun w' => w'.cell? ⟨b1, 0, none⟩ = some (ptr X.ab) ∧ w'.cell? ⟨X.ab, 0, none⟩ = some (ptr X.kb)) (by kernel_rfl) ⟨H2.out.b (List.mem_cons_of_mem _ List.mem_cons_self) 0 _ rfl, H2.out.a0⟩ (fun hHeld => ?_)
  clear D1 H1
  generalize w1.drew = w2 at *
  refine take_at (v := ?_) 0 (some 3) rfl (by kernel_rfl) (by kernel_rfl) (by kernel_rfl) (by kernel_rfl) (fun _ _ _ h => h) (Or.inl ⟨by rfl, ?_⟩) (by assumption) ?_
  rotate_left
  · intro w hSw; (try dsimp only at hSw); go_simp; try (with_reducible rfl)
  (try simp only [Act.put, List.setIfInBounds_toArray, List.set_cons_zero, List.set_cons_succ])
  refine take_at (v := ?_) 1 (some 4) rfl (by kernel_rfl) (by kernel_rfl) (by kernel_rfl) (by kernel_rfl) (fun _ _ _ h => h) (Or.inl ⟨by rfl, ?_⟩) (by assumption) ?_
  rotate_left
  · intro w hSw; (try dsimp only at hSw); go_simp; try (with_reducible rfl)
  (try simp only [Act.put, List.setIfInBounds_toArray, List.set_cons_zero, List.set_cons_succ])
  refine take_at (v := ?_) 2 (some 5) rfl (by kernel_rfl) (by kernel_rfl) (by kernel_rfl) (by kernel_rfl) (fun _ _ _ h => h) (Or.inl ⟨by rfl, ?_⟩) (by assumption) ?_
  rotate_left
  · intro w hSw; (try dsimp only at hSw); go_simp; try (with_reducible rfl)
  (try simp only [Act.put, List.setIfInBounds_toArray, List.set_cons_zero, List.set_cons_succ])
  refine take_at (v := ?_) 3 (some 6) rfl (by kernel_rfl) (by kernel_rfl) (by kernel_rfl) (by kernel_rfl) (fun _ _ _ h => h) (Or.inl ⟨by rfl, ?_⟩) (by assumption) ?_
  rotate_left
  · intro w hSw; (try dsimp only at hSw); go_simp; try (with_reducible rfl)
  (try simp only [Act.put, List.setIfInBounds_toArray, List.set_cons_zero, List.set_cons_succ])
  refine take_at (v := ?_) 4 (some 7) rfl (by kernel_rfl) (by kernel_rfl) (by kernel_rfl) (by kernel_rfl) (fun _ _ _ h => h) (Or.inl ⟨by rfl, ?_⟩) (by assumption) ?_
  rotate_left
  · intro w hSw; (try dsimp only at hSw); go_simp; try (with_reducible rfl)
  (try simp only [Act.put, List.setIfInBounds_toArray, List.set_cons_zero, List.set_cons_succ])
  refine take_at (v := ?_) 5 (some 8) rfl (by kernel_rfl) (by kernel_rfl) (by kernel_rfl) (by kernel_rfl) (fun _ _ _ h => h) (Or.inl ⟨by rfl, ?_⟩) (by assumption) ?_
  rotate_left
  · intro w hSw; (try dsimp only at hSw); go_simp; try (with_reducible rfl)
  (try simp only [Act.put, List.setIfInBounds_toArray, List.set_cons_zero, List.set_cons_succ])
  refine take_at (v := ?_) 6 (some 9) rfl (by kernel_rfl) (by kernel_rfl) (by kernel_rfl) (by kernel_rfl) (fun _ _ _ h => h) (Or.inl ⟨by rfl, ?_⟩) (by assumption) ?_
  rotate_left
  · intro w hSw; (try dsimp only at hSw); go_simp; try (with_reducible rfl)
  (try simp only [Act.put, List.setIfInBounds_toArray, List.set_cons_zero, List.set_cons_succ])
  refine take_at (v := ?_) 7 (some 10) rfl (by kernel_rfl) (by kernel_rfl) (by kernel_rfl) (by kernel_rfl) (fun _ _ _ h => h) (Or.inl ⟨by rfl, ?_⟩) (by assumption) ?_
  rotate_left
  · intro w hSw; (try dsimp only at hSw); go_simp; try (with_reducible rfl)
  (try simp only [Act.put, List.setIfInBounds_toArray, List.set_cons_zero, List.set_cons_succ])
  refine take_at (v := ?_) 8 (some 11) rfl (by kernel_rfl) (by kernel_rfl) (by kernel_rfl) (by kernel_rfl) (fun _ _ _ h => h) (Or.inl ⟨by rfl, ?_⟩) (by assumption) ?_
  rotate_left
  · intro w hSw; (try dsimp only at hSw); go_simp; try (with_reducible rfl)
  (try simp only [Act.put, List.setIfInBounds_toArray, List.set_cons_zero, List.set_cons_succ])
  refine take_at (v := ?_) 9 (some 12) rfl (by kernel_rfl) (by kernel_rfl) (by kernel_rfl) (by kernel_rfl) (fun _ _ _ h => h) (Or.inl ⟨by rfl, ?_⟩) (by assumption) ?_
  rotate_left
  · intro w hSw; (try dsimp only at hSw); go_simp; try (with_reducible rfl)
  (try simp only [Act.put, List.setIfInBounds_toArray, List.set_cons_zero, List.set_cons_succ])
  refine wpAnyH_ready (rs := [10]) (by kernel_rfl) (by simp) ?_
  refine AllReadyH.cons rfl (fun K hK => ?_) AllReadyH.nil
  go_simp
  refine (H2.out.lookRef (by omega) 8 _ _ _ _ _ _ hid hw hsd hs hx).mono ?_
  rintro e w3 ⟨rfl, h3⟩
  have H3 := Lib.hid h3
  refine hK.out _ _ ⟨h3.b (List.mem_cons_of_mem _ List.mem_cons_self) 0 _ rfl, h3.a0⟩ (fun hHeld2 => ?_)
  clear hK K hHeld
  have hHeld := hHeld2
  clear hHeld2
  (try simp only [Act.put, List.setIfInBounds_toArray, List.set_cons_zero, List.set_cons_succ])
  clear h3 H2 hHeld
  have b4 := H3.out.bk (B := B) (vs := [.nilFunc, .nilFunc]) (List.mem_cons_self)
  have x0 := H3.out.b (B := B) (vs := [.nilFunc, .nilFunc]) (List.mem_cons_self) 0 _ rfl
  have x1 := H3.out.b (B := B) (vs := [.nilFunc, .nilFunc]) (List.mem_cons_self) 1 _ rfl
  have fz := b4.fz
  have st0 := IsFn.store (v := .nilFunc) (.inl rfl)
  have st2 := IsFn.store (v := .func (.func 91) #[ptr X.kb] #[]) (.inr ⟨_, _, _, rfl⟩)
  clear b4
  refine wpAnyH_ready (rs := [11]) (by kernel_rfl) (by simp) ?_
  refine AllReadyH.cons rfl (fun K hK => ?_) AllReadyH.nil
  go_simp
  obtain ⟨h5, r0, r1⟩ := H3.out.ret (B := B) (r := (b1, [ptr X.ab]) :: X.bx) (fun p hp => hp) (fun p hp => by
    have := HB.out
    rcases List.mem_cons.1 hp with rfl | hp
    · dsimp only; omega
    · have := HL.out p hp; omega) .nilFunc (.func (.func 91) #[ptr X.kb] #[])
  refine hK.out _ _ ⟨h5.b (List.mem_cons_self) 0 _ rfl, h5.a0⟩ (fun hHeld => ?_)
  clear hK K
  (try simp only [Act.put, List.setIfInBounds_toArray, List.set_cons_zero, List.set_cons_succ])
  refine wpAnyH_done (by kernel_rfl) ?_ _
  (try go_wp2)
  (try simp only [Exit.inBlock, Exit.then])
  refine bodyPost_ret (v := .agg #[.nilFunc, .func (.func 91) #[ptr X.kb] #[]]) ?hr rfl ?hx
  case hx => exact ⟨_, _, rfl, (h5.pops (r := X.bx) (fun p hp => List.mem_cons_of_mem _ hp)).sg .leave, rfl, ⟨rfl, rfl, rfl, rfl, rfl, rfl, rfl⟩⟩
  case hr =>
    generalize ((w3.setCell ⟨B, 0, none⟩ .nilFunc).setCell ⟨B, 1, none⟩ (.func (.func 91) #[ptr X.kb] #[])) = W5 at r0 r1 ⊢
    simp [results, Tryz.results92, go_sem, r0, r1]
set_option maxHeartbeats 4000000 in
theorem st_rFindOld (h : Bo E S0 w0 W σ n X k) (hn : n ≤ 80000) (hk0 : Hid (k.kd = 3)) (hid : k.id < 18446744073709551616) (hw : wasW E.N σ.R k.id = true) {s : Nat} (hsd : Hid (k.id % 64 = s)) (hs : s < E.N.n) (hx : (nxZ (σ.R s).wd 8 ((σ.R s).pd != 0)).2 = 0) (hm : k.id / 64 ≠ (σ.R s).gv) :
    Calls Tryz.prog 92 #[ptr X.ab] W (Res E S0 w0 X (n + 1) (σ, refW k 0 .leave)) := by
  have hmf := mk_func
  obtain ⟨i1, i2, cA⟩ := boxes2 W [ptr X.ab] [.nilFunc, .nilFunc] 152 103 _ rfl
  have H1 := Lib.hid (h.pushs cA [(W.heap.size + 1, [.nilFunc, .nilFunc]), (W.heap.size, [ptr X.ab])] (fun p hp => by
    rcases List.mem_cons.1 hp with rfl | hp
    · exact ⟨Nat.le_succ _, i2⟩
    · rcases List.mem_cons.1 hp with rfl | hp
      · exact ⟨Nat.le_refl _, i1⟩
      · cases hp))
  have HL := Lib.hid (fun p (hp : p ∈ X.bx) => h.blt hp)
  clear h i1 i2 cA
  go_enter Tryz.func92, Tryz.ntmps92
  go_upto_region 1 with (fail)
  change Hid (Bo E S0 w0 ((W.alloc (.cells #[ptr X.ab] 152)).alloc (.cells #[.nilFunc, .nilFunc] 103)) σ n _ k) at H1
  generalize (W.alloc (.cells #[ptr X.ab] 152)).alloc (.cells #[.nilFunc, .nilFunc] 103) = w1 at H1 ⊢
  obtain ⟨b1, hb1⟩ : ∃ b1, b1 = W.heap.size := ⟨_, rfl⟩
  rw [← hb1] at H1 ⊢
  obtain ⟨B, hb2⟩ : ∃ B, B = b1 + 1 := ⟨_, rfl⟩
  rw [← hb2] at H1 ⊢
  have HB := Lib.hid (And.intro hb1 hb2)
  clear hb1 hb2
  have D1 : Ch Nil w1 w1.drew := (Ch.refl _ _).drew
  have H2 := Lib.hid (H1.out.quiet D1)
  refine wp_region_held_drew (S := fun w' => w'.cell? ⟨b1, 0, none⟩ = some (ptr X.ab) ∧ w'.cell? ⟨X.ab, 0, none⟩ = some (ptr X.kb)) (by kernel_rfl) ⟨H2.out.b (List.mem_cons_of_mem _ List.mem_cons_self) 0 _ rfl, H2.out.a0⟩ (fun hHeld => ?_)
  clear D1 H1
  generalize w1.drew = w2 at *
  refine take_at (v := ?_) 0 (some 3) rfl (by kernel_rfl) (by kernel_rfl) (by kernel_rfl) (by kernel_rfl) (fun _ _ _ h => h) (Or.inl ⟨by rfl, ?_⟩) (by assumption) ?_
  rotate_left
  · intro w hSw; (try dsimp only at hSw); go_simp; try (with_reducible rfl)
  (try simp only [Act.put, List.setIfInBounds_toArray, List.set_cons_zero, List.set_cons_succ])
  refine take_at (v := ?_) 1 (some 4) rfl (by kernel_rfl) (by kernel_rfl) (by kernel_rfl) (by kernel_rfl) (fun _ _ _ h => h) (Or.inl ⟨by rfl, ?_⟩) (by assumption) ?_
  rotate_left
  · intro w hSw; (try dsimp only at hSw); go_simp; try (with_reducible rfl)
  (try simp only [Act.put, List.setIfInBounds_toArray, List.set_cons_zero, List.set_cons_succ])
  refine take_at (v := ?_) 2 (some 5) rfl (by kernel_rfl) (by kernel_rfl) (by kernel_rfl) (by kernel_rfl) (fun _ _ _ h => h) (Or.inl ⟨by rfl, ?_⟩) (by assumption) ?_
  rotate_left
  · intro w hSw; (try dsimp only at hSw); go_simp; try (with_reducible rfl)
  (try simp only [Act.put, List.setIfInBounds_toArray, List.set_cons_zero, List.set_cons_succ])
  refine take_at (v := ?_) 3 (some 6) rfl (by kernel_rfl) (by kernel_rfl) (by kernel_rfl) (by kernel_rfl) (fun _ _ _ h => h) (Or.inl ⟨by rfl, ?_⟩) (by assumption) ?_
  rotate_left
  · intro w hSw; (try dsimp only at hSw); go_simp; try (with_reducible rfl)
  (try simp only [Act.put, List.setIfInBounds_toArray, List.set_cons_zero, List.set_cons_succ])
  refine take_at (v := ?_) 4 (some 7) rfl (by kernel_rfl) (by kernel_rfl) (by kernel_rfl) (by kernel_rfl) (fun _ _ _ h => h) (Or.inl ⟨by rfl, ?_⟩) (by assumption) ?_
  rotate_left
  · intro w hSw; (try dsimp only at hSw); go_simp; try (with_reducible rfl)
  (try simp only [Act.put, List.setIfInBounds_toArray, List.set_cons_zero, List.set_cons_succ])
  refine take_at (v := ?_) 5 (some 8) rfl (by kernel_rfl) (by kernel_rfl) (by kernel_rfl) (by kernel_rfl) (fun _ _ _ h => h) (Or.inl ⟨by rfl, ?_⟩) (by assumption) ?_
  rotate_left
  · intro w hSw; (try dsimp only at hSw); go_simp; try (with_reducible rfl)
  (try simp only [Act.put, List.setIfInBounds_toArray, List.set_cons_zero, List.set_cons_succ])
  refine take_at (v := ?_) 6 (some 9) rfl (by kernel_rfl) (by kernel_rfl) (by kernel_rfl) (by kernel_rfl) (fun _ _ _ h => h) (Or.inl ⟨by rfl, ?_⟩) (by assumption) ?_
  rotate_left
  · intro w hSw; (try dsimp only at hSw); go_simp; try (with_reducible rfl)
  (try simp only [Act.put, List.setIfInBounds_toArray, List.set_cons_zero, List.set_cons_succ])
  refine take_at (v := ?_) 7 (some 10) rfl (by kernel_rfl) (by kernel_rfl) (by kernel_rfl) (by kernel_rfl) (fun _ _ _ h => h) (Or.inl ⟨by rfl, ?_⟩) (by assumption) ?_
  rotate_left
  · intro w hSw; (try dsimp only at hSw); go_simp; try (with_reducible rfl)
  (try simp only [Act.put, List.setIfInBounds_toArray, List.set_cons_zero, List.set_cons_succ])
  refine take_at (v := ?_) 8 (some 11) rfl (by kernel_rfl) (by kernel_rfl) (by kernel_rfl) (by kernel_rfl) (fun _ _ _ h => h) (Or.inl ⟨by rfl, ?_⟩) (by assumption) ?_
  rotate_left
  · intro w hSw; (try dsimp only at hSw); go_simp; try (with_reducible rfl)
  (try simp only [Act.put, List.setIfInBounds_toArray, List.set_cons_zero, List.set_cons_succ])
  refine take_at (v := ?_) 9 (some 12) rfl (by kernel_rfl) (by kernel_rfl) (by kernel_rfl) (by kernel_rfl) (fun _ _ _ h => h) (Or.inl ⟨by rfl, ?_⟩) (by assumption) ?_
  rotate_left
  · intro w hSw; (try dsimp only at hSw); go_simp; try (with_reducible rfl)
  (try simp only [Act.put, List.setIfInBounds_toArray, List.set_cons_zero, List.set_cons_succ])
  refine wpAnyH_ready (rs := [10]) (by kernel_rfl) (by simp) ?_
  refine AllReadyH.cons rfl (fun K hK => ?_) AllReadyH.nil
  go_simp
  refine (H2.out.lookOld (by omega) 8 _ _ _ _ _ _ hid hw hsd hs hx hm).mono ?_
  rintro e w3 ⟨rfl, h3⟩
  have H3 := Lib.hid h3
  refine hK.out _ _ ⟨h3.b (List.mem_cons_of_mem _ List.mem_cons_self) 0 _ rfl, h3.a0⟩ (fun hHeld2 => ?_)
  clear hK K hHeld
  have hHeld := hHeld2
  clear hHeld2
  (try simp only [Act.put, List.setIfInBounds_toArray, List.set_cons_zero, List.set_cons_succ])
  clear h3 H2 hHeld
  have b4 := H3.out.bk (B := B) (vs := [.nilFunc, .nilFunc]) (List.mem_cons_self)
  have x0 := H3.out.b (B := B) (vs := [.nilFunc, .nilFunc]) (List.mem_cons_self) 0 _ rfl
  have x1 := H3.out.b (B := B) (vs := [.nilFunc, .nilFunc]) (List.mem_cons_self) 1 _ rfl
  have fz := b4.fz
  have st0 := IsFn.store (v := .nilFunc) (.inl rfl)
  have st2 := IsFn.store (v := .func (.func 91) #[ptr X.kb] #[]) (.inr ⟨_, _, _, rfl⟩)
  clear b4
  refine wpAnyH_ready (rs := [11]) (by kernel_rfl) (by simp) ?_
  refine AllReadyH.cons rfl (fun K hK => ?_) AllReadyH.nil
  go_simp
  obtain ⟨h5, r0, r1⟩ := H3.out.ret (B := B) (r := (b1, [ptr X.ab]) :: X.bx) (fun p hp => hp) (fun p hp => by
    have := HB.out
    rcases List.mem_cons.1 hp with rfl | hp
    · dsimp only; omega
    · have := HL.out p hp; omega) .nilFunc (.func (.func 91) #[ptr X.kb] #[])
  refine hK.out _ _ ⟨h5.b (List.mem_cons_self) 0 _ rfl, h5.a0⟩ (fun hHeld => ?_)
  clear hK K
  (try simp only [Act.put, List.setIfInBounds_toArray, List.set_cons_zero, List.set_cons_succ])
  refine wpAnyH_done (by kernel_rfl) ?_ _
  (try go_wp2)
  (try simp only [Exit.inBlock, Exit.then])
  refine bodyPost_ret (v := .agg #[.nilFunc, .func (.func 91) #[ptr X.kb] #[]]) ?hr rfl ?hx
  case hx => exact ⟨_, _, rfl, (h5.pops (r := X.bx) (fun p hp => List.mem_cons_of_mem _ hp)).sg .leave, rfl, ⟨rfl, rfl, rfl, rfl, rfl, rfl, rfl⟩⟩
  case hr =>
    generalize ((w3.setCell ⟨B, 0, none⟩ .nilFunc).setCell ⟨B, 1, none⟩ (.func (.func 91) #[ptr X.kb] #[])) = W5 at r0 r1 ⊢
    simp [results, Tryz.results92, go_sem, r0, r1]
end
end Go.Proofs.YtnbdafmjcmmfpaaGreat
