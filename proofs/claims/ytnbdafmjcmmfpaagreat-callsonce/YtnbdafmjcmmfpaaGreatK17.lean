import Derived.Test.YtnbdafmjcmmfpaaGreatK16
import Derived.Deep.RegionHeld
/-
  The stages of a Schedule and a Periodic.
-/
namespace Go.Proofs.YtnbdafmjcmmfpaaGreat
open Go.RowKit Verge
attribute [local go_sem] Oper.semAt_some
set_option linter.unusedVariables false
set_option linter.unusedSimpArgs false
section
variable {E : Ee} {S S0 : Nat → Prop} {w0 W W' : World} {σ σ' : Wd} {n n' : Nat} {X X' : Mx} {k k' : Wk} {B : Nat} {r : List (Nat × List Value)}
set_option maxHeartbeats 4000000 in
theorem st_aBegin (h : Bo E S0 w0 W σ n X k) (hn : n ≤ 80000) (hx : X.t = none) :
    Calls Tryz.prog 60 #[ptr X.ab] W (Res E S0 w0 X n (σ, { k with sg := .aEnter })) := by
  have hmf := mk_func
  have H1 := Lib.hid h.box
  have HL := Lib.hid (fun p (hp : p ∈ X.bx) => h.blt hp)
  clear h
  go_enter Tryz.func60, Tryz.ntmps60
  go_upto_region 1 with (fail)
  generalize W.alloc (.cells #[.nilFunc, .nilFunc] 103) = w1 at H1 ⊢
  obtain ⟨B, hB⟩ : ∃ B, B = W.heap.size := ⟨_, rfl⟩
  rw [← hB] at H1 ⊢
  have HB := Lib.hid hB
  clear hB
  go_wp2_with fail
  refine (next_fn _ (.inr ⟨_, _, _, rfl⟩) _).mono ?_
  rintro en w4 ⟨rfl, c4⟩
  have H4 := Lib.hid (H1.out.quiet c4)
  clear c4 H1
  have b4 := H4.out.bk (B := B) (vs := [.nilFunc, .nilFunc]) (List.mem_cons_self)
  have x0 := H4.out.b (B := B) (vs := [.nilFunc, .nilFunc]) (List.mem_cons_self) 0 _ rfl
  have x1 := H4.out.b (B := B) (vs := [.nilFunc, .nilFunc]) (List.mem_cons_self) 1 _ rfl
  have fz := b4.fz
  have st0 := IsFn.store (v := .nilFunc) (.inl rfl)
  have st2 := IsFn.store (v := .func (.func 78) #[ptr X.ab] #[]) (.inr ⟨_, _, _, rfl⟩)
  clear b4
  go_wp2
  obtain ⟨h5, r0, r1⟩ := H4.out.ret (B := B) (r := X.bx) (fun p hp => hp) (fun p hp => by have := HL.out p hp; have := HB.out; omega) .nilFunc (.func (.func 78) #[ptr X.ab] #[])
  (try simp only [Exit.inBlock, Exit.then])
  refine bodyPost_ret (v := .agg #[.nilFunc, .func (.func 78) #[ptr X.ab] #[]]) ?hr rfl ?hx
  case hx => exact ⟨_, _, rfl, h5.sg .aEnter, ⟨rfl, hx⟩, ⟨rfl, rfl, rfl, rfl, rfl, rfl, rfl⟩⟩
  case hr =>
    generalize ((w4.setCell ⟨B, 0, none⟩ .nilFunc).setCell ⟨B, 1, none⟩ (.func (.func 78) #[ptr X.ab] #[])) = W5 at r0 r1 ⊢
    simp [results, Tryz.results60, go_sem, r0, r1]
theorem wrap_over16 (a b : Nat) (ha : a < 18446744073709551616) (hb : b < 18446744073709551616) (h : 18446744073709551616 ≤ a + b) : IntKind.u64.wrap ((a : Int) + (b : Int)) < (a : Int) := by
  rw [IntKind.wrap_u64]; omega
theorem addOk16 (a b : Nat) (h : a + b < 18446744073709551616) (w : World) :
    Calls Tryz.prog 79 #[.int .u64 (a : Nat), .int .u64 (b : Nat)] w fun e w' => e = .returned (.tuple #[.int .u64 ((a + b : Nat) : Int), .int .i64 0]) ∧ w = w' := by
  have hw : IntKind.u64.wrap ((a : Int) + (b : Int)) = ((a + b : Nat) : Int) := by rw [IntKind.wrap_u64]; omega
  have hn : ¬ ((a + b : Nat) : Int) < (a : Int) := by omega
  generalize hc : ((a + b : Nat) : Int) = c at *
  have HC := Lib.hid hc
  clear hc h
  go_enter Tryz.func79, Tryz.ntmps79
  go_wp2
  go_ret2
  exact ⟨rfl, rfl⟩
theorem addOver16 (a b : Nat) (ha : a < 18446744073709551616) (hb : b < 18446744073709551616) (h : 18446744073709551616 ≤ a + b) (w : World) :
    Calls Tryz.prog 79 #[.int .u64 (a : Nat), .int .u64 (b : Nat)] w fun e w' => e = .returned (.tuple #[.int .u64 0, .int .i64 9]) ∧ w = w' := by
  have hw := wrap_over16 a b ha hb h
  clear ha hb h
  go_enter Tryz.func79, Tryz.ntmps79
  go_wp2
  go_ret2
  exact ⟨rfl, rfl⟩
set_option maxHeartbeats 4000000 in
theorem st_aCheck0 (h : Bo E S0 w0 W σ n X k) (hn : n ≤ 80000) (hk : k.kd ≤ 2) (hd : k.d < 18446744073709551616) (h0 : Hid (k.per = 0)) :
    Calls Tryz.prog 61 #[ptr X.ab] W (Res E S0 w0 X (n + 1) (σ, refW k 1 .fin)) := by
  have hmf := mk_func
  have H1 := Lib.hid h.box
  have HL := Lib.hid (fun p (hp : p ∈ X.bx) => h.blt hp)
  clear h
  go_enter Tryz.func61, Tryz.ntmps61
  go_upto_region 1 with (fail)
  generalize W.alloc (.cells #[.nilFunc, .nilFunc] 103) = w1 at H1 ⊢
  obtain ⟨B, hB⟩ : ∃ B, B = W.heap.size := ⟨_, rfl⟩
  rw [← hB] at H1 ⊢
  have HB := Lib.hid hB
  clear hB
  have D1 : Ch Nil w1 w1.drew := (Ch.refl _ _).drew
  have H2 := Lib.hid (H1.out.quiet D1)
  refine wp_region_held_drew (S := fun w' => w'.cell? ⟨X.ab, 0, none⟩ = some (ptr X.kb) ∧ w'.cell? ⟨X.ab, 1, none⟩ = some (.int .u64 (k.per : Nat)) ∧ w'.cell? ⟨X.kb, 5, none⟩ = some (.int .u64 (k.d : Nat))) (by kernel_rfl) ⟨H2.out.a0, H2.out.a1 hk, H2.out.k5⟩ (fun hHeld => ?_)
  clear D1 H1
  generalize w1.drew = w2 at *
  refine take_at (v := ?_) 0 (some 6) rfl (by kernel_rfl) (by kernel_rfl) (by kernel_rfl) (by kernel_rfl) (fun _ _ _ h => h) (Or.inl ⟨by rfl, ?_⟩) (by assumption) ?_
  rotate_left
  · intro w hSw; (try dsimp only at hSw); go_simp; try (with_reducible rfl)
  (try simp only [Act.put, List.setIfInBounds_toArray, List.set_cons_zero, List.set_cons_succ])
  refine take_at (v := ?_) 1 (some 7) rfl (by kernel_rfl) (by kernel_rfl) (by kernel_rfl) (by kernel_rfl) (fun _ _ _ h => h) (Or.inl ⟨by rfl, ?_⟩) (by assumption) ?_
  rotate_left
  · intro w hSw; (try dsimp only at hSw); go_simp; try (with_reducible rfl)
  (try simp only [Act.put, List.setIfInBounds_toArray, List.set_cons_zero, List.set_cons_succ])
  refine take_at (v := ?_) 2 (some 8) rfl (by kernel_rfl) (by kernel_rfl) (by kernel_rfl) (by kernel_rfl) (fun _ _ _ h => h) (Or.inl ⟨by rfl, ?_⟩) (by assumption) ?_
  rotate_left
  · intro w hSw; (try dsimp only at hSw); go_simp; try (with_reducible rfl)
  (try simp only [Act.put, List.setIfInBounds_toArray, List.set_cons_zero, List.set_cons_succ])
  refine take_at (v := ?_) 3 (some 9) rfl (by kernel_rfl) (by kernel_rfl) (by kernel_rfl) (by kernel_rfl) (fun _ _ _ h => h) (Or.inl ⟨by rfl, ?_⟩) (by assumption) ?_
  rotate_left
  · intro w hSw; (try dsimp only at hSw); go_simp; try (with_reducible rfl)
  (try simp only [Act.put, List.setIfInBounds_toArray, List.set_cons_zero, List.set_cons_succ])
  refine take_at (v := ?_) 4 (some 10) rfl (by kernel_rfl) (by kernel_rfl) (by kernel_rfl) (by kernel_rfl) (fun _ _ _ h => h) (Or.inl ⟨by rfl, ?_⟩) (by assumption) ?_
  rotate_left
  · intro w hSw; (try dsimp only at hSw); go_simp; try (with_reducible rfl)
  (try simp only [Act.put, List.setIfInBounds_toArray, List.set_cons_zero, List.set_cons_succ])
  refine take_at (v := ?_) 5 (some 11) rfl (by kernel_rfl) (by kernel_rfl) (by kernel_rfl) (by kernel_rfl) (fun _ _ _ h => h) (Or.inl ⟨by rfl, ?_⟩) (by assumption) ?_
  rotate_left
  · intro w hSw; (try dsimp only at hSw); go_simp; try (with_reducible rfl)
  (try simp only [Act.put, List.setIfInBounds_toArray, List.set_cons_zero, List.set_cons_succ])
  refine take_at (v := ?_) 6 (some 12) rfl (by kernel_rfl) (by kernel_rfl) (by kernel_rfl) (by kernel_rfl) (fun _ _ _ h => h) (Or.inl ⟨by rfl, ?_⟩) (by assumption) ?_
  rotate_left
  · intro w hSw; (try dsimp only at hSw); go_simp; try (with_reducible rfl)
  (try simp only [Act.put, List.setIfInBounds_toArray, List.set_cons_zero, List.set_cons_succ])
  refine take_at (v := ?_) 7 (some 13) rfl (by kernel_rfl) (by kernel_rfl) (by kernel_rfl) (by kernel_rfl) (fun _ _ _ h => h) (Or.inl ⟨by rfl, ?_⟩) (by assumption) ?_
  rotate_left
  · intro w hSw; (try dsimp only at hSw); go_simp; try (with_reducible rfl)
  (try simp only [Act.put, List.setIfInBounds_toArray, List.set_cons_zero, List.set_cons_succ])
  refine take_at (v := ?_) 8 (some 14) rfl (by kernel_rfl) (by kernel_rfl) (by kernel_rfl) (by kernel_rfl) (fun _ _ _ h => h) (Or.inl ⟨by rfl, ?_⟩) (by assumption) ?_
  rotate_left
  · intro w hSw; (try dsimp only at hSw); go_simp; try (with_reducible rfl)
  (try simp only [Act.put, List.setIfInBounds_toArray, List.set_cons_zero, List.set_cons_succ])
  refine take_at (v := ?_) 9 (some 15) rfl (by kernel_rfl) (by kernel_rfl) (by kernel_rfl) (by kernel_rfl) (fun _ _ _ h => h) (Or.inl ⟨by rfl, ?_⟩) (by assumption) ?_
  rotate_left
  · intro w hSw; (try dsimp only at hSw); go_simp; try (with_reducible rfl)
  (try simp only [Act.put, List.setIfInBounds_toArray, List.set_cons_zero, List.set_cons_succ])
  refine take_at (v := ?_) 10 (some 16) rfl (by kernel_rfl) (by kernel_rfl) (by kernel_rfl) (by kernel_rfl) (fun _ _ _ h => h) (Or.inl ⟨by rfl, ?_⟩) (by assumption) ?_
  rotate_left
  · intro w hSw; (try dsimp only at hSw); go_simp; try (with_reducible rfl)
  (try simp only [Act.put, List.setIfInBounds_toArray, List.set_cons_zero, List.set_cons_succ])
  refine take_at (v := ?_) 11 (some 17) rfl (by kernel_rfl) (by kernel_rfl) (by kernel_rfl) (by kernel_rfl) (fun _ _ _ h => h) (Or.inl ⟨by rfl, ?_⟩) (by assumption) ?_
  rotate_left
  · intro w hSw; (try dsimp only at hSw); go_simp; try (with_reducible rfl)
  (try simp only [Act.put, List.setIfInBounds_toArray, List.set_cons_zero, List.set_cons_succ])
  refine wpAnyH_ready (rs := [12]) (by kernel_rfl) (by simp) ?_
  refine AllReadyH.cons rfl (fun K hK => ?_) AllReadyH.nil
  go_simp
  refine (addOk16 k.d k.per (by have := h0.out; omega) _).mono ?_
  rintro e w3 ⟨rfl, rfl⟩
  refine hK.out _ _ hHeld (fun hHeld2 => ?_)
  clear hK K hHeld
  have hHeld := hHeld2
  clear hHeld2
  (try simp only [Act.put, List.setIfInBounds_toArray, List.set_cons_zero, List.set_cons_succ])
  refine take_at (v := ?_) 13 (some 5) rfl (by kernel_rfl) (by kernel_rfl) (by kernel_rfl) (by kernel_rfl) (fun _ _ _ h => h) (Or.inl ⟨by rfl, ?_⟩) (by assumption) ?_
  rotate_left
  · intro w hSw; (try dsimp only at hSw); go_simp; try (with_reducible rfl)
  (try simp only [Act.put, List.setIfInBounds_toArray, List.set_cons_zero, List.set_cons_succ])
  refine take_at (v := ?_) 14 (some 19) rfl (by kernel_rfl) (by kernel_rfl) (by kernel_rfl) (by kernel_rfl) (fun _ _ _ h => h) (Or.inl ⟨by rfl, ?_⟩) (by assumption) ?_
  rotate_left
  · intro w hSw; (try dsimp only at hSw); go_simp; try (with_reducible rfl)
  (try simp only [Act.put, List.setIfInBounds_toArray, List.set_cons_zero, List.set_cons_succ])
  refine take_at (v := ?_) 15 (some 20) rfl (by kernel_rfl) (by kernel_rfl) (by kernel_rfl) (by kernel_rfl) (fun _ _ _ h => h) (Or.inl ⟨by rfl, ?_⟩) (by assumption) ?_
  rotate_left
  · intro w hSw; (try dsimp only at hSw); go_simp; try (with_reducible rfl)
  (try simp only [Act.put, List.setIfInBounds_toArray, List.set_cons_zero, List.set_cons_succ])
  refine take_at (v := ?_) 16 (some 3) rfl (by kernel_rfl) (by kernel_rfl) (by kernel_rfl) (by kernel_rfl) (fun _ _ _ h => h) (Or.inl ⟨by rfl, ?_⟩) (by assumption) ?_
  rotate_left
  · intro w hSw; (try dsimp only at hSw); go_simp; try (with_reducible rfl)
  (try simp only [Act.put, List.setIfInBounds_toArray, List.set_cons_zero, List.set_cons_succ])
  refine take_at (v := ?_) 17 (some 4) rfl (by kernel_rfl) (by kernel_rfl) (by kernel_rfl) (by kernel_rfl) (fun _ _ _ h => h) (Or.inl ⟨by rfl, ?_⟩) (by assumption) ?_
  rotate_left
  · intro w hSw; (try dsimp only at hSw); go_simp; try (with_reducible rfl)
  (try simp only [Act.put, List.setIfInBounds_toArray, List.set_cons_zero, List.set_cons_succ])
  refine wpAnyH_done (by kernel_rfl) ?_ _
  have c1 := H2.out.a1 hk
  clear hHeld
  rw [h0.out] at c1
  go_upto_region 3 with (fail)
  clear c1
  have D1 : Ch Nil w2 w2.drew := (Ch.refl _ _).drew
  have HX := Lib.hid (H2.out.quiet D1)
  refine wp_region_held_drew (S := fun w' => w'.cell? ⟨X.ab, 0, none⟩ = some (ptr X.kb)) (by kernel_rfl) HX.out.a0 (fun hHeld => ?_)
  clear D1 H2
  generalize w2.drew = w7 at *
  refine take_at (v := ?_) 0 (some 30) rfl (by kernel_rfl) (by kernel_rfl) (by kernel_rfl) (by kernel_rfl) (fun _ _ _ h => h) (Or.inl ⟨by rfl, ?_⟩) (by assumption) ?_
  rotate_left
  · intro w hSw; (try dsimp only at hSw); go_simp; try (with_reducible rfl)
  (try simp only [Act.put, List.setIfInBounds_toArray, List.set_cons_zero, List.set_cons_succ])
  refine take_at (v := ?_) 1 (some 31) rfl (by kernel_rfl) (by kernel_rfl) (by kernel_rfl) (by kernel_rfl) (fun _ _ _ h => h) (Or.inl ⟨by rfl, ?_⟩) (by assumption) ?_
  rotate_left
  · intro w hSw; (try dsimp only at hSw); go_simp; try (with_reducible rfl)
  (try simp only [Act.put, List.setIfInBounds_toArray, List.set_cons_zero, List.set_cons_succ])
  refine take_at (v := ?_) 2 (some 32) rfl (by kernel_rfl) (by kernel_rfl) (by kernel_rfl) (by kernel_rfl) (fun _ _ _ h => h) (Or.inl ⟨by rfl, ?_⟩) (by assumption) ?_
  rotate_left
  · intro w hSw; (try dsimp only at hSw); go_simp; try (with_reducible rfl)
  (try simp only [Act.put, List.setIfInBounds_toArray, List.set_cons_zero, List.set_cons_succ])
  refine take_at (v := ?_) 3 (some 33) rfl (by kernel_rfl) (by kernel_rfl) (by kernel_rfl) (by kernel_rfl) (fun _ _ _ h => h) (Or.inl ⟨by rfl, ?_⟩) (by assumption) ?_
  rotate_left
  · intro w hSw; (try dsimp only at hSw); go_simp; try (with_reducible rfl)
  (try simp only [Act.put, List.setIfInBounds_toArray, List.set_cons_zero, List.set_cons_succ])
  refine take_at (v := ?_) 4 (some 34) rfl (by kernel_rfl) (by kernel_rfl) (by kernel_rfl) (by kernel_rfl) (fun _ _ _ h => h) (Or.inl ⟨by rfl, ?_⟩) (by assumption) ?_
  rotate_left
  · intro w hSw; (try dsimp only at hSw); go_simp; try (with_reducible rfl)
  (try simp only [Act.put, List.setIfInBounds_toArray, List.set_cons_zero, List.set_cons_succ])
  refine take_at (v := ?_) 5 (some 35) rfl (by kernel_rfl) (by kernel_rfl) (by kernel_rfl) (by kernel_rfl) (fun _ _ _ h => h) (Or.inl ⟨by rfl, ?_⟩) (by assumption) ?_
  rotate_left
  · intro w hSw; (try dsimp only at hSw); go_simp; try (with_reducible rfl)
  (try simp only [Act.put, List.setIfInBounds_toArray, List.set_cons_zero, List.set_cons_succ])
  refine take_at (v := ?_) 6 (some 36) rfl (by kernel_rfl) (by kernel_rfl) (by kernel_rfl) (by kernel_rfl) (fun _ _ _ h => h) (Or.inl ⟨by rfl, ?_⟩) (by assumption) ?_
  rotate_left
  · intro w hSw; (try dsimp only at hSw); go_simp; try (with_reducible rfl)
  (try simp only [Act.put, List.setIfInBounds_toArray, List.set_cons_zero, List.set_cons_succ])
  refine take_at (v := ?_) 7 (some 37) rfl (by kernel_rfl) (by kernel_rfl) (by kernel_rfl) (by kernel_rfl) (fun _ _ _ h => h) (Or.inl ⟨by rfl, ?_⟩) (by assumption) ?_
  rotate_left
  · intro w hSw; (try dsimp only at hSw); go_simp; try (with_reducible rfl)
  (try simp only [Act.put, List.setIfInBounds_toArray, List.set_cons_zero, List.set_cons_succ])
  refine take_at (v := ?_) 8 (some 38) rfl (by kernel_rfl) (by kernel_rfl) (by kernel_rfl) (by kernel_rfl) (fun _ _ _ h => h) (Or.inl ⟨by rfl, ?_⟩) (by assumption) ?_
  rotate_left
  · intro w hSw; (try dsimp only at hSw); go_simp; try (with_reducible rfl)
  (try simp only [Act.put, List.setIfInBounds_toArray, List.set_cons_zero, List.set_cons_succ])
  refine wpAnyH_ready (rs := [9]) (by kernel_rfl) (by simp) ?_
  refine AllReadyH.cons rfl (fun K hK => ?_) AllReadyH.nil
  go_simp
  refine (HX.out.refuse (by omega) 1 _ _ _).mono ?_
  rintro e w8 ⟨rfl, h8⟩
  have H8 := Lib.hid h8
  refine hK.out _ _ h8.a0 (fun hHeld2 => ?_)
  clear hK K hHeld
  have hHeld := hHeld2
  clear hHeld2
  (try simp only [Act.put, List.setIfInBounds_toArray, List.set_cons_zero, List.set_cons_succ])
  clear h8 hHeld HX
  have b4 := H8.out.bk (B := B) (vs := [.nilFunc, .nilFunc]) (List.mem_cons_self)
  have x0 := H8.out.b (B := B) (vs := [.nilFunc, .nilFunc]) (List.mem_cons_self) 0 _ rfl
  have x1 := H8.out.b (B := B) (vs := [.nilFunc, .nilFunc]) (List.mem_cons_self) 1 _ rfl
  have fz := b4.fz
  have st0 := IsFn.store (v := .nilFunc) (.inl rfl)
  have st2 := IsFn.store (v := .func (.func 81) #[ptr X.kb] #[]) (.inr ⟨_, _, _, rfl⟩)
  clear b4
  refine wpAnyH_ready (rs := [10]) (by kernel_rfl) (by simp) ?_
  refine AllReadyH.cons rfl (fun K hK => ?_) AllReadyH.nil
  go_simp
  obtain ⟨h5, r0, r1⟩ := H8.out.ret (B := B) (r := X.bx) (fun p hp => hp) (fun p hp => by have := HL.out p hp; have := HB.out; omega) .nilFunc (.func (.func 81) #[ptr X.kb] #[])
  refine hK.out _ _ h5.a0 (fun hHeld => ?_)
  clear hK K
  (try simp only [Act.put, List.setIfInBounds_toArray, List.set_cons_zero, List.set_cons_succ])
  refine wpAnyH_done (by kernel_rfl) ?_ _
  (try go_wp2)
  (try simp only [Exit.inBlock, Exit.then])
  refine bodyPost_ret (v := .agg #[.nilFunc, .func (.func 81) #[ptr X.kb] #[]]) ?hr rfl ?hx
  case hx => exact ⟨_, _, rfl, h5.sg .fin, rfl, ⟨rfl, rfl, rfl, rfl, rfl, rfl, rfl⟩⟩
  case hr =>
    generalize ((w8.setCell ⟨B, 0, none⟩ .nilFunc).setCell ⟨B, 1, none⟩ (.func (.func 81) #[ptr X.kb] #[])) = W5 at r0 r1 ⊢
    simp [results, Tryz.results61, go_sem, r0, r1]
set_option maxHeartbeats 4000000 in
theorem st_aCheck9 (h : Bo E S0 w0 W σ n X k) (hn : n ≤ 80000) (hk : k.kd ≤ 2) (hd : k.d < 18446744073709551616) (hp : k.per < 18446744073709551616) (h0 : k.per ≠ 0) (ho : 18446744073709551616 ≤ k.d + k.per) :
    Calls Tryz.prog 61 #[ptr X.ab] W (Res E S0 w0 X (n + 1) (σ, refW k 1 .fin)) := by
  have hmf := mk_func
  have H1 := Lib.hid h.box
  have HL := Lib.hid (fun p (hp : p ∈ X.bx) => h.blt hp)
  clear h
  go_enter Tryz.func61, Tryz.ntmps61
  go_upto_region 1 with (fail)
  generalize W.alloc (.cells #[.nilFunc, .nilFunc] 103) = w1 at H1 ⊢
  obtain ⟨B, hB⟩ : ∃ B, B = W.heap.size := ⟨_, rfl⟩
  rw [← hB] at H1 ⊢
  have HB := Lib.hid hB
  clear hB
  have D1 : Ch Nil w1 w1.drew := (Ch.refl _ _).drew
  have H2 := Lib.hid (H1.out.quiet D1)
  refine wp_region_held_drew (S := fun w' => w'.cell? ⟨X.ab, 0, none⟩ = some (ptr X.kb) ∧ w'.cell? ⟨X.ab, 1, none⟩ = some (.int .u64 (k.per : Nat)) ∧ w'.cell? ⟨X.kb, 5, none⟩ = some (.int .u64 (k.d : Nat))) (by kernel_rfl) ⟨H2.out.a0, H2.out.a1 hk, H2.out.k5⟩ (fun hHeld => ?_)
  clear D1 H1
  generalize w1.drew = w2 at *
  refine take_at (v := ?_) 0 (some 6) rfl (by kernel_rfl) (by kernel_rfl) (by kernel_rfl) (by kernel_rfl) (fun _ _ _ h => h) (Or.inl ⟨by rfl, ?_⟩) (by assumption) ?_
  rotate_left
  · intro w hSw; (try dsimp only at hSw); go_simp; try (with_reducible rfl)
  (try simp only [Act.put, List.setIfInBounds_toArray, List.set_cons_zero, List.set_cons_succ])
  refine take_at (v := ?_) 1 (some 7) rfl (by kernel_rfl) (by kernel_rfl) (by kernel_rfl) (by kernel_rfl) (fun _ _ _ h => h) (Or.inl ⟨by rfl, ?_⟩) (by assumption) ?_
  rotate_left
  · intro w hSw; (try dsimp only at hSw); go_simp; try (with_reducible rfl)
  (try simp only [Act.put, List.setIfInBounds_toArray, List.set_cons_zero, List.set_cons_succ])
  refine take_at (v := ?_) 2 (some 8) rfl (by kernel_rfl) (by kernel_rfl) (by kernel_rfl) (by kernel_rfl) (fun _ _ _ h => h) (Or.inl ⟨by rfl, ?_⟩) (by assumption) ?_
  rotate_left
  · intro w hSw; (try dsimp only at hSw); go_simp; try (with_reducible rfl)
  (try simp only [Act.put, List.setIfInBounds_toArray, List.set_cons_zero, List.set_cons_succ])
  refine take_at (v := ?_) 3 (some 9) rfl (by kernel_rfl) (by kernel_rfl) (by kernel_rfl) (by kernel_rfl) (fun _ _ _ h => h) (Or.inl ⟨by rfl, ?_⟩) (by assumption) ?_
  rotate_left
  · intro w hSw; (try dsimp only at hSw); go_simp; try (with_reducible rfl)
  (try simp only [Act.put, List.setIfInBounds_toArray, List.set_cons_zero, List.set_cons_succ])
  refine take_at (v := ?_) 4 (some 10) rfl (by kernel_rfl) (by kernel_rfl) (by kernel_rfl) (by kernel_rfl) (fun _ _ _ h => h) (Or.inl ⟨by rfl, ?_⟩) (by assumption) ?_
  rotate_left
  · intro w hSw; (try dsimp only at hSw); go_simp; try (with_reducible rfl)
  (try simp only [Act.put, List.setIfInBounds_toArray, List.set_cons_zero, List.set_cons_succ])
  refine take_at (v := ?_) 5 (some 11) rfl (by kernel_rfl) (by kernel_rfl) (by kernel_rfl) (by kernel_rfl) (fun _ _ _ h => h) (Or.inl ⟨by rfl, ?_⟩) (by assumption) ?_
  rotate_left
  · intro w hSw; (try dsimp only at hSw); go_simp; try (with_reducible rfl)
  (try simp only [Act.put, List.setIfInBounds_toArray, List.set_cons_zero, List.set_cons_succ])
  refine take_at (v := ?_) 6 (some 12) rfl (by kernel_rfl) (by kernel_rfl) (by kernel_rfl) (by kernel_rfl) (fun _ _ _ h => h) (Or.inl ⟨by rfl, ?_⟩) (by assumption) ?_
  rotate_left
  · intro w hSw; (try dsimp only at hSw); go_simp; try (with_reducible rfl)
  (try simp only [Act.put, List.setIfInBounds_toArray, List.set_cons_zero, List.set_cons_succ])
  refine take_at (v := ?_) 7 (some 13) rfl (by kernel_rfl) (by kernel_rfl) (by kernel_rfl) (by kernel_rfl) (fun _ _ _ h => h) (Or.inl ⟨by rfl, ?_⟩) (by assumption) ?_
  rotate_left
  · intro w hSw; (try dsimp only at hSw); go_simp; try (with_reducible rfl)
  (try simp only [Act.put, List.setIfInBounds_toArray, List.set_cons_zero, List.set_cons_succ])
  refine take_at (v := ?_) 8 (some 14) rfl (by kernel_rfl) (by kernel_rfl) (by kernel_rfl) (by kernel_rfl) (fun _ _ _ h => h) (Or.inl ⟨by rfl, ?_⟩) (by assumption) ?_
  rotate_left
  · intro w hSw; (try dsimp only at hSw); go_simp; try (with_reducible rfl)
  (try simp only [Act.put, List.setIfInBounds_toArray, List.set_cons_zero, List.set_cons_succ])
  refine take_at (v := ?_) 9 (some 15) rfl (by kernel_rfl) (by kernel_rfl) (by kernel_rfl) (by kernel_rfl) (fun _ _ _ h => h) (Or.inl ⟨by rfl, ?_⟩) (by assumption) ?_
  rotate_left
  · intro w hSw; (try dsimp only at hSw); go_simp; try (with_reducible rfl)
  (try simp only [Act.put, List.setIfInBounds_toArray, List.set_cons_zero, List.set_cons_succ])
  refine take_at (v := ?_) 10 (some 16) rfl (by kernel_rfl) (by kernel_rfl) (by kernel_rfl) (by kernel_rfl) (fun _ _ _ h => h) (Or.inl ⟨by rfl, ?_⟩) (by assumption) ?_
  rotate_left
  · intro w hSw; (try dsimp only at hSw); go_simp; try (with_reducible rfl)
  (try simp only [Act.put, List.setIfInBounds_toArray, List.set_cons_zero, List.set_cons_succ])
  refine take_at (v := ?_) 11 (some 17) rfl (by kernel_rfl) (by kernel_rfl) (by kernel_rfl) (by kernel_rfl) (fun _ _ _ h => h) (Or.inl ⟨by rfl, ?_⟩) (by assumption) ?_
  rotate_left
  · intro w hSw; (try dsimp only at hSw); go_simp; try (with_reducible rfl)
  (try simp only [Act.put, List.setIfInBounds_toArray, List.set_cons_zero, List.set_cons_succ])
  refine wpAnyH_ready (rs := [12]) (by kernel_rfl) (by simp) ?_
  refine AllReadyH.cons rfl (fun K hK => ?_) AllReadyH.nil
  go_simp
  refine (addOver16 k.d k.per hd hp ho _).mono ?_
  rintro e w3 ⟨rfl, rfl⟩
  refine hK.out _ _ hHeld (fun hHeld2 => ?_)
  clear hK K hHeld
  have hHeld := hHeld2
  clear hHeld2
  (try simp only [Act.put, List.setIfInBounds_toArray, List.set_cons_zero, List.set_cons_succ])
  refine take_at (v := ?_) 13 (some 5) rfl (by kernel_rfl) (by kernel_rfl) (by kernel_rfl) (by kernel_rfl) (fun _ _ _ h => h) (Or.inl ⟨by rfl, ?_⟩) (by assumption) ?_
  rotate_left
  · intro w hSw; (try dsimp only at hSw); go_simp; try (with_reducible rfl)
  (try simp only [Act.put, List.setIfInBounds_toArray, List.set_cons_zero, List.set_cons_succ])
  refine take_at (v := ?_) 14 (some 19) rfl (by kernel_rfl) (by kernel_rfl) (by kernel_rfl) (by kernel_rfl) (fun _ _ _ h => h) (Or.inl ⟨by rfl, ?_⟩) (by assumption) ?_
  rotate_left
  · intro w hSw; (try dsimp only at hSw); go_simp; try (with_reducible rfl)
  (try simp only [Act.put, List.setIfInBounds_toArray, List.set_cons_zero, List.set_cons_succ])
  refine take_at (v := ?_) 15 (some 20) rfl (by kernel_rfl) (by kernel_rfl) (by kernel_rfl) (by kernel_rfl) (fun _ _ _ h => h) (Or.inl ⟨by rfl, ?_⟩) (by assumption) ?_
  rotate_left
  · intro w hSw; (try dsimp only at hSw); go_simp; try (with_reducible rfl)
  (try simp only [Act.put, List.setIfInBounds_toArray, List.set_cons_zero, List.set_cons_succ])
  refine take_at (v := ?_) 16 (some 3) rfl (by kernel_rfl) (by kernel_rfl) (by kernel_rfl) (by kernel_rfl) (fun _ _ _ h => h) (Or.inl ⟨by rfl, ?_⟩) (by assumption) ?_
  rotate_left
  · intro w hSw; (try dsimp only at hSw); go_simp; try (with_reducible rfl)
  (try simp only [Act.put, List.setIfInBounds_toArray, List.set_cons_zero, List.set_cons_succ])
  refine take_at (v := ?_) 17 (some 4) rfl (by kernel_rfl) (by kernel_rfl) (by kernel_rfl) (by kernel_rfl) (fun _ _ _ h => h) (Or.inl ⟨by rfl, ?_⟩) (by assumption) ?_
  rotate_left
  · intro w hSw; (try dsimp only at hSw); go_simp; try (with_reducible rfl)
  (try simp only [Act.put, List.setIfInBounds_toArray, List.set_cons_zero, List.set_cons_succ])
  refine wpAnyH_done (by kernel_rfl) ?_ _
  have c1 := H2.out.a1 hk
  clear hHeld
  have hz : ((k.per : Int) == 0) = false := by rw [beq_eq_false_iff_ne]; omega
  clear ho hp hd h0
  go_upto_region 3 with (fail)
  clear c1
  have D1 : Ch Nil w2 w2.drew := (Ch.refl _ _).drew
  have HX := Lib.hid (H2.out.quiet D1)
  refine wp_region_held_drew (S := fun w' => w'.cell? ⟨X.ab, 0, none⟩ = some (ptr X.kb)) (by kernel_rfl) HX.out.a0 (fun hHeld => ?_)
  clear D1 H2
  generalize w2.drew = w7 at *
  refine take_at (v := ?_) 0 (some 30) rfl (by kernel_rfl) (by kernel_rfl) (by kernel_rfl) (by kernel_rfl) (fun _ _ _ h => h) (Or.inl ⟨by rfl, ?_⟩) (by assumption) ?_
  rotate_left
  · intro w hSw; (try dsimp only at hSw); go_simp; try (with_reducible rfl)
  (try simp only [Act.put, List.setIfInBounds_toArray, List.set_cons_zero, List.set_cons_succ])
  refine take_at (v := ?_) 1 (some 31) rfl (by kernel_rfl) (by kernel_rfl) (by kernel_rfl) (by kernel_rfl) (fun _ _ _ h => h) (Or.inl ⟨by rfl, ?_⟩) (by assumption) ?_
  rotate_left
  · intro w hSw; (try dsimp only at hSw); go_simp; try (with_reducible rfl)
  (try simp only [Act.put, List.setIfInBounds_toArray, List.set_cons_zero, List.set_cons_succ])
  refine take_at (v := ?_) 2 (some 32) rfl (by kernel_rfl) (by kernel_rfl) (by kernel_rfl) (by kernel_rfl) (fun _ _ _ h => h) (Or.inl ⟨by rfl, ?_⟩) (by assumption) ?_
  rotate_left
  · intro w hSw; (try dsimp only at hSw); go_simp; try (with_reducible rfl)
  (try simp only [Act.put, List.setIfInBounds_toArray, List.set_cons_zero, List.set_cons_succ])
  refine take_at (v := ?_) 3 (some 33) rfl (by kernel_rfl) (by kernel_rfl) (by kernel_rfl) (by kernel_rfl) (fun _ _ _ h => h) (Or.inl ⟨by rfl, ?_⟩) (by assumption) ?_
  rotate_left
  · intro w hSw; (try dsimp only at hSw); go_simp; try (with_reducible rfl)
  (try simp only [Act.put, List.setIfInBounds_toArray, List.set_cons_zero, List.set_cons_succ])
  refine take_at (v := ?_) 4 (some 34) rfl (by kernel_rfl) (by kernel_rfl) (by kernel_rfl) (by kernel_rfl) (fun _ _ _ h => h) (Or.inl ⟨by rfl, ?_⟩) (by assumption) ?_
  rotate_left
  · intro w hSw; (try dsimp only at hSw); go_simp; try (with_reducible rfl)
  (try simp only [Act.put, List.setIfInBounds_toArray, List.set_cons_zero, List.set_cons_succ])
  refine take_at (v := ?_) 5 (some 35) rfl (by kernel_rfl) (by kernel_rfl) (by kernel_rfl) (by kernel_rfl) (fun _ _ _ h => h) (Or.inl ⟨by rfl, ?_⟩) (by assumption) ?_
  rotate_left
  · intro w hSw; (try dsimp only at hSw); go_simp; try (with_reducible rfl)
  (try simp only [Act.put, List.setIfInBounds_toArray, List.set_cons_zero, List.set_cons_succ])
  refine take_at (v := ?_) 6 (some 36) rfl (by kernel_rfl) (by kernel_rfl) (by kernel_rfl) (by kernel_rfl) (fun _ _ _ h => h) (Or.inl ⟨by rfl, ?_⟩) (by assumption) ?_
  rotate_left
  · intro w hSw; (try dsimp only at hSw); go_simp; try (with_reducible rfl)
  (try simp only [Act.put, List.setIfInBounds_toArray, List.set_cons_zero, List.set_cons_succ])
  refine take_at (v := ?_) 7 (some 37) rfl (by kernel_rfl) (by kernel_rfl) (by kernel_rfl) (by kernel_rfl) (fun _ _ _ h => h) (Or.inl ⟨by rfl, ?_⟩) (by assumption) ?_
  rotate_left
  · intro w hSw; (try dsimp only at hSw); go_simp; try (with_reducible rfl)
  (try simp only [Act.put, List.setIfInBounds_toArray, List.set_cons_zero, List.set_cons_succ])
  refine take_at (v := ?_) 8 (some 38) rfl (by kernel_rfl) (by kernel_rfl) (by kernel_rfl) (by kernel_rfl) (fun _ _ _ h => h) (Or.inl ⟨by rfl, ?_⟩) (by assumption) ?_
  rotate_left
  · intro w hSw; (try dsimp only at hSw); go_simp; try (with_reducible rfl)
  (try simp only [Act.put, List.setIfInBounds_toArray, List.set_cons_zero, List.set_cons_succ])
  refine wpAnyH_ready (rs := [9]) (by kernel_rfl) (by simp) ?_
  refine AllReadyH.cons rfl (fun K hK => ?_) AllReadyH.nil
  go_simp
  refine (HX.out.refuse (by omega) 1 _ _ _).mono ?_
  rintro e w8 ⟨rfl, h8⟩
  have H8 := Lib.hid h8
  refine hK.out _ _ h8.a0 (fun hHeld2 => ?_)
  clear hK K hHeld
  have hHeld := hHeld2
  clear hHeld2
  (try simp only [Act.put, List.setIfInBounds_toArray, List.set_cons_zero, List.set_cons_succ])
  clear h8 hHeld HX
  have b4 := H8.out.bk (B := B) (vs := [.nilFunc, .nilFunc]) (List.mem_cons_self)
  have x0 := H8.out.b (B := B) (vs := [.nilFunc, .nilFunc]) (List.mem_cons_self) 0 _ rfl
  have x1 := H8.out.b (B := B) (vs := [.nilFunc, .nilFunc]) (List.mem_cons_self) 1 _ rfl
  have fz := b4.fz
  have st0 := IsFn.store (v := .nilFunc) (.inl rfl)
  have st2 := IsFn.store (v := .func (.func 81) #[ptr X.kb] #[]) (.inr ⟨_, _, _, rfl⟩)
  clear b4
  refine wpAnyH_ready (rs := [10]) (by kernel_rfl) (by simp) ?_
  refine AllReadyH.cons rfl (fun K hK => ?_) AllReadyH.nil
  go_simp
  obtain ⟨h5, r0, r1⟩ := H8.out.ret (B := B) (r := X.bx) (fun p hp => hp) (fun p hp => by have := HL.out p hp; have := HB.out; omega) .nilFunc (.func (.func 81) #[ptr X.kb] #[])
  refine hK.out _ _ h5.a0 (fun hHeld => ?_)
  clear hK K
  (try simp only [Act.put, List.setIfInBounds_toArray, List.set_cons_zero, List.set_cons_succ])
  refine wpAnyH_done (by kernel_rfl) ?_ _
  (try go_wp2)
  (try simp only [Exit.inBlock, Exit.then])
  refine bodyPost_ret (v := .agg #[.nilFunc, .func (.func 81) #[ptr X.kb] #[]]) ?hr rfl ?hx
  case hx => exact ⟨_, _, rfl, h5.sg .fin, rfl, ⟨rfl, rfl, rfl, rfl, rfl, rfl, rfl⟩⟩
  case hr =>
    generalize ((w8.setCell ⟨B, 0, none⟩ .nilFunc).setCell ⟨B, 1, none⟩ (.func (.func 81) #[ptr X.kb] #[])) = W5 at r0 r1 ⊢
    simp [results, Tryz.results61, go_sem, r0, r1]
set_option maxHeartbeats 4000000 in
theorem st_aCheckY (h : Bo E S0 w0 W σ n X k) (hn : n ≤ 80000) (hk : k.kd ≤ 2) (hx : X.t = none) (h0 : k.per ≠ 0) (ho : k.d + k.per < 18446744073709551616) :
    Calls Tryz.prog 61 #[ptr X.ab] W (Res E S0 w0 X n (σ, { k with sg := .aEnter })) := by
  have hmf := mk_func
  have H1 := Lib.hid h.box
  have HL := Lib.hid (fun p (hp : p ∈ X.bx) => h.blt hp)
  clear h
  go_enter Tryz.func61, Tryz.ntmps61
  go_upto_region 1 with (fail)
  generalize W.alloc (.cells #[.nilFunc, .nilFunc] 103) = w1 at H1 ⊢
  obtain ⟨B, hB⟩ : ∃ B, B = W.heap.size := ⟨_, rfl⟩
  rw [← hB] at H1 ⊢
  have HB := Lib.hid hB
  clear hB
  have D1 : Ch Nil w1 w1.drew := (Ch.refl _ _).drew
  have H2 := Lib.hid (H1.out.quiet D1)
  refine wp_region_held_drew (S := fun w' => w'.cell? ⟨X.ab, 0, none⟩ = some (ptr X.kb) ∧ w'.cell? ⟨X.ab, 1, none⟩ = some (.int .u64 (k.per : Nat)) ∧ w'.cell? ⟨X.kb, 5, none⟩ = some (.int .u64 (k.d : Nat))) (by kernel_rfl) ⟨H2.out.a0, H2.out.a1 hk, H2.out.k5⟩ (fun hHeld => ?_)
  clear D1 H1
  generalize w1.drew = w2 at *
  refine take_at (v := ?_) 0 (some 6) rfl (by kernel_rfl) (by kernel_rfl) (by kernel_rfl) (by kernel_rfl) (fun _ _ _ h => h) (Or.inl ⟨by rfl, ?_⟩) (by assumption) ?_
  rotate_left
  · intro w hSw; (try dsimp only at hSw); go_simp; try (with_reducible rfl)
  (try simp only [Act.put, List.setIfInBounds_toArray, List.set_cons_zero, List.set_cons_succ])
  refine take_at (v := ?_) 1 (some 7) rfl (by kernel_rfl) (by kernel_rfl) (by kernel_rfl) (by kernel_rfl) (fun _ _ _ h => h) (Or.inl ⟨by rfl, ?_⟩) (by assumption) ?_
  rotate_left
  · intro w hSw; (try dsimp only at hSw); go_simp; try (with_reducible rfl)
  (try simp only [Act.put, List.setIfInBounds_toArray, List.set_cons_zero, List.set_cons_succ])
  refine take_at (v := ?_) 2 (some 8) rfl (by kernel_rfl) (by kernel_rfl) (by kernel_rfl) (by kernel_rfl) (fun _ _ _ h => h) (Or.inl ⟨by rfl, ?_⟩) (by assumption) ?_
  rotate_left
  · intro w hSw; (try dsimp only at hSw); go_simp; try (with_reducible rfl)
  (try simp only [Act.put, List.setIfInBounds_toArray, List.set_cons_zero, List.set_cons_succ])
  refine take_at (v := ?_) 3 (some 9) rfl (by kernel_rfl) (by kernel_rfl) (by kernel_rfl) (by kernel_rfl) (fun _ _ _ h => h) (Or.inl ⟨by rfl, ?_⟩) (by assumption) ?_
  rotate_left
  · intro w hSw; (try dsimp only at hSw); go_simp; try (with_reducible rfl)
  (try simp only [Act.put, List.setIfInBounds_toArray, List.set_cons_zero, List.set_cons_succ])
  refine take_at (v := ?_) 4 (some 10) rfl (by kernel_rfl) (by kernel_rfl) (by kernel_rfl) (by kernel_rfl) (fun _ _ _ h => h) (Or.inl ⟨by rfl, ?_⟩) (by assumption) ?_
  rotate_left
  · intro w hSw; (try dsimp only at hSw); go_simp; try (with_reducible rfl)
  (try simp only [Act.put, List.setIfInBounds_toArray, List.set_cons_zero, List.set_cons_succ])
  refine take_at (v := ?_) 5 (some 11) rfl (by kernel_rfl) (by kernel_rfl) (by kernel_rfl) (by kernel_rfl) (fun _ _ _ h => h) (Or.inl ⟨by rfl, ?_⟩) (by assumption) ?_
  rotate_left
  · intro w hSw; (try dsimp only at hSw); go_simp; try (with_reducible rfl)
  (try simp only [Act.put, List.setIfInBounds_toArray, List.set_cons_zero, List.set_cons_succ])
  refine take_at (v := ?_) 6 (some 12) rfl (by kernel_rfl) (by kernel_rfl) (by kernel_rfl) (by kernel_rfl) (fun _ _ _ h => h) (Or.inl ⟨by rfl, ?_⟩) (by assumption) ?_
  rotate_left
  · intro w hSw; (try dsimp only at hSw); go_simp; try (with_reducible rfl)
  (try simp only [Act.put, List.setIfInBounds_toArray, List.set_cons_zero, List.set_cons_succ])
  refine take_at (v := ?_) 7 (some 13) rfl (by kernel_rfl) (by kernel_rfl) (by kernel_rfl) (by kernel_rfl) (fun _ _ _ h => h) (Or.inl ⟨by rfl, ?_⟩) (by assumption) ?_
  rotate_left
  · intro w hSw; (try dsimp only at hSw); go_simp; try (with_reducible rfl)
  (try simp only [Act.put, List.setIfInBounds_toArray, List.set_cons_zero, List.set_cons_succ])
  refine take_at (v := ?_) 8 (some 14) rfl (by kernel_rfl) (by kernel_rfl) (by kernel_rfl) (by kernel_rfl) (fun _ _ _ h => h) (Or.inl ⟨by rfl, ?_⟩) (by assumption) ?_
  rotate_left
  · intro w hSw; (try dsimp only at hSw); go_simp; try (with_reducible rfl)
  (try simp only [Act.put, List.setIfInBounds_toArray, List.set_cons_zero, List.set_cons_succ])
  refine take_at (v := ?_) 9 (some 15) rfl (by kernel_rfl) (by kernel_rfl) (by kernel_rfl) (by kernel_rfl) (fun _ _ _ h => h) (Or.inl ⟨by rfl, ?_⟩) (by assumption) ?_
  rotate_left
  · intro w hSw; (try dsimp only at hSw); go_simp; try (with_reducible rfl)
  (try simp only [Act.put, List.setIfInBounds_toArray, List.set_cons_zero, List.set_cons_succ])
  refine take_at (v := ?_) 10 (some 16) rfl (by kernel_rfl) (by kernel_rfl) (by kernel_rfl) (by kernel_rfl) (fun _ _ _ h => h) (Or.inl ⟨by rfl, ?_⟩) (by assumption) ?_
  rotate_left
  · intro w hSw; (try dsimp only at hSw); go_simp; try (with_reducible rfl)
  (try simp only [Act.put, List.setIfInBounds_toArray, List.set_cons_zero, List.set_cons_succ])
  refine take_at (v := ?_) 11 (some 17) rfl (by kernel_rfl) (by kernel_rfl) (by kernel_rfl) (by kernel_rfl) (fun _ _ _ h => h) (Or.inl ⟨by rfl, ?_⟩) (by assumption) ?_
  rotate_left
  · intro w hSw; (try dsimp only at hSw); go_simp; try (with_reducible rfl)
  (try simp only [Act.put, List.setIfInBounds_toArray, List.set_cons_zero, List.set_cons_succ])
  refine wpAnyH_ready (rs := [12]) (by kernel_rfl) (by simp) ?_
  refine AllReadyH.cons rfl (fun K hK => ?_) AllReadyH.nil
  go_simp
  refine (addOk16 k.d k.per ho _).mono ?_
  rintro e w3 ⟨rfl, rfl⟩
  refine hK.out _ _ hHeld (fun hHeld2 => ?_)
  clear hK K hHeld
  have hHeld := hHeld2
  clear hHeld2
  (try simp only [Act.put, List.setIfInBounds_toArray, List.set_cons_zero, List.set_cons_succ])
  refine take_at (v := ?_) 13 (some 5) rfl (by kernel_rfl) (by kernel_rfl) (by kernel_rfl) (by kernel_rfl) (fun _ _ _ h => h) (Or.inl ⟨by rfl, ?_⟩) (by assumption) ?_
  rotate_left
  · intro w hSw; (try dsimp only at hSw); go_simp; try (with_reducible rfl)
  (try simp only [Act.put, List.setIfInBounds_toArray, List.set_cons_zero, List.set_cons_succ])
  refine take_at (v := ?_) 14 (some 19) rfl (by kernel_rfl) (by kernel_rfl) (by kernel_rfl) (by kernel_rfl) (fun _ _ _ h => h) (Or.inl ⟨by rfl, ?_⟩) (by assumption) ?_
  rotate_left
  · intro w hSw; (try dsimp only at hSw); go_simp; try (with_reducible rfl)
  (try simp only [Act.put, List.setIfInBounds_toArray, List.set_cons_zero, List.set_cons_succ])
  refine take_at (v := ?_) 15 (some 20) rfl (by kernel_rfl) (by kernel_rfl) (by kernel_rfl) (by kernel_rfl) (fun _ _ _ h => h) (Or.inl ⟨by rfl, ?_⟩) (by assumption) ?_
  rotate_left
  · intro w hSw; (try dsimp only at hSw); go_simp; try (with_reducible rfl)
  (try simp only [Act.put, List.setIfInBounds_toArray, List.set_cons_zero, List.set_cons_succ])
  refine take_at (v := ?_) 16 (some 3) rfl (by kernel_rfl) (by kernel_rfl) (by kernel_rfl) (by kernel_rfl) (fun _ _ _ h => h) (Or.inl ⟨by rfl, ?_⟩) (by assumption) ?_
  rotate_left
  · intro w hSw; (try dsimp only at hSw); go_simp; try (with_reducible rfl)
  (try simp only [Act.put, List.setIfInBounds_toArray, List.set_cons_zero, List.set_cons_succ])
  refine take_at (v := ?_) 17 (some 4) rfl (by kernel_rfl) (by kernel_rfl) (by kernel_rfl) (by kernel_rfl) (fun _ _ _ h => h) (Or.inl ⟨by rfl, ?_⟩) (by assumption) ?_
  rotate_left
  · intro w hSw; (try dsimp only at hSw); go_simp; try (with_reducible rfl)
  (try simp only [Act.put, List.setIfInBounds_toArray, List.set_cons_zero, List.set_cons_succ])
  refine wpAnyH_done (by kernel_rfl) ?_ _
  have c1 := H2.out.a1 hk
  clear hHeld
  have hz : ((k.per : Int) == 0) = false := by rw [beq_eq_false_iff_ne]; omega
  clear ho h0
  go_wp2_with fail
  refine (next_fn _ (.inr ⟨_, _, _, rfl⟩) _).mono ?_
  rintro en w4 ⟨rfl, c4⟩
  have H4 := Lib.hid (H2.out.quiet c4)
  clear c4 H2
  have b4 := H4.out.bk (B := B) (vs := [.nilFunc, .nilFunc]) (List.mem_cons_self)
  have x0 := H4.out.b (B := B) (vs := [.nilFunc, .nilFunc]) (List.mem_cons_self) 0 _ rfl
  have x1 := H4.out.b (B := B) (vs := [.nilFunc, .nilFunc]) (List.mem_cons_self) 1 _ rfl
  have fz := b4.fz
  have st0 := IsFn.store (v := .nilFunc) (.inl rfl)
  have st2 := IsFn.store (v := .func (.func 78) #[ptr X.ab] #[]) (.inr ⟨_, _, _, rfl⟩)
  clear b4
  go_wp2
  obtain ⟨h5, r0, r1⟩ := H4.out.ret (B := B) (r := X.bx) (fun p hp => hp) (fun p hp => by have := HL.out p hp; have := HB.out; omega) .nilFunc (.func (.func 78) #[ptr X.ab] #[])
  (try simp only [Exit.inBlock, Exit.then])
  refine bodyPost_ret (v := .agg #[.nilFunc, .func (.func 78) #[ptr X.ab] #[]]) ?hr rfl ?hx
  case hx => exact ⟨_, _, rfl, h5.sg .aEnter, ⟨rfl, hx⟩, ⟨rfl, rfl, rfl, rfl, rfl, rfl, rfl⟩⟩
  case hr =>
    generalize ((w4.setCell ⟨B, 0, none⟩ .nilFunc).setCell ⟨B, 1, none⟩ (.func (.func 78) #[ptr X.ab] #[])) = W5 at r0 r1 ⊢
    simp [results, Tryz.results61, go_sem, r0, r1]
set_option maxHeartbeats 4000000 in
theorem st_aEnter (h : Bo E S0 w0 W σ n X k) (hn : n ≤ 80000) (hx : X.t = none) :
    Calls Tryz.prog 78 #[ptr X.ab] W (Res E S0 w0 X (n + 1) ({ σ with i := σ.i + 1 }, { k with sg := .aAsk })) := by
  have hmf := mk_func
  have H1 := Lib.hid h.box
  have HL := Lib.hid (fun p (hp : p ∈ X.bx) => h.blt hp)
  clear h
  go_enter Tryz.func78, Tryz.ntmps78
  go_upto_region 1 with (fail)
  generalize W.alloc (.cells #[.nilFunc, .nilFunc] 103) = w1 at H1 ⊢
  obtain ⟨B, hB⟩ : ∃ B, B = W.heap.size := ⟨_, rfl⟩
  rw [← hB] at H1 ⊢
  have HB := Lib.hid hB
  clear hB
  have c0 := H1.out.a0
  have c1 := H1.out.k0
  go_wp2_with fail
  clear c0 c1
  refine (H1.out.enter (by omega)).mono ?_
  rintro en w2 ⟨rfl, h2⟩
  have H2 := Lib.hid h2
  clear h2 H1
  go_wp2_with fail
  refine (next_fn _ (.inr ⟨_, _, _, rfl⟩) _).mono ?_
  rintro en w4 ⟨rfl, c4⟩
  have H4 := Lib.hid (H2.out.quiet c4)
  clear c4 H2
  have b4 := H4.out.bk (B := B) (vs := [.nilFunc, .nilFunc]) (List.mem_cons_self)
  have x0 := H4.out.b (B := B) (vs := [.nilFunc, .nilFunc]) (List.mem_cons_self) 0 _ rfl
  have x1 := H4.out.b (B := B) (vs := [.nilFunc, .nilFunc]) (List.mem_cons_self) 1 _ rfl
  have fz := b4.fz
  have st0 := IsFn.store (v := .nilFunc) (.inl rfl)
  have st2 := IsFn.store (v := .func (.func 88) #[ptr X.ab] #[]) (.inr ⟨_, _, _, rfl⟩)
  clear b4
  go_wp2
  obtain ⟨h5, r0, r1⟩ := H4.out.ret (B := B) (r := X.bx) (fun p hp => hp) (fun p hp => by have := HL.out p hp; have := HB.out; omega) .nilFunc (.func (.func 88) #[ptr X.ab] #[])
  (try simp only [Exit.inBlock, Exit.then])
  refine bodyPost_ret (v := .agg #[.nilFunc, .func (.func 88) #[ptr X.ab] #[]]) ?hr rfl ?hx
  case hx => exact ⟨_, _, rfl, h5.sg .aAsk, ⟨rfl, hx⟩, ⟨rfl, rfl, rfl, rfl, rfl, rfl, rfl⟩⟩
  case hr =>
    generalize ((w4.setCell ⟨B, 0, none⟩ .nilFunc).setCell ⟨B, 1, none⟩ (.func (.func 88) #[ptr X.ab] #[])) = W5 at r0 r1 ⊢
    simp [results, Tryz.results78, go_sem, r0, r1]
set_option maxHeartbeats 4000000 in
theorem st_rEnter (h : Bo E S0 w0 W σ n X k) (hn : n ≤ 80000) :
    Calls Tryz.prog 62 #[ptr X.ab] W (Res E S0 w0 X (n + 1) ({ σ with i := σ.i + 1 }, { k with sg := .rBegin })) := by
  have hmf := mk_func
  have H1 := Lib.hid h.box
  have HL := Lib.hid (fun p (hp : p ∈ X.bx) => h.blt hp)
  clear h
  go_enter Tryz.func62, Tryz.ntmps62
  go_upto_region 1 with (fail)
  generalize W.alloc (.cells #[.nilFunc, .nilFunc] 103) = w1 at H1 ⊢
  obtain ⟨B, hB⟩ : ∃ B, B = W.heap.size := ⟨_, rfl⟩
  rw [← hB] at H1 ⊢
  have HB := Lib.hid hB
  clear hB
  have c0 := H1.out.a0
  have c1 := H1.out.k0
  go_wp2_with fail
  clear c0 c1
  refine (H1.out.enter (by omega)).mono ?_
  rintro en w2 ⟨rfl, h2⟩
  have H2 := Lib.hid h2
  clear h2 H1
  go_wp2_with fail
  refine (next_fn _ (.inr ⟨_, _, _, rfl⟩) _).mono ?_
  rintro en w4 ⟨rfl, c4⟩
  have H4 := Lib.hid (H2.out.quiet c4)
  clear c4 H2
  have b4 := H4.out.bk (B := B) (vs := [.nilFunc, .nilFunc]) (List.mem_cons_self)
  have x0 := H4.out.b (B := B) (vs := [.nilFunc, .nilFunc]) (List.mem_cons_self) 0 _ rfl
  have x1 := H4.out.b (B := B) (vs := [.nilFunc, .nilFunc]) (List.mem_cons_self) 1 _ rfl
  have fz := b4.fz
  have st0 := IsFn.store (v := .nilFunc) (.inl rfl)
  have st2 := IsFn.store (v := .func (.func 83) #[ptr X.ab] #[]) (.inr ⟨_, _, _, rfl⟩)
  clear b4
  go_wp2
  obtain ⟨h5, r0, r1⟩ := H4.out.ret (B := B) (r := X.bx) (fun p hp => hp) (fun p hp => by have := HL.out p hp; have := HB.out; omega) .nilFunc (.func (.func 83) #[ptr X.ab] #[])
  (try simp only [Exit.inBlock, Exit.then])
  refine bodyPost_ret (v := .agg #[.nilFunc, .func (.func 83) #[ptr X.ab] #[]]) ?hr rfl ?hx
  case hx => exact ⟨_, _, rfl, h5.sg .rBegin, rfl, ⟨rfl, rfl, rfl, rfl, rfl, rfl, rfl⟩⟩
  case hr =>
    generalize ((w4.setCell ⟨B, 0, none⟩ .nilFunc).setCell ⟨B, 1, none⟩ (.func (.func 83) #[ptr X.ab] #[])) = W5 at r0 r1 ⊢
    simp [results, Tryz.results62, go_sem, r0, r1]
set_option maxHeartbeats 4000000 in
theorem st_aAskNo (h : Bo E S0 w0 W σ n X k) (hn : n ≤ 80000) (hc : σ.cl = true) :
    Calls Tryz.prog 88 #[ptr X.ab] W (Res E S0 w0 X (n + 1) (σ, refW k 3 .leave)) := by
  have hmf := mk_func
  have H1 := Lib.hid h.box
  have HL := Lib.hid (fun p (hp : p ∈ X.bx) => h.blt hp)
  clear h
  go_enter Tryz.func88, Tryz.ntmps88
  go_upto_region 1 with (fail)
  generalize W.alloc (.cells #[.nilFunc, .nilFunc] 103) = w1 at H1 ⊢
  obtain ⟨B, hB⟩ : ∃ B, B = W.heap.size := ⟨_, rfl⟩
  rw [← hB] at H1 ⊢
  have HB := Lib.hid hB
  clear hB
  have c0 := H1.out.a0
  have c1 := H1.out.k0
  go_wp2_with fail
  clear c0 c1
  refine (H1.out.closed true (Lib.hid hc)).mono ?_
  rintro en w2 ⟨rfl, h2⟩
  have H2 := Lib.hid h2
  clear h2 H1
  go_upto_region 2 with (fail)
  have D1 : Ch Nil w2 w2.drew := (Ch.refl _ _).drew
  have HX := Lib.hid (H2.out.quiet D1)
  refine wp_region_held_drew (S := fun w' => w'.cell? ⟨X.ab, 0, none⟩ = some (ptr X.kb)) (by kernel_rfl) HX.out.a0 (fun hHeld => ?_)
  clear D1 H2
  generalize w2.drew = w7 at *
  refine take_at (v := ?_) 0 (some 11) rfl (by kernel_rfl) (by kernel_rfl) (by kernel_rfl) (by kernel_rfl) (fun _ _ _ h => h) (Or.inl ⟨by rfl, ?_⟩) (by assumption) ?_
  rotate_left
  · intro w hSw; (try dsimp only at hSw); go_simp; try (with_reducible rfl)
  (try simp only [Act.put, List.setIfInBounds_toArray, List.set_cons_zero, List.set_cons_succ])
  refine take_at (v := ?_) 1 (some 12) rfl (by kernel_rfl) (by kernel_rfl) (by kernel_rfl) (by kernel_rfl) (fun _ _ _ h => h) (Or.inl ⟨by rfl, ?_⟩) (by assumption) ?_
  rotate_left
  · intro w hSw; (try dsimp only at hSw); go_simp; try (with_reducible rfl)
  (try simp only [Act.put, List.setIfInBounds_toArray, List.set_cons_zero, List.set_cons_succ])
  refine take_at (v := ?_) 2 (some 13) rfl (by kernel_rfl) (by kernel_rfl) (by kernel_rfl) (by kernel_rfl) (fun _ _ _ h => h) (Or.inl ⟨by rfl, ?_⟩) (by assumption) ?_
  rotate_left
  · intro w hSw; (try dsimp only at hSw); go_simp; try (with_reducible rfl)
  (try simp only [Act.put, List.setIfInBounds_toArray, List.set_cons_zero, List.set_cons_succ])
  refine take_at (v := ?_) 3 (some 14) rfl (by kernel_rfl) (by kernel_rfl) (by kernel_rfl) (by kernel_rfl) (fun _ _ _ h => h) (Or.inl ⟨by rfl, ?_⟩) (by assumption) ?_
  rotate_left
  · intro w hSw; (try dsimp only at hSw); go_simp; try (with_reducible rfl)
  (try simp only [Act.put, List.setIfInBounds_toArray, List.set_cons_zero, List.set_cons_succ])
  refine take_at (v := ?_) 4 (some 15) rfl (by kernel_rfl) (by kernel_rfl) (by kernel_rfl) (by kernel_rfl) (fun _ _ _ h => h) (Or.inl ⟨by rfl, ?_⟩) (by assumption) ?_
  rotate_left
  · intro w hSw; (try dsimp only at hSw); go_simp; try (with_reducible rfl)
  (try simp only [Act.put, List.setIfInBounds_toArray, List.set_cons_zero, List.set_cons_succ])
  refine take_at (v := ?_) 5 (some 16) rfl (by kernel_rfl) (by kernel_rfl) (by kernel_rfl) (by kernel_rfl) (fun _ _ _ h => h) (Or.inl ⟨by rfl, ?_⟩) (by assumption) ?_
  rotate_left
  · intro w hSw; (try dsimp only at hSw); go_simp; try (with_reducible rfl)
  (try simp only [Act.put, List.setIfInBounds_toArray, List.set_cons_zero, List.set_cons_succ])
  refine take_at (v := ?_) 6 (some 17) rfl (by kernel_rfl) (by kernel_rfl) (by kernel_rfl) (by kernel_rfl) (fun _ _ _ h => h) (Or.inl ⟨by rfl, ?_⟩) (by assumption) ?_
  rotate_left
  · intro w hSw; (try dsimp only at hSw); go_simp; try (with_reducible rfl)
  (try simp only [Act.put, List.setIfInBounds_toArray, List.set_cons_zero, List.set_cons_succ])
  refine take_at (v := ?_) 7 (some 18) rfl (by kernel_rfl) (by kernel_rfl) (by kernel_rfl) (by kernel_rfl) (fun _ _ _ h => h) (Or.inl ⟨by rfl, ?_⟩) (by assumption) ?_
  rotate_left
  · intro w hSw; (try dsimp only at hSw); go_simp; try (with_reducible rfl)
  (try simp only [Act.put, List.setIfInBounds_toArray, List.set_cons_zero, List.set_cons_succ])
  refine take_at (v := ?_) 8 (some 19) rfl (by kernel_rfl) (by kernel_rfl) (by kernel_rfl) (by kernel_rfl) (fun _ _ _ h => h) (Or.inl ⟨by rfl, ?_⟩) (by assumption) ?_
  rotate_left
  · intro w hSw; (try dsimp only at hSw); go_simp; try (with_reducible rfl)
  (try simp only [Act.put, List.setIfInBounds_toArray, List.set_cons_zero, List.set_cons_succ])
  refine wpAnyH_ready (rs := [9]) (by kernel_rfl) (by simp) ?_
  refine AllReadyH.cons rfl (fun K hK => ?_) AllReadyH.nil
  go_simp
  refine (HX.out.refuse (by omega) 3 _ _ _).mono ?_
  rintro e w8 ⟨rfl, h8⟩
  have H8 := Lib.hid h8
  refine hK.out _ _ h8.a0 (fun hHeld2 => ?_)
  clear hK K hHeld
  have hHeld := hHeld2
  clear hHeld2
  (try simp only [Act.put, List.setIfInBounds_toArray, List.set_cons_zero, List.set_cons_succ])
  clear h8 hHeld HX
  have b4 := H8.out.bk (B := B) (vs := [.nilFunc, .nilFunc]) (List.mem_cons_self)
  have x0 := H8.out.b (B := B) (vs := [.nilFunc, .nilFunc]) (List.mem_cons_self) 0 _ rfl
  have x1 := H8.out.b (B := B) (vs := [.nilFunc, .nilFunc]) (List.mem_cons_self) 1 _ rfl
  have fz := b4.fz
  have st0 := IsFn.store (v := .nilFunc) (.inl rfl)
  have st2 := IsFn.store (v := .func (.func 91) #[ptr X.kb] #[]) (.inr ⟨_, _, _, rfl⟩)
  clear b4
  refine wpAnyH_ready (rs := [10]) (by kernel_rfl) (by simp) ?_
  refine AllReadyH.cons rfl (fun K hK => ?_) AllReadyH.nil
  go_simp
  obtain ⟨h5, r0, r1⟩ := H8.out.ret (B := B) (r := X.bx) (fun p hp => hp) (fun p hp => by have := HL.out p hp; have := HB.out; omega) .nilFunc (.func (.func 91) #[ptr X.kb] #[])
  refine hK.out _ _ h5.a0 (fun hHeld => ?_)
  clear hK K
  (try simp only [Act.put, List.setIfInBounds_toArray, List.set_cons_zero, List.set_cons_succ])
  refine wpAnyH_done (by kernel_rfl) ?_ _
  (try go_wp2)
  (try simp only [Exit.inBlock, Exit.then])
  refine bodyPost_ret (v := .agg #[.nilFunc, .func (.func 91) #[ptr X.kb] #[]]) ?hr rfl ?hx
  case hx => exact ⟨_, _, rfl, h5.sg .leave, rfl, ⟨rfl, rfl, rfl, rfl, rfl, rfl, rfl⟩⟩
  case hr =>
    generalize ((w8.setCell ⟨B, 0, none⟩ .nilFunc).setCell ⟨B, 1, none⟩ (.func (.func 91) #[ptr X.kb] #[])) = W5 at r0 r1 ⊢
    simp [results, Tryz.results88, go_sem, r0, r1]
set_option maxHeartbeats 4000000 in
theorem st_rBeginNo (h : Bo E S0 w0 W σ n X k) (hn : n ≤ 80000) (hc : σ.cl = true) :
    Calls Tryz.prog 83 #[ptr X.ab] W (Res E S0 w0 X (n + 1) (σ, refW k 3 .leave)) := by
  have hmf := mk_func
  have H1 := Lib.hid h.box
  have HL := Lib.hid (fun p (hp : p ∈ X.bx) => h.blt hp)
  clear h
  go_enter Tryz.func83, Tryz.ntmps83
  go_upto_region 1 with (fail)
  generalize W.alloc (.cells #[.nilFunc, .nilFunc] 103) = w1 at H1 ⊢
  obtain ⟨B, hB⟩ : ∃ B, B = W.heap.size := ⟨_, rfl⟩
  rw [← hB] at H1 ⊢
  have HB := Lib.hid hB
  clear hB
  have c0 := H1.out.a0
  have c1 := H1.out.k0
  go_wp2_with fail
  clear c0 c1
  refine (H1.out.closed true (Lib.hid hc)).mono ?_
  rintro en w2 ⟨rfl, h2⟩
  have H2 := Lib.hid h2
  clear h2 H1
  go_upto_region 2 with (fail)
  have D1 : Ch Nil w2 w2.drew := (Ch.refl _ _).drew
  have HX := Lib.hid (H2.out.quiet D1)
  refine wp_region_held_drew (S := fun w' => w'.cell? ⟨X.ab, 0, none⟩ = some (ptr X.kb)) (by kernel_rfl) HX.out.a0 (fun hHeld => ?_)
  clear D1 H2
  generalize w2.drew = w7 at *
  refine take_at (v := ?_) 0 (some 11) rfl (by kernel_rfl) (by kernel_rfl) (by kernel_rfl) (by kernel_rfl) (fun _ _ _ h => h) (Or.inl ⟨by rfl, ?_⟩) (by assumption) ?_
  rotate_left
  · intro w hSw; (try dsimp only at hSw); go_simp; try (with_reducible rfl)
  (try simp only [Act.put, List.setIfInBounds_toArray, List.set_cons_zero, List.set_cons_succ])
  refine take_at (v := ?_) 1 (some 12) rfl (by kernel_rfl) (by kernel_rfl) (by kernel_rfl) (by kernel_rfl) (fun _ _ _ h => h) (Or.inl ⟨by rfl, ?_⟩) (by assumption) ?_
  rotate_left
  · intro w hSw; (try dsimp only at hSw); go_simp; try (with_reducible rfl)
  (try simp only [Act.put, List.setIfInBounds_toArray, List.set_cons_zero, List.set_cons_succ])
  refine take_at (v := ?_) 2 (some 13) rfl (by kernel_rfl) (by kernel_rfl) (by kernel_rfl) (by kernel_rfl) (fun _ _ _ h => h) (Or.inl ⟨by rfl, ?_⟩) (by assumption) ?_
  rotate_left
  · intro w hSw; (try dsimp only at hSw); go_simp; try (with_reducible rfl)
  (try simp only [Act.put, List.setIfInBounds_toArray, List.set_cons_zero, List.set_cons_succ])
  refine take_at (v := ?_) 3 (some 14) rfl (by kernel_rfl) (by kernel_rfl) (by kernel_rfl) (by kernel_rfl) (fun _ _ _ h => h) (Or.inl ⟨by rfl, ?_⟩) (by assumption) ?_
  rotate_left
  · intro w hSw; (try dsimp only at hSw); go_simp; try (with_reducible rfl)
  (try simp only [Act.put, List.setIfInBounds_toArray, List.set_cons_zero, List.set_cons_succ])
  refine take_at (v := ?_) 4 (some 15) rfl (by kernel_rfl) (by kernel_rfl) (by kernel_rfl) (by kernel_rfl) (fun _ _ _ h => h) (Or.inl ⟨by rfl, ?_⟩) (by assumption) ?_
  rotate_left
  · intro w hSw; (try dsimp only at hSw); go_simp; try (with_reducible rfl)
  (try simp only [Act.put, List.setIfInBounds_toArray, List.set_cons_zero, List.set_cons_succ])
  refine take_at (v := ?_) 5 (some 16) rfl (by kernel_rfl) (by kernel_rfl) (by kernel_rfl) (by kernel_rfl) (fun _ _ _ h => h) (Or.inl ⟨by rfl, ?_⟩) (by assumption) ?_
  rotate_left
  · intro w hSw; (try dsimp only at hSw); go_simp; try (with_reducible rfl)
  (try simp only [Act.put, List.setIfInBounds_toArray, List.set_cons_zero, List.set_cons_succ])
  refine take_at (v := ?_) 6 (some 17) rfl (by kernel_rfl) (by kernel_rfl) (by kernel_rfl) (by kernel_rfl) (fun _ _ _ h => h) (Or.inl ⟨by rfl, ?_⟩) (by assumption) ?_
  rotate_left
  · intro w hSw; (try dsimp only at hSw); go_simp; try (with_reducible rfl)
  (try simp only [Act.put, List.setIfInBounds_toArray, List.set_cons_zero, List.set_cons_succ])
  refine take_at (v := ?_) 7 (some 18) rfl (by kernel_rfl) (by kernel_rfl) (by kernel_rfl) (by kernel_rfl) (fun _ _ _ h => h) (Or.inl ⟨by rfl, ?_⟩) (by assumption) ?_
  rotate_left
  · intro w hSw; (try dsimp only at hSw); go_simp; try (with_reducible rfl)
  (try simp only [Act.put, List.setIfInBounds_toArray, List.set_cons_zero, List.set_cons_succ])
  refine take_at (v := ?_) 8 (some 19) rfl (by kernel_rfl) (by kernel_rfl) (by kernel_rfl) (by kernel_rfl) (fun _ _ _ h => h) (Or.inl ⟨by rfl, ?_⟩) (by assumption) ?_
  rotate_left
  · intro w hSw; (try dsimp only at hSw); go_simp; try (with_reducible rfl)
  (try simp only [Act.put, List.setIfInBounds_toArray, List.set_cons_zero, List.set_cons_succ])
  refine wpAnyH_ready (rs := [9]) (by kernel_rfl) (by simp) ?_
  refine AllReadyH.cons rfl (fun K hK => ?_) AllReadyH.nil
  go_simp
  refine (HX.out.refuse (by omega) 3 _ _ _).mono ?_
  rintro e w8 ⟨rfl, h8⟩
  have H8 := Lib.hid h8
  refine hK.out _ _ h8.a0 (fun hHeld2 => ?_)
  clear hK K hHeld
  have hHeld := hHeld2
  clear hHeld2
  (try simp only [Act.put, List.setIfInBounds_toArray, List.set_cons_zero, List.set_cons_succ])
  clear h8 hHeld HX
  have b4 := H8.out.bk (B := B) (vs := [.nilFunc, .nilFunc]) (List.mem_cons_self)
  have x0 := H8.out.b (B := B) (vs := [.nilFunc, .nilFunc]) (List.mem_cons_self) 0 _ rfl
  have x1 := H8.out.b (B := B) (vs := [.nilFunc, .nilFunc]) (List.mem_cons_self) 1 _ rfl
  have fz := b4.fz
  have st0 := IsFn.store (v := .nilFunc) (.inl rfl)
  have st2 := IsFn.store (v := .func (.func 91) #[ptr X.kb] #[]) (.inr ⟨_, _, _, rfl⟩)
  clear b4
  refine wpAnyH_ready (rs := [10]) (by kernel_rfl) (by simp) ?_
  refine AllReadyH.cons rfl (fun K hK => ?_) AllReadyH.nil
  go_simp
  obtain ⟨h5, r0, r1⟩ := H8.out.ret (B := B) (r := X.bx) (fun p hp => hp) (fun p hp => by have := HL.out p hp; have := HB.out; omega) .nilFunc (.func (.func 91) #[ptr X.kb] #[])
  refine hK.out _ _ h5.a0 (fun hHeld => ?_)
  clear hK K
  (try simp only [Act.put, List.setIfInBounds_toArray, List.set_cons_zero, List.set_cons_succ])
  refine wpAnyH_done (by kernel_rfl) ?_ _
  (try go_wp2)
  (try simp only [Exit.inBlock, Exit.then])
  refine bodyPost_ret (v := .agg #[.nilFunc, .func (.func 91) #[ptr X.kb] #[]]) ?hr rfl ?hx
  case hx => exact ⟨_, _, rfl, h5.sg .leave, rfl, ⟨rfl, rfl, rfl, rfl, rfl, rfl, rfl⟩⟩
  case hr =>
    generalize ((w8.setCell ⟨B, 0, none⟩ .nilFunc).setCell ⟨B, 1, none⟩ (.func (.func 91) #[ptr X.kb] #[])) = W5 at r0 r1 ⊢
    simp [results, Tryz.results83, go_sem, r0, r1]
set_option maxHeartbeats 4000000 in
theorem st_eBeginNo (h : Bo E S0 w0 W σ n X k) (hn : n ≤ 80000) (hc : σ.cl = true) :
    Calls Tryz.prog 63 #[ptr X.ab] W (Res E S0 w0 X (n + 1) (σ, refW k 3 .fin)) := by
  have hmf := mk_func
  have H1 := Lib.hid h.box
  have HL := Lib.hid (fun p (hp : p ∈ X.bx) => h.blt hp)
  clear h
  go_enter Tryz.func63, Tryz.ntmps63
  go_upto_region 1 with (fail)
  generalize W.alloc (.cells #[.nilFunc, .nilFunc] 103) = w1 at H1 ⊢
  obtain ⟨B, hB⟩ : ∃ B, B = W.heap.size := ⟨_, rfl⟩
  rw [← hB] at H1 ⊢
  have HB := Lib.hid hB
  clear hB
  have c0 := H1.out.a0
  have c1 := H1.out.k0
  go_wp2_with fail
  clear c0 c1
  refine (H1.out.closed true (Lib.hid hc)).mono ?_
  rintro en w2 ⟨rfl, h2⟩
  have H2 := Lib.hid h2
  clear h2 H1
  go_upto_region 2 with (fail)
  have D1 : Ch Nil w2 w2.drew := (Ch.refl _ _).drew
  have HX := Lib.hid (H2.out.quiet D1)
  refine wp_region_held_drew (S := fun w' => w'.cell? ⟨X.ab, 0, none⟩ = some (ptr X.kb)) (by kernel_rfl) HX.out.a0 (fun hHeld => ?_)
  clear D1 H2
  generalize w2.drew = w7 at *
  refine take_at (v := ?_) 0 (some 11) rfl (by kernel_rfl) (by kernel_rfl) (by kernel_rfl) (by kernel_rfl) (fun _ _ _ h => h) (Or.inl ⟨by rfl, ?_⟩) (by assumption) ?_
  rotate_left
  · intro w hSw; (try dsimp only at hSw); go_simp; try (with_reducible rfl)
  (try simp only [Act.put, List.setIfInBounds_toArray, List.set_cons_zero, List.set_cons_succ])
  refine take_at (v := ?_) 1 (some 12) rfl (by kernel_rfl) (by kernel_rfl) (by kernel_rfl) (by kernel_rfl) (fun _ _ _ h => h) (Or.inl ⟨by rfl, ?_⟩) (by assumption) ?_
  rotate_left
  · intro w hSw; (try dsimp only at hSw); go_simp; try (with_reducible rfl)
  (try simp only [Act.put, List.setIfInBounds_toArray, List.set_cons_zero, List.set_cons_succ])
  refine take_at (v := ?_) 2 (some 13) rfl (by kernel_rfl) (by kernel_rfl) (by kernel_rfl) (by kernel_rfl) (fun _ _ _ h => h) (Or.inl ⟨by rfl, ?_⟩) (by assumption) ?_
  rotate_left
  · intro w hSw; (try dsimp only at hSw); go_simp; try (with_reducible rfl)
  (try simp only [Act.put, List.setIfInBounds_toArray, List.set_cons_zero, List.set_cons_succ])
  refine take_at (v := ?_) 3 (some 14) rfl (by kernel_rfl) (by kernel_rfl) (by kernel_rfl) (by kernel_rfl) (fun _ _ _ h => h) (Or.inl ⟨by rfl, ?_⟩) (by assumption) ?_
  rotate_left
  · intro w hSw; (try dsimp only at hSw); go_simp; try (with_reducible rfl)
  (try simp only [Act.put, List.setIfInBounds_toArray, List.set_cons_zero, List.set_cons_succ])
  refine take_at (v := ?_) 4 (some 15) rfl (by kernel_rfl) (by kernel_rfl) (by kernel_rfl) (by kernel_rfl) (fun _ _ _ h => h) (Or.inl ⟨by rfl, ?_⟩) (by assumption) ?_
  rotate_left
  · intro w hSw; (try dsimp only at hSw); go_simp; try (with_reducible rfl)
  (try simp only [Act.put, List.setIfInBounds_toArray, List.set_cons_zero, List.set_cons_succ])
  refine take_at (v := ?_) 5 (some 16) rfl (by kernel_rfl) (by kernel_rfl) (by kernel_rfl) (by kernel_rfl) (fun _ _ _ h => h) (Or.inl ⟨by rfl, ?_⟩) (by assumption) ?_
  rotate_left
  · intro w hSw; (try dsimp only at hSw); go_simp; try (with_reducible rfl)
  (try simp only [Act.put, List.setIfInBounds_toArray, List.set_cons_zero, List.set_cons_succ])
  refine take_at (v := ?_) 6 (some 17) rfl (by kernel_rfl) (by kernel_rfl) (by kernel_rfl) (by kernel_rfl) (fun _ _ _ h => h) (Or.inl ⟨by rfl, ?_⟩) (by assumption) ?_
  rotate_left
  · intro w hSw; (try dsimp only at hSw); go_simp; try (with_reducible rfl)
  (try simp only [Act.put, List.setIfInBounds_toArray, List.set_cons_zero, List.set_cons_succ])
  refine take_at (v := ?_) 7 (some 18) rfl (by kernel_rfl) (by kernel_rfl) (by kernel_rfl) (by kernel_rfl) (fun _ _ _ h => h) (Or.inl ⟨by rfl, ?_⟩) (by assumption) ?_
  rotate_left
  · intro w hSw; (try dsimp only at hSw); go_simp; try (with_reducible rfl)
  (try simp only [Act.put, List.setIfInBounds_toArray, List.set_cons_zero, List.set_cons_succ])
  refine take_at (v := ?_) 8 (some 19) rfl (by kernel_rfl) (by kernel_rfl) (by kernel_rfl) (by kernel_rfl) (fun _ _ _ h => h) (Or.inl ⟨by rfl, ?_⟩) (by assumption) ?_
  rotate_left
  · intro w hSw; (try dsimp only at hSw); go_simp; try (with_reducible rfl)
  (try simp only [Act.put, List.setIfInBounds_toArray, List.set_cons_zero, List.set_cons_succ])
  refine wpAnyH_ready (rs := [9]) (by kernel_rfl) (by simp) ?_
  refine AllReadyH.cons rfl (fun K hK => ?_) AllReadyH.nil
  go_simp
  refine (HX.out.refuse (by omega) 3 _ _ _).mono ?_
  rintro e w8 ⟨rfl, h8⟩
  have H8 := Lib.hid h8
  refine hK.out _ _ h8.a0 (fun hHeld2 => ?_)
  clear hK K hHeld
  have hHeld := hHeld2
  clear hHeld2
  (try simp only [Act.put, List.setIfInBounds_toArray, List.set_cons_zero, List.set_cons_succ])
  clear h8 hHeld HX
  have b4 := H8.out.bk (B := B) (vs := [.nilFunc, .nilFunc]) (List.mem_cons_self)
  have x0 := H8.out.b (B := B) (vs := [.nilFunc, .nilFunc]) (List.mem_cons_self) 0 _ rfl
  have x1 := H8.out.b (B := B) (vs := [.nilFunc, .nilFunc]) (List.mem_cons_self) 1 _ rfl
  have fz := b4.fz
  have st0 := IsFn.store (v := .nilFunc) (.inl rfl)
  have st2 := IsFn.store (v := .func (.func 81) #[ptr X.kb] #[]) (.inr ⟨_, _, _, rfl⟩)
  clear b4
  refine wpAnyH_ready (rs := [10]) (by kernel_rfl) (by simp) ?_
  refine AllReadyH.cons rfl (fun K hK => ?_) AllReadyH.nil
  go_simp
  obtain ⟨h5, r0, r1⟩ := H8.out.ret (B := B) (r := X.bx) (fun p hp => hp) (fun p hp => by have := HL.out p hp; have := HB.out; omega) .nilFunc (.func (.func 81) #[ptr X.kb] #[])
  refine hK.out _ _ h5.a0 (fun hHeld => ?_)
  clear hK K
  (try simp only [Act.put, List.setIfInBounds_toArray, List.set_cons_zero, List.set_cons_succ])
  refine wpAnyH_done (by kernel_rfl) ?_ _
  (try go_wp2)
  (try simp only [Exit.inBlock, Exit.then])
  refine bodyPost_ret (v := .agg #[.nilFunc, .func (.func 81) #[ptr X.kb] #[]]) ?hr rfl ?hx
  case hx => exact ⟨_, _, rfl, h5.sg .fin, rfl, ⟨rfl, rfl, rfl, rfl, rfl, rfl, rfl⟩⟩
  case hr =>
    generalize ((w8.setCell ⟨B, 0, none⟩ .nilFunc).setCell ⟨B, 1, none⟩ (.func (.func 81) #[ptr X.kb] #[])) = W5 at r0 r1 ⊢
    simp [results, Tryz.results63, go_sem, r0, r1]
set_option maxHeartbeats 4000000 in
theorem st_rBeginY (h : Bo E S0 w0 W σ n X k) (hn : n ≤ 80000) (hc : σ.cl = false) :
    Calls Tryz.prog 83 #[ptr X.ab] W (Res E S0 w0 X n (σ, { k with sg := .rFind })) := by
  have hmf := mk_func
  have H1 := Lib.hid h.box
  have HL := Lib.hid (fun p (hp : p ∈ X.bx) => h.blt hp)
  clear h
  go_enter Tryz.func83, Tryz.ntmps83
  go_upto_region 1 with (fail)
  generalize W.alloc (.cells #[.nilFunc, .nilFunc] 103) = w1 at H1 ⊢
  obtain ⟨B, hB⟩ : ∃ B, B = W.heap.size := ⟨_, rfl⟩
  rw [← hB] at H1 ⊢
  have HB := Lib.hid hB
  clear hB
  have c0 := H1.out.a0
  have c1 := H1.out.k0
  go_wp2_with fail
  clear c0 c1
  refine (H1.out.closed false (Lib.hid hc)).mono ?_
  rintro en w2 ⟨rfl, h2⟩
  have H2 := Lib.hid h2
  clear h2 H1
  go_wp2_with fail
  refine (next_fn _ (.inr ⟨_, _, _, rfl⟩) _).mono ?_
  rintro en w4 ⟨rfl, c4⟩
  have H4 := Lib.hid (H2.out.quiet c4)
  clear c4 H2
  have b4 := H4.out.bk (B := B) (vs := [.nilFunc, .nilFunc]) (List.mem_cons_self)
  have x0 := H4.out.b (B := B) (vs := [.nilFunc, .nilFunc]) (List.mem_cons_self) 0 _ rfl
  have x1 := H4.out.b (B := B) (vs := [.nilFunc, .nilFunc]) (List.mem_cons_self) 1 _ rfl
  have fz := b4.fz
  have st0 := IsFn.store (v := .nilFunc) (.inl rfl)
  have st2 := IsFn.store (v := .func (.func 92) #[ptr X.ab] #[]) (.inr ⟨_, _, _, rfl⟩)
  clear b4
  go_wp2
  obtain ⟨h5, r0, r1⟩ := H4.out.ret (B := B) (r := X.bx) (fun p hp => hp) (fun p hp => by have := HL.out p hp; have := HB.out; omega) .nilFunc (.func (.func 92) #[ptr X.ab] #[])
  (try simp only [Exit.inBlock, Exit.then])
  refine bodyPost_ret (v := .agg #[.nilFunc, .func (.func 92) #[ptr X.ab] #[]]) ?hr rfl ?hx
  case hx => exact ⟨_, _, rfl, h5.sg .rFind, rfl, ⟨rfl, rfl, rfl, rfl, rfl, rfl, rfl⟩⟩
  case hr =>
    generalize ((w4.setCell ⟨B, 0, none⟩ .nilFunc).setCell ⟨B, 1, none⟩ (.func (.func 92) #[ptr X.ab] #[])) = W5 at r0 r1 ⊢
    simp [results, Tryz.results83, go_sem, r0, r1]
set_option maxHeartbeats 4000000 in
theorem st_eBeginY (h : Bo E S0 w0 W σ n X k) (hn : n ≤ 80000) (hc : σ.cl = false) :
    Calls Tryz.prog 63 #[ptr X.ab] W (Res E S0 w0 X n (σ, { k with sg := .eFind })) := by
  have hmf := mk_func
  have H1 := Lib.hid h.box
  have HL := Lib.hid (fun p (hp : p ∈ X.bx) => h.blt hp)
  clear h
  go_enter Tryz.func63, Tryz.ntmps63
  go_upto_region 1 with (fail)
  generalize W.alloc (.cells #[.nilFunc, .nilFunc] 103) = w1 at H1 ⊢
  obtain ⟨B, hB⟩ : ∃ B, B = W.heap.size := ⟨_, rfl⟩
  rw [← hB] at H1 ⊢
  have HB := Lib.hid hB
  clear hB
  have c0 := H1.out.a0
  have c1 := H1.out.k0
  go_wp2_with fail
  clear c0 c1
  refine (H1.out.closed false (Lib.hid hc)).mono ?_
  rintro en w2 ⟨rfl, h2⟩
  have H2 := Lib.hid h2
  clear h2 H1
  go_wp2_with fail
  refine (next_fn _ (.inr ⟨_, _, _, rfl⟩) _).mono ?_
  rintro en w4 ⟨rfl, c4⟩
  have H4 := Lib.hid (H2.out.quiet c4)
  clear c4 H2
  have b4 := H4.out.bk (B := B) (vs := [.nilFunc, .nilFunc]) (List.mem_cons_self)
  have x0 := H4.out.b (B := B) (vs := [.nilFunc, .nilFunc]) (List.mem_cons_self) 0 _ rfl
  have x1 := H4.out.b (B := B) (vs := [.nilFunc, .nilFunc]) (List.mem_cons_self) 1 _ rfl
  have fz := b4.fz
  have st0 := IsFn.store (v := .nilFunc) (.inl rfl)
  have st2 := IsFn.store (v := .func (.func 85) #[ptr X.ab] #[]) (.inr ⟨_, _, _, rfl⟩)
  clear b4
  go_wp2
  obtain ⟨h5, r0, r1⟩ := H4.out.ret (B := B) (r := X.bx) (fun p hp => hp) (fun p hp => by have := HL.out p hp; have := HB.out; omega) .nilFunc (.func (.func 85) #[ptr X.ab] #[])
  (try simp only [Exit.inBlock, Exit.then])
  refine bodyPost_ret (v := .agg #[.nilFunc, .func (.func 85) #[ptr X.ab] #[]]) ?hr rfl ?hx
  case hx => exact ⟨_, _, rfl, h5.sg .eFind, rfl, ⟨rfl, rfl, rfl, rfl, rfl, rfl, rfl⟩⟩
  case hr =>
    generalize ((w4.setCell ⟨B, 0, none⟩ .nilFunc).setCell ⟨B, 1, none⟩ (.func (.func 85) #[ptr X.ab] #[])) = W5 at r0 r1 ⊢
    simp [results, Tryz.results63, go_sem, r0, r1]
set_option maxHeartbeats 4000000 in
theorem st_aAskY (h : Bo E S0 w0 W σ n X k) (hn : n ≤ 80000) (hk : k.kd ≤ 2) (hx : X.t = none) (hc : σ.cl = false) :
    Calls Tryz.prog 88 #[ptr X.ab] W (Res E S0 w0 X n (σ, { k with q := ⟨k.per, 0, 0, 0, 0, 0⟩, sg := .aTake })) := by
  have hmf := mk_func
  have H1 := Lib.hid h.box
  have HL := Lib.hid (fun p (hp : p ∈ X.bx) => h.blt hp)
  clear h
  go_enter Tryz.func88, Tryz.ntmps88
  go_upto_region 1 with (fail)
  generalize W.alloc (.cells #[.nilFunc, .nilFunc] 103) = w1 at H1 ⊢
  obtain ⟨B, hB⟩ : ∃ B, B = W.heap.size := ⟨_, rfl⟩
  rw [← hB] at H1 ⊢
  have HB := Lib.hid hB
  clear hB
  have c0 := H1.out.a0
  have c1 := H1.out.k0
  go_wp2_with fail
  clear c0 c1
  refine (H1.out.closed false (Lib.hid hc)).mono ?_
  rintro en w2 ⟨rfl, h2⟩
  have H2 := Lib.hid h2
  clear h2 H1
  go_upto_region 3 with (fail)
  have D1 : Ch Nil w2 w2.drew := (Ch.refl _ _).drew
  have H3 := Lib.hid (H2.out.quiet D1)
  refine wp_region_held_drew (S := fun w' => w'.cell? ⟨X.ab, 0, none⟩ = some (ptr X.kb) ∧ w'.cell? ⟨X.ab, 1, none⟩ = some (.int .u64 (k.per : Nat)) ∧ w'.cell? ⟨X.kb, 0, none⟩ = some (ptr E.F.f)) (by kernel_rfl) ⟨H3.out.a0, H3.out.a1 hk, H3.out.k0⟩ (fun hHeld => ?_)
  clear D1 H2
  generalize w2.drew = w3 at *
  refine take_at (v := ?_) 0 (some 21) rfl (by kernel_rfl) (by kernel_rfl) (by kernel_rfl) (by kernel_rfl) (fun _ _ _ h => h) (Or.inl ⟨by rfl, ?_⟩) (by assumption) ?_
  rotate_left
  · intro w hSw; (try dsimp only at hSw); go_simp; try (with_reducible rfl)
  (try simp only [Act.put, List.setIfInBounds_toArray, List.set_cons_zero, List.set_cons_succ])
  refine take_at (v := ?_) 1 (some 22) rfl (by kernel_rfl) (by kernel_rfl) (by kernel_rfl) (by kernel_rfl) (fun _ _ _ h => h) (Or.inl ⟨by rfl, ?_⟩) (by assumption) ?_
  rotate_left
  · intro w hSw; (try dsimp only at hSw); go_simp; try (with_reducible rfl)
  (try simp only [Act.put, List.setIfInBounds_toArray, List.set_cons_zero, List.set_cons_succ])
  refine take_at (v := ?_) 2 (some 23) rfl (by kernel_rfl) (by kernel_rfl) (by kernel_rfl) (by kernel_rfl) (fun _ _ _ h => h) (Or.inl ⟨by rfl, ?_⟩) (by assumption) ?_
  rotate_left
  · intro w hSw; (try dsimp only at hSw); go_simp; try (with_reducible rfl)
  (try simp only [Act.put, List.setIfInBounds_toArray, List.set_cons_zero, List.set_cons_succ])
  refine take_at (v := ?_) 3 (some 24) rfl (by kernel_rfl) (by kernel_rfl) (by kernel_rfl) (by kernel_rfl) (fun _ _ _ h => h) (Or.inl ⟨by rfl, ?_⟩) (by assumption) ?_
  rotate_left
  · intro w hSw; (try dsimp only at hSw); go_simp; try (with_reducible rfl)
  (try simp only [Act.put, List.setIfInBounds_toArray, List.set_cons_zero, List.set_cons_succ])
  refine take_at (v := ?_) 4 (some 25) rfl (by kernel_rfl) (by kernel_rfl) (by kernel_rfl) (by kernel_rfl) (fun _ _ _ h => h) (Or.inl ⟨by rfl, ?_⟩) (by assumption) ?_
  rotate_left
  · intro w hSw; (try dsimp only at hSw); go_simp; try (with_reducible rfl)
  (try simp only [Act.put, List.setIfInBounds_toArray, List.set_cons_zero, List.set_cons_succ])
  refine take_at (v := ?_) 5 (some 26) rfl (by kernel_rfl) (by kernel_rfl) (by kernel_rfl) (by kernel_rfl) (fun _ _ _ h => h) (Or.inl ⟨by rfl, ?_⟩) (by assumption) ?_
  rotate_left
  · intro w hSw; (try dsimp only at hSw); go_simp; try (with_reducible rfl)
  (try simp only [Act.put, List.setIfInBounds_toArray, List.set_cons_zero, List.set_cons_succ])
  refine take_at (v := ?_) 6 (some 27) rfl (by kernel_rfl) (by kernel_rfl) (by kernel_rfl) (by kernel_rfl) (fun _ _ _ h => h) (Or.inl ⟨by rfl, ?_⟩) (by assumption) ?_
  rotate_left
  · intro w hSw; (try dsimp only at hSw); go_simp; try (with_reducible rfl)
  (try simp only [Act.put, List.setIfInBounds_toArray, List.set_cons_zero, List.set_cons_succ])
  refine take_at (v := ?_) 7 (some 28) rfl (by kernel_rfl) (by kernel_rfl) (by kernel_rfl) (by kernel_rfl) (fun _ _ _ h => h) (Or.inl ⟨by rfl, ?_⟩) (by assumption) ?_
  rotate_left
  · intro w hSw; (try dsimp only at hSw); go_simp; try (with_reducible rfl)
  (try simp only [Act.put, List.setIfInBounds_toArray, List.set_cons_zero, List.set_cons_succ])
  refine take_at (v := ?_) 9 (some 30) rfl (by kernel_rfl) (by kernel_rfl) (by kernel_rfl) (by kernel_rfl) (fun _ _ _ h => h) (Or.inl ⟨by rfl, ?_⟩) (by assumption) ?_
  rotate_left
  · intro w hSw; (try dsimp only at hSw); go_simp; try (with_reducible rfl)
  (try simp only [Act.put, List.setIfInBounds_toArray, List.set_cons_zero, List.set_cons_succ])
  refine take_at (v := ?_) 10 (some 31) rfl (by kernel_rfl) (by kernel_rfl) (by kernel_rfl) (by kernel_rfl) (fun _ _ _ h => h) (Or.inl ⟨by rfl, ?_⟩) (by assumption) ?_
  rotate_left
  · intro w hSw; (try dsimp only at hSw); go_simp; try (with_reducible rfl)
  (try simp only [Act.put, List.setIfInBounds_toArray, List.set_cons_zero, List.set_cons_succ])
  refine take_at (v := ?_) 11 (some 32) rfl (by kernel_rfl) (by kernel_rfl) (by kernel_rfl) (by kernel_rfl) (fun _ _ _ h => h) (Or.inl ⟨by rfl, ?_⟩) (by assumption) ?_
  rotate_left
  · intro w hSw; (try dsimp only at hSw); go_simp; try (with_reducible rfl)
  (try simp only [Act.put, List.setIfInBounds_toArray, List.set_cons_zero, List.set_cons_succ])
  refine take_at (v := ?_) 12 (some 33) rfl (by kernel_rfl) (by kernel_rfl) (by kernel_rfl) (by kernel_rfl) (fun _ _ _ h => h) (Or.inl ⟨by rfl, ?_⟩) (by assumption) ?_
  rotate_left
  · intro w hSw; (try dsimp only at hSw); go_simp; try (with_reducible rfl)
  (try simp only [Act.put, List.setIfInBounds_toArray, List.set_cons_zero, List.set_cons_succ])
  refine wpAnyH_ready (rs := [8]) (by kernel_rfl) (by simp) ?_
  refine AllReadyH.cons rfl (fun K hK => ?_) AllReadyH.nil
  go_simp
  refine (H3.out.slabOf).mono ?_
  rintro e w4 ⟨rfl, h4⟩
  have H4 := Lib.hid h4
  refine hK.out _ _ ⟨h4.a0, h4.a1 hk, h4.k0⟩ (fun hHeld2 => ?_)
  clear hK K hHeld
  have hHeld := hHeld2
  clear hHeld2
  (try simp only [Act.put, List.setIfInBounds_toArray, List.set_cons_zero, List.set_cons_succ])
  clear h4
  refine wpAnyH_ready (rs := [13]) (by kernel_rfl) (by simp) ?_
  refine AllReadyH.cons rfl (fun K hK => ?_) AllReadyH.nil
  go_simp
  refine (H4.out.qlink hk hx k.per).mono ?_
  rintro e w5 ⟨q, rfl, h5, h6⟩
  have H5 := Lib.hid h5
  have H6 := Lib.hid h6
  refine hK.out _ _ ⟨h5.a0, h5.a1 hk, h5.k0⟩ (fun hHeld2 => ?_)
  clear hK K hHeld
  have hHeld := hHeld2
  clear hHeld2
  (try simp only [Act.put, List.setIfInBounds_toArray, List.set_cons_zero, List.set_cons_succ])
  clear h5 h6
  refine take_at (v := ?_) 14 (some 35) rfl (by kernel_rfl) (by kernel_rfl) (by kernel_rfl) (by kernel_rfl) (fun _ _ _ h => h) (Or.inl ⟨by rfl, ?_⟩) (by assumption) ?_
  rotate_left
  · intro w hSw; (try dsimp only at hSw); go_simp; try (with_reducible rfl)
  (try simp only [Act.put, List.setIfInBounds_toArray, List.set_cons_zero, List.set_cons_succ])
  refine take_at (v := ?_) 15 (some 36) rfl (by kernel_rfl) (by kernel_rfl) (by kernel_rfl) (by kernel_rfl) (fun _ _ _ h => h) (Or.inl ⟨by rfl, ?_⟩) (by assumption) ?_
  rotate_left
  · intro w hSw; (try dsimp only at hSw); go_simp; try (with_reducible rfl)
  (try simp only [Act.put, List.setIfInBounds_toArray, List.set_cons_zero, List.set_cons_succ])
  have c2 := H5.out.a2 hk
  have z2 := H5.out.az 2
  have hpt : ∀ (P : Program) (w : World) (a : Addr) (m : Mode) (x : Option Nat), (store a (pt x) m).run P w = stored P w a (pt x) m := fun P w a m x => by cases x <;> exact run_store P w a _ m rfl
  refine wpAnyH_ready (rs := [16]) (by kernel_rfl) (by simp) ?_
  refine AllReadyH.cons rfl (fun K hK => ?_) AllReadyH.nil
  go_simp
  refine hK.out _ _ ⟨H6.out.a0, H6.out.a1 hk, H6.out.k0⟩ (fun hHeld => ?_)
  clear hK K c2 z2
  generalize w5.setCell ⟨X.ab, 2, none⟩ (ptr q) = w6 at *
  (try simp only [Act.put, List.setIfInBounds_toArray, List.set_cons_zero, List.set_cons_succ])
  refine wpAnyH_done (by kernel_rfl) ?_ _
  clear hHeld H5 H4 H3
  go_wp2_with fail
  refine (next_fn _ (.inr ⟨_, _, _, rfl⟩) _).mono ?_
  rintro en w7 ⟨rfl, c4⟩
  have H7 := Lib.hid (H6.out.quiet c4)
  clear c4 H6
  have b4 := H7.out.bk (B := B) (vs := [.nilFunc, .nilFunc]) (List.mem_cons_self)
  have x0 := H7.out.b (B := B) (vs := [.nilFunc, .nilFunc]) (List.mem_cons_self) 0 _ rfl
  have x1 := H7.out.b (B := B) (vs := [.nilFunc, .nilFunc]) (List.mem_cons_self) 1 _ rfl
  have fz := b4.fz
  have st0 := IsFn.store (v := .nilFunc) (.inl rfl)
  have st2 := IsFn.store (v := .func (.func 98) #[ptr X.ab] #[]) (.inr ⟨_, _, _, rfl⟩)
  clear b4
  go_wp2
  obtain ⟨h5, r0, r1⟩ := H7.out.ret (B := B) (r := X.bx) (fun p hp => hp) (fun p hp => by have := HL.out p hp; have := HB.out; omega) .nilFunc (.func (.func 98) #[ptr X.ab] #[])
  (try simp only [Exit.inBlock, Exit.then])
  refine bodyPost_ret (v := .agg #[.nilFunc, .func (.func 98) #[ptr X.ab] #[]]) ?hr rfl ?hx
  case hx => exact ⟨_, _, rfl, h5.sg .aTake, ⟨rfl, hx, _, rfl⟩, ⟨rfl, rfl, rfl, rfl, rfl, rfl, rfl⟩⟩
  case hr =>
    generalize ((w7.setCell ⟨B, 0, none⟩ .nilFunc).setCell ⟨B, 1, none⟩ (.func (.func 98) #[ptr X.ab] #[])) = W5 at r0 r1 ⊢
    simp [results, Tryz.results88, go_sem, r0, r1]
end
end Go.Proofs.YtnbdafmjcmmfpaaGreat
