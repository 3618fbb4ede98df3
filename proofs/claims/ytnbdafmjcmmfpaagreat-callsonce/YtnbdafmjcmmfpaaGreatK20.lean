import Derived.Test.YtnbdafmjcmmfpaaGreatK16
import Derived.Deep.RegionHeld
/-
  A work's try of the word that it saw.
-/
namespace Go.Proofs.YtnbdafmjcmmfpaaGreat
open Go.RowKit Verge
attribute [local go_sem] Oper.semAt_some
set_option linter.unusedVariables false
set_option linter.unusedSimpArgs false
section
variable {E : Ee} {S S0 : Nat → Prop} {w0 W W' : World} {σ σ' : Wd} {n n' : Nat} {X X' : Mx} {k k' : Wk} {B : Nat} {r : List (Nat × List Value)}
set_option maxHeartbeats 4000000 in
theorem Bo.tryFail (h : Bo E S0 w0 W σ n X k) {s v : Nat} (hs : s < E.N.n) (hv : v < 18446744073709551616) (ev : Int) (u : Ev) (ht : tryW σ.R s v ev = false) :
    Calls Tryz.prog 110 #[ptr X.kb, .agg #[.int .i64 (s : Nat), .int .u64 (v : Nat)], .int .i64 ev, .agg #[.int .i64 u.k, .int .i64 u.t, .int .i64 u.c, .int .i64 u.h, .int .u64 u.i, .int .u64 u.g, .int .u64 u.d, .int .u64 u.p, .int .u64 u.q, .int .i64 u.e]] W fun en W' => en = .returned (.tuple #[.int .u64 0, .bool false]) ∧ Bo E S0 w0 W' σ n X k := by
  obtain ⟨i1, i2, cA⟩ := boxes2 W [.int .i64 (s : Nat), .int .u64 (v : Nat)] (evV10 u) 207 70 _ rfl
  have H1 := Lib.hid (h.pushs cA [(W.heap.size + 1, evV10 u), (W.heap.size, [.int .i64 (s : Nat), .int .u64 (v : Nat)])] (fun p hp => by
    rcases List.mem_cons.1 hp with rfl | hp
    · exact ⟨Nat.le_succ _, i2⟩
    · rcases List.mem_cons.1 hp with rfl | hp
      · exact ⟨Nat.le_refl _, i1⟩
      · cases hp))
  have HL := Lib.hid (fun p (hp : p ∈ X.bx) => h.blt hp)
  clear h i1 i2 cA
  go_enter Tryz.func110, Tryz.ntmps110
  go_upto_region 1 with (fail)
  change Hid (Bo E S0 w0 ((W.alloc (Obj.cells #[.int .i64 (s : Nat), .int .u64 (v : Nat)] 207)).alloc (Obj.cells #[.int .i64 u.k, .int .i64 u.t, .int .i64 u.c, .int .i64 u.h, .int .u64 u.i, .int .u64 u.g, .int .u64 u.d, .int .u64 u.p, .int .u64 u.q, .int .i64 u.e] 70)) σ n _ k) at H1
  generalize (W.alloc (Obj.cells #[.int .i64 (s : Nat), .int .u64 (v : Nat)] 207)).alloc (Obj.cells #[.int .i64 u.k, .int .i64 u.t, .int .i64 u.c, .int .i64 u.h, .int .u64 u.i, .int .u64 u.g, .int .u64 u.d, .int .u64 u.p, .int .u64 u.q, .int .i64 u.e] 70) = w1 at H1 ⊢
  obtain ⟨b1, hb1⟩ : ∃ b1, b1 = W.heap.size := ⟨_, rfl⟩
  rw [← hb1] at H1 ⊢
  obtain ⟨b2, hb2⟩ : ∃ b2, b2 = b1 + 1 := ⟨_, rfl⟩
  rw [← hb2] at H1 ⊢
  have HB := Lib.hid (And.intro hb1 hb2)
  clear hb1 hb2
  have D1 : Ch Nil w1 w1.drew := (Ch.refl _ _).drew
  have H2 := Lib.hid (H1.out.quiet D1)
  refine wp_region_held_drew (S := fun w' => w'.cell? ⟨X.kb, 0, none⟩ = some (ptr E.F.f) ∧ w'.cell? ⟨b1, 0, none⟩ = some (.int .i64 (s : Nat)) ∧ w'.cell? ⟨b1, 1, none⟩ = some (.int .u64 (v : Nat))) (by kernel_rfl) ⟨H2.out.k0, H2.out.b (List.mem_cons_of_mem _ List.mem_cons_self) 0 _ rfl, H2.out.b (List.mem_cons_of_mem _ List.mem_cons_self) 1 _ rfl⟩ (fun hHeld => ?_)
  clear D1 H1
  generalize w1.drew = w2 at *
  refine take_at (v := ?_) 0 (some 13) rfl (by kernel_rfl) (by kernel_rfl) (by kernel_rfl) (by kernel_rfl) (fun _ _ _ h => h) (Or.inl ⟨by rfl, ?_⟩) (by assumption) ?_
  rotate_left
  · intro w hSw; (try dsimp only at hSw); go_simp; try (with_reducible rfl)
  (try simp only [Act.put, List.setIfInBounds_toArray, List.set_cons_zero, List.set_cons_succ])
  refine take_at (v := ?_) 1 (some 14) rfl (by kernel_rfl) (by kernel_rfl) (by kernel_rfl) (by kernel_rfl) (fun _ _ _ h => h) (Or.inl ⟨by rfl, ?_⟩) (by assumption) ?_
  rotate_left
  · intro w hSw; (try dsimp only at hSw); go_simp; try (with_reducible rfl)
  (try simp only [Act.put, List.setIfInBounds_toArray, List.set_cons_zero, List.set_cons_succ])
  refine take_at (v := ?_) 2 (some 15) rfl (by kernel_rfl) (by kernel_rfl) (by kernel_rfl) (by kernel_rfl) (fun _ _ _ h => h) (Or.inl ⟨by rfl, ?_⟩) (by assumption) ?_
  rotate_left
  · intro w hSw; (try dsimp only at hSw); go_simp; try (with_reducible rfl)
  (try simp only [Act.put, List.setIfInBounds_toArray, List.set_cons_zero, List.set_cons_succ])
  refine take_at (v := ?_) 3 (some 16) rfl (by kernel_rfl) (by kernel_rfl) (by kernel_rfl) (by kernel_rfl) (fun _ _ _ h => h) (Or.inl ⟨by rfl, ?_⟩) (by assumption) ?_
  rotate_left
  · intro w hSw; (try dsimp only at hSw); go_simp; try (with_reducible rfl)
  (try simp only [Act.put, List.setIfInBounds_toArray, List.set_cons_zero, List.set_cons_succ])
  refine take_at (v := ?_) 5 (some 18) rfl (by kernel_rfl) (by kernel_rfl) (by kernel_rfl) (by kernel_rfl) (fun _ _ _ h => h) (Or.inl ⟨by rfl, ?_⟩) (by assumption) ?_
  rotate_left
  · intro w hSw; (try dsimp only at hSw); go_simp; try (with_reducible rfl)
  (try simp only [Act.put, List.setIfInBounds_toArray, List.set_cons_zero, List.set_cons_succ])
  refine take_at (v := ?_) 6 (some 19) rfl (by kernel_rfl) (by kernel_rfl) (by kernel_rfl) (by kernel_rfl) (fun _ _ _ h => h) (Or.inl ⟨by rfl, ?_⟩) (by assumption) ?_
  rotate_left
  · intro w hSw; (try dsimp only at hSw); go_simp; try (with_reducible rfl)
  (try simp only [Act.put, List.setIfInBounds_toArray, List.set_cons_zero, List.set_cons_succ])
  refine take_at (v := ?_) 7 (some 20) rfl (by kernel_rfl) (by kernel_rfl) (by kernel_rfl) (by kernel_rfl) (fun _ _ _ h => h) (Or.inl ⟨by rfl, ?_⟩) (by assumption) ?_
  rotate_left
  · intro w hSw; (try dsimp only at hSw); go_simp; try (with_reducible rfl)
  (try simp only [Act.put, List.setIfInBounds_toArray, List.set_cons_zero, List.set_cons_succ])
  refine take_at (v := ?_) 8 (some 21) rfl (by kernel_rfl) (by kernel_rfl) (by kernel_rfl) (by kernel_rfl) (fun _ _ _ h => h) (Or.inl ⟨by rfl, ?_⟩) (by assumption) ?_
  rotate_left
  · intro w hSw; (try dsimp only at hSw); go_simp; try (with_reducible rfl)
  (try simp only [Act.put, List.setIfInBounds_toArray, List.set_cons_zero, List.set_cons_succ])
  refine take_at (v := ?_) 9 (some 22) rfl (by kernel_rfl) (by kernel_rfl) (by kernel_rfl) (by kernel_rfl) (fun _ _ _ h => h) (Or.inl ⟨by rfl, ?_⟩) (by assumption) ?_
  rotate_left
  · intro w hSw; (try dsimp only at hSw); go_simp; try (with_reducible rfl)
  (try simp only [Act.put, List.setIfInBounds_toArray, List.set_cons_zero, List.set_cons_succ])
  refine wpAnyH_ready (rs := [4]) (by kernel_rfl) (by simp) ?_
  refine AllReadyH.cons rfl (fun K hK => ?_) AllReadyH.nil
  go_simp
  refine (H2.out.slabOf).mono ?_
  rintro e w3 ⟨rfl, h3⟩
  have H3 := Lib.hid h3
  refine hK.out _ _ ⟨h3.k0, h3.b (List.mem_cons_of_mem _ List.mem_cons_self) 0 _ rfl, h3.b (List.mem_cons_of_mem _ List.mem_cons_self) 1 _ rfl⟩ (fun hHeld2 => ?_)
  clear hK K hHeld
  have hHeld := hHeld2
  clear hHeld2
  (try simp only [Act.put, List.setIfInBounds_toArray, List.set_cons_zero, List.set_cons_succ])
  clear h3 H2
  refine wpAnyH_ready (rs := [10]) (by kernel_rfl) (by simp) ?_
  refine AllReadyH.cons rfl (fun K hK => ?_) AllReadyH.nil
  go_simp
  refine (H3.out.tryNo s hs v hv ev ht).mono ?_
  rintro e w4 ⟨x, y, hy, rfl, h4⟩
  have H4 := Lib.hid h4
  refine hK.out _ _ ⟨h4.k0, h4.b (List.mem_cons_of_mem _ List.mem_cons_self) 0 _ rfl, h4.b (List.mem_cons_of_mem _ List.mem_cons_self) 1 _ rfl⟩ (fun hHeld2 => ?_)
  clear hK K hHeld h4 H3
  have hHeld := hHeld2
  clear hHeld2
  (try simp only [Act.put, List.setIfInBounds_toArray, List.set_cons_zero, List.set_cons_succ])
  refine take_at (v := ?_) 11 (some 12) rfl (by kernel_rfl) (by kernel_rfl) (by kernel_rfl) (by kernel_rfl) (fun _ _ _ h => h) (Or.inl ⟨by rfl, ?_⟩) (by assumption) ?_
  rotate_left
  · intro w hSw; (try dsimp only at hSw); go_simp; try (with_reducible rfl)
  (try simp only [Act.put, List.setIfInBounds_toArray, List.set_cons_zero, List.set_cons_succ])
  refine take_at (v := ?_) 12 (some 24) rfl (by kernel_rfl) (by kernel_rfl) (by kernel_rfl) (by kernel_rfl) (fun _ _ _ h => h) (Or.inl ⟨by rfl, ?_⟩) (by assumption) ?_
  rotate_left
  · intro w hSw; (try dsimp only at hSw); go_simp; try (with_reducible rfl)
  (try simp only [Act.put, List.setIfInBounds_toArray, List.set_cons_zero, List.set_cons_succ])
  refine take_at (v := ?_) 13 (some 25) rfl (by kernel_rfl) (by kernel_rfl) (by kernel_rfl) (by kernel_rfl) (fun _ _ _ h => h) (Or.inl ⟨by rfl, ?_⟩) (by assumption) ?_
  rotate_left
  · intro w hSw; (try dsimp only at hSw); go_simp; try (with_reducible rfl)
  (try simp only [Act.put, List.setIfInBounds_toArray, List.set_cons_zero, List.set_cons_succ])
  refine take_at (v := ?_) 14 (some 10) rfl (by kernel_rfl) (by kernel_rfl) (by kernel_rfl) (by kernel_rfl) (fun _ _ _ h => h) (Or.inl ⟨by rfl, ?_⟩) (by assumption) ?_
  rotate_left
  · intro w hSw; (try dsimp only at hSw); go_simp; try (with_reducible rfl)
  (try simp only [Act.put, List.setIfInBounds_toArray, List.set_cons_zero, List.set_cons_succ])
  refine take_at (v := ?_) 15 (some 11) rfl (by kernel_rfl) (by kernel_rfl) (by kernel_rfl) (by kernel_rfl) (fun _ _ _ h => h) (Or.inl ⟨by rfl, ?_⟩) (by assumption) ?_
  rotate_left
  · intro w hSw; (try dsimp only at hSw); go_simp; try (with_reducible rfl)
  (try simp only [Act.put, List.setIfInBounds_toArray, List.set_cons_zero, List.set_cons_succ])
  refine wpAnyH_done (by kernel_rfl) ?_ _
  have hz : ((y : Int) != 0) = true := by rw [bne_iff_ne]; omega
  clear hHeld hy
  go_wp2
  go_ret2
  exact ⟨rfl, H4.out.pops (fun p hp => List.mem_cons_of_mem _ (List.mem_cons_of_mem _ hp))⟩
set_option maxHeartbeats 8000000 in
theorem Bo.tryOn (h : Bo E S0 w0 W σ n X k) (hn : n ≤ 90000) {s v : Nat} (hs : s < E.N.n) (ev : Int) (u : Ev) (ht : tryW σ.R s v ev = true) {g : Nat} (hg : Hid (gnW (hapW σ.R s ev) = g)) :
    Calls Tryz.prog 110 #[ptr X.kb, .agg #[.int .i64 (s : Nat), .int .u64 (v : Nat)], .int .i64 ev, .agg #[.int .i64 u.k, .int .i64 u.t, .int .i64 u.c, .int .i64 u.h, .int .u64 u.i, .int .u64 u.g, .int .u64 u.d, .int .u64 u.p, .int .u64 u.q, .int .i64 u.e]] W fun en W' => en = .returned (.tuple #[.int .u64 (g : Nat), .bool true]) ∧ Bo E S0 w0 W' { σ with R := hapR σ.R s ev } (n + 1) X { k with a := ⟨0, true, k.id, g⟩ } := by
  have hwd : hapW σ.R s ev < 18446744073709551616 := by
    have := h.bd.w _ hs
    unfold hapW
    split
    · exact okW_lt64 (nxZ_ok this)
    · exact okW_lt64 this
  have GN : ∀ w, Calls Tryz.prog 122 #[.int .u64 (hapW σ.R s ev : Nat)] w fun e w' => e = .returned (.int .u64 (gnW (hapW σ.R s ev) : Nat)) ∧ w = w' := fun w => gen_any _ hwd w
  rw [hg.out] at GN
  have GNH := Lib.hid GN
  clear GN hwd
  obtain ⟨i1, i2, cA⟩ := boxes2 W [.int .i64 (s : Nat), .int .u64 (v : Nat)] (evV10 u) 207 70 _ rfl
  have H1 := Lib.hid (h.pushs cA [(W.heap.size + 1, evV10 u), (W.heap.size, [.int .i64 (s : Nat), .int .u64 (v : Nat)])] (fun p hp => by
    rcases List.mem_cons.1 hp with rfl | hp
    · exact ⟨Nat.le_succ _, i2⟩
    · rcases List.mem_cons.1 hp with rfl | hp
      · exact ⟨Nat.le_refl _, i1⟩
      · cases hp))
  have HL := Lib.hid (fun p (hp : p ∈ X.bx) => h.blt hp)
  clear h i1 i2 cA
  go_enter Tryz.func110, Tryz.ntmps110
  go_upto_region 1 with (fail)
  change Hid (Bo E S0 w0 ((W.alloc (Obj.cells #[.int .i64 (s : Nat), .int .u64 (v : Nat)] 207)).alloc (Obj.cells #[.int .i64 u.k, .int .i64 u.t, .int .i64 u.c, .int .i64 u.h, .int .u64 u.i, .int .u64 u.g, .int .u64 u.d, .int .u64 u.p, .int .u64 u.q, .int .i64 u.e] 70)) σ n _ k) at H1
  generalize (W.alloc (Obj.cells #[.int .i64 (s : Nat), .int .u64 (v : Nat)] 207)).alloc (Obj.cells #[.int .i64 u.k, .int .i64 u.t, .int .i64 u.c, .int .i64 u.h, .int .u64 u.i, .int .u64 u.g, .int .u64 u.d, .int .u64 u.p, .int .u64 u.q, .int .i64 u.e] 70) = w1 at H1 ⊢
  obtain ⟨b1, hb1⟩ : ∃ b1, b1 = W.heap.size := ⟨_, rfl⟩
  rw [← hb1] at H1 ⊢
  obtain ⟨b2, hb2⟩ : ∃ b2, b2 = b1 + 1 := ⟨_, rfl⟩
  rw [← hb2] at H1 ⊢
  have HB := Lib.hid (And.intro hb1 hb2)
  clear hb1 hb2
  have D1 : Ch Nil w1 w1.drew := (Ch.refl _ _).drew
  have H2 := Lib.hid (H1.out.quiet D1)
  refine wp_region_held_drew (S := fun w' => w'.cell? ⟨X.kb, 0, none⟩ = some (ptr E.F.f) ∧ w'.cell? ⟨b1, 0, none⟩ = some (.int .i64 (s : Nat)) ∧ w'.cell? ⟨b1, 1, none⟩ = some (.int .u64 (v : Nat))) (by kernel_rfl) ⟨H2.out.k0, H2.out.b (List.mem_cons_of_mem _ List.mem_cons_self) 0 _ rfl, H2.out.b (List.mem_cons_of_mem _ List.mem_cons_self) 1 _ rfl⟩ (fun hHeld => ?_)
  clear D1 H1
  generalize w1.drew = w2 at *
  refine take_at (v := ?_) 0 (some 13) rfl (by kernel_rfl) (by kernel_rfl) (by kernel_rfl) (by kernel_rfl) (fun _ _ _ h => h) (Or.inl ⟨by rfl, ?_⟩) (by assumption) ?_
  rotate_left
  · intro w hSw; (try dsimp only at hSw); go_simp; try (with_reducible rfl)
  (try simp only [Act.put, List.setIfInBounds_toArray, List.set_cons_zero, List.set_cons_succ])
  refine take_at (v := ?_) 1 (some 14) rfl (by kernel_rfl) (by kernel_rfl) (by kernel_rfl) (by kernel_rfl) (fun _ _ _ h => h) (Or.inl ⟨by rfl, ?_⟩) (by assumption) ?_
  rotate_left
  · intro w hSw; (try dsimp only at hSw); go_simp; try (with_reducible rfl)
  (try simp only [Act.put, List.setIfInBounds_toArray, List.set_cons_zero, List.set_cons_succ])
  refine take_at (v := ?_) 2 (some 15) rfl (by kernel_rfl) (by kernel_rfl) (by kernel_rfl) (by kernel_rfl) (fun _ _ _ h => h) (Or.inl ⟨by rfl, ?_⟩) (by assumption) ?_
  rotate_left
  · intro w hSw; (try dsimp only at hSw); go_simp; try (with_reducible rfl)
  (try simp only [Act.put, List.setIfInBounds_toArray, List.set_cons_zero, List.set_cons_succ])
  refine take_at (v := ?_) 3 (some 16) rfl (by kernel_rfl) (by kernel_rfl) (by kernel_rfl) (by kernel_rfl) (fun _ _ _ h => h) (Or.inl ⟨by rfl, ?_⟩) (by assumption) ?_
  rotate_left
  · intro w hSw; (try dsimp only at hSw); go_simp; try (with_reducible rfl)
  (try simp only [Act.put, List.setIfInBounds_toArray, List.set_cons_zero, List.set_cons_succ])
  refine take_at (v := ?_) 5 (some 18) rfl (by kernel_rfl) (by kernel_rfl) (by kernel_rfl) (by kernel_rfl) (fun _ _ _ h => h) (Or.inl ⟨by rfl, ?_⟩) (by assumption) ?_
  rotate_left
  · intro w hSw; (try dsimp only at hSw); go_simp; try (with_reducible rfl)
  (try simp only [Act.put, List.setIfInBounds_toArray, List.set_cons_zero, List.set_cons_succ])
  refine take_at (v := ?_) 6 (some 19) rfl (by kernel_rfl) (by kernel_rfl) (by kernel_rfl) (by kernel_rfl) (fun _ _ _ h => h) (Or.inl ⟨by rfl, ?_⟩) (by assumption) ?_
  rotate_left
  · intro w hSw; (try dsimp only at hSw); go_simp; try (with_reducible rfl)
  (try simp only [Act.put, List.setIfInBounds_toArray, List.set_cons_zero, List.set_cons_succ])
  refine take_at (v := ?_) 7 (some 20) rfl (by kernel_rfl) (by kernel_rfl) (by kernel_rfl) (by kernel_rfl) (fun _ _ _ h => h) (Or.inl ⟨by rfl, ?_⟩) (by assumption) ?_
  rotate_left
  · intro w hSw; (try dsimp only at hSw); go_simp; try (with_reducible rfl)
  (try simp only [Act.put, List.setIfInBounds_toArray, List.set_cons_zero, List.set_cons_succ])
  refine take_at (v := ?_) 8 (some 21) rfl (by kernel_rfl) (by kernel_rfl) (by kernel_rfl) (by kernel_rfl) (fun _ _ _ h => h) (Or.inl ⟨by rfl, ?_⟩) (by assumption) ?_
  rotate_left
  · intro w hSw; (try dsimp only at hSw); go_simp; try (with_reducible rfl)
  (try simp only [Act.put, List.setIfInBounds_toArray, List.set_cons_zero, List.set_cons_succ])
  refine take_at (v := ?_) 9 (some 22) rfl (by kernel_rfl) (by kernel_rfl) (by kernel_rfl) (by kernel_rfl) (fun _ _ _ h => h) (Or.inl ⟨by rfl, ?_⟩) (by assumption) ?_
  rotate_left
  · intro w hSw; (try dsimp only at hSw); go_simp; try (with_reducible rfl)
  (try simp only [Act.put, List.setIfInBounds_toArray, List.set_cons_zero, List.set_cons_succ])
  refine wpAnyH_ready (rs := [4]) (by kernel_rfl) (by simp) ?_
  refine AllReadyH.cons rfl (fun K hK => ?_) AllReadyH.nil
  go_simp
  refine (H2.out.slabOf).mono ?_
  rintro e w3 ⟨rfl, h3⟩
  have H3 := Lib.hid h3
  refine hK.out _ _ ⟨h3.k0, h3.b (List.mem_cons_of_mem _ List.mem_cons_self) 0 _ rfl, h3.b (List.mem_cons_of_mem _ List.mem_cons_self) 1 _ rfl⟩ (fun hHeld2 => ?_)
  clear hK K hHeld
  have hHeld := hHeld2
  clear hHeld2
  (try simp only [Act.put, List.setIfInBounds_toArray, List.set_cons_zero, List.set_cons_succ])
  clear h3 H2
  refine wpAnyH_ready (rs := [10]) (by kernel_rfl) (by simp) ?_
  refine AllReadyH.cons rfl (fun K hK => ?_) AllReadyH.nil
  go_simp
  refine (H3.out.tryYes s hs v ev ht).mono ?_
  rintro e w4 ⟨rfl, h4⟩
  have H4 := Lib.hid h4
  refine hK.out _ _ ⟨h4.k0, h4.b (List.mem_cons_of_mem _ List.mem_cons_self) 0 _ rfl, h4.b (List.mem_cons_of_mem _ List.mem_cons_self) 1 _ rfl⟩ (fun hHeld2 => ?_)
  clear hK K hHeld h4 H3
  have hHeld := hHeld2
  clear hHeld2
  (try simp only [Act.put, List.setIfInBounds_toArray, List.set_cons_zero, List.set_cons_succ])
  refine take_at (v := ?_) 11 (some 12) rfl (by kernel_rfl) (by kernel_rfl) (by kernel_rfl) (by kernel_rfl) (fun _ _ _ h => h) (Or.inl ⟨by rfl, ?_⟩) (by assumption) ?_
  rotate_left
  · intro w hSw; (try dsimp only at hSw); go_simp; try (with_reducible rfl)
  (try simp only [Act.put, List.setIfInBounds_toArray, List.set_cons_zero, List.set_cons_succ])
  refine take_at (v := ?_) 12 (some 24) rfl (by kernel_rfl) (by kernel_rfl) (by kernel_rfl) (by kernel_rfl) (fun _ _ _ h => h) (Or.inl ⟨by rfl, ?_⟩) (by assumption) ?_
  rotate_left
  · intro w hSw; (try dsimp only at hSw); go_simp; try (with_reducible rfl)
  (try simp only [Act.put, List.setIfInBounds_toArray, List.set_cons_zero, List.set_cons_succ])
  refine take_at (v := ?_) 13 (some 25) rfl (by kernel_rfl) (by kernel_rfl) (by kernel_rfl) (by kernel_rfl) (fun _ _ _ h => h) (Or.inl ⟨by rfl, ?_⟩) (by assumption) ?_
  rotate_left
  · intro w hSw; (try dsimp only at hSw); go_simp; try (with_reducible rfl)
  (try simp only [Act.put, List.setIfInBounds_toArray, List.set_cons_zero, List.set_cons_succ])
  refine take_at (v := ?_) 14 (some 10) rfl (by kernel_rfl) (by kernel_rfl) (by kernel_rfl) (by kernel_rfl) (fun _ _ _ h => h) (Or.inl ⟨by rfl, ?_⟩) (by assumption) ?_
  rotate_left
  · intro w hSw; (try dsimp only at hSw); go_simp; try (with_reducible rfl)
  (try simp only [Act.put, List.setIfInBounds_toArray, List.set_cons_zero, List.set_cons_succ])
  refine take_at (v := ?_) 15 (some 11) rfl (by kernel_rfl) (by kernel_rfl) (by kernel_rfl) (by kernel_rfl) (fun _ _ _ h => h) (Or.inl ⟨by rfl, ?_⟩) (by assumption) ?_
  rotate_left
  · intro w hSw; (try dsimp only at hSw); go_simp; try (with_reducible rfl)
  (try simp only [Act.put, List.setIfInBounds_toArray, List.set_cons_zero, List.set_cons_succ])
  refine wpAnyH_done (by kernel_rfl) ?_ _
  clear hHeld
  go_upto_region 4 with (fail)
  have D1 : Ch Nil w4 w4.drew := (Ch.refl _ _).drew
  have H5 := Lib.hid (H4.out.quiet D1)
  refine wp_region_held_drew (S := fun w' => w'.cell? ⟨X.kb, 4, none⟩ = some (.int .u64 (k.id : Nat))) (by kernel_rfl) H5.out.k4 (fun hHeld => ?_)
  clear D1 H4
  generalize w4.drew = w5 at *
  refine take_at (v := ?_) 0 (some 28) rfl (by kernel_rfl) (by kernel_rfl) (by kernel_rfl) (by kernel_rfl) (fun _ _ _ h => h) (Or.inl ⟨by rfl, ?_⟩) (by assumption) ?_
  rotate_left
  · intro w hSw; (try dsimp only at hSw); go_simp; try (with_reducible rfl)
  (try simp only [Act.put, List.setIfInBounds_toArray, List.set_cons_zero, List.set_cons_succ])
  refine take_at (v := ?_) 1 (some 29) rfl (by kernel_rfl) (by kernel_rfl) (by kernel_rfl) (by kernel_rfl) (fun _ _ _ h => h) (Or.inl ⟨by rfl, ?_⟩) (by assumption) ?_
  rotate_left
  · intro w hSw; (try dsimp only at hSw); go_simp; try (with_reducible rfl)
  (try simp only [Act.put, List.setIfInBounds_toArray, List.set_cons_zero, List.set_cons_succ])
  refine take_at (v := ?_) 2 (some 30) rfl (by kernel_rfl) (by kernel_rfl) (by kernel_rfl) (by kernel_rfl) (fun _ _ _ h => h) (Or.inl ⟨by rfl, ?_⟩) (by assumption) ?_
  rotate_left
  · intro w hSw; (try dsimp only at hSw); go_simp; try (with_reducible rfl)
  (try simp only [Act.put, List.setIfInBounds_toArray, List.set_cons_zero, List.set_cons_succ])
  refine take_at (v := ?_) 3 (some 31) rfl (by kernel_rfl) (by kernel_rfl) (by kernel_rfl) (by kernel_rfl) (fun _ _ _ h => h) (Or.inl ⟨by rfl, ?_⟩) (by assumption) ?_
  rotate_left
  · intro w hSw; (try dsimp only at hSw); go_simp; try (with_reducible rfl)
  (try simp only [Act.put, List.setIfInBounds_toArray, List.set_cons_zero, List.set_cons_succ])
  refine take_at (v := ?_) 4 (some 32) rfl (by kernel_rfl) (by kernel_rfl) (by kernel_rfl) (by kernel_rfl) (fun _ _ _ h => h) (Or.inl ⟨by rfl, ?_⟩) (by assumption) ?_
  rotate_left
  · intro w hSw; (try dsimp only at hSw); go_simp; try (with_reducible rfl)
  (try simp only [Act.put, List.setIfInBounds_toArray, List.set_cons_zero, List.set_cons_succ])
  refine take_at (v := ?_) 5 (some 33) rfl (by kernel_rfl) (by kernel_rfl) (by kernel_rfl) (by kernel_rfl) (fun _ _ _ h => h) (Or.inl ⟨by rfl, ?_⟩) (by assumption) ?_
  rotate_left
  · intro w hSw; (try dsimp only at hSw); go_simp; try (with_reducible rfl)
  (try simp only [Act.put, List.setIfInBounds_toArray, List.set_cons_zero, List.set_cons_succ])
  refine take_at (v := ?_) 7 (some 35) rfl (by kernel_rfl) (by kernel_rfl) (by kernel_rfl) (by kernel_rfl) (fun _ _ _ h => h) (Or.inl ⟨by rfl, ?_⟩) (by assumption) ?_
  rotate_left
  · intro w hSw; (try dsimp only at hSw); go_simp; try (with_reducible rfl)
  (try simp only [Act.put, List.setIfInBounds_toArray, List.set_cons_zero, List.set_cons_succ])
  refine wpAnyH_ready (rs := [6]) (by kernel_rfl) (by simp) ?_
  refine AllReadyH.cons rfl (fun K hK => ?_) AllReadyH.nil
  go_simp
  refine (GNH.out _).mono ?_
  rintro e w6 ⟨rfl, rfl⟩
  refine hK.out _ _ hHeld (fun hHeld2 => ?_)
  clear hK K hHeld
  have hHeld := hHeld2
  clear hHeld2
  (try simp only [Act.put, List.setIfInBounds_toArray, List.set_cons_zero, List.set_cons_succ])
  have x4 := H5.out.b (List.mem_cons_self) 4 _ rfl
  have z4 := H5.out.bz (List.mem_cons_self) 4
  refine wpAnyH_ready (rs := [8]) (by kernel_rfl) (by simp) ?_
  refine AllReadyH.cons rfl (fun K hK => ?_) AllReadyH.nil
  go_simp
  have h6 := H5.out.setbx rfl (fun p hp => by
    have := HB.out
    rcases List.mem_cons.1 hp with rfl | hp
    · dsimp only; omega
    · have := HL.out p hp; omega) 4 (.int .u64 (k.id : Nat))
  dsimp only at h6
  refine hK.out _ _ h6.k4 (fun hHeld2 => ?_)
  clear hK K hHeld hHeld2 x4 z4 H5
  generalize w5.setCell ⟨b2, 4, none⟩ (.int .u64 (k.id : Nat)) = w6 at *
  have H6 := Lib.hid h6
  have hHeld := h6.k4
  clear h6
  (try simp only [Act.put, List.setIfInBounds_toArray, List.set_cons_zero, List.set_cons_succ])
  refine take_at (v := ?_) 9 (some 36) rfl (by kernel_rfl) (by kernel_rfl) (by kernel_rfl) (by kernel_rfl) (fun _ _ _ h => h) (Or.inl ⟨by rfl, ?_⟩) (by assumption) ?_
  rotate_left
  · intro w hSw; (try dsimp only at hSw); go_simp; try (with_reducible rfl)
  (try simp only [Act.put, List.setIfInBounds_toArray, List.set_cons_zero, List.set_cons_succ])
  have x4 := H6.out.b (List.mem_cons_self) 5 _ rfl
  have z4 := H6.out.bz (List.mem_cons_self) 5
  refine wpAnyH_ready (rs := [10]) (by kernel_rfl) (by simp) ?_
  refine AllReadyH.cons rfl (fun K hK => ?_) AllReadyH.nil
  go_simp
  have h7 := H6.out.setbx rfl (fun p hp => by
    have := HB.out
    rcases List.mem_cons.1 hp with rfl | hp
    · dsimp only; omega
    · have := HL.out p hp; omega) 5 (.int .u64 (g : Nat))
  dsimp only at h7
  refine hK.out _ _ h7.k4 (fun hHeld2 => ?_)
  clear hK K hHeld hHeld2 x4 z4 H6
  generalize w6.setCell ⟨b2, 5, none⟩ (.int .u64 (g : Nat)) = w7 at *
  have H7 := Lib.hid h7
  clear h7
  (try simp only [Act.put, List.setIfInBounds_toArray, List.set_cons_zero, List.set_cons_succ])
  refine wpAnyH_done (by kernel_rfl) ?_ _
  have hbx := (H7.out.kw.bc _ List.mem_cons_self).cells10
  obtain ⟨q0, q1, q2, q3, q4, q5, q6, q7, q8, q9⟩ := hbx
  go_wp2_with fail
  clear q0 q1 q2 q3 q4 q5 q6 q7 q8 q9
  refine (H7.out.knote hn ⟨u.k, u.t, u.c, u.h, (k.id : Nat), (g : Nat), u.d, u.p, u.q, u.e⟩).mono ?_
  rintro en w8 ⟨rfl, h8⟩
  have H8 := Lib.hid h8
  have q4 := h8.b (List.mem_cons_self) 4 _ rfl
  have q5 := h8.b (List.mem_cons_self) 5 _ rfl
  have c7 := h8.kc 7 _ rfl
  have c8 := h8.kc 8 _ rfl
  have c9 := h8.kc 9 _ rfl
  have c10 := h8.kc 10 _ rfl
  have c11 := h8.kc 11 _ rfl
  have fz := h8.kz
  clear h8 H7
  go_upto_region 7 with (fail)
  have h9 := H8.out.ans ⟨0, true, k.id, g⟩
  dsimp only at h9
  clear c7 c8 c9 c10 c11 fz q4 q5 H8
  generalize ((((w8.setCell ⟨X.kb, 7, none⟩ (.int .i64 ((0 : Nat) : Int))).setCell ⟨X.kb, 8, none⟩ (.bool true)).setCell ⟨X.kb, 9, none⟩ (.int .u64 (k.id : Nat))).setCell ⟨X.kb, 10, none⟩ (.int .u64 (g : Nat))).setCell ⟨X.kb, 11, none⟩ (.slice none 0 0) = w9 at h9 ⊢
  have H9 := Lib.hid h9
  have q5 := h9.b (List.mem_cons_self) 5 _ rfl
  clear h9
  go_wp2
  go_ret2
  exact ⟨rfl, H9.out.pops (fun p hp => List.mem_cons_of_mem _ (List.mem_cons_of_mem _ hp))⟩
end
end Go.Proofs.YtnbdafmjcmmfpaaGreat
