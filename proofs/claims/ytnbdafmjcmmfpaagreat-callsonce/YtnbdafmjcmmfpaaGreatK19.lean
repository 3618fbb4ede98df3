import Derived.Test.YtnbdafmjcmmfpaaGreatK16
import Derived.Test.YtnbdafmjcmmfpaaGreatK01
import Derived.Deep.RegionHeld
/-
  A work's look at the timer that its call names, and its try.
-/
namespace Go.Proofs.YtnbdafmjcmmfpaaGreat
open Go.RowKit Verge
attribute [local go_sem] Oper.semAt_some
set_option linter.unusedVariables false
set_option linter.unusedSimpArgs false
section
variable {E : Ee} {S S0 : Nat → Prop} {w0 W W' : World} {σ σ' : Wd} {n n' : Nat} {X X' : Mx} {k k' : Wk} {B : Nat} {r : List (Nat × List Value)}
set_option maxHeartbeats 4000000 in
theorem Bo.lookInv (h : Bo E S0 w0 W σ n X k) (hn : n ≤ 90000) (ev : Int) (Ks Kg : Nat) (sf sc gf gc : Array Value) (hid : k.id < 18446744073709551616) (hw : wasW E.N σ.R k.id = false) :
    Calls Tryz.prog 94 #[ptr X.kb, .int .i64 ev, .func (.func Ks) sf sc, .func (.func Kg) gf gc] W fun en W' => en = .returned (.agg #[.nilFunc, .func (.func Kg) gf gc]) ∧ Bo E S0 w0 W' σ (n + 1) X { k with a := ⟨1, false, 0, 0⟩ } := by
  have H1 := Lib.hid h.box
  have HL := Lib.hid (fun p (hp : p ∈ X.bx) => h.blt hp)
  clear h
  go_enter Tryz.func94, Tryz.ntmps94
  go_upto_region 1 with (fail)
  generalize W.alloc (.cells #[.nilFunc, .nilFunc] 103) = w1 at H1 ⊢
  obtain ⟨B, hB⟩ : ∃ B, B = W.heap.size := ⟨_, rfl⟩
  rw [← hB] at H1 ⊢
  have HB := Lib.hid hB
  clear hB
  have D1 : Ch Nil w1 w1.drew := (Ch.refl _ _).drew
  have H2 := Lib.hid (H1.out.quiet D1)
  refine wp_region_held_drew (S := fun w' => w'.cell? ⟨X.kb, 0, none⟩ = some (ptr E.F.f) ∧ w'.cell? ⟨X.kb, 4, none⟩ = some (.int .u64 (k.id : Nat))) (by kernel_rfl) ⟨H2.out.k0, H2.out.k4⟩ (fun hHeld => ?_)
  clear D1 H1
  generalize w1.drew = w2 at *
  refine take_at (v := ?_) 0 (some 15) rfl (by kernel_rfl) (by kernel_rfl) (by kernel_rfl) (by kernel_rfl) (fun _ _ _ h => h) (Or.inl ⟨by rfl, ?_⟩) (by assumption) ?_
  rotate_left
  · intro w hSw; (try dsimp only at hSw); go_simp; try (with_reducible rfl)
  (try simp only [Act.put, List.setIfInBounds_toArray, List.set_cons_zero, List.set_cons_succ])
  refine take_at (v := ?_) 1 (some 16) rfl (by kernel_rfl) (by kernel_rfl) (by kernel_rfl) (by kernel_rfl) (fun _ _ _ h => h) (Or.inl ⟨by rfl, ?_⟩) (by assumption) ?_
  rotate_left
  · intro w hSw; (try dsimp only at hSw); go_simp; try (with_reducible rfl)
  (try simp only [Act.put, List.setIfInBounds_toArray, List.set_cons_zero, List.set_cons_succ])
  refine take_at (v := ?_) 2 (some 17) rfl (by kernel_rfl) (by kernel_rfl) (by kernel_rfl) (by kernel_rfl) (fun _ _ _ h => h) (Or.inl ⟨by rfl, ?_⟩) (by assumption) ?_
  rotate_left
  · intro w hSw; (try dsimp only at hSw); go_simp; try (with_reducible rfl)
  (try simp only [Act.put, List.setIfInBounds_toArray, List.set_cons_zero, List.set_cons_succ])
  refine take_at (v := ?_) 3 (some 18) rfl (by kernel_rfl) (by kernel_rfl) (by kernel_rfl) (by kernel_rfl) (fun _ _ _ h => h) (Or.inl ⟨by rfl, ?_⟩) (by assumption) ?_
  rotate_left
  · intro w hSw; (try dsimp only at hSw); go_simp; try (with_reducible rfl)
  (try simp only [Act.put, List.setIfInBounds_toArray, List.set_cons_zero, List.set_cons_succ])
  refine take_at (v := ?_) 5 (some 20) rfl (by kernel_rfl) (by kernel_rfl) (by kernel_rfl) (by kernel_rfl) (fun _ _ _ h => h) (Or.inl ⟨by rfl, ?_⟩) (by assumption) ?_
  rotate_left
  · intro w hSw; (try dsimp only at hSw); go_simp; try (with_reducible rfl)
  (try simp only [Act.put, List.setIfInBounds_toArray, List.set_cons_zero, List.set_cons_succ])
  refine take_at (v := ?_) 6 (some 21) rfl (by kernel_rfl) (by kernel_rfl) (by kernel_rfl) (by kernel_rfl) (fun _ _ _ h => h) (Or.inl ⟨by rfl, ?_⟩) (by assumption) ?_
  rotate_left
  · intro w hSw; (try dsimp only at hSw); go_simp; try (with_reducible rfl)
  (try simp only [Act.put, List.setIfInBounds_toArray, List.set_cons_zero, List.set_cons_succ])
  refine take_at (v := ?_) 7 (some 22) rfl (by kernel_rfl) (by kernel_rfl) (by kernel_rfl) (by kernel_rfl) (fun _ _ _ h => h) (Or.inl ⟨by rfl, ?_⟩) (by assumption) ?_
  rotate_left
  · intro w hSw; (try dsimp only at hSw); go_simp; try (with_reducible rfl)
  (try simp only [Act.put, List.setIfInBounds_toArray, List.set_cons_zero, List.set_cons_succ])
  refine take_at (v := ?_) 8 (some 23) rfl (by kernel_rfl) (by kernel_rfl) (by kernel_rfl) (by kernel_rfl) (fun _ _ _ h => h) (Or.inl ⟨by rfl, ?_⟩) (by assumption) ?_
  rotate_left
  · intro w hSw; (try dsimp only at hSw); go_simp; try (with_reducible rfl)
  (try simp only [Act.put, List.setIfInBounds_toArray, List.set_cons_zero, List.set_cons_succ])
  refine take_at (v := ?_) 9 (some 24) rfl (by kernel_rfl) (by kernel_rfl) (by kernel_rfl) (by kernel_rfl) (fun _ _ _ h => h) (Or.inl ⟨by rfl, ?_⟩) (by assumption) ?_
  rotate_left
  · intro w hSw; (try dsimp only at hSw); go_simp; try (with_reducible rfl)
  (try simp only [Act.put, List.setIfInBounds_toArray, List.set_cons_zero, List.set_cons_succ])
  refine wpAnyH_ready (rs := [4]) (by kernel_rfl) (by simp) ?_
  refine AllReadyH.cons rfl (fun K hK => ?_) AllReadyH.nil
  go_simp
  refine (H2.out.slabOf).mono ?_
  rintro e w3 ⟨rfl, h3⟩
  have H3 := Lib.hid h3
  refine hK.out _ _ ⟨h3.k0, h3.k4⟩ (fun hHeld2 => ?_)
  clear hK K hHeld
  have hHeld := hHeld2
  clear hHeld2
  (try simp only [Act.put, List.setIfInBounds_toArray, List.set_cons_zero, List.set_cons_succ])
  clear h3 H2
  refine take_at (v := ?_) 10 (some 9) rfl (by kernel_rfl) (by kernel_rfl) (by kernel_rfl) (by kernel_rfl) (fun _ _ _ h => h) (Or.inl ⟨by rfl, ?_⟩) (by assumption) ?_
  rotate_left
  · intro w hSw; (try dsimp only at hSw); go_simp; try (with_reducible rfl)
  (try simp only [Act.put, List.setIfInBounds_toArray, List.set_cons_zero, List.set_cons_succ])
  refine take_at (v := ?_) 11 (some 10) rfl (by kernel_rfl) (by kernel_rfl) (by kernel_rfl) (by kernel_rfl) (fun _ _ _ h => h) (Or.inl ⟨by rfl, ?_⟩) (by assumption) ?_
  rotate_left
  · intro w hSw; (try dsimp only at hSw); go_simp; try (with_reducible rfl)
  (try simp only [Act.put, List.setIfInBounds_toArray, List.set_cons_zero, List.set_cons_succ])
  refine wpAnyH_done (by kernel_rfl) ?_ _
  clear hHeld
  go_wp2_with fail
  refine (H3.out.slotNo k.id hid hw).mono ?_
  rintro en w4 ⟨rfl, rfl⟩
  have H9 := H3
  clear H3
  go_wp2_with fail
  refine (H9.out.refuse hn 1 _ _ _).mono ?_
  rintro en w9 ⟨rfl, h9⟩
  have H4 := Lib.hid h9
  clear h9 H9
  have b4 := H4.out.bk (B := B) (vs := [.nilFunc, .nilFunc]) (List.mem_cons_self)
  have x0 := H4.out.b (B := B) (vs := [.nilFunc, .nilFunc]) (List.mem_cons_self) 0 _ rfl
  have x1 := H4.out.b (B := B) (vs := [.nilFunc, .nilFunc]) (List.mem_cons_self) 1 _ rfl
  have fz := b4.fz
  have st0 := IsFn.store (v := .nilFunc) (.inl rfl)
  have st2 := IsFn.store (v := .func (.func Kg) gf gc) (.inr ⟨_, _, _, rfl⟩)
  clear b4
  go_wp2
  obtain ⟨h5, r0, r1⟩ := H4.out.ret (B := B) (r := X.bx) (fun p hp => hp) (fun p hp => by have := HL.out p hp; have := HB.out; omega) .nilFunc (.func (.func Kg) gf gc)
  (try simp only [Exit.inBlock, Exit.then])
  refine bodyPost_ret (v := .agg #[.nilFunc, .func (.func Kg) gf gc]) ?hr rfl ?hx
  case hx => exact ⟨rfl, h5⟩
  case hr =>
    generalize ((w9.setCell ⟨B, 0, none⟩ .nilFunc).setCell ⟨B, 1, none⟩ (.func (.func Kg) gf gc)) = W5 at r0 r1 ⊢
    simp [results, Tryz.results94, go_sem, r0, r1]
set_option maxHeartbeats 4000000 in
theorem Bo.lookRef (h : Bo E S0 w0 W σ n X k) (hn : n ≤ 90000) (ev : Int) (Ks Kg : Nat) (sf sc gf gc : Array Value) (hid : k.id < 18446744073709551616) (hw : wasW E.N σ.R k.id = true) {s : Nat} (hsd : Hid (k.id % 64 = s)) (hs : s < E.N.n) (hx : (nxZ (σ.R s).wd ev ((σ.R s).pd != 0)).2 ≠ 0) :
    Calls Tryz.prog 94 #[ptr X.kb, .int .i64 ev, .func (.func Ks) sf sc, .func (.func Kg) gf gc] W fun en W' => en = .returned (.agg #[.nilFunc, .func (.func Kg) gf gc]) ∧ Bo E S0 w0 W' σ (n + 1) X { k with a := ⟨0, false, 0, 0⟩ } := by
  have HX := Lib.hid hx
  clear hx
  have H1 := Lib.hid h.box
  have HL := Lib.hid (fun p (hp : p ∈ X.bx) => h.blt hp)
  clear h
  go_enter Tryz.func94, Tryz.ntmps94
  go_upto_region 1 with (fail)
  generalize W.alloc (.cells #[.nilFunc, .nilFunc] 103) = w1 at H1 ⊢
  obtain ⟨B, hB⟩ : ∃ B, B = W.heap.size := ⟨_, rfl⟩
  rw [← hB] at H1 ⊢
  have HB := Lib.hid hB
  clear hB
  have D1 : Ch Nil w1 w1.drew := (Ch.refl _ _).drew
  have H2 := Lib.hid (H1.out.quiet D1)
  refine wp_region_held_drew (S := fun w' => w'.cell? ⟨X.kb, 0, none⟩ = some (ptr E.F.f) ∧ w'.cell? ⟨X.kb, 4, none⟩ = some (.int .u64 (k.id : Nat))) (by kernel_rfl) ⟨H2.out.k0, H2.out.k4⟩ (fun hHeld => ?_)
  clear D1 H1
  generalize w1.drew = w2 at *
  refine take_at (v := ?_) 0 (some 15) rfl (by kernel_rfl) (by kernel_rfl) (by kernel_rfl) (by kernel_rfl) (fun _ _ _ h => h) (Or.inl ⟨by rfl, ?_⟩) (by assumption) ?_
  rotate_left
  · intro w hSw; (try dsimp only at hSw); go_simp; try (with_reducible rfl)
  (try simp only [Act.put, List.setIfInBounds_toArray, List.set_cons_zero, List.set_cons_succ])
  refine take_at (v := ?_) 1 (some 16) rfl (by kernel_rfl) (by kernel_rfl) (by kernel_rfl) (by kernel_rfl) (fun _ _ _ h => h) (Or.inl ⟨by rfl, ?_⟩) (by assumption) ?_
  rotate_left
  · intro w hSw; (try dsimp only at hSw); go_simp; try (with_reducible rfl)
  (try simp only [Act.put, List.setIfInBounds_toArray, List.set_cons_zero, List.set_cons_succ])
  refine take_at (v := ?_) 2 (some 17) rfl (by kernel_rfl) (by kernel_rfl) (by kernel_rfl) (by kernel_rfl) (fun _ _ _ h => h) (Or.inl ⟨by rfl, ?_⟩) (by assumption) ?_
  rotate_left
  · intro w hSw; (try dsimp only at hSw); go_simp; try (with_reducible rfl)
  (try simp only [Act.put, List.setIfInBounds_toArray, List.set_cons_zero, List.set_cons_succ])
  refine take_at (v := ?_) 3 (some 18) rfl (by kernel_rfl) (by kernel_rfl) (by kernel_rfl) (by kernel_rfl) (fun _ _ _ h => h) (Or.inl ⟨by rfl, ?_⟩) (by assumption) ?_
  rotate_left
  · intro w hSw; (try dsimp only at hSw); go_simp; try (with_reducible rfl)
  (try simp only [Act.put, List.setIfInBounds_toArray, List.set_cons_zero, List.set_cons_succ])
  refine take_at (v := ?_) 5 (some 20) rfl (by kernel_rfl) (by kernel_rfl) (by kernel_rfl) (by kernel_rfl) (fun _ _ _ h => h) (Or.inl ⟨by rfl, ?_⟩) (by assumption) ?_
  rotate_left
  · intro w hSw; (try dsimp only at hSw); go_simp; try (with_reducible rfl)
  (try simp only [Act.put, List.setIfInBounds_toArray, List.set_cons_zero, List.set_cons_succ])
  refine take_at (v := ?_) 6 (some 21) rfl (by kernel_rfl) (by kernel_rfl) (by kernel_rfl) (by kernel_rfl) (fun _ _ _ h => h) (Or.inl ⟨by rfl, ?_⟩) (by assumption) ?_
  rotate_left
  · intro w hSw; (try dsimp only at hSw); go_simp; try (with_reducible rfl)
  (try simp only [Act.put, List.setIfInBounds_toArray, List.set_cons_zero, List.set_cons_succ])
  refine take_at (v := ?_) 7 (some 22) rfl (by kernel_rfl) (by kernel_rfl) (by kernel_rfl) (by kernel_rfl) (fun _ _ _ h => h) (Or.inl ⟨by rfl, ?_⟩) (by assumption) ?_
  rotate_left
  · intro w hSw; (try dsimp only at hSw); go_simp; try (with_reducible rfl)
  (try simp only [Act.put, List.setIfInBounds_toArray, List.set_cons_zero, List.set_cons_succ])
  refine take_at (v := ?_) 8 (some 23) rfl (by kernel_rfl) (by kernel_rfl) (by kernel_rfl) (by kernel_rfl) (fun _ _ _ h => h) (Or.inl ⟨by rfl, ?_⟩) (by assumption) ?_
  rotate_left
  · intro w hSw; (try dsimp only at hSw); go_simp; try (with_reducible rfl)
  (try simp only [Act.put, List.setIfInBounds_toArray, List.set_cons_zero, List.set_cons_succ])
  refine take_at (v := ?_) 9 (some 24) rfl (by kernel_rfl) (by kernel_rfl) (by kernel_rfl) (by kernel_rfl) (fun _ _ _ h => h) (Or.inl ⟨by rfl, ?_⟩) (by assumption) ?_
  rotate_left
  · intro w hSw; (try dsimp only at hSw); go_simp; try (with_reducible rfl)
  (try simp only [Act.put, List.setIfInBounds_toArray, List.set_cons_zero, List.set_cons_succ])
  refine wpAnyH_ready (rs := [4]) (by kernel_rfl) (by simp) ?_
  refine AllReadyH.cons rfl (fun K hK => ?_) AllReadyH.nil
  go_simp
  refine (H2.out.slabOf).mono ?_
  rintro e w3 ⟨rfl, h3⟩
  have H3 := Lib.hid h3
  refine hK.out _ _ ⟨h3.k0, h3.k4⟩ (fun hHeld2 => ?_)
  clear hK K hHeld
  have hHeld := hHeld2
  clear hHeld2
  (try simp only [Act.put, List.setIfInBounds_toArray, List.set_cons_zero, List.set_cons_succ])
  clear h3 H2
  refine take_at (v := ?_) 10 (some 9) rfl (by kernel_rfl) (by kernel_rfl) (by kernel_rfl) (by kernel_rfl) (fun _ _ _ h => h) (Or.inl ⟨by rfl, ?_⟩) (by assumption) ?_
  rotate_left
  · intro w hSw; (try dsimp only at hSw); go_simp; try (with_reducible rfl)
  (try simp only [Act.put, List.setIfInBounds_toArray, List.set_cons_zero, List.set_cons_succ])
  refine take_at (v := ?_) 11 (some 10) rfl (by kernel_rfl) (by kernel_rfl) (by kernel_rfl) (by kernel_rfl) (fun _ _ _ h => h) (Or.inl ⟨by rfl, ?_⟩) (by assumption) ?_
  rotate_left
  · intro w hSw; (try dsimp only at hSw); go_simp; try (with_reducible rfl)
  (try simp only [Act.put, List.setIfInBounds_toArray, List.set_cons_zero, List.set_cons_succ])
  refine wpAnyH_done (by kernel_rfl) ?_ _
  clear hHeld
  go_wp2_with fail
  have SY := H3.out.slotYes k.id hid hw
  rw [hsd.out] at SY
  refine SY.mono ?_
  clear SY
  rintro en w4 ⟨rfl, rfl⟩
  go_wp2_with fail
  refine (H3.out.word s hs).mono ?_
  rintro en w5 ⟨rfl, h5⟩
  have H5 := Lib.hid h5
  have hwl : (σ.R s).wd < 18446744073709551616 := okW_lt64 (h5.bd.w s hs)
  obtain ⟨v, hv⟩ : ∃ v, v = (σ.R s).wd := ⟨_, rfl⟩
  rw [← hv] at hwl ⊢
  have HV := Lib.hid hv
  have HWL := Lib.hid hwl
  clear h5 H3 hv hwl
  go_wp2_with fail
  obtain ⟨pb, hpb2⟩ : ∃ pb, pb = ((σ.R s).pd != 0) := ⟨_, rfl⟩
  have HPB := Lib.hid hpb2
  obtain ⟨p, hp⟩ : ∃ p, p = (σ.R s).pd := ⟨_, rfl⟩
  have hpb : ((p : Int) != 0) = pb := by rw [hpb2, ← hp, Bool.eq_iff_iff, bne_iff_ne, bne_iff_ne]; omega
  have PE := H5.out.period s hs
  rw [← hp] at PE
  clear hp hpb2
  refine PE.mono ?_
  clear PE
  rintro en w6 ⟨rfl, rfl⟩
  go_wp2_with fail
  clear hpb
  refine (next_any v ev pb HWL.out _).mono ?_
  rintro en w6 ⟨rfl, rfl⟩
  have hx := HX.out
  rw [← HV.out, ← HPB.out] at hx
  generalize nxZ v ev pb = xy at hx ⊢
  obtain ⟨x, y⟩ := xy
  have hy : y ≠ 0 := hx
  have hxz : ((y : Int) != 0) = true := by rw [bne_iff_ne]; omega
  clear hy
  clear HX hx
  have H9 := H5
  clear H5
  go_wp2_with fail
  refine (H9.out.refuse hn 0 _ _ _).mono ?_
  rintro en w9 ⟨rfl, h9⟩
  have H4 := Lib.hid h9
  clear h9 H9
  have b4 := H4.out.bk (B := B) (vs := [.nilFunc, .nilFunc]) (List.mem_cons_self)
  have x0 := H4.out.b (B := B) (vs := [.nilFunc, .nilFunc]) (List.mem_cons_self) 0 _ rfl
  have x1 := H4.out.b (B := B) (vs := [.nilFunc, .nilFunc]) (List.mem_cons_self) 1 _ rfl
  have fz := b4.fz
  have st0 := IsFn.store (v := .nilFunc) (.inl rfl)
  have st2 := IsFn.store (v := .func (.func Kg) gf gc) (.inr ⟨_, _, _, rfl⟩)
  clear b4
  go_wp2
  obtain ⟨h5, r0, r1⟩ := H4.out.ret (B := B) (r := X.bx) (fun p hp => hp) (fun p hp => by have := HL.out p hp; have := HB.out; omega) .nilFunc (.func (.func Kg) gf gc)
  (try simp only [Exit.inBlock, Exit.then])
  refine bodyPost_ret (v := .agg #[.nilFunc, .func (.func Kg) gf gc]) ?hr rfl ?hx
  case hx => exact ⟨rfl, h5⟩
  case hr =>
    generalize ((w9.setCell ⟨B, 0, none⟩ .nilFunc).setCell ⟨B, 1, none⟩ (.func (.func Kg) gf gc)) = W5 at r0 r1 ⊢
    simp [results, Tryz.results94, go_sem, r0, r1]
set_option maxHeartbeats 4000000 in
theorem Bo.lookOld (h : Bo E S0 w0 W σ n X k) (hn : n ≤ 90000) (ev : Int) (Ks Kg : Nat) (sf sc gf gc : Array Value) (hid : k.id < 18446744073709551616) (hw : wasW E.N σ.R k.id = true) {s : Nat} (hsd : Hid (k.id % 64 = s)) (hs : s < E.N.n) (hx : (nxZ (σ.R s).wd ev ((σ.R s).pd != 0)).2 = 0) (hm : k.id / 64 ≠ (σ.R s).gv) :
    Calls Tryz.prog 94 #[ptr X.kb, .int .i64 ev, .func (.func Ks) sf sc, .func (.func Kg) gf gc] W fun en W' => en = .returned (.agg #[.nilFunc, .func (.func Kg) gf gc]) ∧ Bo E S0 w0 W' σ (n + 1) X { k with a := ⟨0, false, 0, 0⟩ } := by
  have HX := Lib.hid hx
  have MN := Lib.hid (show mineId E.N.n σ.R k.id = false from by
    unfold mineId
    rw [decide_eq_false_iff_not, hsd.out, if_pos hs]
    exact fun e => hm e.2)
  clear hx hm
  have H1 := Lib.hid h.box
  have HL := Lib.hid (fun p (hp : p ∈ X.bx) => h.blt hp)
  clear h
  go_enter Tryz.func94, Tryz.ntmps94
  go_upto_region 1 with (fail)
  generalize W.alloc (.cells #[.nilFunc, .nilFunc] 103) = w1 at H1 ⊢
  obtain ⟨B, hB⟩ : ∃ B, B = W.heap.size := ⟨_, rfl⟩
  rw [← hB] at H1 ⊢
  have HB := Lib.hid hB
  clear hB
  have D1 : Ch Nil w1 w1.drew := (Ch.refl _ _).drew
  have H2 := Lib.hid (H1.out.quiet D1)
  refine wp_region_held_drew (S := fun w' => w'.cell? ⟨X.kb, 0, none⟩ = some (ptr E.F.f) ∧ w'.cell? ⟨X.kb, 4, none⟩ = some (.int .u64 (k.id : Nat))) (by kernel_rfl) ⟨H2.out.k0, H2.out.k4⟩ (fun hHeld => ?_)
  clear D1 H1
  generalize w1.drew = w2 at *
  refine take_at (v := ?_) 0 (some 15) rfl (by kernel_rfl) (by kernel_rfl) (by kernel_rfl) (by kernel_rfl) (fun _ _ _ h => h) (Or.inl ⟨by rfl, ?_⟩) (by assumption) ?_
  rotate_left
  · intro w hSw; (try dsimp only at hSw); go_simp; try (with_reducible rfl)
  (try simp only [Act.put, List.setIfInBounds_toArray, List.set_cons_zero, List.set_cons_succ])
  refine take_at (v := ?_) 1 (some 16) rfl (by kernel_rfl) (by kernel_rfl) (by kernel_rfl) (by kernel_rfl) (fun _ _ _ h => h) (Or.inl ⟨by rfl, ?_⟩) (by assumption) ?_
  rotate_left
  · intro w hSw; (try dsimp only at hSw); go_simp; try (with_reducible rfl)
  (try simp only [Act.put, List.setIfInBounds_toArray, List.set_cons_zero, List.set_cons_succ])
  refine take_at (v := ?_) 2 (some 17) rfl (by kernel_rfl) (by kernel_rfl) (by kernel_rfl) (by kernel_rfl) (fun _ _ _ h => h) (Or.inl ⟨by rfl, ?_⟩) (by assumption) ?_
  rotate_left
  · intro w hSw; (try dsimp only at hSw); go_simp; try (with_reducible rfl)
  (try simp only [Act.put, List.setIfInBounds_toArray, List.set_cons_zero, List.set_cons_succ])
  refine take_at (v := ?_) 3 (some 18) rfl (by kernel_rfl) (by kernel_rfl) (by kernel_rfl) (by kernel_rfl) (fun _ _ _ h => h) (Or.inl ⟨by rfl, ?_⟩) (by assumption) ?_
  rotate_left
  · intro w hSw; (try dsimp only at hSw); go_simp; try (with_reducible rfl)
  (try simp only [Act.put, List.setIfInBounds_toArray, List.set_cons_zero, List.set_cons_succ])
  refine take_at (v := ?_) 5 (some 20) rfl (by kernel_rfl) (by kernel_rfl) (by kernel_rfl) (by kernel_rfl) (fun _ _ _ h => h) (Or.inl ⟨by rfl, ?_⟩) (by assumption) ?_
  rotate_left
  · intro w hSw; (try dsimp only at hSw); go_simp; try (with_reducible rfl)
  (try simp only [Act.put, List.setIfInBounds_toArray, List.set_cons_zero, List.set_cons_succ])
  refine take_at (v := ?_) 6 (some 21) rfl (by kernel_rfl) (by kernel_rfl) (by kernel_rfl) (by kernel_rfl) (fun _ _ _ h => h) (Or.inl ⟨by rfl, ?_⟩) (by assumption) ?_
  rotate_left
  · intro w hSw; (try dsimp only at hSw); go_simp; try (with_reducible rfl)
  (try simp only [Act.put, List.setIfInBounds_toArray, List.set_cons_zero, List.set_cons_succ])
  refine take_at (v := ?_) 7 (some 22) rfl (by kernel_rfl) (by kernel_rfl) (by kernel_rfl) (by kernel_rfl) (fun _ _ _ h => h) (Or.inl ⟨by rfl, ?_⟩) (by assumption) ?_
  rotate_left
  · intro w hSw; (try dsimp only at hSw); go_simp; try (with_reducible rfl)
  (try simp only [Act.put, List.setIfInBounds_toArray, List.set_cons_zero, List.set_cons_succ])
  refine take_at (v := ?_) 8 (some 23) rfl (by kernel_rfl) (by kernel_rfl) (by kernel_rfl) (by kernel_rfl) (fun _ _ _ h => h) (Or.inl ⟨by rfl, ?_⟩) (by assumption) ?_
  rotate_left
  · intro w hSw; (try dsimp only at hSw); go_simp; try (with_reducible rfl)
  (try simp only [Act.put, List.setIfInBounds_toArray, List.set_cons_zero, List.set_cons_succ])
  refine take_at (v := ?_) 9 (some 24) rfl (by kernel_rfl) (by kernel_rfl) (by kernel_rfl) (by kernel_rfl) (fun _ _ _ h => h) (Or.inl ⟨by rfl, ?_⟩) (by assumption) ?_
  rotate_left
  · intro w hSw; (try dsimp only at hSw); go_simp; try (with_reducible rfl)
  (try simp only [Act.put, List.setIfInBounds_toArray, List.set_cons_zero, List.set_cons_succ])
  refine wpAnyH_ready (rs := [4]) (by kernel_rfl) (by simp) ?_
  refine AllReadyH.cons rfl (fun K hK => ?_) AllReadyH.nil
  go_simp
  refine (H2.out.slabOf).mono ?_
  rintro e w3 ⟨rfl, h3⟩
  have H3 := Lib.hid h3
  refine hK.out _ _ ⟨h3.k0, h3.k4⟩ (fun hHeld2 => ?_)
  clear hK K hHeld
  have hHeld := hHeld2
  clear hHeld2
  (try simp only [Act.put, List.setIfInBounds_toArray, List.set_cons_zero, List.set_cons_succ])
  clear h3 H2
  refine take_at (v := ?_) 10 (some 9) rfl (by kernel_rfl) (by kernel_rfl) (by kernel_rfl) (by kernel_rfl) (fun _ _ _ h => h) (Or.inl ⟨by rfl, ?_⟩) (by assumption) ?_
  rotate_left
  · intro w hSw; (try dsimp only at hSw); go_simp; try (with_reducible rfl)
  (try simp only [Act.put, List.setIfInBounds_toArray, List.set_cons_zero, List.set_cons_succ])
  refine take_at (v := ?_) 11 (some 10) rfl (by kernel_rfl) (by kernel_rfl) (by kernel_rfl) (by kernel_rfl) (fun _ _ _ h => h) (Or.inl ⟨by rfl, ?_⟩) (by assumption) ?_
  rotate_left
  · intro w hSw; (try dsimp only at hSw); go_simp; try (with_reducible rfl)
  (try simp only [Act.put, List.setIfInBounds_toArray, List.set_cons_zero, List.set_cons_succ])
  refine wpAnyH_done (by kernel_rfl) ?_ _
  clear hHeld
  go_wp2_with fail
  have SY := H3.out.slotYes k.id hid hw
  rw [hsd.out] at SY
  refine SY.mono ?_
  clear SY
  rintro en w4 ⟨rfl, rfl⟩
  go_wp2_with fail
  refine (H3.out.word s hs).mono ?_
  rintro en w5 ⟨rfl, h5⟩
  have H5 := Lib.hid h5
  have hwl : (σ.R s).wd < 18446744073709551616 := okW_lt64 (h5.bd.w s hs)
  obtain ⟨v, hv⟩ : ∃ v, v = (σ.R s).wd := ⟨_, rfl⟩
  rw [← hv] at hwl ⊢
  have HV := Lib.hid hv
  have HWL := Lib.hid hwl
  clear h5 H3 hv hwl
  go_wp2_with fail
  obtain ⟨pb, hpb2⟩ : ∃ pb, pb = ((σ.R s).pd != 0) := ⟨_, rfl⟩
  have HPB := Lib.hid hpb2
  obtain ⟨p, hp⟩ : ∃ p, p = (σ.R s).pd := ⟨_, rfl⟩
  have hpb : ((p : Int) != 0) = pb := by rw [hpb2, ← hp, Bool.eq_iff_iff, bne_iff_ne, bne_iff_ne]; omega
  have PE := H5.out.period s hs
  rw [← hp] at PE
  clear hp hpb2
  refine PE.mono ?_
  clear PE
  rintro en w6 ⟨rfl, rfl⟩
  go_wp2_with fail
  clear hpb
  refine (next_any v ev pb HWL.out _).mono ?_
  rintro en w6 ⟨rfl, rfl⟩
  have hx := HX.out
  rw [← HV.out, ← HPB.out] at hx
  generalize nxZ v ev pb = xy at hx ⊢
  obtain ⟨x, y⟩ := xy
  obtain rfl : y = 0 := hx
  clear HX
  go_wp2_with fail
  have MO := mine_of k.id hid H5.out.slab
  rw [MN.out] at MO
  refine MO.mono ?_
  clear MO
  rintro en w7 ⟨rfl, rfl⟩
  have H9 := H5
  clear H5
  go_wp2_with fail
  refine (H9.out.refuse hn 0 _ _ _).mono ?_
  rintro en w9 ⟨rfl, h9⟩
  have H4 := Lib.hid h9
  clear h9 H9
  have b4 := H4.out.bk (B := B) (vs := [.nilFunc, .nilFunc]) (List.mem_cons_self)
  have x0 := H4.out.b (B := B) (vs := [.nilFunc, .nilFunc]) (List.mem_cons_self) 0 _ rfl
  have x1 := H4.out.b (B := B) (vs := [.nilFunc, .nilFunc]) (List.mem_cons_self) 1 _ rfl
  have fz := b4.fz
  have st0 := IsFn.store (v := .nilFunc) (.inl rfl)
  have st2 := IsFn.store (v := .func (.func Kg) gf gc) (.inr ⟨_, _, _, rfl⟩)
  clear b4
  go_wp2
  obtain ⟨h5, r0, r1⟩ := H4.out.ret (B := B) (r := X.bx) (fun p hp => hp) (fun p hp => by have := HL.out p hp; have := HB.out; omega) .nilFunc (.func (.func Kg) gf gc)
  (try simp only [Exit.inBlock, Exit.then])
  refine bodyPost_ret (v := .agg #[.nilFunc, .func (.func Kg) gf gc]) ?hr rfl ?hx
  case hx => exact ⟨rfl, h5⟩
  case hr =>
    generalize ((w9.setCell ⟨B, 0, none⟩ .nilFunc).setCell ⟨B, 1, none⟩ (.func (.func Kg) gf gc)) = W5 at r0 r1 ⊢
    simp [results, Tryz.results94, go_sem, r0, r1]
set_option maxHeartbeats 4000000 in
theorem Bo.lookOn (h : Bo E S0 w0 W σ n X k) (hn : n ≤ 90000) (ev : Int) (Ks Kg : Nat) (sf sc gf gc : Array Value) (hid : k.id < 18446744073709551616) (hw : wasW E.N σ.R k.id = true) {s : Nat} (hsd : Hid (k.id % 64 = s)) (hs : s < E.N.n) (hx : (nxZ (σ.R s).wd ev ((σ.R s).pd != 0)).2 = 0) (hm : k.id / 64 = (σ.R s).gv) (en0 : Enters Ks) {v : Nat} (hvv : Hid (v = (σ.R s).wd))
    {k2 : Wk} {Q : Value → List (Nat × List Value) → Option Nat → Prop}
    (hseen : ∀ B W1, W.heap.size ≤ B → Bo E S0 w0 W1 σ n { X with bx := (B, [.nilFunc, .nilFunc]) :: X.bx } k → Calls Tryz.prog Ks (sf ++ #[.agg #[.int .i64 (s : Nat), .int .u64 (v : Nat)]] ++ sc) W1 fun e W2 => ∃ d bx2 t2, e = .returned (.agg #[.nilFunc, d]) ∧ IsFn d ∧ Bo E S0 w0 W2 σ n { X with bx := bx2 ++ (B, [.nilFunc, .nilFunc]) :: X.bx, t := t2 } k2 ∧ Q d bx2 t2 ∧ ∀ p ∈ bx2, W1.heap.size ≤ p.1) :
    Calls Tryz.prog 94 #[ptr X.kb, .int .i64 ev, .func (.func Ks) sf sc, .func (.func Kg) gf gc] W fun en W' => ∃ d bx2 t2, en = .returned (.agg #[.nilFunc, d]) ∧ IsFn d ∧ Bo E S0 w0 W' σ n { X with bx := bx2 ++ X.bx, t := t2 } k2 ∧ Q d bx2 t2 ∧ ∀ p ∈ bx2, W.heap.size ≤ p.1 := by
  have HX := Lib.hid hx
  have HSN := Lib.hid hseen
  have hE := en0
  unfold Enters at hE
  have MN := Lib.hid (show mineId E.N.n σ.R k.id = true from by
    unfold wasW at hw
    rw [decide_eq_true_eq] at hw
    unfold mineId
    rw [decide_eq_true_eq, hsd.out, if_pos hs]
    exact ⟨by omega, hm⟩)
  clear hx hm hseen en0
  have H1 := Lib.hid h.box
  have HL := Lib.hid (fun p (hp : p ∈ X.bx) => h.blt hp)
  clear h
  go_enter Tryz.func94, Tryz.ntmps94
  go_upto_region 1 with (fail)
  generalize W.alloc (.cells #[.nilFunc, .nilFunc] 103) = w1 at H1 ⊢
  obtain ⟨B, hB⟩ : ∃ B, B = W.heap.size := ⟨_, rfl⟩
  rw [← hB] at H1 ⊢
  have HB := Lib.hid hB
  clear hB
  have D1 : Ch Nil w1 w1.drew := (Ch.refl _ _).drew
  have H2 := Lib.hid (H1.out.quiet D1)
  refine wp_region_held_drew (S := fun w' => w'.cell? ⟨X.kb, 0, none⟩ = some (ptr E.F.f) ∧ w'.cell? ⟨X.kb, 4, none⟩ = some (.int .u64 (k.id : Nat))) (by kernel_rfl) ⟨H2.out.k0, H2.out.k4⟩ (fun hHeld => ?_)
  clear D1 H1
  generalize w1.drew = w2 at *
  refine take_at (v := ?_) 0 (some 15) rfl (by kernel_rfl) (by kernel_rfl) (by kernel_rfl) (by kernel_rfl) (fun _ _ _ h => h) (Or.inl ⟨by rfl, ?_⟩) (by assumption) ?_
  rotate_left
  · intro w hSw; (try dsimp only at hSw); go_simp; try (with_reducible rfl)
  (try simp only [Act.put, List.setIfInBounds_toArray, List.set_cons_zero, List.set_cons_succ])
  refine take_at (v := ?_) 1 (some 16) rfl (by kernel_rfl) (by kernel_rfl) (by kernel_rfl) (by kernel_rfl) (fun _ _ _ h => h) (Or.inl ⟨by rfl, ?_⟩) (by assumption) ?_
  rotate_left
  · intro w hSw; (try dsimp only at hSw); go_simp; try (with_reducible rfl)
  (try simp only [Act.put, List.setIfInBounds_toArray, List.set_cons_zero, List.set_cons_succ])
  refine take_at (v := ?_) 2 (some 17) rfl (by kernel_rfl) (by kernel_rfl) (by kernel_rfl) (by kernel_rfl) (fun _ _ _ h => h) (Or.inl ⟨by rfl, ?_⟩) (by assumption) ?_
  rotate_left
  · intro w hSw; (try dsimp only at hSw); go_simp; try (with_reducible rfl)
  (try simp only [Act.put, List.setIfInBounds_toArray, List.set_cons_zero, List.set_cons_succ])
  refine take_at (v := ?_) 3 (some 18) rfl (by kernel_rfl) (by kernel_rfl) (by kernel_rfl) (by kernel_rfl) (fun _ _ _ h => h) (Or.inl ⟨by rfl, ?_⟩) (by assumption) ?_
  rotate_left
  · intro w hSw; (try dsimp only at hSw); go_simp; try (with_reducible rfl)
  (try simp only [Act.put, List.setIfInBounds_toArray, List.set_cons_zero, List.set_cons_succ])
  refine take_at (v := ?_) 5 (some 20) rfl (by kernel_rfl) (by kernel_rfl) (by kernel_rfl) (by kernel_rfl) (fun _ _ _ h => h) (Or.inl ⟨by rfl, ?_⟩) (by assumption) ?_
  rotate_left
  · intro w hSw; (try dsimp only at hSw); go_simp; try (with_reducible rfl)
  (try simp only [Act.put, List.setIfInBounds_toArray, List.set_cons_zero, List.set_cons_succ])
  refine take_at (v := ?_) 6 (some 21) rfl (by kernel_rfl) (by kernel_rfl) (by kernel_rfl) (by kernel_rfl) (fun _ _ _ h => h) (Or.inl ⟨by rfl, ?_⟩) (by assumption) ?_
  rotate_left
  · intro w hSw; (try dsimp only at hSw); go_simp; try (with_reducible rfl)
  (try simp only [Act.put, List.setIfInBounds_toArray, List.set_cons_zero, List.set_cons_succ])
  refine take_at (v := ?_) 7 (some 22) rfl (by kernel_rfl) (by kernel_rfl) (by kernel_rfl) (by kernel_rfl) (fun _ _ _ h => h) (Or.inl ⟨by rfl, ?_⟩) (by assumption) ?_
  rotate_left
  · intro w hSw; (try dsimp only at hSw); go_simp; try (with_reducible rfl)
  (try simp only [Act.put, List.setIfInBounds_toArray, List.set_cons_zero, List.set_cons_succ])
  refine take_at (v := ?_) 8 (some 23) rfl (by kernel_rfl) (by kernel_rfl) (by kernel_rfl) (by kernel_rfl) (fun _ _ _ h => h) (Or.inl ⟨by rfl, ?_⟩) (by assumption) ?_
  rotate_left
  · intro w hSw; (try dsimp only at hSw); go_simp; try (with_reducible rfl)
  (try simp only [Act.put, List.setIfInBounds_toArray, List.set_cons_zero, List.set_cons_succ])
  refine take_at (v := ?_) 9 (some 24) rfl (by kernel_rfl) (by kernel_rfl) (by kernel_rfl) (by kernel_rfl) (fun _ _ _ h => h) (Or.inl ⟨by rfl, ?_⟩) (by assumption) ?_
  rotate_left
  · intro w hSw; (try dsimp only at hSw); go_simp; try (with_reducible rfl)
  (try simp only [Act.put, List.setIfInBounds_toArray, List.set_cons_zero, List.set_cons_succ])
  refine wpAnyH_ready (rs := [4]) (by kernel_rfl) (by simp) ?_
  refine AllReadyH.cons rfl (fun K hK => ?_) AllReadyH.nil
  go_simp
  refine (H2.out.slabOf).mono ?_
  rintro e w3 ⟨rfl, h3⟩
  have H3 := Lib.hid h3
  refine hK.out _ _ ⟨h3.k0, h3.k4⟩ (fun hHeld2 => ?_)
  clear hK K hHeld
  have hHeld := hHeld2
  clear hHeld2
  (try simp only [Act.put, List.setIfInBounds_toArray, List.set_cons_zero, List.set_cons_succ])
  clear h3 H2
  refine take_at (v := ?_) 10 (some 9) rfl (by kernel_rfl) (by kernel_rfl) (by kernel_rfl) (by kernel_rfl) (fun _ _ _ h => h) (Or.inl ⟨by rfl, ?_⟩) (by assumption) ?_
  rotate_left
  · intro w hSw; (try dsimp only at hSw); go_simp; try (with_reducible rfl)
  (try simp only [Act.put, List.setIfInBounds_toArray, List.set_cons_zero, List.set_cons_succ])
  refine take_at (v := ?_) 11 (some 10) rfl (by kernel_rfl) (by kernel_rfl) (by kernel_rfl) (by kernel_rfl) (fun _ _ _ h => h) (Or.inl ⟨by rfl, ?_⟩) (by assumption) ?_
  rotate_left
  · intro w hSw; (try dsimp only at hSw); go_simp; try (with_reducible rfl)
  (try simp only [Act.put, List.setIfInBounds_toArray, List.set_cons_zero, List.set_cons_succ])
  refine wpAnyH_done (by kernel_rfl) ?_ _
  clear hHeld
  go_wp2_with fail
  have SY := H3.out.slotYes k.id hid hw
  rw [hsd.out] at SY
  refine SY.mono ?_
  clear SY
  rintro en w4 ⟨rfl, rfl⟩
  go_wp2_with fail
  refine (H3.out.word s hs).mono ?_
  rintro en w5 ⟨rfl, h5⟩
  have H5 := Lib.hid h5
  have hwl : (σ.R s).wd < 18446744073709551616 := okW_lt64 (h5.bd.w s hs)
  have hv := hvv.out
  rw [← hv] at hwl ⊢
  have HV := Lib.hid hv
  have HWL := Lib.hid hwl
  clear h5 H3 hv hwl
  go_wp2_with fail
  obtain ⟨pb, hpb2⟩ : ∃ pb, pb = ((σ.R s).pd != 0) := ⟨_, rfl⟩
  have HPB := Lib.hid hpb2
  obtain ⟨p, hp⟩ : ∃ p, p = (σ.R s).pd := ⟨_, rfl⟩
  have hpb : ((p : Int) != 0) = pb := by rw [hpb2, ← hp, Bool.eq_iff_iff, bne_iff_ne, bne_iff_ne]; omega
  have PE := H5.out.period s hs
  rw [← hp] at PE
  clear hp hpb2
  refine PE.mono ?_
  clear PE
  rintro en w6 ⟨rfl, rfl⟩
  go_wp2_with fail
  clear hpb
  refine (next_any v ev pb HWL.out _).mono ?_
  rintro en w6 ⟨rfl, rfl⟩
  have hx := HX.out
  rw [← HV.out, ← HPB.out] at hx
  generalize nxZ v ev pb = xy at hx ⊢
  obtain ⟨x, y⟩ := xy
  obtain rfl : y = 0 := hx
  clear HX
  go_wp2_with fail
  have MO := mine_of k.id hid H5.out.slab
  rw [MN.out] at MO
  refine MO.mono ?_
  clear MO
  rintro en w7 ⟨rfl, rfl⟩
  go_wp2_with fail
  have SZ := Lib.hid (show B < w5.heap.size from H5.out.blt (p := (B, [.nilFunc, .nilFunc])) List.mem_cons_self)
  refine (HSN.out B _ (Nat.le_of_eq HB.out.symm) H5.out).mono ?_
  rintro en w8 ⟨d, bx2, t2, rfl, hd, h8, hQ, hb2⟩
  have H8 := Lib.hid h8
  have HD := Lib.hid hd
  have HQ := Lib.hid (And.intro hQ hb2)
  have hmem : (B, [Value.nilFunc, .nilFunc]) ∈ bx2 ++ (B, [.nilFunc, .nilFunc]) :: X.bx := List.mem_append.2 (.inr List.mem_cons_self)
  have b4 := H8.out.bk (B := B) (vs := [.nilFunc, .nilFunc]) hmem
  have x0 := H8.out.b (B := B) (vs := [.nilFunc, .nilFunc]) hmem 0 _ rfl
  have x1 := H8.out.b (B := B) (vs := [.nilFunc, .nilFunc]) hmem 1 _ rfl
  have fz := b4.fz
  have st0 := IsFn.store (v := .nilFunc) (.inl rfl)
  have st2 := hd.store
  clear b4 h8 hd hQ hb2 hmem H5
  go_wp2
  obtain ⟨h5, r0, r1⟩ := H8.out.ret (B := B) (r := bx2 ++ X.bx) (fun p hp => by
    rcases List.mem_cons.1 hp with rfl | hp
    · exact List.mem_append.2 (.inr List.mem_cons_self)
    · rcases List.mem_append.1 hp with hp | hp
      · exact List.mem_append.2 (.inl hp)
      · exact List.mem_append.2 (.inr (List.mem_cons_of_mem _ hp))) (fun p hp => by
    have := HB.out
    have := SZ.out
    rcases List.mem_append.1 hp with hp | hp
    · have := HQ.out.2 p hp; omega
    · have := HL.out p hp; omega) .nilFunc d
  (try simp only [Exit.inBlock, Exit.then])
  refine bodyPost_ret (v := .agg #[.nilFunc, d]) ?hr rfl ?hx
  case hx => exact ⟨d, bx2, t2, rfl, HD.out, h5, HQ.out.1, fun p hp => by have := HQ.out.2 p hp; have := SZ.out; have := HB.out; omega⟩
  case hr =>
    generalize ((w8.setCell ⟨B, 0, none⟩ .nilFunc).setCell ⟨B, 1, none⟩ (d)) = W5 at r0 r1 ⊢
    simp [results, Tryz.results94, go_sem, r0, r1]
end
end Go.Proofs.YtnbdafmjcmmfpaaGreat
