/-
  Contracts of package ring's functions at int: filling, popping, a new ring.
-/
import Derived.Test.YtklgmecmgbfhgaaRingI3
namespace Go.Proofs.Ytklgmecmgbfhgaa.RI
open Go.RowKit Verge
attribute [local go_sem] Oper.semAt_some
set_option linter.unusedVariables false
set_option linter.unusedSimpArgs false

theorem fill_nil (v : Int) (w : World) :
    Calls Try.prog 13 #[.pointer none, .int .i64 v] w fun e w' => e = .returned (.int .i64 7) ∧ w = w' := by
  go_enter Try.func13, Try.ntmps13
  go_wp2
  go_ret
  exact ⟨rfl, rfl⟩
theorem fill_early (t b : Nat) (st su : Int) (pos : Nat) (fl : Bool) (v : Int) (w : World) (k : IsT w t b st su pos fl) (hs : su ≠ 2) :
    Calls Try.prog 13 #[.pointer (some ⟨t, 0, none⟩), .int .i64 v] w fun e w' => e = .returned (.int .i64 7) ∧ w = w' := by
  obtain ⟨q0, q1, q2, q3, q4, qf⟩ := k
  have d1 : (su != 2) = true := by simpa using hs
  clear qf
  go_enter Try.func13, Try.ntmps13
  go_wp2
  go_ret
  exact ⟨rfl, rfl⟩
theorem fill_again (t b : Nat) (st : Int) (pos : Nat) (v : Int) (w : World) (k : IsT w t b st 2 pos true) :
    Calls Try.prog 13 #[.pointer (some ⟨t, 0, none⟩), .int .i64 v] w fun e w' => e = .returned (.int .i64 7) ∧ w = w' := by
  obtain ⟨q0, q1, q2, q3, q4, qf⟩ := k
  clear qf
  go_enter Try.func13, Try.ntmps13
  go_wp2
  go_ret
  exact ⟨rfl, rfl⟩

set_option maxHeartbeats 4000000 in
set_option maxRecDepth 100000 in
theorem fill_ok (t b sb n nx fi : Nat) (P : Nat → Bool) (V : Nat → Int) (st : Int) (pos : Nat) (v : Int) (w : World) (h : IsRing w b sb n nx fi P V) (k : IsT w t b st 2 pos false) (hb : t ≠ b) (hs : t ≠ sb) (hx : pos ≤ 1000000)
    (hp : fi ≤ pos ∧ pos < fi + n) :
    Calls Try.prog 13 #[.pointer (some ⟨t, 0, none⟩), .int .i64 v] w fun e w' => e = .returned (.int .i64 0) ∧ Stepped w t b sb n nx fi (upd P pos true) (upd V pos v) st 2 pos true w' := by
  have H := Lib.hid h
  have K := Lib.hid k
  obtain ⟨hp1, hp2⟩ := hp
  obtain ⟨q0, q1, q2, q3, q4, qf⟩ := k
  have f4 := qf 4
  have c1 : Ch (One t) w (w.setCell ⟨t, 4, none⟩ (.bool true)) := (Ch.refl _ _).setB _ _
  have k1 := K.out.setFl true
  have h1 := H.out.kept c1 (fun e => hb e.symm) (fun e => hs e.symm)
  have C1 := Lib.hid c1
  have K1 := Lib.hid k1
  have H1 := Lib.hid h1
  clear h qf c1 k1 h1
  go_enter Try.func13, Try.ntmps13
  go_wp2
  clear q0 q1 q2 q3 q4 f4
  generalize w.setCell ⟨t, 4, none⟩ (.bool true) = w1 at C1 K1 H1 ⊢
  have hS : (w1.drew.cell? ⟨t, 0, none⟩ = some (.pointer (some ⟨b, 0, none⟩)) ∧ w1.drew.cell? ⟨t, 3, none⟩ = some (.int .u64 pos)) ∧ Kp w1 Nil b sb n nx fi P V w1.drew := ⟨⟨K1.out.r, K1.out.pos⟩, H1.out.drew, (Ch.refl _ _).drew⟩
  refine wp_region_held_drew (S := fun w' => (w'.cell? ⟨t, 0, none⟩ = some (.pointer (some ⟨b, 0, none⟩)) ∧ w'.cell? ⟨t, 3, none⟩ = some (.int .u64 pos)) ∧ Kp w1 Nil b sb n nx fi P V w') (by kernel_rfl) hS (fun hHeld => ?_)
  clear hS
  generalize w1.drew = wd at hHeld ⊢
  refine take_at (v := ?_) 0 (some 24) rfl (by kernel_rfl) (by kernel_rfl) (by kernel_rfl) (by kernel_rfl) (fun _ _ _ h => h) (Or.inl ⟨by rfl, ?_⟩) (by assumption) ?_
  rotate_left
  · intro w hSw; (try dsimp only at hSw); go_simp; try (with_reducible rfl)
  (try simp only [Act.put, List.setIfInBounds_toArray, List.set_cons_zero, List.set_cons_succ])
  refine take_at (v := ?_) 1 (some 25) rfl (by kernel_rfl) (by kernel_rfl) (by kernel_rfl) (by kernel_rfl) (fun _ _ _ h => h) (Or.inl ⟨by rfl, ?_⟩) (by assumption) ?_
  rotate_left
  · intro w hSw; (try dsimp only at hSw); go_simp; try (with_reducible rfl)
  (try simp only [Act.put, List.setIfInBounds_toArray, List.set_cons_zero, List.set_cons_succ])
  refine take_at (v := ?_) 2 (some 26) rfl (by kernel_rfl) (by kernel_rfl) (by kernel_rfl) (by kernel_rfl) (fun _ _ _ h => h) (Or.inl ⟨by rfl, ?_⟩) (by assumption) ?_
  rotate_left
  · intro w hSw; (try dsimp only at hSw); go_simp; try (with_reducible rfl)
  (try simp only [Act.put, List.setIfInBounds_toArray, List.set_cons_zero, List.set_cons_succ])
  refine take_at (v := ?_) 3 (some 27) rfl (by kernel_rfl) (by kernel_rfl) (by kernel_rfl) (by kernel_rfl) (fun _ _ _ h => h) (Or.inl ⟨by rfl, ?_⟩) (by assumption) ?_
  rotate_left
  · intro w hSw; (try dsimp only at hSw); go_simp; try (with_reducible rfl)
  (try simp only [Act.put, List.setIfInBounds_toArray, List.set_cons_zero, List.set_cons_succ])
  refine take_at (v := ?_) 4 (some 28) rfl (by kernel_rfl) (by kernel_rfl) (by kernel_rfl) (by kernel_rfl) (fun _ _ _ h => h) (Or.inl ⟨by rfl, ?_⟩) (by assumption) ?_
  rotate_left
  · intro w hSw; (try dsimp only at hSw); go_simp; try (with_reducible rfl)
  (try simp only [Act.put, List.setIfInBounds_toArray, List.set_cons_zero, List.set_cons_succ])
  refine take_at (v := ?_) 5 (some 29) rfl (by kernel_rfl) (by kernel_rfl) (by kernel_rfl) (by kernel_rfl) (fun _ _ _ h => h) (Or.inl ⟨by rfl, ?_⟩) (by assumption) ?_
  rotate_left
  · intro w hSw; (try dsimp only at hSw); go_simp; try (with_reducible rfl)
  (try simp only [Act.put, List.setIfInBounds_toArray, List.set_cons_zero, List.set_cons_succ])
  refine take_at (v := ?_) 6 (some 30) rfl (by kernel_rfl) (by kernel_rfl) (by kernel_rfl) (by kernel_rfl) (fun _ _ _ h => h) (Or.inl ⟨by rfl, ?_⟩) (by assumption) ?_
  rotate_left
  · intro w hSw; (try dsimp only at hSw); go_simp; try (with_reducible rfl)
  (try simp only [Act.put, List.setIfInBounds_toArray, List.set_cons_zero, List.set_cons_succ])
  refine take_at (v := ?_) 7 (some 31) rfl (by kernel_rfl) (by kernel_rfl) (by kernel_rfl) (by kernel_rfl) (fun _ _ _ h => h) (Or.inl ⟨by rfl, ?_⟩) (by assumption) ?_
  rotate_left
  · intro w hSw; (try dsimp only at hSw); go_simp; try (with_reducible rfl)
  (try simp only [Act.put, List.setIfInBounds_toArray, List.set_cons_zero, List.set_cons_succ])
  refine wpAnyH_ready (rs := [8]) (by kernel_rfl) (by simp) ?_
  refine AllReadyH.cons rfl (fun K' hK => ?_) AllReadyH.nil
  go_simp
  refine (seat_of hHeld.2.1 pos hx).mono ?_
  rintro e w2 ⟨rfl, h2, c2⟩
  refine hK.out _ _ ⟨⟨c2.keeps hHeld.1.1 (fun e => e), c2.keeps hHeld.1.2 (fun e => e)⟩, h2, hHeld.2.2.trans c2⟩ (fun hHeld2 => ?_)
  clear hK K' hHeld h2 c2
  (try simp only [Act.put, List.setIfInBounds_toArray, List.set_cons_zero, List.set_cons_succ])
  refine take_at (v := ?_) 9 (some 5) rfl (by kernel_rfl) (by kernel_rfl) (by kernel_rfl) (by kernel_rfl) (fun _ _ _ h => h) (Or.inl ⟨by rfl, ?_⟩) (by assumption) ?_
  rotate_left
  · intro w hSw; (try dsimp only at hSw); go_simp; try (with_reducible rfl)
  (try simp only [Act.put, List.setIfInBounds_toArray, List.set_cons_zero, List.set_cons_succ])
  refine wpAnyH_done (by kernel_rfl) ?_ _
  have H2 := Lib.hid hHeld2.2.1
  have C2 := Lib.hid hHeld2.2.2
  have K2 := Lib.hid (K1.out.kept C2.out (fun e => e))
  obtain ⟨z, hz, -⟩ := (H2.out.seat pos hp1 hp2).z
  have hzf := (H2.out.seat pos hp1 hp2).f
  have hzm := Lib.hid (H2.out.seat pos hp1 hp2).m
  have HZ := Lib.hid hz
  have HF := Lib.hid hzf
  clear hHeld2
  obtain ⟨o, ho⟩ : ∃ o, pos % n * 6 = o := ⟨_, rfl⟩
  have HO := Lib.hid ho
  rw [ho] at hz hzf hzm HZ HF ⊢
  clear ho
  go_wp2
  clear hz hzf
  have c3 : Tch sb o 6 w2 (w2.setCell ⟨sb, o + 5, none⟩ (.int .i64 v)) := (Tch.refl _ _ _ _).set _ (by omega) _
  have m3 : IsM (w2.setCell ⟨sb, o + 5, none⟩ (.int .i64 v)) sb o pos (P pos) := hzm.out.far (k := 1) (o' := o + 5) ((Tch.refl _ _ _ _).set _ (by omega) _) (by omega)
  have z3 : (w2.setCell ⟨sb, o + 5, none⟩ (.int .i64 v)).cell? ⟨sb, o + 5, none⟩ = some (.int .i64 v) := World.cell?_setCell_same _ _ _ HZ.out
  generalize w2.setCell ⟨sb, o + 5, none⟩ (.int .i64 v) = w3 at c3 m3 z3 ⊢
  have k3 : IsT w3 t b st 2 pos true := K2.out.kept c3.ch hs
  have C3 := Lib.hid c3
  have M3 := Lib.hid m3
  have Z3 := Lib.hid z3
  have K3 := Lib.hid k3
  have hS : w3.drew.cell? ⟨t, 3, none⟩ = some (.int .u64 pos) := k3.pos
  clear c3 m3 z3 k3
  refine wp_region_held_drew (S := fun w' => w'.cell? ⟨t, 3, none⟩ = some (.int .u64 pos)) (by kernel_rfl) hS (fun hHeld => ?_)
  clear hS
  have C3d := Lib.hid C3.out.drew
  have M3d : Hid (IsM w3.drew sb o pos (P pos)) := M3.out.kept (S := Nil) (Ch.refl _ _).drew (fun e => e)
  have Z3d : Hid (w3.drew.cell? ⟨sb, o + 5, none⟩ = some (.int .i64 v)) := Z3.out
  have K3d : Hid (IsT w3.drew t b st 2 pos true) := K3.out.kept (S := Nil) (Ch.refl _ _).drew (fun e => e)
  clear C3 M3 Z3 K3
  generalize w3.drew = wd at hHeld C3d M3d Z3d K3d ⊢
  refine take_at (v := ?_) 0 (some 37) rfl (by kernel_rfl) (by kernel_rfl) (by kernel_rfl) (by kernel_rfl) (fun _ _ _ h => h) (Or.inl ⟨by rfl, ?_⟩) (by assumption) ?_
  rotate_left
  · intro w hSw; (try dsimp only at hSw); go_simp; try (with_reducible rfl)
  (try simp only [Act.put, List.setIfInBounds_toArray, List.set_cons_zero, List.set_cons_succ])
  refine take_at (v := ?_) 1 (some 38) rfl (by kernel_rfl) (by kernel_rfl) (by kernel_rfl) (by kernel_rfl) (fun _ _ _ h => h) (Or.inl ⟨by rfl, ?_⟩) (by assumption) ?_
  rotate_left
  · intro w hSw; (try dsimp only at hSw); go_simp; try (with_reducible rfl)
  (try simp only [Act.put, List.setIfInBounds_toArray, List.set_cons_zero, List.set_cons_succ])
  refine take_at (v := ?_) 2 (some 39) rfl (by kernel_rfl) (by kernel_rfl) (by kernel_rfl) (by kernel_rfl) (fun _ _ _ h => h) (Or.inl ⟨by rfl, ?_⟩) (by assumption) ?_
  rotate_left
  · intro w hSw; (try dsimp only at hSw); go_simp; try (with_reducible rfl)
  (try simp only [Act.put, List.setIfInBounds_toArray, List.set_cons_zero, List.set_cons_succ])
  refine take_at (v := ?_) 3 (some 40) rfl (by kernel_rfl) (by kernel_rfl) (by kernel_rfl) (by kernel_rfl) (fun _ _ _ h => h) (Or.inl ⟨by rfl, ?_⟩) (by assumption) ?_
  rotate_left
  · intro w hSw; (try dsimp only at hSw); go_simp; try (with_reducible rfl)
  (try simp only [Act.put, List.setIfInBounds_toArray, List.set_cons_zero, List.set_cons_succ])
  refine take_at (v := ?_) 4 (some 41) rfl (by kernel_rfl) (by kernel_rfl) (by kernel_rfl) (by kernel_rfl) (fun _ _ _ h => h) (Or.inl ⟨by rfl, ?_⟩) (by assumption) ?_
  rotate_left
  · intro w hSw; (try dsimp only at hSw); go_simp; try (with_reducible rfl)
  (try simp only [Act.put, List.setIfInBounds_toArray, List.set_cons_zero, List.set_cons_succ])
  refine take_at (v := ?_) 5 (some 42) rfl (by kernel_rfl) (by kernel_rfl) (by kernel_rfl) (by kernel_rfl) (fun _ _ _ h => h) (Or.inl ⟨by rfl, ?_⟩) (by assumption) ?_
  rotate_left
  · intro w hSw; (try dsimp only at hSw); go_simp; try (with_reducible rfl)
  (try simp only [Act.put, List.setIfInBounds_toArray, List.set_cons_zero, List.set_cons_succ])
  refine take_at (v := ?_) 6 (some 43) rfl (by kernel_rfl) (by kernel_rfl) (by kernel_rfl) (by kernel_rfl) (fun _ _ _ h => h) (Or.inl ⟨by rfl, ?_⟩) (by assumption) ?_
  rotate_left
  · intro w hSw; (try dsimp only at hSw); go_simp; try (with_reducible rfl)
  (try simp only [Act.put, List.setIfInBounds_toArray, List.set_cons_zero, List.set_cons_succ])
  refine take_at (v := ?_) 7 (some 44) rfl (by kernel_rfl) (by kernel_rfl) (by kernel_rfl) (by kernel_rfl) (fun _ _ _ h => h) (Or.inl ⟨by rfl, ?_⟩) (by assumption) ?_
  rotate_left
  · intro w hSw; (try dsimp only at hSw); go_simp; try (with_reducible rfl)
  (try simp only [Act.put, List.setIfInBounds_toArray, List.set_cons_zero, List.set_cons_succ])
  refine wpAnyH_ready (rs := [8]) (by kernel_rfl) (by simp) ?_
  refine AllReadyH.cons rfl (fun K' hK => ?_) AllReadyH.nil
  go_simp
  refine (storeM_at sb o pos pos (P pos) true _ M3d.out).mono ?_
  rintro e w4 ⟨rfl, m4, c4⟩
  have k4 : IsT w4 t b st 2 pos true := K3d.out.kept c4.ch hs
  refine hK.out _ _ k4.pos (fun _ => ?_)
  have M4 := Lib.hid m4
  have C4 := Lib.hid c4
  have K4 := Lib.hid k4
  clear hK K' hHeld m4 c4 k4
  (try simp only [Act.put, List.setIfInBounds_toArray, List.set_cons_zero, List.set_cons_succ])
  refine wpAnyH_done (by kernel_rfl) ?_ _
  go_wp2
  go_ret
  have ct : Tch sb o 6 w2 w4 := C3d.out.trans (C4.out.wide (Nat.le_refl _) (by omega))
  refine ⟨rfl, ⟨H2.out.next.kept ct.ch H2.out.ne, H2.out.first.kept ct.ch H2.out.ne, ct.ch.keeps H2.out.seats H2.out.ne, ?_, H2.out.ne, H2.out.n0, H2.out.n1⟩, K4.out, ?_⟩
  · refine seats_turn (p := pos) H2.out.seat ⟨hp1, hp2⟩ ct (by rw [HO.out]; omega) ?_ (fun q hq => upd_other _ _ _ _ hq) (fun q hq => upd_other _ _ _ _ hq)
    rw [upd_same, upd_same, HO.out]
    exact ⟨M4.out, ⟨v, (C4.out.cell _ (by omega)).trans Z3d.out, fun _ => rfl⟩, (ct.fz _).trans HF.out⟩
  · exact ((Ch_tri1 C1.out).trans (Ch_any C2.out)).trans (Ch_tri (Ch_two2 ct.ch))

set_option maxHeartbeats 4000000 in
theorem pop_none (b sb n nx fi : Nat) (P : Nat → Bool) (V : Nat → Int) (w : World) (h : IsRing w b sb n nx fi P V) (hx : fi ≤ 1000000) (hP : Hid (P fi = false)) :
    Calls Try.prog 15 #[.pointer (some ⟨b, 0, none⟩)] w fun e w' => e = .returned (.tuple #[.int .i64 0, .int .i64 6]) ∧ IsRing w' b sb n nx fi P V ∧ Ch (Two b sb) w w' := by
  have H := Lib.hid h
  clear h
  go_enter Try.func15, Try.ntmps15
  go_wp2_with fail
  refine (ready_at b sb n nx fi P V _ H.out hx).mono ?_
  rw [hP.out]
  rintro e w1 ⟨rfl, h1, c1⟩
  have H1 := Lib.hid h1
  clear h1
  go_wp2
  go_ret2
  exact ⟨rfl, H1.out, c1⟩

theorem ready_nil (w : World) :
    Calls Try.prog 18 #[.pointer none] w fun e w' => e = .returned (.bool false) ∧ w = w' := by
  go_enter Try.func18, Try.ntmps18
  go_wp2_with fail
  refine (roomless_nil _).mono ?_
  rintro e w1 ⟨rfl, rfl⟩
  go_wp2
  go_ret
  exact ⟨rfl, rfl⟩
theorem len_nil (w : World) :
    Calls Try.prog 17 #[.pointer none] w fun e w' => e = .returned (.int .i64 0) ∧ w = w' := by
  go_enter Try.func17, Try.ntmps17
  go_wp2_with fail
  refine (roomless_nil _).mono ?_
  rintro e w1 ⟨rfl, rfl⟩
  go_wp2
  go_ret
  exact ⟨rfl, rfl⟩
theorem begin_nil (w : World) :
    Calls Try.prog 10 #[.pointer none] w fun e w' => e = .returned (.pointer none) ∧ w = w' := by
  go_enter Try.func10, Try.ntmps10
  go_wp2_with fail
  refine (roomless_nil _).mono ?_
  rintro e w1 ⟨rfl, rfl⟩
  go_wp2
  go_ret
  exact ⟨rfl, rfl⟩
theorem pop_nil (w : World) :
    Calls Try.prog 15 #[.pointer none] w fun e w' => e = .returned (.tuple #[.int .i64 0, .int .i64 6]) ∧ w = w' := by
  go_enter Try.func15, Try.ntmps15
  go_wp2_with fail
  refine (ready_nil _).mono ?_
  rintro e w1 ⟨rfl, rfl⟩
  go_wp2
  go_ret2
  exact ⟨rfl, rfl⟩

set_option maxHeartbeats 4000000 in
set_option maxRecDepth 100000 in
theorem pop_ok (b sb n nx fi : Nat) (P : Nat → Bool) (V : Nat → Int) (w : World) (h : IsRing w b sb n nx fi P V) (hx : fi ≤ 900000) (hP : Hid (P fi = true)) (hN : Hid (P (fi + n) = false)) :
    Calls Try.prog 15 #[.pointer (some ⟨b, 0, none⟩)] w fun e w' => e = .returned (.tuple #[.int .i64 (V fi), .int .i64 0]) ∧ IsRing w' b sb n nx (fi + 1) P V ∧ Ch (Two b sb) w w' := by
  have H := Lib.hid h
  have n0 := h.n0
  have n1 := h.n1
  have hne := h.ne
  clear h
  go_enter Try.func15, Try.ntmps15
  go_wp2_with fail
  refine (ready_at b sb n nx fi P V _ H.out (by omega)).mono ?_
  rw [hP.out]
  rintro e w1 ⟨rfl, h1, c1⟩
  have H1 := Lib.hid h1
  clear h1
  go_wp2_with fail
  refine (first_load H1.out).mono ?_
  rintro e w2 ⟨rfl, h2, c2⟩
  have H2 := Lib.hid h2
  clear h2
  go_wp2_with fail
  refine (seat_of H2.out fi (by omega)).mono ?_
  rintro e w3 ⟨rfl, h3, c3⟩
  have H3 := Lib.hid h3
  have D3 : Hid (Ch (Two b sb) w w3) := (c1.trans (Ch_two1 c2)).trans (Ch_any c3)
  clear h3 c1 c2 c3
  obtain ⟨z, hz, hzv⟩ := (H3.out.seat fi (Nat.le_refl _) (by omega)).z
  obtain rfl := hzv hP.out
  have HZ := Lib.hid hz
  have hzf := (H3.out.seat fi (Nat.le_refl _) (by omega)).f
  have HF := Lib.hid hzf
  have hzm := Lib.hid (H3.out.seat fi (Nat.le_refl _) (by omega)).m
  obtain ⟨o, ho⟩ : ∃ o, fi % n * 6 = o := ⟨_, rfl⟩
  have HO := Lib.hid ho
  rw [ho] at hz hzf hzm HZ HF ⊢
  clear ho hzv
  go_wp2
  clear hz hzf
  have c4 : Tch sb o 6 w3 (w3.setCell ⟨sb, o + 5, none⟩ (.int .i64 0)) := (Tch.refl _ _ _ _).set _ (by omega) _
  have m4 : IsM (w3.setCell ⟨sb, o + 5, none⟩ (.int .i64 0)) sb o fi (P fi) := hzm.out.far (k := 1) (o' := o + 5) ((Tch.refl _ _ _ _).set _ (by omega) _) (by omega)
  have z4 : (w3.setCell ⟨sb, o + 5, none⟩ (.int .i64 0)).cell? ⟨sb, o + 5, none⟩ = some (.int .i64 0) := World.cell?_setCell_same _ _ _ HZ.out
  generalize w3.setCell ⟨sb, o + 5, none⟩ (.int .i64 0) = w4 at c4 m4 z4 ⊢
  have hS : w4.drew.cell? ⟨b, 8, none⟩ = some (.slice (some ⟨sb, 0, none⟩) n n) := c4.ch.keeps H3.out.seats hne
  have C4 := Lib.hid c4.drew
  have M4 : Hid (IsM w4.drew sb o fi (P fi)) := m4.kept (S := Nil) (Ch.refl _ _).drew (fun e => e)
  have Z4 : Hid (w4.drew.cell? ⟨sb, o + 5, none⟩ = some (.int .i64 0)) := z4
  clear c4 m4 z4
  have e1 : IntKind.u64.wrap (n : Int) = n := IntWalk.u64_in _ (by omega)
  have e2 : IntKind.u64.wrap ((fi : Int) + n) = (fi + n : Nat) := by rw [IntWalk.u64_in _ (by omega)]; omega
  refine wp_region_held_drew (S := fun w' => w'.cell? ⟨b, 8, none⟩ = some (.slice (some ⟨sb, 0, none⟩) n n)) (by kernel_rfl) hS (fun hHeld => ?_)
  clear hS
  generalize w4.drew = wd at hHeld C4 M4 Z4 ⊢
  refine take_at (v := ?_) 0 (some 27) rfl (by kernel_rfl) (by kernel_rfl) (by kernel_rfl) (by kernel_rfl) (fun _ _ _ h => h) (Or.inl ⟨by rfl, ?_⟩) (by assumption) ?_
  rotate_left
  · intro w hSw; (try dsimp only at hSw); go_simp; try (with_reducible rfl)
  (try simp only [Act.put, List.setIfInBounds_toArray, List.set_cons_zero, List.set_cons_succ])
  refine take_at (v := ?_) 1 (some 28) rfl (by kernel_rfl) (by kernel_rfl) (by kernel_rfl) (by kernel_rfl) (fun _ _ _ h => h) (Or.inl ⟨by rfl, ?_⟩) (by assumption) ?_
  rotate_left
  · intro w hSw; (try dsimp only at hSw); go_simp; try (with_reducible rfl)
  (try simp only [Act.put, List.setIfInBounds_toArray, List.set_cons_zero, List.set_cons_succ])
  refine take_at (v := ?_) 2 (some 29) rfl (by kernel_rfl) (by kernel_rfl) (by kernel_rfl) (by kernel_rfl) (fun _ _ _ h => h) (Or.inl ⟨by rfl, ?_⟩) (by assumption) ?_
  rotate_left
  · intro w hSw; (try dsimp only at hSw); go_simp; try (with_reducible rfl)
  (try simp only [Act.put, List.setIfInBounds_toArray, List.set_cons_zero, List.set_cons_succ])
  refine take_at (v := ?_) 3 (some 30) rfl (by kernel_rfl) (by kernel_rfl) (by kernel_rfl) (by kernel_rfl) (fun _ _ _ h => h) (Or.inl ⟨by rfl, ?_⟩) (by assumption) ?_
  rotate_left
  · intro w hSw; (try dsimp only at hSw); go_simp; try (with_reducible rfl)
  (try simp only [Act.put, List.setIfInBounds_toArray, List.set_cons_zero, List.set_cons_succ])
  refine take_at (v := ?_) 4 (some 31) rfl (by kernel_rfl) (by kernel_rfl) (by kernel_rfl) (by kernel_rfl) (fun _ _ _ h => h) (Or.inl ⟨by rfl, ?_⟩) (by assumption) ?_
  rotate_left
  · intro w hSw; (try dsimp only at hSw); go_simp; try (with_reducible rfl)
  (try simp only [Act.put, List.setIfInBounds_toArray, List.set_cons_zero, List.set_cons_succ])
  refine take_at (v := ?_) 5 (some 32) rfl (by kernel_rfl) (by kernel_rfl) (by kernel_rfl) (by kernel_rfl) (fun _ _ _ h => h) (Or.inl ⟨by rfl, ?_⟩) (by assumption) ?_
  rotate_left
  · intro w hSw; (try dsimp only at hSw); go_simp; try (with_reducible rfl)
  (try simp only [Act.put, List.setIfInBounds_toArray, List.set_cons_zero, List.set_cons_succ])
  refine take_at (v := ?_) 6 (some 33) rfl (by kernel_rfl) (by kernel_rfl) (by kernel_rfl) (by kernel_rfl) (fun _ _ _ h => h) (Or.inl ⟨by rfl, ?_⟩) (by assumption) ?_
  rotate_left
  · intro w hSw; (try dsimp only at hSw); go_simp; try (with_reducible rfl)
  (try simp only [Act.put, List.setIfInBounds_toArray, List.set_cons_zero, List.set_cons_succ])
  refine take_at (v := ?_) 7 (some 34) rfl (by kernel_rfl) (by kernel_rfl) (by kernel_rfl) (by kernel_rfl) (fun _ _ _ h => h) (Or.inl ⟨by rfl, ?_⟩) (by assumption) ?_
  rotate_left
  · intro w hSw; (try dsimp only at hSw); go_simp; try (with_reducible rfl)
  (try simp only [Act.put, List.setIfInBounds_toArray, List.set_cons_zero, List.set_cons_succ])
  refine take_at (v := ?_) 8 (some 35) rfl (by kernel_rfl) (by kernel_rfl) (by kernel_rfl) (by kernel_rfl) (fun _ _ _ h => h) (Or.inl ⟨by rfl, ?_⟩) (by assumption) ?_
  rotate_left
  · intro w hSw; (try dsimp only at hSw); go_simp; try (with_reducible rfl)
  (try simp only [Act.put, List.setIfInBounds_toArray, List.set_cons_zero, List.set_cons_succ])
  refine take_at (v := ?_) 9 (some 36) rfl (by kernel_rfl) (by kernel_rfl) (by kernel_rfl) (by kernel_rfl) (fun _ _ _ h => h) (Or.inl ⟨by rfl, ?_⟩) (by assumption) ?_
  rotate_left
  · intro w hSw; (try dsimp only at hSw); go_simp; try (with_reducible rfl)
  (try simp only [Act.put, List.setIfInBounds_toArray, List.set_cons_zero, List.set_cons_succ])
  refine take_at (v := ?_) 10 (some 37) rfl (by kernel_rfl) (by kernel_rfl) (by kernel_rfl) (by kernel_rfl) (fun _ _ _ h => h) (Or.inl ⟨by rfl, ?_⟩) (by assumption) ?_
  rotate_left
  · intro w hSw; (try dsimp only at hSw); go_simp; try (with_reducible rfl)
  (try simp only [Act.put, List.setIfInBounds_toArray, List.set_cons_zero, List.set_cons_succ])
  refine take_at (v := ?_) 11 (some 38) rfl (by kernel_rfl) (by kernel_rfl) (by kernel_rfl) (by kernel_rfl) (fun _ _ _ h => h) (Or.inl ⟨by rfl, ?_⟩) (by assumption) ?_
  rotate_left
  · intro w hSw; (try dsimp only at hSw); go_simp; try (with_reducible rfl)
  (try simp only [Act.put, List.setIfInBounds_toArray, List.set_cons_zero, List.set_cons_succ])
  clear e1 e2
  refine wpAnyH_ready (rs := [12]) (by kernel_rfl) (by simp) ?_
  refine AllReadyH.cons rfl (fun K' hK => ?_) AllReadyH.nil
  go_simp
  refine (storeM_at sb o fi (fi + n : Nat) (P fi) false _ M4.out).mono ?_
  rintro e w5 ⟨rfl, m5, c5⟩
  refine hK.out _ _ (c5.ch.keeps hHeld hne) (fun _ => ?_)
  have M5 := Lib.hid m5
  have ct : Tch sb o 6 w3 w5 := C4.out.trans (c5.wide (Nat.le_refl _) (by omega))
  have CT := Lib.hid ct
  have Z5 : Hid (w5.cell? ⟨sb, o + 5, none⟩ = some (.int .i64 0)) := (c5.cell _ (by omega)).trans Z4.out
  have F5 : Hid (IsU w5 b 4 fi) := H3.out.first.kept ct.ch hne
  clear hK K' hHeld m5 c5 ct
  (try simp only [Act.put, List.setIfInBounds_toArray, List.set_cons_zero, List.set_cons_succ])
  refine wpAnyH_done (by kernel_rfl) ?_ _
  go_wp2_with fail
  refine (storeU_at b 4 fi _ _ F5.out).mono ?_
  rintro e w6 ⟨rfl, u6, c6⟩
  have U6 := Lib.hid u6
  clear u6
  go_wp2
  go_ret2
  have e3 : ((fi : Int) + 1) = ((fi + 1 : Nat) : Int) := by omega
  have em : (fi + n) % n = fi % n := by rw [Nat.add_mod_right]
  refine ⟨rfl, ⟨(H3.out.next.kept CT.out.ch hne).far c6 (by omega), ?_, (c6.cell 8 (by omega)).trans (CT.out.ch.keeps H3.out.seats hne), ?_, hne, n0, n1⟩, ?_⟩
  · have := U6.out; rw [e3] at this; exact this
  · intro p h1 h2
    have hs5 : IsSeat w5 sb (p % n * 6) p (P p) (V p) := by
      by_cases e : p = fi + n
      · subst e
        rw [hN.out, em, HO.out]
        exact ⟨M5.out, ⟨_, Z5.out, fun e => by cases e⟩, (CT.out.fz _).trans HF.out⟩
      · have hm := mod_apart (n := n) (f := fi) (p := p) (q := fi) (by omega) (by omega) (by omega)
        have := HO.out
        exact (H3.out.seat p (by omega) (by omega)).far CT.out (by omega)
    exact hs5.kept c6.ch (fun e => hne e.symm)
  · exact (D3.out.trans (Ch_two2 CT.out.ch)).trans (Ch_two1 c6.ch)
end Go.Proofs.Ytklgmecmgbfhgaa.RI
