/-
  Contracts of package slab's functions that turn it: a request's three steps, and Step.
-/
import Derived.Test.YtkialefhjfoniaaGreatSlabWalks1
import Derived.Test.YtkialefhjfoniaaGreatHeld
import Derived.Deep.QuietTactic
import Derived.BigQuiet
import Derived.Deep.Cut
import Derived.Deep.CutRange
import Derived.Deep.CutBlock
import Derived.RegionTactic
import Derived.BigRegion
namespace Go.Proofs.YtkialefhjfoniaaGreat
open Go.RowKit Verge
attribute [local go_sem] Oper.semAt_some
set_option linter.unusedVariables false
set_option linter.unusedSimpArgs false

theorem nxZ_one (n : Nat) (per : Bool) : nxZ n 1 per = nxW n 1 per := by rfl

/-- a slab and a request, side by side -/
structure SQ (w : World) (q b rb n cnt : Nat) (R : Nat → Rec) (r : Rq) : Prop where
  s : IsS w b rb n cnt R
  rq : IsQ w q b r
  nb : q ≠ b
  nr : q ≠ rb
section
variable {w w' : World} {q b rb n cnt : Nat} {R : Nat → Rec} {r : Rq}
theorem SQ.quiet (h : SQ w q b rb n cnt R r) (c : Ch Nil w w') : SQ w' q b rb n cnt R r := ⟨h.s.quiet c, h.rq.kept c (fun e => e), h.nb, h.nr⟩
theorem SQ.setQ {r' : Rq} (h : SQ w q b rb n cnt R r) (i : Nat) (v : Value) (hq : IsQ (w.setCell ⟨q, i, none⟩ v) q b r') : SQ (w.setCell ⟨q, i, none⟩ v) q b rb n cnt R r' :=
  ⟨h.s.kept (S := One q) ((Ch.refl _ _).setB i v) (fun e => h.nb e.symm) (fun e => h.nr e.symm), hq, h.nb, h.nr⟩
theorem SQ.slab {cnt' : Nat} {R' : Nat → Rec} (h : SQ w q b rb n cnt R r) (hs : IsS w' b rb n cnt' R') (c : Ch (Two b rb) w w') : SQ w' q b rb n cnt' R' r :=
  ⟨hs, h.rq.kept c (fun e => by rcases e with e | e; exact h.nb e; exact h.nr e), h.nb, h.nr⟩
end

theorem lookCount_full {q b rb n cnt : Nat} {R : Nat → Rec} {r : Rq} {w : World} (h : SQ w q b rb n cnt R r) (he : cnt = n) :
    Calls Tryz.prog 50 #[.pointer (some ⟨q, 0, none⟩)] w fun e w' => e = .returned (.tuple #[]) ∧
      SQ w' q b rb n cnt R { r with seen := cnt, ss := 1 } ∧ Ch (Tri q b rb) w w' := by
  have H := Lib.hid h
  have h0 := h.rq.c0
  have HE := Lib.hid he
  clear h he
  go_enter Tryz.func50, Tryz.ntmps50
  go_wp2_with fail
  refine (loadJ_at b 0 _ _ H.out.s.cnt).mono ?_
  rintro e w1 ⟨rfl, hj, c1⟩
  have K1 := Lib.hid (H.out.slab (H.out.s.count c1 hj) (Ch_two1 c1.ch))
  have C1 : Hid (Ch (Tri q b rb) w w1) := Lib.hid (Ch_tri (Ch_two1 c1.ch))
  have h4 := K1.out.rq.c4
  have f4 := K1.out.rq.f4
  clear hj c1 h0
  have K2 := Lib.hid (K1.out.setQ 4 _ (K1.out.rq.set_seen cnt))
  have C2 : Hid (Ch (Tri q b rb) w (w1.setCell ⟨q, 4, none⟩ (.int .i64 (cnt : Nat)))) := Lib.hid (C1.out.trans (Ch_tri1 ((Ch.refl _ _).setB _ _)))
  go_upto_region 1 with (fail)
  clear h4 f4
  generalize w1.setCell ⟨q, 4, none⟩ (.int .i64 (cnt : Nat)) = w2 at K2 C2 ⊢
  have h0 := K2.out.rq.c0
  have h4 := K2.out.rq.c4
  have h2 := K2.out.rq.c2
  have h3 := K2.out.rq.c3
  have f2 := K2.out.rq.f2
  have f3 := K2.out.rq.f3
  have hr := K2.out.s.recs
  obtain ⟨x, hx⟩ : ∃ x, x = cnt := ⟨_, rfl⟩
  have HX := Lib.hid hx
  dsimp only at h4
  rw [← hx] at h4 ⊢
  clear hx
  have z1 : ((x : Int) == (n : Int)) = true := by rw [beq_iff_eq]; have := HE.out; have := HX.out; omega
  go_quiet (fail)
  go_wp2
  (try simp only [Exit.inBlock, Exit.then]); refine bodyPost_ret (results_none rfl _ _ _) rfl ?_
  exact ⟨rfl, (K2.out.quiet ((Ch.refl _ _).drewN _)).setQ 3 _ ((K2.out.quiet ((Ch.refl _ _).drewN _)).rq.set_ss 1), (C2.out.drewN _).trans (Ch_tri1 ((Ch.refl _ _).setB _ _))⟩

theorem lookCount_go {q b rb n cnt : Nat} {R : Nat → Rec} {r : Rq} {w : World} (h : SQ w q b rb n cnt R r) (he : cnt ≠ n) :
    Calls Tryz.prog 50 #[.pointer (some ⟨q, 0, none⟩)] w fun e w' => e = .returned (.tuple #[]) ∧
      SQ w' q b rb n cnt R { r with seen := cnt, st := 1 } ∧ Ch (Tri q b rb) w w' := by
  have H := Lib.hid h
  have h0 := h.rq.c0
  have HE := Lib.hid he
  clear h he
  go_enter Tryz.func50, Tryz.ntmps50
  go_wp2_with fail
  refine (loadJ_at b 0 _ _ H.out.s.cnt).mono ?_
  rintro e w1 ⟨rfl, hj, c1⟩
  have K1 := Lib.hid (H.out.slab (H.out.s.count c1 hj) (Ch_two1 c1.ch))
  have C1 : Hid (Ch (Tri q b rb) w w1) := Lib.hid (Ch_tri (Ch_two1 c1.ch))
  have h4 := K1.out.rq.c4
  have f4 := K1.out.rq.f4
  clear hj c1 h0
  have K2 := Lib.hid (K1.out.setQ 4 _ (K1.out.rq.set_seen cnt))
  have C2 : Hid (Ch (Tri q b rb) w (w1.setCell ⟨q, 4, none⟩ (.int .i64 (cnt : Nat)))) := Lib.hid (C1.out.trans (Ch_tri1 ((Ch.refl _ _).setB _ _)))
  go_upto_region 1 with (fail)
  clear h4 f4
  generalize w1.setCell ⟨q, 4, none⟩ (.int .i64 (cnt : Nat)) = w2 at K2 C2 ⊢
  have h0 := K2.out.rq.c0
  have h4 := K2.out.rq.c4
  have h2 := K2.out.rq.c2
  have h3 := K2.out.rq.c3
  have f2 := K2.out.rq.f2
  have f3 := K2.out.rq.f3
  have hr := K2.out.s.recs
  obtain ⟨x, hx⟩ : ∃ x, x = cnt := ⟨_, rfl⟩
  have HX := Lib.hid hx
  dsimp only at h4
  rw [← hx] at h4 ⊢
  clear hx
  have z1 : ((x : Int) == (n : Int)) = false := by rw [beq_eq_false_iff_ne]; have := HE.out; have := HX.out; omega
  go_quiet (fail)
  go_wp2
  go_end0
  exact ⟨rfl, (K2.out.quiet ((Ch.refl _ _).drewN _)).setQ 2 _ ((K2.out.quiet ((Ch.refl _ _).drewN _)).rq.set_st 1), (C2.out.drewN _).trans (Ch_tri1 ((Ch.refl _ _).setB _ _))⟩

theorem claim_yes {q b rb n cnt : Nat} {R : Nat → Rec} {r : Rq} {w : World} (h : SQ w q b rb n cnt R r) (hs : r.seen ≤ 64) (he : cnt = r.seen) :
    Calls Tryz.prog 51 #[.pointer (some ⟨q, 0, none⟩)] w fun e w' => e = .returned (.tuple #[]) ∧
      SQ w' q b rb n (cnt + 1) R { r with st := 2 } ∧ Ch (Tri q b rb) w w' := by
  have H := Lib.hid (h.quiet ((Ch.refl Nil w).drew))
  have CW : Hid (Ch (Tri q b rb) w w.drew) := Lib.hid (Ch.refl _ _).drew
  have g0 := H.out.rq.c0
  have g4 := H.out.rq.c4
  obtain ⟨se, hse⟩ : ∃ se, se = r.seen := ⟨_, rfl⟩
  rw [← hse] at g4 hs
  have HE := Lib.hid he
  have SE := Lib.hid hse
  clear h hse he
  have e1 : IntKind.i64.wrap ((se : Int) + 1) = (se : Int) + 1 := IntWalk.i64_in _ (by omega)
  go_enter Tryz.func51, Tryz.ntmps51
  go_upto_region 0 with (fail)
  refine wp_region_held_drew (S := fun w' => w'.cell? ⟨q, 0, none⟩ = some (.pointer (some ⟨b, 0, none⟩)) ∧ w'.cell? ⟨q, 4, none⟩ = some (.int .i64 (se : Nat))) (by kernel_rfl) ⟨g0, g4⟩ (fun hHeld => ?_)
  clear g0 g4
  generalize w.drew = X at H CW hHeld ⊢
  refine take_at (v := ?_) 0 (some 2) rfl (by kernel_rfl) (by kernel_rfl) (by kernel_rfl) (by kernel_rfl) (fun _ _ _ h => h) (Or.inl ⟨by rfl, ?_⟩) (by assumption) ?_
  rotate_left
  · intro w hSw; (try dsimp only at hSw); go_simp; try (with_reducible rfl)
  (try simp only [Act.put, List.setIfInBounds_toArray, List.set_cons_zero, List.set_cons_succ])
  refine take_at (v := ?_) 1 (some 3) rfl (by kernel_rfl) (by kernel_rfl) (by kernel_rfl) (by kernel_rfl) (fun _ _ _ h => h) (Or.inl ⟨by rfl, ?_⟩) (by assumption) ?_
  rotate_left
  · intro w hSw; (try dsimp only at hSw); go_simp; try (with_reducible rfl)
  (try simp only [Act.put, List.setIfInBounds_toArray, List.set_cons_zero, List.set_cons_succ])
  refine take_at (v := ?_) 2 (some 4) rfl (by kernel_rfl) (by kernel_rfl) (by kernel_rfl) (by kernel_rfl) (fun _ _ _ h => h) (Or.inl ⟨by rfl, ?_⟩) (by assumption) ?_
  rotate_left
  · intro w hSw; (try dsimp only at hSw); go_simp; try (with_reducible rfl)
  (try simp only [Act.put, List.setIfInBounds_toArray, List.set_cons_zero, List.set_cons_succ])
  refine take_at (v := ?_) 3 (some 5) rfl (by kernel_rfl) (by kernel_rfl) (by kernel_rfl) (by kernel_rfl) (fun _ _ _ h => h) (Or.inl ⟨by rfl, ?_⟩) (by assumption) ?_
  rotate_left
  · intro w hSw; (try dsimp only at hSw); go_simp; try (with_reducible rfl)
  (try simp only [Act.put, List.setIfInBounds_toArray, List.set_cons_zero, List.set_cons_succ])
  refine take_at (v := ?_) 4 (some 6) rfl (by kernel_rfl) (by kernel_rfl) (by kernel_rfl) (by kernel_rfl) (fun _ _ _ h => h) (Or.inl ⟨by rfl, ?_⟩) (by assumption) ?_
  rotate_left
  · intro w hSw; (try dsimp only at hSw); go_simp; try (with_reducible rfl)
  (try simp only [Act.put, List.setIfInBounds_toArray, List.set_cons_zero, List.set_cons_succ])
  refine take_at (v := ?_) 5 (some 7) rfl (by kernel_rfl) (by kernel_rfl) (by kernel_rfl) (by kernel_rfl) (fun _ _ _ h => h) (Or.inl ⟨by rfl, ?_⟩) (by assumption) ?_
  rotate_left
  · intro w hSw; (try dsimp only at hSw); go_simp; try (with_reducible rfl)
  (try simp only [Act.put, List.setIfInBounds_toArray, List.set_cons_zero, List.set_cons_succ])
  refine take_at (v := ?_) 6 (some 8) rfl (by kernel_rfl) (by kernel_rfl) (by kernel_rfl) (by kernel_rfl) (fun _ _ _ h => h) (Or.inl ⟨by rfl, ?_⟩) (by assumption) ?_
  rotate_left
  · intro w hSw; (try dsimp only at hSw); go_simp; try (with_reducible rfl)
  (try simp only [Act.put, List.setIfInBounds_toArray, List.set_cons_zero, List.set_cons_succ])
  refine take_at (v := ?_) 7 (some 9) rfl (by kernel_rfl) (by kernel_rfl) (by kernel_rfl) (by kernel_rfl) (fun _ _ _ h => h) (Or.inl ⟨by rfl, ?_⟩) (by assumption) ?_
  rotate_left
  · intro w hSw; (try dsimp only at hSw); go_simp; try (with_reducible rfl)
  (try simp only [Act.put, List.setIfInBounds_toArray, List.set_cons_zero, List.set_cons_succ])
  refine take_at (v := ?_) 8 (some 10) rfl (by kernel_rfl) (by kernel_rfl) (by kernel_rfl) (by kernel_rfl) (fun _ _ _ h => h) (Or.inl ⟨by rfl, ?_⟩) (by assumption) ?_
  rotate_left
  · intro w hSw; (try dsimp only at hSw); go_simp; try (with_reducible rfl)
  (try simp only [Act.put, List.setIfInBounds_toArray, List.set_cons_zero, List.set_cons_succ])
  refine take_at (v := ?_) 9 (some 11) rfl (by kernel_rfl) (by kernel_rfl) (by kernel_rfl) (by kernel_rfl) (fun _ _ _ h => h) (Or.inl ⟨by rfl, ?_⟩) (by assumption) ?_
  rotate_left
  · intro w hSw; (try dsimp only at hSw); go_simp; try (with_reducible rfl)
  (try simp only [Act.put, List.setIfInBounds_toArray, List.set_cons_zero, List.set_cons_succ])
  refine take_at (v := ?_) 10 (some 12) rfl (by kernel_rfl) (by kernel_rfl) (by kernel_rfl) (by kernel_rfl) (fun _ _ _ h => h) (Or.inl ⟨by rfl, ?_⟩) (by assumption) ?_
  rotate_left
  · intro w hSw; (try dsimp only at hSw); go_simp; try (with_reducible rfl)
  (try simp only [Act.put, List.setIfInBounds_toArray, List.set_cons_zero, List.set_cons_succ])
  refine take_at (v := ?_) 11 (some 13) rfl (by kernel_rfl) (by kernel_rfl) (by kernel_rfl) (by kernel_rfl) (fun _ _ _ h => h) (Or.inl ⟨by rfl, ?_⟩) (by assumption) ?_
  rotate_left
  · intro w hSw; (try dsimp only at hSw); go_simp; try (with_reducible rfl)
  (try simp only [Act.put, List.setIfInBounds_toArray, List.set_cons_zero, List.set_cons_succ])
  refine take_at (v := ?_) 12 (some 14) rfl (by kernel_rfl) (by kernel_rfl) (by kernel_rfl) (by kernel_rfl) (fun _ _ _ h => h) (Or.inl ⟨by rfl, ?_⟩) (by assumption) ?_
  rotate_left
  · intro w hSw; (try dsimp only at hSw); go_simp; try (with_reducible rfl)
  (try simp only [Act.put, List.setIfInBounds_toArray, List.set_cons_zero, List.set_cons_succ])
  refine take_at (v := ?_) 13 (some 15) rfl (by kernel_rfl) (by kernel_rfl) (by kernel_rfl) (by kernel_rfl) (fun _ _ _ h => h) (Or.inl ⟨by rfl, ?_⟩) (by assumption) ?_
  rotate_left
  · intro w hSw; (try dsimp only at hSw); go_simp; try (with_reducible rfl)
  (try simp only [Act.put, List.setIfInBounds_toArray, List.set_cons_zero, List.set_cons_succ])
  refine take_at (v := ?_) 14 (some 16) rfl (by kernel_rfl) (by kernel_rfl) (by kernel_rfl) (by kernel_rfl) (fun _ _ _ h => h) (Or.inl ⟨by rfl, ?_⟩) (by assumption) ?_
  rotate_left
  · intro w hSw; (try dsimp only at hSw); go_simp; try (with_reducible rfl)
  (try simp only [Act.put, List.setIfInBounds_toArray, List.set_cons_zero, List.set_cons_succ])
  refine wpAnyH_ready (rs := [15]) (by kernel_rfl) (by simp) ?_
  refine AllReadyH.cons rfl (fun K hK => ?_) AllReadyH.nil
  go_simp
  refine (swapJ_yes b 0 _ ((se : Int) + 1) _ (by have := H.out.s.cnt; rw [HE.out, ← SE.out] at this; exact this)).mono ?_
  rintro e w1 ⟨rfl, hj, c1⟩
  have K1 := Lib.hid (H.out.slab (H.out.s.count (c' := cnt + 1) c1 (by rw [show ((cnt + 1 : Nat) : Int) = (se : Int) + 1 by rw [HE.out, ← SE.out]; omega]; exact hj)) (Ch_two1 c1.ch))
  have C1 : Hid (Ch (Tri q b rb) w w1) := Lib.hid (CW.out.trans (Ch_tri (Ch_two1 c1.ch)))
  refine hK.out _ _ ⟨K1.out.rq.c0, by rw [SE.out]; exact K1.out.rq.c4⟩ (fun hHeld => ?_)
  clear hK K hj c1
  (try simp only [Act.put, List.setIfInBounds_toArray, List.set_cons_zero, List.set_cons_succ])
  refine wpAnyH_done (by kernel_rfl) ?_ _
  clear hHeld
  have h2 := K1.out.rq.c2
  have f2 := K1.out.rq.f2
  go_wp2
  (try simp only [Exit.inBlock, Exit.then]); refine bodyPost_ret (results_none rfl _ _ _) rfl ?_
  exact ⟨rfl, K1.out.setQ 2 _ (K1.out.rq.set_st 2), C1.out.trans (Ch_tri1 ((Ch.refl _ _).setB _ _))⟩

theorem claim_no {q b rb n cnt : Nat} {R : Nat → Rec} {r : Rq} {w : World} (h : SQ w q b rb n cnt R r) (hs : r.seen ≤ 64) (he : cnt ≠ r.seen) :
    Calls Tryz.prog 51 #[.pointer (some ⟨q, 0, none⟩)] w fun e w' => e = .returned (.tuple #[]) ∧
      SQ w' q b rb n cnt R { r with st := 0 } ∧ Ch (Tri q b rb) w w' := by
  have H := Lib.hid (h.quiet ((Ch.refl Nil w).drew))
  have CW : Hid (Ch (Tri q b rb) w w.drew) := Lib.hid (Ch.refl _ _).drew
  have g0 := H.out.rq.c0
  have g4 := H.out.rq.c4
  obtain ⟨se, hse⟩ : ∃ se, se = r.seen := ⟨_, rfl⟩
  rw [← hse] at g4 hs
  have HE := Lib.hid he
  have SE := Lib.hid hse
  clear h hse he
  have e1 : IntKind.i64.wrap ((se : Int) + 1) = (se : Int) + 1 := IntWalk.i64_in _ (by omega)
  go_enter Tryz.func51, Tryz.ntmps51
  go_upto_region 0 with (fail)
  refine wp_region_held_drew (S := fun w' => w'.cell? ⟨q, 0, none⟩ = some (.pointer (some ⟨b, 0, none⟩)) ∧ w'.cell? ⟨q, 4, none⟩ = some (.int .i64 (se : Nat))) (by kernel_rfl) ⟨g0, g4⟩ (fun hHeld => ?_)
  clear g0 g4
  generalize w.drew = X at H CW hHeld ⊢
  refine take_at (v := ?_) 0 (some 2) rfl (by kernel_rfl) (by kernel_rfl) (by kernel_rfl) (by kernel_rfl) (fun _ _ _ h => h) (Or.inl ⟨by rfl, ?_⟩) (by assumption) ?_
  rotate_left
  · intro w hSw; (try dsimp only at hSw); go_simp; try (with_reducible rfl)
  (try simp only [Act.put, List.setIfInBounds_toArray, List.set_cons_zero, List.set_cons_succ])
  refine take_at (v := ?_) 1 (some 3) rfl (by kernel_rfl) (by kernel_rfl) (by kernel_rfl) (by kernel_rfl) (fun _ _ _ h => h) (Or.inl ⟨by rfl, ?_⟩) (by assumption) ?_
  rotate_left
  · intro w hSw; (try dsimp only at hSw); go_simp; try (with_reducible rfl)
  (try simp only [Act.put, List.setIfInBounds_toArray, List.set_cons_zero, List.set_cons_succ])
  refine take_at (v := ?_) 2 (some 4) rfl (by kernel_rfl) (by kernel_rfl) (by kernel_rfl) (by kernel_rfl) (fun _ _ _ h => h) (Or.inl ⟨by rfl, ?_⟩) (by assumption) ?_
  rotate_left
  · intro w hSw; (try dsimp only at hSw); go_simp; try (with_reducible rfl)
  (try simp only [Act.put, List.setIfInBounds_toArray, List.set_cons_zero, List.set_cons_succ])
  refine take_at (v := ?_) 3 (some 5) rfl (by kernel_rfl) (by kernel_rfl) (by kernel_rfl) (by kernel_rfl) (fun _ _ _ h => h) (Or.inl ⟨by rfl, ?_⟩) (by assumption) ?_
  rotate_left
  · intro w hSw; (try dsimp only at hSw); go_simp; try (with_reducible rfl)
  (try simp only [Act.put, List.setIfInBounds_toArray, List.set_cons_zero, List.set_cons_succ])
  refine take_at (v := ?_) 4 (some 6) rfl (by kernel_rfl) (by kernel_rfl) (by kernel_rfl) (by kernel_rfl) (fun _ _ _ h => h) (Or.inl ⟨by rfl, ?_⟩) (by assumption) ?_
  rotate_left
  · intro w hSw; (try dsimp only at hSw); go_simp; try (with_reducible rfl)
  (try simp only [Act.put, List.setIfInBounds_toArray, List.set_cons_zero, List.set_cons_succ])
  refine take_at (v := ?_) 5 (some 7) rfl (by kernel_rfl) (by kernel_rfl) (by kernel_rfl) (by kernel_rfl) (fun _ _ _ h => h) (Or.inl ⟨by rfl, ?_⟩) (by assumption) ?_
  rotate_left
  · intro w hSw; (try dsimp only at hSw); go_simp; try (with_reducible rfl)
  (try simp only [Act.put, List.setIfInBounds_toArray, List.set_cons_zero, List.set_cons_succ])
  refine take_at (v := ?_) 6 (some 8) rfl (by kernel_rfl) (by kernel_rfl) (by kernel_rfl) (by kernel_rfl) (fun _ _ _ h => h) (Or.inl ⟨by rfl, ?_⟩) (by assumption) ?_
  rotate_left
  · intro w hSw; (try dsimp only at hSw); go_simp; try (with_reducible rfl)
  (try simp only [Act.put, List.setIfInBounds_toArray, List.set_cons_zero, List.set_cons_succ])
  refine take_at (v := ?_) 7 (some 9) rfl (by kernel_rfl) (by kernel_rfl) (by kernel_rfl) (by kernel_rfl) (fun _ _ _ h => h) (Or.inl ⟨by rfl, ?_⟩) (by assumption) ?_
  rotate_left
  · intro w hSw; (try dsimp only at hSw); go_simp; try (with_reducible rfl)
  (try simp only [Act.put, List.setIfInBounds_toArray, List.set_cons_zero, List.set_cons_succ])
  refine take_at (v := ?_) 8 (some 10) rfl (by kernel_rfl) (by kernel_rfl) (by kernel_rfl) (by kernel_rfl) (fun _ _ _ h => h) (Or.inl ⟨by rfl, ?_⟩) (by assumption) ?_
  rotate_left
  · intro w hSw; (try dsimp only at hSw); go_simp; try (with_reducible rfl)
  (try simp only [Act.put, List.setIfInBounds_toArray, List.set_cons_zero, List.set_cons_succ])
  refine take_at (v := ?_) 9 (some 11) rfl (by kernel_rfl) (by kernel_rfl) (by kernel_rfl) (by kernel_rfl) (fun _ _ _ h => h) (Or.inl ⟨by rfl, ?_⟩) (by assumption) ?_
  rotate_left
  · intro w hSw; (try dsimp only at hSw); go_simp; try (with_reducible rfl)
  (try simp only [Act.put, List.setIfInBounds_toArray, List.set_cons_zero, List.set_cons_succ])
  refine take_at (v := ?_) 10 (some 12) rfl (by kernel_rfl) (by kernel_rfl) (by kernel_rfl) (by kernel_rfl) (fun _ _ _ h => h) (Or.inl ⟨by rfl, ?_⟩) (by assumption) ?_
  rotate_left
  · intro w hSw; (try dsimp only at hSw); go_simp; try (with_reducible rfl)
  (try simp only [Act.put, List.setIfInBounds_toArray, List.set_cons_zero, List.set_cons_succ])
  refine take_at (v := ?_) 11 (some 13) rfl (by kernel_rfl) (by kernel_rfl) (by kernel_rfl) (by kernel_rfl) (fun _ _ _ h => h) (Or.inl ⟨by rfl, ?_⟩) (by assumption) ?_
  rotate_left
  · intro w hSw; (try dsimp only at hSw); go_simp; try (with_reducible rfl)
  (try simp only [Act.put, List.setIfInBounds_toArray, List.set_cons_zero, List.set_cons_succ])
  refine take_at (v := ?_) 12 (some 14) rfl (by kernel_rfl) (by kernel_rfl) (by kernel_rfl) (by kernel_rfl) (fun _ _ _ h => h) (Or.inl ⟨by rfl, ?_⟩) (by assumption) ?_
  rotate_left
  · intro w hSw; (try dsimp only at hSw); go_simp; try (with_reducible rfl)
  (try simp only [Act.put, List.setIfInBounds_toArray, List.set_cons_zero, List.set_cons_succ])
  refine take_at (v := ?_) 13 (some 15) rfl (by kernel_rfl) (by kernel_rfl) (by kernel_rfl) (by kernel_rfl) (fun _ _ _ h => h) (Or.inl ⟨by rfl, ?_⟩) (by assumption) ?_
  rotate_left
  · intro w hSw; (try dsimp only at hSw); go_simp; try (with_reducible rfl)
  (try simp only [Act.put, List.setIfInBounds_toArray, List.set_cons_zero, List.set_cons_succ])
  refine take_at (v := ?_) 14 (some 16) rfl (by kernel_rfl) (by kernel_rfl) (by kernel_rfl) (by kernel_rfl) (fun _ _ _ h => h) (Or.inl ⟨by rfl, ?_⟩) (by assumption) ?_
  rotate_left
  · intro w hSw; (try dsimp only at hSw); go_simp; try (with_reducible rfl)
  (try simp only [Act.put, List.setIfInBounds_toArray, List.set_cons_zero, List.set_cons_succ])
  refine wpAnyH_ready (rs := [15]) (by kernel_rfl) (by simp) ?_
  refine AllReadyH.cons rfl (fun K hK => ?_) AllReadyH.nil
  go_simp
  refine (swapJ_no b 0 _ (se : Int) ((se : Int) + 1) _ H.out.s.cnt (by rw [beq_eq_false_iff_ne]; have h1 := HE.out; have h2 := SE.out; omega)).mono ?_
  rintro e w1 ⟨rfl, hj, c1⟩
  have K1 := Lib.hid (H.out.slab (H.out.s.count c1 hj) (Ch_two1 c1.ch))
  have C1 : Hid (Ch (Tri q b rb) w w1) := Lib.hid (CW.out.trans (Ch_tri (Ch_two1 c1.ch)))
  refine hK.out _ _ ⟨K1.out.rq.c0, by rw [SE.out]; exact K1.out.rq.c4⟩ (fun hHeld => ?_)
  clear hK K hj c1
  (try simp only [Act.put, List.setIfInBounds_toArray, List.set_cons_zero, List.set_cons_succ])
  refine wpAnyH_done (by kernel_rfl) ?_ _
  clear hHeld
  have h2 := K1.out.rq.c2
  have f2 := K1.out.rq.f2
  go_wp2
  go_end0
  exact ⟨rfl, K1.out.setQ 2 _ (K1.out.rq.set_st 0), C1.out.trans (Ch_tri1 ((Ch.refl _ _).setB _ _))⟩

/-- a word turned by a request's function -/
theorem turn_look (b o : Nat) (v : Nat) (B q pd : Nat) (w : World) (hv : v < 18446744073709551616) (h : IsU w b o (v : Nat)) (h1 : w.cell? ⟨B, 0, none⟩ = some (.pointer (some ⟨q, 0, none⟩))) (h2 : w.cell? ⟨q, 1, none⟩ = some (.int .u64 (pd : Nat))) (n1 : B ≠ b) (n2 : q ≠ b) :
    Calls Tryz.prog 78 #[.pointer (some ⟨b, o, none⟩), .func (.func 79) #[] #[.pointer (some ⟨B, 0, none⟩)]] w fun e w' =>
      e = .returned (.tuple #[.int .u64 (v : Nat), .bool (decide ((nxW v 1 (pd != 0)).2 = 0))]) ∧ IsU w' b o ((if (nxW v 1 (pd != 0)).2 = 0 then (nxW v 1 (pd != 0)).1 else v : Nat) : Nat) ∧ Tch b o 4 w w' := by
  have H := Lib.hid h
  have K1 := Lib.hid h1
  have K2 := Lib.hid h2
  have hfn := fn_nilW
  clear h h1 h2
  obtain ⟨x, hx⟩ : ∃ x, nxW v 1 (pd != 0) = x := ⟨_, rfl⟩
  have X := Lib.hid hx
  rw [hx]
  clear hx
  by_cases hso : x.2 = 0
  · rw [if_pos hso, decide_eq_true hso]
    have L := Lib.hid (decide_eq_true hso)
    go_enter Tryz.func78, Tryz.ntmps78
    go_wp2_with fail
    refine (loadW_at b o _ _ H.out).mono ?_
    rintro e w1 ⟨rfl, hi, c1⟩
    have H1 := Lib.hid hi
    clear hi
    go_wp2_with fail
    refine (look1_any v B q pd _ hv (c1.ch.keeps K1.out n1) (c1.ch.keeps K2.out n2)).mono ?_
    rintro e w2 ⟨rfl, rfl⟩
    rw [nxZ_one, X.out, L.out]
    go_wp2_with fail
    refine (changeW_yes b o _ _ _ H1.out).mono ?_
    rintro e w3 ⟨rfl, hi, c3⟩
    have H3 := Lib.hid hi
    clear hi
    go_wp2
    go_ret2
    exact ⟨rfl, H3.out, c1.trans c3⟩
  · rw [if_neg hso, decide_eq_false hso]
    have L := Lib.hid (decide_eq_false hso)
    go_enter Tryz.func78, Tryz.ntmps78
    go_wp2_with fail
    refine (loadW_at b o _ _ H.out).mono ?_
    rintro e w1 ⟨rfl, hi, c1⟩
    have H1 := Lib.hid hi
    clear hi
    go_wp2_with fail
    refine (look1_any v B q pd _ hv (c1.ch.keeps K1.out n1) (c1.ch.keeps K2.out n2)).mono ?_
    rintro e w2 ⟨rfl, rfl⟩
    rw [nxZ_one, X.out, L.out]
    go_wp2
    go_ret2
    exact ⟨rfl, H1.out, c1⟩
end Go.Proofs.YtkialefhjfoniaaGreat
