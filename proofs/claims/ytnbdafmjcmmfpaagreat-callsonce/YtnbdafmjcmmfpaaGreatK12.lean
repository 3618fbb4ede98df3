import Derived.Test.YtnbdafmjcmmfpaaGreatK09
import Derived.Test.YtnbdafmjcmmfpaaGreatK03
import Derived.Deep.QuietTactic
import Derived.BigQuiet
import Derived.Deep.Cut
import Derived.Deep.CutRange
import Derived.Deep.CutBlock
import Derived.RegionTactic
import Derived.BigRegion
/-
  Contracts of package slab's functions that turn it: a request's three steps, and Step.
-/
namespace Go.Proofs.YtnbdafmjcmmfpaaGreat
open Go.RowKit Verge
attribute [local go_sem] Oper.semAt_some
set_option linter.unusedVariables false
set_option linter.unusedSimpArgs false

theorem nxZ_one (n : Nat) (per : Bool) : nxZ n 1 per = nxW n 1 per := by rfl

/-- a slab and a request, side by side -/
structure SQ (w : World) (q b rb n cnt : Nat) (R : Nat → Rec) (r : Rq) : Prop where
  s : IsS w b rb n cnt R
  rq : IsQ w q b r
  nb : q ≠ b
  nr : q ≠ rb
section
variable {w w' : World} {q b rb n cnt : Nat} {R : Nat → Rec} {r : Rq}
theorem SQ.quiet (h : SQ w q b rb n cnt R r) (c : Ch Nil w w') : SQ w' q b rb n cnt R r := ⟨h.s.quiet c, h.rq.kept c (fun e => e), h.nb, h.nr⟩
theorem SQ.setQ {r' : Rq} (h : SQ w q b rb n cnt R r) (i : Nat) (v : Value) (hq : IsQ (w.setCell ⟨q, i, none⟩ v) q b r') : SQ (w.setCell ⟨q, i, none⟩ v) q b rb n cnt R r' :=
  ⟨h.s.kept (S := One q) ((Ch.refl _ _).setB i v) (fun e => h.nb e.symm) (fun e => h.nr e.symm), hq, h.nb, h.nr⟩
theorem SQ.slab {cnt' : Nat} {R' : Nat → Rec} (h : SQ w q b rb n cnt R r) (hs : IsS w' b rb n cnt' R') (c : Ch (Two b rb) w w') : SQ w' q b rb n cnt' R' r :=
  ⟨hs, h.rq.kept c (fun e => by rcases e with e | e; exact h.nb e; exact h.nr e), h.nb, h.nr⟩
end

theorem lookCount_full {q b rb n cnt : Nat} {R : Nat → Rec} {r : Rq} {w : World} (h : SQ w q b rb n cnt R r) (he : cnt = n) :
    Calls Tryz.prog 133 #[.pointer (some ⟨q, 0, none⟩)] w fun e w' => e = .returned (.tuple #[]) ∧
      SQ w' q b rb n cnt R { r with seen := cnt, ss := 1 } ∧ Ch (Tri q b rb) w w' := by
  have H := Lib.hid h
  have h0 := h.rq.c0
  have HE := Lib.hid he
  clear h he
  go_enter Tryz.func133, Tryz.ntmps133
  go_wp2_with fail
  refine (loadJ_at b 0 _ _ H.out.s.cnt).mono ?_
  rintro e w1 ⟨rfl, hj, c1⟩
  have K1 := Lib.hid (H.out.slab (H.out.s.count c1 hj) (Ch_two1 c1.ch))
  have C1 : Hid (Ch (Tri q b rb) w w1) := Lib.hid (Ch_tri (Ch_two1 c1.ch))
  have h4 := K1.out.rq.c4
  have f4 := K1.out.rq.f4
  clear hj c1 h0
  have K2 := Lib.hid (K1.out.setQ 4 _ (K1.out.rq.set_seen cnt))
  have C2 : Hid (Ch (Tri q b rb) w (w1.setCell ⟨q, 4, none⟩ (.int .i64 (cnt : Nat)))) := Lib.hid (C1.out.trans (Ch_tri1 ((Ch.refl _ _).setB _ _)))
  go_upto_region 1 with (fail)
  clear h4 f4
  generalize w1.setCell ⟨q, 4, none⟩ (.int .i64 (cnt : Nat)) = w2 at K2 C2 ⊢
  have h0 := K2.out.rq.c0
  have h4 := K2.out.rq.c4
  have h2 := K2.out.rq.c2
  have h3 := K2.out.rq.c3
  have f2 := K2.out.rq.f2
  have f3 := K2.out.rq.f3
  have hr := K2.out.s.recs
  obtain ⟨x, hx⟩ : ∃ x, x = cnt := ⟨_, rfl⟩
  have HX := Lib.hid hx
  dsimp only at h4
  rw [← hx] at h4 ⊢
  clear hx
  have z1 : ((x : Int) == (n : Int)) = true := by rw [beq_iff_eq]; have := HE.out; have := HX.out; omega
  go_quiet (fail)
  go_wp2
  (try simp only [Exit.inBlock, Exit.then]); refine bodyPost_ret (results_none rfl _ _ _) rfl ?_
  exact ⟨rfl, (K2.out.quiet ((Ch.refl _ _).drewN _)).setQ 3 _ ((K2.out.quiet ((Ch.refl _ _).drewN _)).rq.set_ss 1), (C2.out.drewN _).trans (Ch_tri1 ((Ch.refl _ _).setB _ _))⟩

theorem lookCount_go {q b rb n cnt : Nat} {R : Nat → Rec} {r : Rq} {w : World} (h : SQ w q b rb n cnt R r) (he : cnt ≠ n) :
    Calls Tryz.prog 133 #[.pointer (some ⟨q, 0, none⟩)] w fun e w' => e = .returned (.tuple #[]) ∧
      SQ w' q b rb n cnt R { r with seen := cnt, st := 1 } ∧ Ch (Tri q b rb) w w' := by
  have H := Lib.hid h
  have h0 := h.rq.c0
  have HE := Lib.hid he
  clear h he
  go_enter Tryz.func133, Tryz.ntmps133
  go_wp2_with fail
  refine (loadJ_at b 0 _ _ H.out.s.cnt).mono ?_
  rintro e w1 ⟨rfl, hj, c1⟩
  have K1 := Lib.hid (H.out.slab (H.out.s.count c1 hj) (Ch_two1 c1.ch))
  have C1 : Hid (Ch (Tri q b rb) w w1) := Lib.hid (Ch_tri (Ch_two1 c1.ch))
  have h4 := K1.out.rq.c4
  have f4 := K1.out.rq.f4
  clear hj c1 h0
  have K2 := Lib.hid (K1.out.setQ 4 _ (K1.out.rq.set_seen cnt))
  have C2 : Hid (Ch (Tri q b rb) w (w1.setCell ⟨q, 4, none⟩ (.int .i64 (cnt : Nat)))) := Lib.hid (C1.out.trans (Ch_tri1 ((Ch.refl _ _).setB _ _)))
  go_upto_region 1 with (fail)
  clear h4 f4
  generalize w1.setCell ⟨q, 4, none⟩ (.int .i64 (cnt : Nat)) = w2 at K2 C2 ⊢
  have h0 := K2.out.rq.c0
  have h4 := K2.out.rq.c4
  have h2 := K2.out.rq.c2
  have h3 := K2.out.rq.c3
  have f2 := K2.out.rq.f2
  have f3 := K2.out.rq.f3
  have hr := K2.out.s.recs
  obtain ⟨x, hx⟩ : ∃ x, x = cnt := ⟨_, rfl⟩
  have HX := Lib.hid hx
  dsimp only at h4
  rw [← hx] at h4 ⊢
  clear hx
  have z1 : ((x : Int) == (n : Int)) = false := by rw [beq_eq_false_iff_ne]; have := HE.out; have := HX.out; omega
  go_quiet (fail)
  go_wp2
  go_end0
  exact ⟨rfl, (K2.out.quiet ((Ch.refl _ _).drewN _)).setQ 2 _ ((K2.out.quiet ((Ch.refl _ _).drewN _)).rq.set_st 1), (C2.out.drewN _).trans (Ch_tri1 ((Ch.refl _ _).setB _ _))⟩

theorem claim_yes {q b rb n cnt : Nat} {R : Nat → Rec} {r : Rq} {w : World} (h : SQ w q b rb n cnt R r) (hs : r.seen ≤ 64) (he : cnt = r.seen) :
    Calls Tryz.prog 134 #[.pointer (some ⟨q, 0, none⟩)] w fun e w' => e = .returned (.tuple #[]) ∧
      SQ w' q b rb n (cnt + 1) R { r with st := 2 } ∧ Ch (Tri q b rb) w w' := by
  have H := Lib.hid (h.quiet ((Ch.refl Nil w).drew))
  have CW : Hid (Ch (Tri q b rb) w w.drew) := Lib.hid (Ch.refl _ _).drew
  have g0 := H.out.rq.c0
  have g4 := H.out.rq.c4
  obtain ⟨se, hse⟩ : ∃ se, se = r.seen := ⟨_, rfl⟩
  rw [← hse] at g4 hs
  have HE := Lib.hid he
  have SE := Lib.hid hse
  clear h hse he
  have e1 : IntKind.i64.wrap ((se : Int) + 1) = (se : Int) + 1 := IntWalk.i64_in _ (by omega)
  go_enter Tryz.func134, Tryz.ntmps134
  go_upto_region 0 with (fail)
  refine wp_region_held_drew (S := fun w' => w'.cell? ⟨q, 0, none⟩ = some (.pointer (some ⟨b, 0, none⟩)) ∧ w'.cell? ⟨q, 4, none⟩ = some (.int .i64 (se : Nat))) (by kernel_rfl) ⟨g0, g4⟩ (fun hHeld => ?_)
  clear g0 g4
  generalize w.drew = X at H CW hHeld ⊢
  refine take_at (v := ?_) 0 (some 2) rfl (by kernel_rfl) (by kernel_rfl) (by kernel_rfl) (by kernel_rfl) (fun _ _ _ h => h) (Or.inl ⟨by rfl, ?_⟩) (by assumption) ?_
  rotate_left
  · intro w hSw; (try dsimp only at hSw); go_simp; try (with_reducible rfl)
  (try simp only [Act.put, List.setIfInBounds_toArray, List.set_cons_zero, List.set_cons_succ])
  refine take_at (v := ?_) 1 (some 3) rfl (by kernel_rfl) (by kernel_rfl) (by kernel_rfl) (by kernel_rfl) (fun _ _ _ h => h) (Or.inl ⟨by rfl, ?_⟩) (by assumption) ?_
  rotate_left
  · intro w hSw; (try dsimp only at hSw); go_simp; try (with_reducible rfl)
  (try simp only [Act.put, List.setIfInBounds_toArray, List.set_cons_zero, List.set_cons_succ])
  refine take_at (v := ?_) 2 (some 4) rfl (by kernel_rfl) (by kernel_rfl) (by kernel_rfl) (by kernel_rfl) (fun _ _ _ h => h) (Or.inl ⟨by rfl, ?_⟩) (by assumption) ?_
  rotate_left
  · intro w hSw; (try dsimp only at hSw); go_simp; try (with_reducible rfl)
  (try simp only [Act.put, List.setIfInBounds_toArray, List.set_cons_zero, List.set_cons_succ])
  refine take_at (v := ?_) 3 (some 5) rfl (by kernel_rfl) (by kernel_rfl) (by kernel_rfl) (by kernel_rfl) (fun _ _ _ h => h) (Or.inl ⟨by rfl, ?_⟩) (by assumption) ?_
  rotate_left
  · intro w hSw; (try dsimp only at hSw); go_simp; try (with_reducible rfl)
  (try simp only [Act.put, List.setIfInBounds_toArray, List.set_cons_zero, List.set_cons_succ])
  refine take_at (v := ?_) 4 (some 6) rfl (by kernel_rfl) (by kernel_rfl) (by kernel_rfl) (by kernel_rfl) (fun _ _ _ h => h) (Or.inl ⟨by rfl, ?_⟩) (by assumption) ?_
  rotate_left
  · intro w hSw; (try dsimp only at hSw); go_simp; try (with_reducible rfl)
  (try simp only [Act.put, List.setIfInBounds_toArray, List.set_cons_zero, List.set_cons_succ])
  refine take_at (v := ?_) 5 (some 7) rfl (by kernel_rfl) (by kernel_rfl) (by kernel_rfl) (by kernel_rfl) (fun _ _ _ h => h) (Or.inl ⟨by rfl, ?_⟩) (by assumption) ?_
  rotate_left
  · intro w hSw; (try dsimp only at hSw); go_simp; try (with_reducible rfl)
  (try simp only [Act.put, List.setIfInBounds_toArray, List.set_cons_zero, List.set_cons_succ])
  refine take_at (v := ?_) 6 (some 8) rfl (by kernel_rfl) (by kernel_rfl) (by kernel_rfl) (by kernel_rfl) (fun _ _ _ h => h) (Or.inl ⟨by rfl, ?_⟩) (by assumption) ?_
  rotate_left
  · intro w hSw; (try dsimp only at hSw); go_simp; try (with_reducible rfl)
  (try simp only [Act.put, List.setIfInBounds_toArray, List.set_cons_zero, List.set_cons_succ])
  refine take_at (v := ?_) 7 (some 9) rfl (by kernel_rfl) (by kernel_rfl) (by kernel_rfl) (by kernel_rfl) (fun _ _ _ h => h) (Or.inl ⟨by rfl, ?_⟩) (by assumption) ?_
  rotate_left
  · intro w hSw; (try dsimp only at hSw); go_simp; try (with_reducible rfl)
  (try simp only [Act.put, List.setIfInBounds_toArray, List.set_cons_zero, List.set_cons_succ])
  refine take_at (v := ?_) 8 (some 10) rfl (by kernel_rfl) (by kernel_rfl) (by kernel_rfl) (by kernel_rfl) (fun _ _ _ h => h) (Or.inl ⟨by rfl, ?_⟩) (by assumption) ?_
  rotate_left
  · intro w hSw; (try dsimp only at hSw); go_simp; try (with_reducible rfl)
  (try simp only [Act.put, List.setIfInBounds_toArray, List.set_cons_zero, List.set_cons_succ])
  refine take_at (v := ?_) 9 (some 11) rfl (by kernel_rfl) (by kernel_rfl) (by kernel_rfl) (by kernel_rfl) (fun _ _ _ h => h) (Or.inl ⟨by rfl, ?_⟩) (by assumption) ?_
  rotate_left
  · intro w hSw; (try dsimp only at hSw); go_simp; try (with_reducible rfl)
  (try simp only [Act.put, List.setIfInBounds_toArray, List.set_cons_zero, List.set_cons_succ])
  refine take_at (v := ?_) 10 (some 12) rfl (by kernel_rfl) (by kernel_rfl) (by kernel_rfl) (by kernel_rfl) (fun _ _ _ h => h) (Or.inl ⟨by rfl, ?_⟩) (by assumption) ?_
  rotate_left
  · intro w hSw; (try dsimp only at hSw); go_simp; try (with_reducible rfl)
  (try simp only [Act.put, List.setIfInBounds_toArray, List.set_cons_zero, List.set_cons_succ])
  refine take_at (v := ?_) 11 (some 13) rfl (by kernel_rfl) (by kernel_rfl) (by kernel_rfl) (by kernel_rfl) (fun _ _ _ h => h) (Or.inl ⟨by rfl, ?_⟩) (by assumption) ?_
  rotate_left
  · intro w hSw; (try dsimp only at hSw); go_simp; try (with_reducible rfl)
  (try simp only [Act.put, List.setIfInBounds_toArray, List.set_cons_zero, List.set_cons_succ])
  refine take_at (v := ?_) 12 (some 14) rfl (by kernel_rfl) (by kernel_rfl) (by kernel_rfl) (by kernel_rfl) (fun _ _ _ h => h) (Or.inl ⟨by rfl, ?_⟩) (by assumption) ?_
  rotate_left
  · intro w hSw; (try dsimp only at hSw); go_simp; try (with_reducible rfl)
  (try simp only [Act.put, List.setIfInBounds_toArray, List.set_cons_zero, List.set_cons_succ])
  refine take_at (v := ?_) 13 (some 15) rfl (by kernel_rfl) (by kernel_rfl) (by kernel_rfl) (by kernel_rfl) (fun _ _ _ h => h) (Or.inl ⟨by rfl, ?_⟩) (by assumption) ?_
  rotate_left
  · intro w hSw; (try dsimp only at hSw); go_simp; try (with_reducible rfl)
  (try simp only [Act.put, List.setIfInBounds_toArray, List.set_cons_zero, List.set_cons_succ])
  refine take_at (v := ?_) 14 (some 16) rfl (by kernel_rfl) (by kernel_rfl) (by kernel_rfl) (by kernel_rfl) (fun _ _ _ h => h) (Or.inl ⟨by rfl, ?_⟩) (by assumption) ?_
  rotate_left
  · intro w hSw; (try dsimp only at hSw); go_simp; try (with_reducible rfl)
  (try simp only [Act.put, List.setIfInBounds_toArray, List.set_cons_zero, List.set_cons_succ])
  refine wpAnyH_ready (rs := [15]) (by kernel_rfl) (by simp) ?_
  refine AllReadyH.cons rfl (fun K hK => ?_) AllReadyH.nil
  go_simp
  refine (swapJ_yes b 0 _ ((se : Int) + 1) _ (by have := H.out.s.cnt; rw [HE.out, ← SE.out] at this; exact this)).mono ?_
  rintro e w1 ⟨rfl, hj, c1⟩
  have K1 := Lib.hid (H.out.slab (H.out.s.count (c' := cnt + 1) c1 (by rw [show ((cnt + 1 : Nat) : Int) = (se : Int) + 1 by rw [HE.out, ← SE.out]; omega]; exact hj)) (Ch_two1 c1.ch))
  have C1 : Hid (Ch (Tri q b rb) w w1) := Lib.hid (CW.out.trans (Ch_tri (Ch_two1 c1.ch)))
  refine hK.out _ _ ⟨K1.out.rq.c0, by rw [SE.out]; exact K1.out.rq.c4⟩ (fun hHeld => ?_)
  clear hK K hj c1
  (try simp only [Act.put, List.setIfInBounds_toArray, List.set_cons_zero, List.set_cons_succ])
  refine wpAnyH_done (by kernel_rfl) ?_ _
  clear hHeld
  have h2 := K1.out.rq.c2
  have f2 := K1.out.rq.f2
  go_wp2
  (try simp only [Exit.inBlock, Exit.then]); refine bodyPost_ret (results_none rfl _ _ _) rfl ?_
  exact ⟨rfl, K1.out.setQ 2 _ (K1.out.rq.set_st 2), C1.out.trans (Ch_tri1 ((Ch.refl _ _).setB _ _))⟩

theorem claim_no {q b rb n cnt : Nat} {R : Nat → Rec} {r : Rq} {w : World} (h : SQ w q b rb n cnt R r) (hs : r.seen ≤ 64) (he : cnt ≠ r.seen) :
    Calls Tryz.prog 134 #[.pointer (some ⟨q, 0, none⟩)] w fun e w' => e = .returned (.tuple #[]) ∧
      SQ w' q b rb n cnt R { r with st := 0 } ∧ Ch (Tri q b rb) w w' := by
  have H := Lib.hid (h.quiet ((Ch.refl Nil w).drew))
  have CW : Hid (Ch (Tri q b rb) w w.drew) := Lib.hid (Ch.refl _ _).drew
  have g0 := H.out.rq.c0
  have g4 := H.out.rq.c4
  obtain ⟨se, hse⟩ : ∃ se, se = r.seen := ⟨_, rfl⟩
  rw [← hse] at g4 hs
  have HE := Lib.hid he
  have SE := Lib.hid hse
  clear h hse he
  have e1 : IntKind.i64.wrap ((se : Int) + 1) = (se : Int) + 1 := IntWalk.i64_in _ (by omega)
  go_enter Tryz.func134, Tryz.ntmps134
  go_upto_region 0 with (fail)
  refine wp_region_held_drew (S := fun w' => w'.cell? ⟨q, 0, none⟩ = some (.pointer (some ⟨b, 0, none⟩)) ∧ w'.cell? ⟨q, 4, none⟩ = some (.int .i64 (se : Nat))) (by kernel_rfl) ⟨g0, g4⟩ (fun hHeld => ?_)
  clear g0 g4
  generalize w.drew = X at H CW hHeld ⊢
  refine take_at (v := ?_) 0 (some 2) rfl (by kernel_rfl) (by kernel_rfl) (by kernel_rfl) (by kernel_rfl) (fun _ _ _ h => h) (Or.inl ⟨by rfl, ?_⟩) (by assumption) ?_
  rotate_left
  · intro w hSw; (try dsimp only at hSw); go_simp; try (with_reducible rfl)
  (try simp only [Act.put, List.setIfInBounds_toArray, List.set_cons_zero, List.set_cons_succ])
  refine take_at (v := ?_) 1 (some 3) rfl (by kernel_rfl) (by kernel_rfl) (by kernel_rfl) (by kernel_rfl) (fun _ _ _ h => h) (Or.inl ⟨by rfl, ?_⟩) (by assumption) ?_
  rotate_left
  · intro w hSw; (try dsimp only at hSw); go_simp; try (with_reducible rfl)
  (try simp only [Act.put, List.setIfInBounds_toArray, List.set_cons_zero, List.set_cons_succ])
  refine take_at (v := ?_) 2 (some 4) rfl (by kernel_rfl) (by kernel_rfl) (by kernel_rfl) (by kernel_rfl) (fun _ _ _ h => h) (Or.inl ⟨by rfl, ?_⟩) (by assumption) ?_
  rotate_left
  · intro w hSw; (try dsimp only at hSw); go_simp; try (with_reducible rfl)
  (try simp only [Act.put, List.setIfInBounds_toArray, List.set_cons_zero, List.set_cons_succ])
  refine take_at (v := ?_) 3 (some 5) rfl (by kernel_rfl) (by kernel_rfl) (by kernel_rfl) (by kernel_rfl) (fun _ _ _ h => h) (Or.inl ⟨by rfl, ?_⟩) (by assumption) ?_
  rotate_left
  · intro w hSw; (try dsimp only at hSw); go_simp; try (with_reducible rfl)
  (try simp only [Act.put, List.setIfInBounds_toArray, List.set_cons_zero, List.set_cons_succ])
  refine take_at (v := ?_) 4 (some 6) rfl (by kernel_rfl) (by kernel_rfl) (by kernel_rfl) (by kernel_rfl) (fun _ _ _ h => h) (Or.inl ⟨by rfl, ?_⟩) (by assumption) ?_
  rotate_left
  · intro w hSw; (try dsimp only at hSw); go_simp; try (with_reducible rfl)
  (try simp only [Act.put, List.setIfInBounds_toArray, List.set_cons_zero, List.set_cons_succ])
  refine take_at (v := ?_) 5 (some 7) rfl (by kernel_rfl) (by kernel_rfl) (by kernel_rfl) (by kernel_rfl) (fun _ _ _ h => h) (Or.inl ⟨by rfl, ?_⟩) (by assumption) ?_
  rotate_left
  · intro w hSw; (try dsimp only at hSw); go_simp; try (with_reducible rfl)
  (try simp only [Act.put, List.setIfInBounds_toArray, List.set_cons_zero, List.set_cons_succ])
  refine take_at (v := ?_) 6 (some 8) rfl (by kernel_rfl) (by kernel_rfl) (by kernel_rfl) (by kernel_rfl) (fun _ _ _ h => h) (Or.inl ⟨by rfl, ?_⟩) (by assumption) ?_
  rotate_left
  · intro w hSw; (try dsimp only at hSw); go_simp; try (with_reducible rfl)
  (try simp only [Act.put, List.setIfInBounds_toArray, List.set_cons_zero, List.set_cons_succ])
  refine take_at (v := ?_) 7 (some 9) rfl (by kernel_rfl) (by kernel_rfl) (by kernel_rfl) (by kernel_rfl) (fun _ _ _ h => h) (Or.inl ⟨by rfl, ?_⟩) (by assumption) ?_
  rotate_left
  · intro w hSw; (try dsimp only at hSw); go_simp; try (with_reducible rfl)
  (try simp only [Act.put, List.setIfInBounds_toArray, List.set_cons_zero, List.set_cons_succ])
  refine take_at (v := ?_) 8 (some 10) rfl (by kernel_rfl) (by kernel_rfl) (by kernel_rfl) (by kernel_rfl) (fun _ _ _ h => h) (Or.inl ⟨by rfl, ?_⟩) (by assumption) ?_
  rotate_left
  · intro w hSw; (try dsimp only at hSw); go_simp; try (with_reducible rfl)
  (try simp only [Act.put, List.setIfInBounds_toArray, List.set_cons_zero, List.set_cons_succ])
  refine take_at (v := ?_) 9 (some 11) rfl (by kernel_rfl) (by kernel_rfl) (by kernel_rfl) (by kernel_rfl) (fun _ _ _ h => h) (Or.inl ⟨by rfl, ?_⟩) (by assumption) ?_
  rotate_left
  · intro w hSw; (try dsimp only at hSw); go_simp; try (with_reducible rfl)
  (try simp only [Act.put, List.setIfInBounds_toArray, List.set_cons_zero, List.set_cons_succ])
  refine take_at (v := ?_) 10 (some 12) rfl (by kernel_rfl) (by kernel_rfl) (by kernel_rfl) (by kernel_rfl) (fun _ _ _ h => h) (Or.inl ⟨by rfl, ?_⟩) (by assumption) ?_
  rotate_left
  · intro w hSw; (try dsimp only at hSw); go_simp; try (with_reducible rfl)
  (try simp only [Act.put, List.setIfInBounds_toArray, List.set_cons_zero, List.set_cons_succ])
  refine take_at (v := ?_) 11 (some 13) rfl (by kernel_rfl) (by kernel_rfl) (by kernel_rfl) (by kernel_rfl) (fun _ _ _ h => h) (Or.inl ⟨by rfl, ?_⟩) (by assumption) ?_
  rotate_left
  · intro w hSw; (try dsimp only at hSw); go_simp; try (with_reducible rfl)
  (try simp only [Act.put, List.setIfInBounds_toArray, List.set_cons_zero, List.set_cons_succ])
  refine take_at (v := ?_) 12 (some 14) rfl (by kernel_rfl) (by kernel_rfl) (by kernel_rfl) (by kernel_rfl) (fun _ _ _ h => h) (Or.inl ⟨by rfl, ?_⟩) (by assumption) ?_
  rotate_left
  · intro w hSw; (try dsimp only at hSw); go_simp; try (with_reducible rfl)
  (try simp only [Act.put, List.setIfInBounds_toArray, List.set_cons_zero, List.set_cons_succ])
  refine take_at (v := ?_) 13 (some 15) rfl (by kernel_rfl) (by kernel_rfl) (by kernel_rfl) (by kernel_rfl) (fun _ _ _ h => h) (Or.inl ⟨by rfl, ?_⟩) (by assumption) ?_
  rotate_left
  · intro w hSw; (try dsimp only at hSw); go_simp; try (with_reducible rfl)
  (try simp only [Act.put, List.setIfInBounds_toArray, List.set_cons_zero, List.set_cons_succ])
  refine take_at (v := ?_) 14 (some 16) rfl (by kernel_rfl) (by kernel_rfl) (by kernel_rfl) (by kernel_rfl) (fun _ _ _ h => h) (Or.inl ⟨by rfl, ?_⟩) (by assumption) ?_
  rotate_left
  · intro w hSw; (try dsimp only at hSw); go_simp; try (with_reducible rfl)
  (try simp only [Act.put, List.setIfInBounds_toArray, List.set_cons_zero, List.set_cons_succ])
  refine wpAnyH_ready (rs := [15]) (by kernel_rfl) (by simp) ?_
  refine AllReadyH.cons rfl (fun K hK => ?_) AllReadyH.nil
  go_simp
  refine (swapJ_no b 0 _ (se : Int) ((se : Int) + 1) _ H.out.s.cnt (by rw [beq_eq_false_iff_ne]; have h1 := HE.out; have h2 := SE.out; omega)).mono ?_
  rintro e w1 ⟨rfl, hj, c1⟩
  have K1 := Lib.hid (H.out.slab (H.out.s.count c1 hj) (Ch_two1 c1.ch))
  have C1 : Hid (Ch (Tri q b rb) w w1) := Lib.hid (CW.out.trans (Ch_tri (Ch_two1 c1.ch)))
  refine hK.out _ _ ⟨K1.out.rq.c0, by rw [SE.out]; exact K1.out.rq.c4⟩ (fun hHeld => ?_)
  clear hK K hj c1
  (try simp only [Act.put, List.setIfInBounds_toArray, List.set_cons_zero, List.set_cons_succ])
  refine wpAnyH_done (by kernel_rfl) ?_ _
  clear hHeld
  have h2 := K1.out.rq.c2
  have f2 := K1.out.rq.f2
  go_wp2
  go_end0
  exact ⟨rfl, K1.out.setQ 2 _ (K1.out.rq.set_st 0), C1.out.trans (Ch_tri1 ((Ch.refl _ _).setB _ _))⟩

/-- a word turned by a request's function -/
theorem turn_look (b o : Nat) (v : Nat) (B q pd : Nat) (w : World) (hv : v < 18446744073709551616) (h : IsU w b o (v : Nat)) (h1 : w.cell? ⟨B, 0, none⟩ = some (.pointer (some ⟨q, 0, none⟩))) (h2 : w.cell? ⟨q, 1, none⟩ = some (.int .u64 (pd : Nat))) (n1 : B ≠ b) (n2 : q ≠ b) :
    Calls Tryz.prog 144 #[.pointer (some ⟨b, o, none⟩), .func (.func 148) #[] #[.pointer (some ⟨B, 0, none⟩)]] w fun e w' =>
      e = .returned (.tuple #[.int .u64 (v : Nat), .bool (decide ((nxW v 1 (pd != 0)).2 = 0))]) ∧ IsU w' b o ((if (nxW v 1 (pd != 0)).2 = 0 then (nxW v 1 (pd != 0)).1 else v : Nat) : Nat) ∧ Tch b o 4 w w' := by
  have H := Lib.hid h
  have K1 := Lib.hid h1
  have K2 := Lib.hid h2
  have hfn := fn_nilW
  clear h h1 h2
  obtain ⟨x, hx⟩ : ∃ x, nxW v 1 (pd != 0) = x := ⟨_, rfl⟩
  have X := Lib.hid hx
  rw [hx]
  clear hx
  by_cases hso : x.2 = 0
  · rw [if_pos hso, decide_eq_true hso]
    have L := Lib.hid (decide_eq_true hso)
    go_enter Tryz.func144, Tryz.ntmps144
    go_wp2_with fail
    refine (loadW_at b o _ _ H.out).mono ?_
    rintro e w1 ⟨rfl, hi, c1⟩
    have H1 := Lib.hid hi
    clear hi
    go_wp2_with fail
    refine (look1_any v B q pd _ hv (c1.ch.keeps K1.out n1) (c1.ch.keeps K2.out n2)).mono ?_
    rintro e w2 ⟨rfl, rfl⟩
    rw [nxZ_one, X.out, L.out]
    go_wp2_with fail
    refine (changeW_yes b o _ _ _ H1.out).mono ?_
    rintro e w3 ⟨rfl, hi, c3⟩
    have H3 := Lib.hid hi
    clear hi
    go_wp2
    go_ret2
    exact ⟨rfl, H3.out, c1.trans c3⟩
  · rw [if_neg hso, decide_eq_false hso]
    have L := Lib.hid (decide_eq_false hso)
    go_enter Tryz.func144, Tryz.ntmps144
    go_wp2_with fail
    refine (loadW_at b o _ _ H.out).mono ?_
    rintro e w1 ⟨rfl, hi, c1⟩
    have H1 := Lib.hid hi
    clear hi
    go_wp2_with fail
    refine (look1_any v B q pd _ hv (c1.ch.keeps K1.out n1) (c1.ch.keeps K2.out n2)).mono ?_
    rintro e w2 ⟨rfl, rfl⟩
    rw [nxZ_one, X.out, L.out]
    go_wp2
    go_ret2
    exact ⟨rfl, H1.out, c1⟩
end Go.Proofs.YtnbdafmjcmmfpaaGreat

/-
  Contracts of package slab's functions that turn it: a request's look at a slot.
-/
namespace Go.Proofs.YtnbdafmjcmmfpaaGreat
open Go.RowKit Verge
attribute [local go_sem] Oper.semAt_some
set_option linter.unusedVariables false
set_option linter.unusedSimpArgs false

theorem upR_twice (R : Nat → Rec) (k : Nat) (x y : Rec) : upR (upR R k x) k y = upR R k y := by
  funext i; unfold upR; by_cases h : i = k <;> simp [h]
theorem cell_far {w : World} {a b i j : Nat} (h : ¬ a = b) (x : Value) : (w.setCell ⟨a, i, none⟩ x).cell? ⟨b, j, none⟩ = w.cell? ⟨b, j, none⟩ :=
  World.cell?_setCell_other _ _ _ _ (fun e => by cases e; exact h rfl)
set_option maxRecDepth 100000 in
set_option maxHeartbeats 4000000 in
theorem lookSlot_no {q b rb n cnt : Nat} {R : Nat → Rec} {r : Rq} {w : World} (h : SQ w q b rb n cnt R r) (hk : r.slot < n) (hw : (R r.slot).wd < 18446744073709551616) (hx : ¬ (nxW (R r.slot).wd 1 (r.pd != 0)).2 = 0) :
    Calls Tryz.prog 135 #[.pointer (some ⟨q, 0, none⟩)] w fun e w' => e = .returned (.tuple #[]) ∧
      SQ w' q b rb n cnt R { r with slot := (r.slot + 1) % n } ∧ Ch (Tri q b rb) w w' := by
  have hBr : ¬ w.heap.size = rb := by have := h.s.lt2; omega
  have hqB : ¬ q = w.heap.size := by have := h.rq.lt; omega
  have h0 := h.rq.c0
  have h5 := h.rq.c5
  have h1 := h.rq.c1
  have n0 := h.s.n0
  have n1 := h.s.n1
  have hs := h.s.recs
  have hbB : ¬ b = w.heap.size := by have := h.s.lt; omega
  obtain ⟨k, hkk⟩ : ∃ k, k = r.slot := ⟨_, rfl⟩
  rw [← hkk] at h5 hk hw hx  ⊢
  have HK := Lib.hid hkk
  clear hkk
  have cA : Ch Nil w (w.alloc (.cells #[.pointer (some ⟨q, 0, none⟩)] 148)) := (Ch.refl _ _).alloc _
  have K0 := Lib.hid (h.quiet cA)
  have hb0 : (w.alloc (.cells #[.pointer (some ⟨q, 0, none⟩)] 148)).cell? ⟨w.heap.size, 0, none⟩ = some (.pointer (some ⟨q, 0, none⟩)) := by simp [go_sem]
  have C0 : Hid (Ch (Tri q b rb) w (w.alloc (.cells #[.pointer (some ⟨q, 0, none⟩)] 148))) := Lib.hid (Ch_any cA)
  have e0 : ((k : Int)).toNat = k := by omega
  clear h cA
  go_enter Tryz.func135, Tryz.ntmps135
  go_upto_region 1 with (fail)
  clear h0 h5 h1 hs
  generalize w.alloc (.cells #[.pointer (some ⟨q, 0, none⟩)] 148) = wa at K0 hb0 C0 ⊢
  obtain ⟨B, hB⟩ : ∃ B, B = w.heap.size := ⟨_, rfl⟩
  rw [← hB] at hb0 hBr hqB hbB ⊢
  clear hB
  have h0 := K0.out.rq.c0
  have h5 := K0.out.rq.c5
  rw [← HK.out] at h5
  have hs := K0.out.s.recs
  go_quiet (fail)
  have K1 := Lib.hid (K0.out.quiet ((Ch.refl Nil wa).drewN nq))
  have C1 : Hid (Ch (Tri q b rb) w (wa.drewN nq)) := Lib.hid (C0.out.drewN nq)
  have hb0 : (wa.drewN nq).cell? ⟨B, 0, none⟩ = some (.pointer (some ⟨q, 0, none⟩)) := hb0
  clear K0 C0 h0 h5 hs
  generalize wa.drewN nq = wb at K1 C1 hb0 ⊢
  have L0 : Hid (decide ((nxW (R k).wd 1 (r.pd != 0)).2 = 0) = false) := Lib.hid (decide_eq_false hx)
  go_wp2_with fail
  refine (turn_look rb (k * 6) _ B q r.pd _ hw (K1.out.s.rc k hk).c hb0 K1.out.rq.c1 hBr K1.out.nr).mono ?_
  rintro e w4 ⟨rfl, hu, c4⟩
  rw [if_neg hx] at hu
  rw [L0.out]
  have N1 := Lib.hid (K1.out.slab (K1.out.s.same hk (c4.wide (Nat.le_refl _) (by omega)) ((K1.out.s.rc k hk).turn c4 hu)) (Ch_two2 c4.ch))
  have C4 : Hid (Ch (Tri q b rb) w w4) := Lib.hid (C1.out.trans (Ch_tri (Ch_two2 c4.ch)))
  have b0 := c4.ch.keeps hb0 hBr
  clear hu c4 hb0 K1 C1
  go_upto_region 4 with (fail)
  have N2 := Lib.hid (N1.out.quiet ((Ch.refl Nil w4).drew))
  have C5 : Hid (Ch (Tri q b rb) w w4.drew) := Lib.hid C4.out.drew
  have b0 : w4.drew.cell? ⟨B, 0, none⟩ = some (.pointer (some ⟨q, 0, none⟩)) := b0
  clear N1 C4
  have S0 : w4.drew.cell? ⟨B, 0, none⟩ = some (.pointer (some ⟨q, 0, none⟩)) ∧ w4.drew.cell? ⟨q, 0, none⟩ = some (.pointer (some ⟨b, 0, none⟩)) ∧ w4.drew.cell? ⟨b, 4, none⟩ = some (.slice (some ⟨rb, 0, none⟩) n n) := ⟨b0, N2.out.rq.c0, N2.out.s.recs⟩
  have e1 : IntKind.i64.wrap ((k : Int) + 1) = (k : Int) + 1 := IntWalk.i64_in _ (by omega)
  have e2 : ¬ n = 0 := by omega
  obtain ⟨m, hm⟩ : ∃ m, (k + 1) % n = m := ⟨_, rfl⟩
  have HM := Lib.hid hm
  clear hm
  have e3 : ((k : Int) + 1).tmod (n : Int) = (m : Int) := by rw [← HM.out, Int.ofNat_tmod]; rfl
  have E3 := Lib.hid e3
  clear e3
  have q5 := N2.out.rq.c5
  rw [← HK.out] at q5
  have f5 := N2.out.rq.f5
  refine wp_region_held_drew (S := fun w' => w'.cell? ⟨B, 0, none⟩ = some (.pointer (some ⟨q, 0, none⟩)) ∧ w'.cell? ⟨q, 0, none⟩ = some (.pointer (some ⟨b, 0, none⟩)) ∧ w'.cell? ⟨b, 4, none⟩ = some (.slice (some ⟨rb, 0, none⟩) n n)) (by kernel_rfl) S0 (fun hHeld => ?_)
  generalize w4.drew = X at N2 C5 b0 S0 q5 f5 hHeld ⊢
  refine take_at (v := ?_) 0 (some 27) rfl (by kernel_rfl) (by kernel_rfl) (by kernel_rfl) (by kernel_rfl) (fun _ _ _ h => h) (Or.inl ⟨by rfl, ?_⟩) (by assumption) ?_
  rotate_left
  · intro w hSw; (try dsimp only at hSw); go_simp; try (with_reducible rfl)
  (try simp only [Act.put, List.setIfInBounds_toArray, List.set_cons_zero, List.set_cons_succ])
  refine take_at (v := ?_) 1 (some 28) rfl (by kernel_rfl) (by kernel_rfl) (by kernel_rfl) (by kernel_rfl) (fun _ _ _ h => h) (Or.inl ⟨by rfl, ?_⟩) (by assumption) ?_
  rotate_left
  · intro w hSw; (try dsimp only at hSw); go_simp; try (with_reducible rfl)
  (try simp only [Act.put, List.setIfInBounds_toArray, List.set_cons_zero, List.set_cons_succ])
  refine take_at (v := ?_) 2 (some 29) rfl (by kernel_rfl) (by kernel_rfl) (by kernel_rfl) (by kernel_rfl) (fun _ _ _ h => h) (Or.inl ⟨by rfl, ?_⟩) (by assumption) ?_
  rotate_left
  · intro w hSw; (try dsimp only at hSw); go_simp; try (with_reducible rfl)
  (try simp only [Act.put, List.setIfInBounds_toArray, List.set_cons_zero, List.set_cons_succ])
  refine take_at (v := ?_) 3 (some 30) rfl (by kernel_rfl) (by kernel_rfl) (by kernel_rfl) (by kernel_rfl) (fun _ _ _ h => h) (Or.inl ⟨by rfl, ?_⟩) (by assumption) ?_
  rotate_left
  · intro w hSw; (try dsimp only at hSw); go_simp; try (with_reducible rfl)
  (try simp only [Act.put, List.setIfInBounds_toArray, List.set_cons_zero, List.set_cons_succ])
  refine take_at (v := ?_) 6 (some 33) rfl (by kernel_rfl) (by kernel_rfl) (by kernel_rfl) (by kernel_rfl) (fun _ _ _ h => h) (Or.inl ⟨by rfl, ?_⟩) (by assumption) ?_
  rotate_left
  · intro w hSw; (try dsimp only at hSw); go_simp; try (with_reducible rfl)
  (try simp only [Act.put, List.setIfInBounds_toArray, List.set_cons_zero, List.set_cons_succ])
  refine take_at (v := ?_) 7 (some 34) rfl (by kernel_rfl) (by kernel_rfl) (by kernel_rfl) (by kernel_rfl) (fun _ _ _ h => h) (Or.inl ⟨by rfl, ?_⟩) (by assumption) ?_
  rotate_left
  · intro w hSw; (try dsimp only at hSw); go_simp; try (with_reducible rfl)
  (try simp only [Act.put, List.setIfInBounds_toArray, List.set_cons_zero, List.set_cons_succ])
  refine take_at (v := ?_) 8 (some 35) rfl (by kernel_rfl) (by kernel_rfl) (by kernel_rfl) (by kernel_rfl) (fun _ _ _ h => h) (Or.inl ⟨by rfl, ?_⟩) (by assumption) ?_
  rotate_left
  · intro w hSw; (try dsimp only at hSw); go_simp; try (with_reducible rfl)
  (try simp only [Act.put, List.setIfInBounds_toArray, List.set_cons_zero, List.set_cons_succ])
  refine take_at (v := ?_) 9 (some 36) rfl (by kernel_rfl) (by kernel_rfl) (by kernel_rfl) (by kernel_rfl) (fun _ _ _ h => h) (Or.inl ⟨by rfl, ?_⟩) (by assumption) ?_
  rotate_left
  · intro w hSw; (try dsimp only at hSw); go_simp; try (with_reducible rfl)
  (try simp only [Act.put, List.setIfInBounds_toArray, List.set_cons_zero, List.set_cons_succ])
  refine take_at (v := ?_) 10 (some 37) rfl (by kernel_rfl) (by kernel_rfl) (by kernel_rfl) (by kernel_rfl) (fun _ _ _ h => h) (Or.inl ⟨by rfl, ?_⟩) (by assumption) ?_
  rotate_left
  · intro w hSw; (try dsimp only at hSw); go_simp; try (with_reducible rfl)
  (try simp only [Act.put, List.setIfInBounds_toArray, List.set_cons_zero, List.set_cons_succ])
  refine take_at (v := ?_) 11 (some 38) rfl (by kernel_rfl) (by kernel_rfl) (by kernel_rfl) (by kernel_rfl) (fun _ _ _ h => h) (Or.inl ⟨by rfl, ?_⟩) (by assumption) ?_
  rotate_left
  · intro w hSw; (try dsimp only at hSw); go_simp; try (with_reducible rfl)
  (try simp only [Act.put, List.setIfInBounds_toArray, List.set_cons_zero, List.set_cons_succ])
  refine take_at (v := ?_) 12 (some 39) rfl (by kernel_rfl) (by kernel_rfl) (by kernel_rfl) (by kernel_rfl) (fun _ _ _ h => h) (Or.inl ⟨by rfl, ?_⟩) (by assumption) ?_
  rotate_left
  · intro w hSw; (try dsimp only at hSw); go_simp; try (with_reducible rfl)
  (try simp only [Act.put, List.setIfInBounds_toArray, List.set_cons_zero, List.set_cons_succ])
  refine take_at (v := ?_) 13 (some 40) rfl (by kernel_rfl) (by kernel_rfl) (by kernel_rfl) (by kernel_rfl) (fun _ _ _ h => h) (Or.inl ⟨by rfl, ?_⟩) (by assumption) ?_
  rotate_left
  · intro w hSw; (try dsimp only at hSw); go_simp; try (with_reducible rfl)
  (try simp only [Act.put, List.setIfInBounds_toArray, List.set_cons_zero, List.set_cons_succ])
  refine wpAnyH_ready (rs := [4]) (by kernel_rfl) (by simp) ?_
  refine AllReadyH.cons rfl (fun K hK => ?_) AllReadyH.nil
  go_simp
  refine hK.out _ _ S0 (fun hHeld => ?_)
  clear hK K
  (try simp only [Act.put, List.setIfInBounds_toArray, List.set_cons_zero, List.set_cons_succ])
  refine take_at (v := ?_) 5 (some 32) rfl (by kernel_rfl) (by kernel_rfl) (by kernel_rfl) (by kernel_rfl) (fun _ _ _ h => h) (Or.inl ⟨by rfl, ?_⟩) (by assumption) ?_
  rotate_left
  · intro w hSw; (try dsimp only at hSw); go_simp; try (with_reducible rfl)
  (try simp only [Act.put, List.setIfInBounds_toArray, List.set_cons_zero, List.set_cons_succ])
  refine take_at (v := ?_) 14 (some 41) rfl (by kernel_rfl) (by kernel_rfl) (by kernel_rfl) (by kernel_rfl) (fun _ _ _ h => h) (Or.inl ⟨by rfl, ?_⟩) (by assumption) ?_
  rotate_left
  · intro w hSw; (try dsimp only at hSw); go_simp; try (with_reducible rfl)
  (try simp only [Act.put, List.setIfInBounds_toArray, List.set_cons_zero, List.set_cons_succ])
  refine take_at (v := ?_) 15 (some 42) rfl (by kernel_rfl) (by kernel_rfl) (by kernel_rfl) (by kernel_rfl) (fun _ _ _ h => h) (Or.inl ⟨by rfl, ?_⟩) (by assumption) ?_
  rotate_left
  · intro w hSw; (try dsimp only at hSw); go_simp; try (with_reducible rfl)
  (try simp only [Act.put, List.setIfInBounds_toArray, List.set_cons_zero, List.set_cons_succ])
  refine take_at (v := ?_) 16 (some 43) rfl (by kernel_rfl) (by kernel_rfl) (by kernel_rfl) (by kernel_rfl) (fun _ _ _ h => h) (Or.inl ⟨by rfl, ?_⟩) (by assumption) ?_
  rotate_left
  · intro w hSw; (try dsimp only at hSw); go_simp; try (with_reducible rfl)
  (try simp only [Act.put, List.setIfInBounds_toArray, List.set_cons_zero, List.set_cons_succ])
  refine wpAnyH_ready (rs := [17]) (by kernel_rfl) (by simp) ?_
  refine AllReadyH.cons rfl (fun K hK => ?_) AllReadyH.nil
  go_simp
  rw [E3.out]
  have N3 := Lib.hid (N2.out.setQ 5 _ (N2.out.rq.set_slot m))
  have C6 : Hid (Ch (Tri q b rb) w (X.setCell ⟨q, 5, none⟩ (.int .i64 (m : Nat)))) := Lib.hid (C5.out.trans (Ch_tri1 ((Ch.refl _ _).setB _ _)))
  refine hK.out _ _ ⟨(cell_far hqB _).trans b0, N3.out.rq.c0, N3.out.s.recs⟩ (fun hHeld => ?_)
  clear hK K
  (try simp only [Act.put, List.setIfInBounds_toArray, List.set_cons_zero, List.set_cons_succ])
  refine wpAnyH_done (by kernel_rfl) ?_ _
  clear hHeld
  go_wp2
  (try simp only [Exit.inBlock, Exit.then]); refine bodyPost_ret (results_none rfl _ _ _) rfl ?_
  rw [HM.out]
  exact ⟨rfl, N3.out, C6.out⟩

set_option maxRecDepth 100000 in
set_option maxHeartbeats 4000000 in
theorem lookSlot_yes {q b rb n cnt : Nat} {R : Nat → Rec} {r : Rq} {w : World} (h : SQ w q b rb n cnt R r) (hk : r.slot < n) (hw : (R r.slot).wd < 18446744073709551616) (hx : (nxW (R r.slot).wd 1 (r.pd != 0)).2 = 0) (hg : (R r.slot).gv ≤ 900000) :
    Calls Tryz.prog 135 #[.pointer (some ⟨q, 0, none⟩)] w fun e w' => e = .returned (.tuple #[]) ∧
      SQ w' q b rb n cnt (upR R r.slot ⟨(nxW (R r.slot).wd 1 (r.pd != 0)).1, (R r.slot).gv + 1, r.pd⟩) { r with id := ((R r.slot).gv + 1) * 64 + r.slot, ss := 2 } ∧ Ch (Tri q b rb) w w' := by
  have hBr : ¬ w.heap.size = rb := by have := h.s.lt2; omega
  have hqB : ¬ q = w.heap.size := by have := h.rq.lt; omega
  have h0 := h.rq.c0
  have h5 := h.rq.c5
  have h1 := h.rq.c1
  have n0 := h.s.n0
  have n1 := h.s.n1
  have hs := h.s.recs
  have hbB : ¬ b = w.heap.size := by have := h.s.lt; omega
  obtain ⟨k, hkk⟩ : ∃ k, k = r.slot := ⟨_, rfl⟩
  rw [← hkk] at h5 hk hw hx hg ⊢
  have HK := Lib.hid hkk
  clear hkk
  have cA : Ch Nil w (w.alloc (.cells #[.pointer (some ⟨q, 0, none⟩)] 148)) := (Ch.refl _ _).alloc _
  have K0 := Lib.hid (h.quiet cA)
  have hb0 : (w.alloc (.cells #[.pointer (some ⟨q, 0, none⟩)] 148)).cell? ⟨w.heap.size, 0, none⟩ = some (.pointer (some ⟨q, 0, none⟩)) := by simp [go_sem]
  have C0 : Hid (Ch (Tri q b rb) w (w.alloc (.cells #[.pointer (some ⟨q, 0, none⟩)] 148))) := Lib.hid (Ch_any cA)
  have e0 : ((k : Int)).toNat = k := by omega
  clear h cA
  go_enter Tryz.func135, Tryz.ntmps135
  go_upto_region 1 with (fail)
  clear h0 h5 h1 hs
  generalize w.alloc (.cells #[.pointer (some ⟨q, 0, none⟩)] 148) = wa at K0 hb0 C0 ⊢
  obtain ⟨B, hB⟩ : ∃ B, B = w.heap.size := ⟨_, rfl⟩
  rw [← hB] at hb0 hBr hqB hbB ⊢
  clear hB
  have h0 := K0.out.rq.c0
  have h5 := K0.out.rq.c5
  rw [← HK.out] at h5
  have hs := K0.out.s.recs
  go_quiet (fail)
  have K1 := Lib.hid (K0.out.quiet ((Ch.refl Nil wa).drewN nq))
  have C1 : Hid (Ch (Tri q b rb) w (wa.drewN nq)) := Lib.hid (C0.out.drewN nq)
  have hb0 : (wa.drewN nq).cell? ⟨B, 0, none⟩ = some (.pointer (some ⟨q, 0, none⟩)) := hb0
  clear K0 C0 h0 h5 hs
  generalize wa.drewN nq = wb at K1 C1 hb0 ⊢
  have L0 : Hid (decide ((nxW (R k).wd 1 (r.pd != 0)).2 = 0) = true) := Lib.hid (decide_eq_true hx)
  go_wp2_with fail
  refine (turn_look rb (k * 6) _ B q r.pd _ hw (K1.out.s.rc k hk).c hb0 K1.out.rq.c1 hBr K1.out.nr).mono ?_
  rintro e w4 ⟨rfl, hu, c4⟩
  rw [if_pos hx] at hu
  rw [L0.out]
  have N1 := Lib.hid (K1.out.slab (K1.out.s.turn hk (c4.wide (Nat.le_refl _) (by omega)) ((K1.out.s.rc k hk).turn c4 hu)) (Ch_two2 c4.ch))
  have C4 : Hid (Ch (Tri q b rb) w w4) := Lib.hid (C1.out.trans (Ch_tri (Ch_two2 c4.ch)))
  have b0 := c4.ch.keeps hb0 hBr
  clear hu c4 hb0 K1 C1
  obtain ⟨g, hgg⟩ : ∃ g, g = (R k).gv := ⟨_, rfl⟩
  have G := Lib.hid hgg
  rw [← hgg] at hg
  clear hgg
  have rk := N1.out.s.rc k hk
  rw [upR_same] at rk
  have RK := Lib.hid rk
  clear rk
  have g4 : w4.cell? ⟨rb, k * 6 + 4, none⟩ = some (.int .u64 (g : Nat)) := by rw [G.out]; exact RK.out.g
  have fg := RK.out.fg
  have g5 := RK.out.p
  have fp := RK.out.fp
  have q1 := N1.out.rq.c1
  have hqr : ¬ q = rb := N1.out.nr
  have e1 : IntKind.u64.wrap ((g : Int) + 1) = (g : Int) + 1 := IntWalk.u64_in _ (by omega)
  go_upto_region 7 with (fail)
  clear g4 fg g5 fp q1
  have eg : ((g + 1 : Nat) : Int) = (g : Int) + 1 := by omega
  have wB := (RK.out.setG (g + 1)).setP r.pd
  have tB := ((Tch.refl rb (k * 6) 6 w4).set (k * 6 + 4) (by omega) (.int .u64 ((g + 1 : Nat) : Nat))).set (k * 6 + 5) (by omega) (.int .u64 (r.pd : Nat))
  dsimp only at wB
  rw [eg] at wB tB
  have K2 := Lib.hid (N1.out.slab (N1.out.s.turn hk tB wB) (Ch_two2 tB.ch))
  rw [upR_twice] at K2
  have C5 : Hid (Ch (Tri q b rb) w ((w4.setCell ⟨rb, k * 6 + 4, none⟩ (.int .u64 ((g : Int) + 1))).setCell ⟨rb, k * 6 + 5, none⟩ (.int .u64 (r.pd : Nat)))) := Lib.hid (C4.out.trans (Ch_tri (Ch_two2 tB.ch)))
  have b1 := tB.ch.keeps b0 hBr
  clear N1 C4 RK b0 wB tB
  generalize (w4.setCell ⟨rb, k * 6 + 4, none⟩ (.int .u64 ((g : Int) + 1))).setCell ⟨rb, k * 6 + 5, none⟩ (.int .u64 (r.pd : Nat)) = w5 at K2 C5 b1 ⊢
  have rk := K2.out.s.rc k hk
  rw [upR_same] at rk
  have g4 := rk.g
  dsimp only at g4
  have K3 := Lib.hid (K2.out.quiet ((Ch.refl Nil w5).drew))
  have C6 : Hid (Ch (Tri q b rb) w w5.drew) := Lib.hid C5.out.drew
  have q5 := K2.out.rq.c5
  rw [← HK.out] at q5
  have S0 : w5.drew.cell? ⟨B, 0, none⟩ = some (.pointer (some ⟨q, 0, none⟩)) ∧ w5.drew.cell? ⟨q, 5, none⟩ = some (.int .i64 (k : Nat)) ∧ w5.drew.cell? ⟨rb, k * 6 + 4, none⟩ = some (.int .u64 ((g + 1 : Nat) : Nat)) := ⟨b1, q5, g4⟩
  refine wp_region_held_drew (S := fun w' => w'.cell? ⟨B, 0, none⟩ = some (.pointer (some ⟨q, 0, none⟩)) ∧ w'.cell? ⟨q, 5, none⟩ = some (.int .i64 (k : Nat)) ∧ w'.cell? ⟨rb, k * 6 + 4, none⟩ = some (.int .u64 ((g + 1 : Nat) : Nat))) (by kernel_rfl) S0 (fun hHeld => ?_)
  clear K2 C5 b1 g4 q5 rk e1
  generalize w5.drew = X at K3 C6 S0 hHeld ⊢
  refine take_at (v := ?_) 0 (some 58) rfl (by kernel_rfl) (by kernel_rfl) (by kernel_rfl) (by kernel_rfl) (fun _ _ _ h => h) (Or.inl ⟨by rfl, ?_⟩) (by assumption) ?_
  rotate_left
  · intro w hSw; (try dsimp only at hSw); go_simp; try (with_reducible rfl)
  (try simp only [Act.put, List.setIfInBounds_toArray, List.set_cons_zero, List.set_cons_succ])
  refine take_at (v := ?_) 1 (some 59) rfl (by kernel_rfl) (by kernel_rfl) (by kernel_rfl) (by kernel_rfl) (fun _ _ _ h => h) (Or.inl ⟨by rfl, ?_⟩) (by assumption) ?_
  rotate_left
  · intro w hSw; (try dsimp only at hSw); go_simp; try (with_reducible rfl)
  (try simp only [Act.put, List.setIfInBounds_toArray, List.set_cons_zero, List.set_cons_succ])
  refine take_at (v := ?_) 2 (some 60) rfl (by kernel_rfl) (by kernel_rfl) (by kernel_rfl) (by kernel_rfl) (fun _ _ _ h => h) (Or.inl ⟨by rfl, ?_⟩) (by assumption) ?_
  rotate_left
  · intro w hSw; (try dsimp only at hSw); go_simp; try (with_reducible rfl)
  (try simp only [Act.put, List.setIfInBounds_toArray, List.set_cons_zero, List.set_cons_succ])
  refine take_at (v := ?_) 3 (some 61) rfl (by kernel_rfl) (by kernel_rfl) (by kernel_rfl) (by kernel_rfl) (fun _ _ _ h => h) (Or.inl ⟨by rfl, ?_⟩) (by assumption) ?_
  rotate_left
  · intro w hSw; (try dsimp only at hSw); go_simp; try (with_reducible rfl)
  (try simp only [Act.put, List.setIfInBounds_toArray, List.set_cons_zero, List.set_cons_succ])
  refine take_at (v := ?_) 4 (some 62) rfl (by kernel_rfl) (by kernel_rfl) (by kernel_rfl) (by kernel_rfl) (fun _ _ _ h => h) (Or.inl ⟨by rfl, ?_⟩) (by assumption) ?_
  rotate_left
  · intro w hSw; (try dsimp only at hSw); go_simp; try (with_reducible rfl)
  (try simp only [Act.put, List.setIfInBounds_toArray, List.set_cons_zero, List.set_cons_succ])
  refine take_at (v := ?_) 5 (some 63) rfl (by kernel_rfl) (by kernel_rfl) (by kernel_rfl) (by kernel_rfl) (fun _ _ _ h => h) (Or.inl ⟨by rfl, ?_⟩) (by assumption) ?_
  rotate_left
  · intro w hSw; (try dsimp only at hSw); go_simp; try (with_reducible rfl)
  (try simp only [Act.put, List.setIfInBounds_toArray, List.set_cons_zero, List.set_cons_succ])
  refine take_at (v := ?_) 6 (some 64) rfl (by kernel_rfl) (by kernel_rfl) (by kernel_rfl) (by kernel_rfl) (fun _ _ _ h => h) (Or.inl ⟨by rfl, ?_⟩) (by assumption) ?_
  rotate_left
  · intro w hSw; (try dsimp only at hSw); go_simp; try (with_reducible rfl)
  (try simp only [Act.put, List.setIfInBounds_toArray, List.set_cons_zero, List.set_cons_succ])
  refine take_at (v := ?_) 7 (some 65) rfl (by kernel_rfl) (by kernel_rfl) (by kernel_rfl) (by kernel_rfl) (fun _ _ _ h => h) (Or.inl ⟨by rfl, ?_⟩) (by assumption) ?_
  rotate_left
  · intro w hSw; (try dsimp only at hSw); go_simp; try (with_reducible rfl)
  (try simp only [Act.put, List.setIfInBounds_toArray, List.set_cons_zero, List.set_cons_succ])
  refine take_at (v := ?_) 8 (some 66) rfl (by kernel_rfl) (by kernel_rfl) (by kernel_rfl) (by kernel_rfl) (fun _ _ _ h => h) (Or.inl ⟨by rfl, ?_⟩) (by assumption) ?_
  rotate_left
  · intro w hSw; (try dsimp only at hSw); go_simp; try (with_reducible rfl)
  (try simp only [Act.put, List.setIfInBounds_toArray, List.set_cons_zero, List.set_cons_succ])
  refine wpAnyH_ready (rs := [9]) (by kernel_rfl) (by simp) ?_
  refine AllReadyH.cons rfl (fun K hK => ?_) AllReadyH.nil
  go_simp
  (try rw [← eg])
  refine (number_of k (g + 1) _ (by omega) (by omega)).mono ?_
  rintro e w6 ⟨rfl, rfl⟩
  refine hK.out _ _ S0 (fun hHeld => ?_)
  clear hK K
  (try simp only [Act.put, List.setIfInBounds_toArray, List.set_cons_zero, List.set_cons_succ])
  refine take_at (v := ?_) 10 (some 68) rfl (by kernel_rfl) (by kernel_rfl) (by kernel_rfl) (by kernel_rfl) (fun _ _ _ h => h) (Or.inl ⟨by rfl, ?_⟩) (by assumption) ?_
  rotate_left
  · intro w hSw; (try dsimp only at hSw); go_simp; try (with_reducible rfl)
  (try simp only [Act.put, List.setIfInBounds_toArray, List.set_cons_zero, List.set_cons_succ])
  refine take_at (v := ?_) 11 (some 69) rfl (by kernel_rfl) (by kernel_rfl) (by kernel_rfl) (by kernel_rfl) (fun _ _ _ h => h) (Or.inl ⟨by rfl, ?_⟩) (by assumption) ?_
  rotate_left
  · intro w hSw; (try dsimp only at hSw); go_simp; try (with_reducible rfl)
  (try simp only [Act.put, List.setIfInBounds_toArray, List.set_cons_zero, List.set_cons_succ])
  refine wpAnyH_ready (rs := [12]) (by kernel_rfl) (by simp) ?_
  refine AllReadyH.cons rfl (fun K hK => ?_) AllReadyH.nil
  have q6 := K3.out.rq.c6
  have f6 := K3.out.rq.f6
  obtain ⟨id, hid⟩ : ∃ id, (g + 1) * 64 + k = id := ⟨_, rfl⟩
  have ID := Lib.hid hid
  rw [hid]
  clear hid
  go_simp
  clear q6 f6
  have K4 := Lib.hid (K3.out.setQ 6 _ (K3.out.rq.set_id id))
  have C7 : Hid (Ch (Tri q b rb) w (X.setCell ⟨q, 6, none⟩ (.int .u64 (id : Nat)))) := Lib.hid (C6.out.trans (Ch_tri1 ((Ch.refl _ _).setB _ _)))
  have b2 := (cell_far (w := X) (i := 6) (j := 0) hqB (.int .u64 (id : Nat))).trans S0.1
  refine hK.out _ _ ⟨b2, by have := K4.out.rq.c5; rw [← HK.out] at this; exact this, (cell_far hqr _).trans S0.2.2⟩ (fun hHeld => ?_)
  clear hK K
  (try simp only [Act.put, List.setIfInBounds_toArray, List.set_cons_zero, List.set_cons_succ])
  refine wpAnyH_done (by kernel_rfl) ?_ _
  clear hHeld S0 K3 C6
  generalize X.setCell ⟨q, 6, none⟩ (.int .u64 (id : Nat)) = Y at K4 C7 b2 ⊢
  have q3 := K4.out.rq.c3
  have f3 := K4.out.rq.f3
  go_wp2
  go_end0
  rw [← G.out, ID.out]
  have F := K4.out.setQ 3 _ (K4.out.rq.set_ss 2)
  dsimp only at F
  rw [← HK.out] at F
  exact ⟨rfl, F, C7.out.trans (Ch_tri1 ((Ch.refl _ _).setB _ _))⟩
end Go.Proofs.YtnbdafmjcmmfpaaGreat
