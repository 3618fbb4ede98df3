/-
  Contracts of the document's Step (vergeref09): a look at a slot.
-/
import Derived.Test.YtjhmmfdmoalfmaaSlabRef3
import Derived.Test.YtjhmmfdmoalfmaaHeld
import Derived.Deep.QuietTactic
import Derived.BigQuiet
import Derived.Deep.Cut
import Derived.Deep.CutRange
import Derived.Deep.CutBlock
import Derived.RegionTactic
import Derived.BigRegion
namespace Go.Proofs.Ytjhmmfdmoalfmaa
open Go.RowKit Verge
attribute [local go_sem] Oper.semAt_some
set_option linter.unusedVariables false
set_option linter.unusedSimpArgs false
set_option maxRecDepth 100000 in
set_option maxHeartbeats 0 in
theorem refStep_busy {vb lb n cnt np : Nat} {R : Nat → Rec} {Q : Nat → Rq} {ar : Option Addr} {cr : Nat} {k : Nat} {w : World} (h : RfS w vb lb n cnt R np Q ar cr) (hk : k < np) (hat : atN (Q k) = 2) (hnp : np ≤ 1000) (h0 : (Q k).ss = 0) (hs : (Q k).slot < n) (hw : (R (Q k).slot).wd < 18446744073709551616) (hx : ¬ (nxW (R (Q k).slot).wd 1 ((Q k).pd != 0)).2 = 0) :
    Calls Try.prog 13 #[.pointer (some ⟨vb, 0, none⟩), .int .i64 k] w fun e w' => e = .returned (.int .i64 0) ∧ RfS w' vb lb n cnt R np (upQ Q k { (Q k) with slot := ((Q k).slot + 1) % n }) ar cr ∧ Ch (VS vb lb ar) w w' := by
  have n0 := h.n0
  have n1 := h.n1
  obtain ⟨ga, hga, -⟩ := h.q.form (by omega)
  subst hga
  have lc := h.q.len_cap
  obtain ⟨q0, q1, q2, q3, q4⟩ := rq_cells h.q hk
  have hr0 := h.r
  rw [hat] at q0
  replace q0 : w.cell? ⟨ga, k * 5, none⟩ = some (.int .i64 2) := q0
  obtain ⟨se, hse⟩ : ∃ se, se = (Q k).seen := ⟨_, rfl⟩
  obtain ⟨sl, hsl⟩ : ∃ sl, sl = (Q k).slot := ⟨_, rfl⟩
  obtain ⟨idn, hidn⟩ : ∃ idn, idn = (Q k).id := ⟨_, rfl⟩
  obtain ⟨pd, hpd⟩ : ∃ pd, pd = (Q k).pd := ⟨_, rfl⟩
  rw [← hse] at q1
  rw [← hsl] at q2
  rw [← hidn] at q3
  rw [← hpd] at q4
  have SE := Lib.hid hse
  have SL := Lib.hid hsl
  have ID := Lib.hid hidn
  have PD := Lib.hid hpd
  have AT2 : Hid ((Q k).st = 2) := Lib.hid (by have a1 := hat; unfold atN at a1; rw [if_neg (by omega), if_neg (by omega)] at a1; exact a1)
  have H0 := Lib.hid h0
  obtain ⟨v, hv⟩ : ∃ v, v = (R (Q k).slot).wd := ⟨_, rfl⟩
  obtain ⟨per, hper⟩ : ∃ per, per = ((Q k).pd != 0) := ⟨_, rfl⟩
  rw [← hv, ← hper] at hx
  rw [← hsl] at hs hv hw
  rw [← hv] at hw
  rw [← hpd] at hper
  obtain ⟨x, hxx⟩ : ∃ x, nxW v 1 per = x := ⟨_, rfl⟩
  rw [hxx] at hx
  have V := Lib.hid hv
  have XX := Lib.hid hxx
  have HX := Lib.hid hx
  have PER := Lib.hid hper
  have HW := Lib.hid hw
  have e1 : Hid (decide (0 < pd) = per) := Lib.hid (by rw [hper, Bool.eq_iff_iff, decide_eq_true_iff, bne_iff_ne]; omega)
  have e1z : Hid (decide ((0 : Int) < (pd : Int)) = per) := Lib.hid (by rw [hper, Bool.eq_iff_iff, decide_eq_true_iff, bne_iff_ne]; omega)
  have hsz : (sl : Int) < (n : Int) := by omega
  have hsz0 : (0 : Int) ≤ (sl : Int) := by omega
  have e00 : ((sl : Int)).toNat = sl := by omega
  clear h0 hv hper hxx hx hw
  have hkz : (k : Int) < (np : Int) := by omega
  have hkz0 : (0 : Int) ≤ (k : Int) := by omega
  have e0 : ((k : Int)).toNat = k := by omega
  have cA : Ch Nil w (w.alloc (.cells #[.int .i64 2, .int .i64 (se : Nat), .int .i64 (sl : Nat), .int .u64 (idn : Nat), .int .u64 (pd : Nat)] 41)) := (Ch.refl _ _).alloc _
  have RW := Lib.hid (h.quiet cA)
  have BX : Hid (IsB (w.alloc (.cells #[.int .i64 2, .int .i64 (se : Nat), .int .i64 (sl : Nat), .int .u64 (idn : Nat), .int .u64 (pd : Nat)] 41)) w.heap.size 2 se sl idn pd) := Lib.hid (isB_new w 2 se sl idn pd _)
  have CW : Hid (Ch (VS vb lb (some ⟨ga, 0, none⟩)) w (w.alloc (.cells #[.int .i64 2, .int .i64 (se : Nat), .int .i64 (sl : Nat), .int .u64 (idn : Nat), .int .u64 (pd : Nat)] 41))) := Lib.hid (Ch_any cA)
  have BV : Hid (¬ VS vb lb (some ⟨ga, 0, none⟩) w.heap.size) := Lib.hid (fun e => by have := h.lt e; omega)
  have hll := h.l
  clear h cA hse hsl hidn hpd
  go_enter Try.func13, Try.ntmps13
  go_upto_region 2 with (fail)
  clear q0 q1 q2 q3 q4 hr0 hll
  generalize w.alloc (.cells #[.int .i64 2, .int .i64 (se : Nat), .int .i64 (sl : Nat), .int .u64 (idn : Nat), .int .u64 (pd : Nat)] 41) = wa at RW BX CW ⊢
  have BLT : Hid (w.heap.size ≤ w.heap.size) := Lib.hid (Nat.le_refl _)
  obtain ⟨B, hB⟩ : ∃ B, B = w.heap.size := ⟨_, rfl⟩
  rw [← hB] at BX BV ⊢
  replace BLT : Hid (w.heap.size ≤ B) := Lib.hid (by omega)
  clear hB
  have VB : Hid (¬ B = vb) := Lib.hid (fun e => BV.out (.inl e))
  have LB : Hid (¬ B = lb) := Lib.hid (fun e => BV.out (.inr (.inl e)))
  have GB : Hid (¬ ga = B) := Lib.hid (fun e => BV.out (.inr (.inr (by rw [← e]; rfl))))
  have b0 : wa.cell? ⟨B, 0, none⟩ = some (.int .i64 2) := BX.out.a
  go_upto_region 14 with (fail)
  replace RW := Lib.hid (RW.out.quiet ((Ch.refl Nil wa).drew))
  replace BX := Lib.hid (BX.out.kept ((Ch.refl Nil wa).drew) (fun e => e))
  replace CW : Hid (Ch (VS vb lb (some ⟨ga, 0, none⟩)) w wa.drew) := Lib.hid CW.out.drew
  refine wp_region_held_drew (S := fun w' => w'.cell? ⟨vb, 0, none⟩ = some (.slice (some ⟨lb, 0, none⟩) n n) ∧ w'.cell? ⟨B, 2, none⟩ = some (.int .i64 (sl : Nat)) ∧ w'.cell? ⟨lb, sl * 3, none⟩ = some (.int .u64 (v : Nat)) ∧ w'.cell? ⟨B, 4, none⟩ = some (.int .u64 (pd : Nat))) (by kernel_rfl) ⟨RW.out.l, BX.out.sl, by have hh := (RW.out.rc sl hs).v; rw [← V.out] at hh; exact hh, BX.out.pd⟩ (fun hHeld => ?_)
  generalize wa.drew = X at RW BX CW hHeld ⊢
  clear b0
  refine take_at (v := ?_) 0 (some 57) rfl (by kernel_rfl) (by kernel_rfl) (by kernel_rfl) (by kernel_rfl) (fun _ _ _ h => h) (Or.inl ⟨by rfl, ?_⟩) (by assumption) ?_
  rotate_left
  · intro w hSw; (try dsimp only at hSw); go_simp; try (with_reducible rfl)
  (try simp only [Act.put, List.setIfInBounds_toArray, List.set_cons_zero, List.set_cons_succ])
  refine take_at (v := ?_) 1 (some 58) rfl (by kernel_rfl) (by kernel_rfl) (by kernel_rfl) (by kernel_rfl) (fun _ _ _ h => h) (Or.inl ⟨by rfl, ?_⟩) (by assumption) ?_
  rotate_left
  · intro w hSw; (try dsimp only at hSw); go_simp; try (with_reducible rfl)
  (try simp only [Act.put, List.setIfInBounds_toArray, List.set_cons_zero, List.set_cons_succ])
  refine take_at (v := ?_) 2 (some 59) rfl (by kernel_rfl) (by kernel_rfl) (by kernel_rfl) (by kernel_rfl) (fun _ _ _ h => h) (Or.inl ⟨by rfl, ?_⟩) (by assumption) ?_
  rotate_left
  · intro w hSw; (try dsimp only at hSw); go_simp; try (with_reducible rfl)
  (try simp only [Act.put, List.setIfInBounds_toArray, List.set_cons_zero, List.set_cons_succ])
  refine take_at (v := ?_) 3 (some 60) rfl (by kernel_rfl) (by kernel_rfl) (by kernel_rfl) (by kernel_rfl) (fun _ _ _ h => h) (Or.inl ⟨by rfl, ?_⟩) (by assumption) ?_
  rotate_left
  · intro w hSw; (try dsimp only at hSw); go_simp; try (with_reducible rfl)
  (try simp only [Act.put, List.setIfInBounds_toArray, List.set_cons_zero, List.set_cons_succ])
  refine take_at (v := ?_) 4 (some 61) rfl (by kernel_rfl) (by kernel_rfl) (by kernel_rfl) (by kernel_rfl) (fun _ _ _ h => h) (Or.inl ⟨by rfl, ?_⟩) (by assumption) ?_
  rotate_left
  · intro w hSw; (try dsimp only at hSw); go_simp; try (with_reducible rfl)
  (try simp only [Act.put, List.setIfInBounds_toArray, List.set_cons_zero, List.set_cons_succ])
  refine take_at (v := ?_) 5 (some 62) rfl (by kernel_rfl) (by kernel_rfl) (by kernel_rfl) (by kernel_rfl) (fun _ _ _ h => h) (Or.inl ⟨by rfl, ?_⟩) (by assumption) ?_
  rotate_left
  · intro w hSw; (try dsimp only at hSw); go_simp; try (with_reducible rfl)
  (try simp only [Act.put, List.setIfInBounds_toArray, List.set_cons_zero, List.set_cons_succ])
  refine take_at (v := ?_) 6 (some 63) rfl (by kernel_rfl) (by kernel_rfl) (by kernel_rfl) (by kernel_rfl) (fun _ _ _ h => h) (Or.inl ⟨by rfl, ?_⟩) (by assumption) ?_
  rotate_left
  · intro w hSw; (try dsimp only at hSw); go_simp; try (with_reducible rfl)
  (try simp only [Act.put, List.setIfInBounds_toArray, List.set_cons_zero, List.set_cons_succ])
  refine take_at (v := ?_) 7 (some 64) rfl (by kernel_rfl) (by kernel_rfl) (by kernel_rfl) (by kernel_rfl) (fun _ _ _ h => h) (Or.inl ⟨by rfl, ?_⟩) (by assumption) ?_
  rotate_left
  · intro w hSw; (try dsimp only at hSw); go_simp; try (with_reducible rfl)
  (try simp only [Act.put, List.setIfInBounds_toArray, List.set_cons_zero, List.set_cons_succ])
  refine take_at (v := ?_) 8 (some 65) rfl (by kernel_rfl) (by kernel_rfl) (by kernel_rfl) (by kernel_rfl) (fun _ _ _ h => h) (Or.inl ⟨by rfl, ?_⟩) (by assumption) ?_
  rotate_left
  · intro w hSw; (try dsimp only at hSw); go_simp; try (with_reducible rfl)
  (try simp only [Act.put, List.setIfInBounds_toArray, List.set_cons_zero, List.set_cons_succ])
  refine take_at (v := ?_) 9 (some 66) rfl (by kernel_rfl) (by kernel_rfl) (by kernel_rfl) (by kernel_rfl) (fun _ _ _ h => h) (Or.inl ⟨by rfl, ?_⟩) (by assumption) ?_
  rotate_left
  · intro w hSw; (try dsimp only at hSw); go_simp; try (with_reducible rfl)
  (try simp only [Act.put, List.setIfInBounds_toArray, List.set_cons_zero, List.set_cons_succ])
  refine take_at (v := ?_) 10 (some 67) rfl (by kernel_rfl) (by kernel_rfl) (by kernel_rfl) (by kernel_rfl) (fun _ _ _ h => h) (Or.inl ⟨by rfl, ?_⟩) (by assumption) ?_
  rotate_left
  · intro w hSw; (try dsimp only at hSw); go_simp; try (with_reducible rfl)
  (try simp only [Act.put, List.setIfInBounds_toArray, List.set_cons_zero, List.set_cons_succ])
  refine take_at (v := ?_) 11 (some 68) rfl (by kernel_rfl) (by kernel_rfl) (by kernel_rfl) (by kernel_rfl) (fun _ _ _ h => h) (Or.inl ⟨by rfl, ?_⟩) (by assumption) ?_
  rotate_left
  · intro w hSw; (try dsimp only at hSw); go_simp; try (with_reducible rfl)
  (try simp only [Act.put, List.setIfInBounds_toArray, List.set_cons_zero, List.set_cons_succ])
  refine wpAnyH_ready (rs := [12]) (by kernel_rfl) (by simp) ?_
  refine AllReadyH.cons rfl (fun K hK => ?_) AllReadyH.nil
  go_simp
  (try rw [e1.out])
  (try rw [e1z.out])
  have nx := refNext_any v 1 per HW.out X
  rw [show nxZ v 1 per = nxW v 1 per from rfl, XX.out] at nx
  refine nx.mono ?_
  clear nx
  rintro e w1 ⟨rfl, bl1⟩
  have cq : Ch Nil X w1 := Ch.of_below bl1
  replace RW := Lib.hid (RW.out.quiet cq)
  replace BX := Lib.hid (BX.out.kept cq (fun e => e))
  replace CW : Hid (Ch (VS vb lb (some ⟨ga, 0, none⟩)) w w1) := Lib.hid (CW.out.then cq (fun _ _ e => e.elim))
  clear bl1 cq
  refine hK.out _ _ ⟨RW.out.l, BX.out.sl, by have hh := (RW.out.rc sl hs).v; rw [← V.out] at hh; exact hh, BX.out.pd⟩ (fun hHeld => ?_)
  clear hK K
  (try simp only [Act.put, List.setIfInBounds_toArray, List.set_cons_zero, List.set_cons_succ])
  refine take_at (v := ?_) 13 (some 56) rfl (by kernel_rfl) (by kernel_rfl) (by kernel_rfl) (by kernel_rfl) (fun _ _ _ h => h) (Or.inl ⟨by rfl, ?_⟩) (by assumption) ?_
  rotate_left
  · intro w hSw; (try dsimp only at hSw); go_simp; try (with_reducible rfl)
  (try simp only [Act.put, List.setIfInBounds_toArray, List.set_cons_zero, List.set_cons_succ])
  refine take_at (v := ?_) 14 (some 70) rfl (by kernel_rfl) (by kernel_rfl) (by kernel_rfl) (by kernel_rfl) (fun _ _ _ h => h) (Or.inl ⟨by rfl, ?_⟩) (by assumption) ?_
  rotate_left
  · intro w hSw; (try dsimp only at hSw); go_simp; try (with_reducible rfl)
  (try simp only [Act.put, List.setIfInBounds_toArray, List.set_cons_zero, List.set_cons_succ])
  refine take_at (v := ?_) 15 (some 71) rfl (by kernel_rfl) (by kernel_rfl) (by kernel_rfl) (by kernel_rfl) (fun _ _ _ h => h) (Or.inl ⟨by rfl, ?_⟩) (by assumption) ?_
  rotate_left
  · intro w hSw; (try dsimp only at hSw); go_simp; try (with_reducible rfl)
  (try simp only [Act.put, List.setIfInBounds_toArray, List.set_cons_zero, List.set_cons_succ])
  refine take_at (v := ?_) 16 (some 6) rfl (by kernel_rfl) (by kernel_rfl) (by kernel_rfl) (by kernel_rfl) (fun _ _ _ h => h) (Or.inl ⟨by rfl, ?_⟩) (by assumption) ?_
  rotate_left
  · intro w hSw; (try dsimp only at hSw); go_simp; try (with_reducible rfl)
  (try simp only [Act.put, List.setIfInBounds_toArray, List.set_cons_zero, List.set_cons_succ])
  refine take_at (v := ?_) 17 (some 7) rfl (by kernel_rfl) (by kernel_rfl) (by kernel_rfl) (by kernel_rfl) (fun _ _ _ h => h) (Or.inl ⟨by rfl, ?_⟩) (by assumption) ?_
  rotate_left
  · intro w hSw; (try dsimp only at hSw); go_simp; try (with_reducible rfl)
  (try simp only [Act.put, List.setIfInBounds_toArray, List.set_cons_zero, List.set_cons_succ])
  refine wpAnyH_done (by kernel_rfl) ?_ _
  clear hHeld
  have z1 : ((x.2 : Nat) : Int) ≠ 0 := by have := HX.out; omega
  obtain ⟨y, hy⟩ : ∃ y, y = x.2 := ⟨_, rfl⟩
  have y1 : ((y : Int) == 0) = false := by rw [beq_eq_false_iff_ne]; have := HX.out; omega
  rw [← hy]
  clear hy z1
  go_upto_region 21 with (fail)
  replace RW := Lib.hid (RW.out.quiet ((Ch.refl Nil w1).drew))
  replace BX := Lib.hid (BX.out.kept ((Ch.refl Nil w1).drew) (fun e => e))
  replace CW : Hid (Ch (VS vb lb (some ⟨ga, 0, none⟩)) w w1.drew) := Lib.hid CW.out.drew
  refine wp_region_held_drew (S := fun w' => w'.cell? ⟨vb, 0, none⟩ = some (.slice (some ⟨lb, 0, none⟩) n n)) (by kernel_rfl) RW.out.l (fun hHeld => ?_)
  generalize w1.drew = X2 at RW BX CW hHeld ⊢
  refine take_at (v := ?_) 0 (some 121) rfl (by kernel_rfl) (by kernel_rfl) (by kernel_rfl) (by kernel_rfl) (fun _ _ _ h => h) (Or.inl ⟨by rfl, ?_⟩) (by assumption) ?_
  rotate_left
  · intro w hSw; (try dsimp only at hSw); go_simp; try (with_reducible rfl)
  (try simp only [Act.put, List.setIfInBounds_toArray, List.set_cons_zero, List.set_cons_succ])
  refine take_at (v := ?_) 3 (some 124) rfl (by kernel_rfl) (by kernel_rfl) (by kernel_rfl) (by kernel_rfl) (fun _ _ _ h => h) (Or.inl ⟨by rfl, ?_⟩) (by assumption) ?_
  rotate_left
  · intro w hSw; (try dsimp only at hSw); go_simp; try (with_reducible rfl)
  (try simp only [Act.put, List.setIfInBounds_toArray, List.set_cons_zero, List.set_cons_succ])
  refine take_at (v := ?_) 4 (some 125) rfl (by kernel_rfl) (by kernel_rfl) (by kernel_rfl) (by kernel_rfl) (fun _ _ _ h => h) (Or.inl ⟨by rfl, ?_⟩) (by assumption) ?_
  rotate_left
  · intro w hSw; (try dsimp only at hSw); go_simp; try (with_reducible rfl)
  (try simp only [Act.put, List.setIfInBounds_toArray, List.set_cons_zero, List.set_cons_succ])
  refine take_at (v := ?_) 5 (some 126) rfl (by kernel_rfl) (by kernel_rfl) (by kernel_rfl) (by kernel_rfl) (fun _ _ _ h => h) (Or.inl ⟨by rfl, ?_⟩) (by assumption) ?_
  rotate_left
  · intro w hSw; (try dsimp only at hSw); go_simp; try (with_reducible rfl)
  (try simp only [Act.put, List.setIfInBounds_toArray, List.set_cons_zero, List.set_cons_succ])
  refine take_at (v := ?_) 6 (some 127) rfl (by kernel_rfl) (by kernel_rfl) (by kernel_rfl) (by kernel_rfl) (fun _ _ _ h => h) (Or.inl ⟨by rfl, ?_⟩) (by assumption) ?_
  rotate_left
  · intro w hSw; (try dsimp only at hSw); go_simp; try (with_reducible rfl)
  (try simp only [Act.put, List.setIfInBounds_toArray, List.set_cons_zero, List.set_cons_succ])
  refine take_at (v := ?_) 7 (some 128) rfl (by kernel_rfl) (by kernel_rfl) (by kernel_rfl) (by kernel_rfl) (fun _ _ _ h => h) (Or.inl ⟨by rfl, ?_⟩) (by assumption) ?_
  rotate_left
  · intro w hSw; (try dsimp only at hSw); go_simp; try (with_reducible rfl)
  (try simp only [Act.put, List.setIfInBounds_toArray, List.set_cons_zero, List.set_cons_succ])
  have b2 := BX.out.sl
  have n00 : ¬ n = 0 := by omega
  obtain ⟨m, hm⟩ : ∃ m, (sl + 1) % n = m := ⟨_, rfl⟩
  have HM := Lib.hid hm
  have e3 : ((sl : Int) + 1).tmod (n : Int) = (m : Int) := by rw [← hm, Int.ofNat_tmod]; rfl
  have E3 := Lib.hid e3
  have e2 : IntKind.i64.wrap ((sl : Int) + 1) = (sl : Int) + 1 := IntWalk.i64_in _ (by omega)
  clear hm e3
  refine wpAnyH_ready (rs := [1]) (by kernel_rfl) (by simp) ?_
  refine AllReadyH.cons rfl (fun K hK => ?_) AllReadyH.nil
  go_simp
  refine hK.out _ _ RW.out.l (fun hHeld => ?_)
  clear hK K
  (try simp only [Act.put, List.setIfInBounds_toArray, List.set_cons_zero, List.set_cons_succ])
  refine take_at (v := ?_) 2 (some 123) rfl (by kernel_rfl) (by kernel_rfl) (by kernel_rfl) (by kernel_rfl) (fun _ _ _ h => h) (Or.inl ⟨by rfl, ?_⟩) (by assumption) ?_
  rotate_left
  · intro w hSw; (try dsimp only at hSw); go_simp; try (with_reducible rfl)
  (try simp only [Act.put, List.setIfInBounds_toArray, List.set_cons_zero, List.set_cons_succ])
  refine take_at (v := ?_) 8 (some 129) rfl (by kernel_rfl) (by kernel_rfl) (by kernel_rfl) (by kernel_rfl) (fun _ _ _ h => h) (Or.inl ⟨by rfl, ?_⟩) (by assumption) ?_
  rotate_left
  · intro w hSw; (try dsimp only at hSw); go_simp; try (with_reducible rfl)
  (try simp only [Act.put, List.setIfInBounds_toArray, List.set_cons_zero, List.set_cons_succ])
  refine take_at (v := ?_) 9 (some 130) rfl (by kernel_rfl) (by kernel_rfl) (by kernel_rfl) (by kernel_rfl) (fun _ _ _ h => h) (Or.inl ⟨by rfl, ?_⟩) (by assumption) ?_
  rotate_left
  · intro w hSw; (try dsimp only at hSw); go_simp; try (with_reducible rfl)
  (try simp only [Act.put, List.setIfInBounds_toArray, List.set_cons_zero, List.set_cons_succ])
  have f2 := BX.out.fsl
  refine wpAnyH_ready (rs := [10]) (by kernel_rfl) (by simp) ?_
  refine AllReadyH.cons rfl (fun K hK => ?_) AllReadyH.nil
  go_simp
  rw [E3.out]
  have bx1 := BX.out.setSl m
  have cs : Ch (One B) X2 (X2.setCell ⟨B, 2, none⟩ (.int .i64 (m : Nat))) := (Ch.refl _ _).setB _ _
  replace RW := Lib.hid (RW.out.kept cs (fun k hk e => BV.out (by rw [← e]; exact hk)))
  replace CW : Hid (Ch (VS vb lb (some ⟨ga, 0, none⟩)) w (X2.setCell ⟨B, 2, none⟩ (.int .i64 (m : Nat)))) := Lib.hid (CW.out.then cs (fun i hi e => by have := BLT.out; change i = _ at e; omega))
  replace BX : Hid (IsB (X2.setCell ⟨B, 2, none⟩ (.int .i64 (m : Nat))) B 2 se m idn pd) := Lib.hid bx1
  clear bx1 cs
  refine hK.out _ _ RW.out.l (fun hHeld => ?_)
  clear hK K
  (try simp only [Act.put, List.setIfInBounds_toArray, List.set_cons_zero, List.set_cons_succ])
  refine wpAnyH_done (by kernel_rfl) ?_ _
  clear hHeld
  clear b2 f2 e2
  generalize X2.setCell ⟨B, 2, none⟩ (.int .i64 (m : Nat)) = wd at RW BX CW ⊢
  go_upto_region 22 with (fail)
  replace RW := Lib.hid (RW.out.quiet ((Ch.refl Nil wd).drew))
  replace BX := Lib.hid (BX.out.kept ((Ch.refl Nil wd).drew) (fun e => e))
  replace CW : Hid (Ch (VS vb lb (some ⟨ga, 0, none⟩)) w wd.drew) := Lib.hid CW.out.drew
  refine wp_region_held_drew (S := fun w' => w'.cell? ⟨vb, 2, none⟩ = some (.slice (some ⟨ga, 0, none⟩) np cr) ∧ w'.cell? ⟨B, 0, none⟩ = some (.int .i64 2) ∧ w'.cell? ⟨B, 1, none⟩ = some (.int .i64 (se : Nat)) ∧ w'.cell? ⟨B, 2, none⟩ = some (.int .i64 (m : Nat)) ∧ w'.cell? ⟨B, 3, none⟩ = some (.int .u64 (idn : Nat)) ∧ w'.cell? ⟨B, 4, none⟩ = some (.int .u64 (pd : Nat))) (by kernel_rfl) ⟨RW.out.r, BX.out.a, BX.out.se, BX.out.sl, BX.out.id, BX.out.pd⟩ (fun hHeld => ?_)
  generalize wd.drew = X at RW BX CW hHeld ⊢
  refine take_at (v := ?_) 0 (some 131) rfl (by kernel_rfl) (by kernel_rfl) (by kernel_rfl) (by kernel_rfl) (fun _ _ _ h => h) (Or.inl ⟨by rfl, ?_⟩) (by assumption) ?_
  rotate_left
  · intro w hSw; (try dsimp only at hSw); go_simp; try (with_reducible rfl)
  (try simp only [Act.put, List.setIfInBounds_toArray, List.set_cons_zero, List.set_cons_succ])
  refine take_at (v := ?_) 1 (some 132) rfl (by kernel_rfl) (by kernel_rfl) (by kernel_rfl) (by kernel_rfl) (fun _ _ _ h => h) (Or.inl ⟨by rfl, ?_⟩) (by assumption) ?_
  rotate_left
  · intro w hSw; (try dsimp only at hSw); go_simp; try (with_reducible rfl)
  (try simp only [Act.put, List.setIfInBounds_toArray, List.set_cons_zero, List.set_cons_succ])
  refine take_at (v := ?_) 2 (some 133) rfl (by kernel_rfl) (by kernel_rfl) (by kernel_rfl) (by kernel_rfl) (fun _ _ _ h => h) (Or.inl ⟨by rfl, ?_⟩) (by assumption) ?_
  rotate_left
  · intro w hSw; (try dsimp only at hSw); go_simp; try (with_reducible rfl)
  (try simp only [Act.put, List.setIfInBounds_toArray, List.set_cons_zero, List.set_cons_succ])
  refine take_at (v := ?_) 3 (some 134) rfl (by kernel_rfl) (by kernel_rfl) (by kernel_rfl) (by kernel_rfl) (fun _ _ _ h => h) (Or.inl ⟨by rfl, ?_⟩) (by assumption) ?_
  rotate_left
  · intro w hSw; (try dsimp only at hSw); go_simp; try (with_reducible rfl)
  (try simp only [Act.put, List.setIfInBounds_toArray, List.set_cons_zero, List.set_cons_succ])
  refine take_at (v := ?_) 4 (some 135) rfl (by kernel_rfl) (by kernel_rfl) (by kernel_rfl) (by kernel_rfl) (fun _ _ _ h => h) (Or.inl ⟨by rfl, ?_⟩) (by assumption) ?_
  rotate_left
  · intro w hSw; (try dsimp only at hSw); go_simp; try (with_reducible rfl)
  (try simp only [Act.put, List.setIfInBounds_toArray, List.set_cons_zero, List.set_cons_succ])
  refine take_at (v := ?_) 5 (some 136) rfl (by kernel_rfl) (by kernel_rfl) (by kernel_rfl) (by kernel_rfl) (fun _ _ _ h => h) (Or.inl ⟨by rfl, ?_⟩) (by assumption) ?_
  rotate_left
  · intro w hSw; (try dsimp only at hSw); go_simp; try (with_reducible rfl)
  (try simp only [Act.put, List.setIfInBounds_toArray, List.set_cons_zero, List.set_cons_succ])
  refine take_at (v := ?_) 6 (some 137) rfl (by kernel_rfl) (by kernel_rfl) (by kernel_rfl) (by kernel_rfl) (fun _ _ _ h => h) (Or.inl ⟨by rfl, ?_⟩) (by assumption) ?_
  rotate_left
  · intro w hSw; (try dsimp only at hSw); go_simp; try (with_reducible rfl)
  (try simp only [Act.put, List.setIfInBounds_toArray, List.set_cons_zero, List.set_cons_succ])
  obtain ⟨q0, q1, q2, q3, q4⟩ := rq_cells RW.out.q hk
  have z0 := RW.out.q.frozen (k * 5)
  have z1 := RW.out.q.frozen (k * 5 + 1)
  have z2 := RW.out.q.frozen (k * 5 + 2)
  have z3 := RW.out.q.frozen (k * 5 + 3)
  have z4 := RW.out.q.frozen (k * 5 + 4)
  refine wpAnyH_ready (rs := [7]) (by kernel_rfl) (by simp) ?_
  refine AllReadyH.cons rfl (fun K hK => ?_) AllReadyH.nil
  go_simp
  have cS : Ch (OwnS (some ⟨ga, 0, none⟩)) X (((((X.setCell ⟨ga, k * 5, none⟩ (.int .i64 2)).setCell ⟨ga, k * 5 + 1, none⟩ (.int .i64 (se : Nat))).setCell ⟨ga, k * 5 + 2, none⟩ (.int .i64 (m : Nat))).setCell ⟨ga, k * 5 + 3, none⟩ (.int .u64 (idn : Nat))).setCell ⟨ga, k * 5 + 4, none⟩ (.int .u64 (pd : Nat))) :=
    ((((((Ch.refl (OwnS (some ⟨ga, 0, none⟩)) X).set (p := ⟨ga, k * 5, none⟩) (fun _ => rfl) _).set (p := ⟨ga, k * 5 + 1, none⟩) (fun _ => rfl) _).set (p := ⟨ga, k * 5 + 2, none⟩) (fun _ => rfl) _).set (p := ⟨ga, k * 5 + 3, none⟩) (fun _ => rfl) _).set (p := ⟨ga, k * 5 + 4, none⟩) (fun _ => rfl) _)
  have ate : atN { (Q k) with slot := ((Q k).slot + 1) % n } = 2 := by unfold atN; rw [if_neg (by show ¬ (Q k).ss = 1; have := H0.out; omega), if_neg (by show ¬ (Q k).ss = 2; have := H0.out; omega)]; exact AT2.out
  have rowS : Row (((((X.setCell ⟨ga, k * 5, none⟩ (.int .i64 2)).setCell ⟨ga, k * 5 + 1, none⟩ (.int .i64 (se : Nat))).setCell ⟨ga, k * 5 + 2, none⟩ (.int .i64 (m : Nat))).setCell ⟨ga, k * 5 + 3, none⟩ (.int .u64 (idn : Nat))).setCell ⟨ga, k * 5 + 4, none⟩ (.int .u64 (pd : Nat))) 41 5 (some ⟨ga, 0, none⟩) np cr (rqV (upQ Q k { (Q k) with slot := ((Q k).slot + 1) % n })) := by
    have tt := rq_store RW.out.q hk { (Q k) with slot := ((Q k).slot + 1) % n }
    rw [ate] at tt
    rw [SE.out, ← HM.out, SL.out, ID.out, PD.out]
    exact tt
  replace RW := Lib.hid (RW.out.reqs (Q' := upQ Q k { (Q k) with slot := ((Q k).slot + 1) % n }) cS rowS)
  replace BX := Lib.hid (BX.out.kept cS (fun e => GB.out (by simpa [OwnS] using e)))
  replace CW := Lib.hid (CW.out.trans (cS.mono fun _ _ e => .inr (.inr e)))
  refine hK.out _ _ ⟨RW.out.r, BX.out.a, BX.out.se, BX.out.sl, BX.out.id, BX.out.pd⟩ (fun hHeld => ?_)
  clear hK K cS rowS q0 q1 q2 q3 q4 z0 z1 z2 z3 z4
  (try simp only [Act.put, List.setIfInBounds_toArray, List.set_cons_zero, List.set_cons_succ])
  refine wpAnyH_done (by kernel_rfl) ?_ _
  clear hHeld
  generalize ((((X.setCell ⟨ga, k * 5, none⟩ (.int .i64 2)).setCell ⟨ga, k * 5 + 1, none⟩ (.int .i64 (se : Nat))).setCell ⟨ga, k * 5 + 2, none⟩ (.int .i64 (m : Nat))).setCell ⟨ga, k * 5 + 3, none⟩ (.int .u64 (idn : Nat))).setCell ⟨ga, k * 5 + 4, none⟩ (.int .u64 (pd : Nat)) = Y at RW BX CW ⊢
  have b0 : Y.cell? ⟨B, 0, none⟩ = some (.int .i64 2) := BX.out.a
  go_wp2
  go_ret
  exact ⟨rfl, RW.out, CW.out⟩
set_option maxRecDepth 100000 in
set_option maxHeartbeats 0 in
theorem refStep_hold {vb lb n cnt np : Nat} {R : Nat → Rec} {Q : Nat → Rq} {ar : Option Addr} {cr : Nat} {k : Nat} {w : World} (h : RfS w vb lb n cnt R np Q ar cr) (hk : k < np) (hat : atN (Q k) = 2) (hnp : np ≤ 1000) (h0 : (Q k).ss = 0) (hs : (Q k).slot < n) (hw : (R (Q k).slot).wd < 18446744073709551616) (hx : (nxW (R (Q k).slot).wd 1 ((Q k).pd != 0)).2 = 0) (hgv : (R (Q k).slot).gv ≤ 900000) :
    Calls Try.prog 13 #[.pointer (some ⟨vb, 0, none⟩), .int .i64 k] w fun e w' => e = .returned (.int .i64 2) ∧ RfS w' vb lb n cnt (upR R (Q k).slot ⟨(nxW (R (Q k).slot).wd 1 ((Q k).pd != 0)).1, (R (Q k).slot).gv + 1, (Q k).pd⟩) np (upQ Q k { (Q k) with id := ((R (Q k).slot).gv + 1) * 64 + (Q k).slot, ss := 2 }) ar cr ∧ Ch (VS vb lb ar) w w' := by
  have n0 := h.n0
  have n1 := h.n1
  obtain ⟨ga, hga, -⟩ := h.q.form (by omega)
  subst hga
  have lc := h.q.len_cap
  obtain ⟨q0, q1, q2, q3, q4⟩ := rq_cells h.q hk
  have hr0 := h.r
  rw [hat] at q0
  replace q0 : w.cell? ⟨ga, k * 5, none⟩ = some (.int .i64 2) := q0
  obtain ⟨se, hse⟩ : ∃ se, se = (Q k).seen := ⟨_, rfl⟩
  obtain ⟨sl, hsl⟩ : ∃ sl, sl = (Q k).slot := ⟨_, rfl⟩
  obtain ⟨idn, hidn⟩ : ∃ idn, idn = (Q k).id := ⟨_, rfl⟩
  obtain ⟨pd, hpd⟩ : ∃ pd, pd = (Q k).pd := ⟨_, rfl⟩
  rw [← hse] at q1
  rw [← hsl] at q2
  rw [← hidn] at q3
  rw [← hpd] at q4
  have SE := Lib.hid hse
  have SL := Lib.hid hsl
  have ID := Lib.hid hidn
  have PD := Lib.hid hpd
  have AT2 : Hid ((Q k).st = 2) := Lib.hid (by have a1 := hat; unfold atN at a1; rw [if_neg (by omega), if_neg (by omega)] at a1; exact a1)
  have H0 := Lib.hid h0
  obtain ⟨v, hv⟩ : ∃ v, v = (R (Q k).slot).wd := ⟨_, rfl⟩
  obtain ⟨per, hper⟩ : ∃ per, per = ((Q k).pd != 0) := ⟨_, rfl⟩
  rw [← hv, ← hper] at hx
  rw [← hsl] at hs hv hw
  rw [← hv] at hw
  rw [← hpd] at hper
  obtain ⟨x, hxx⟩ : ∃ x, nxW v 1 per = x := ⟨_, rfl⟩
  rw [hxx] at hx
  have V := Lib.hid hv
  have XX := Lib.hid hxx
  have HX := Lib.hid hx
  have PER := Lib.hid hper
  have HW := Lib.hid hw
  have HG : Hid ((R sl).gv ≤ 900000) := Lib.hid (by rw [hsl]; exact hgv)
  clear hgv
  have e1 : Hid (decide (0 < pd) = per) := Lib.hid (by rw [hper, Bool.eq_iff_iff, decide_eq_true_iff, bne_iff_ne]; omega)
  have e1z : Hid (decide ((0 : Int) < (pd : Int)) = per) := Lib.hid (by rw [hper, Bool.eq_iff_iff, decide_eq_true_iff, bne_iff_ne]; omega)
  have hsz : (sl : Int) < (n : Int) := by omega
  have hsz0 : (0 : Int) ≤ (sl : Int) := by omega
  have e00 : ((sl : Int)).toNat = sl := by omega
  clear h0 hv hper hxx hx hw
  have hkz : (k : Int) < (np : Int) := by omega
  have hkz0 : (0 : Int) ≤ (k : Int) := by omega
  have e0 : ((k : Int)).toNat = k := by omega
  have cA : Ch Nil w (w.alloc (.cells #[.int .i64 2, .int .i64 (se : Nat), .int .i64 (sl : Nat), .int .u64 (idn : Nat), .int .u64 (pd : Nat)] 41)) := (Ch.refl _ _).alloc _
  have RW := Lib.hid (h.quiet cA)
  have BX : Hid (IsB (w.alloc (.cells #[.int .i64 2, .int .i64 (se : Nat), .int .i64 (sl : Nat), .int .u64 (idn : Nat), .int .u64 (pd : Nat)] 41)) w.heap.size 2 se sl idn pd) := Lib.hid (isB_new w 2 se sl idn pd _)
  have CW : Hid (Ch (VS vb lb (some ⟨ga, 0, none⟩)) w (w.alloc (.cells #[.int .i64 2, .int .i64 (se : Nat), .int .i64 (sl : Nat), .int .u64 (idn : Nat), .int .u64 (pd : Nat)] 41))) := Lib.hid (Ch_any cA)
  have BV : Hid (¬ VS vb lb (some ⟨ga, 0, none⟩) w.heap.size) := Lib.hid (fun e => by have := h.lt e; omega)
  have hll := h.l
  clear h cA hse hsl hidn hpd
  go_enter Try.func13, Try.ntmps13
  go_upto_region 2 with (fail)
  clear q0 q1 q2 q3 q4 hr0 hll
  generalize w.alloc (.cells #[.int .i64 2, .int .i64 (se : Nat), .int .i64 (sl : Nat), .int .u64 (idn : Nat), .int .u64 (pd : Nat)] 41) = wa at RW BX CW ⊢
  have BLT : Hid (w.heap.size ≤ w.heap.size) := Lib.hid (Nat.le_refl _)
  obtain ⟨B, hB⟩ : ∃ B, B = w.heap.size := ⟨_, rfl⟩
  rw [← hB] at BX BV ⊢
  replace BLT : Hid (w.heap.size ≤ B) := Lib.hid (by omega)
  clear hB
  have VB : Hid (¬ B = vb) := Lib.hid (fun e => BV.out (.inl e))
  have LB : Hid (¬ B = lb) := Lib.hid (fun e => BV.out (.inr (.inl e)))
  have GB : Hid (¬ ga = B) := Lib.hid (fun e => BV.out (.inr (.inr (by rw [← e]; rfl))))
  have b0 : wa.cell? ⟨B, 0, none⟩ = some (.int .i64 2) := BX.out.a
  go_upto_region 14 with (fail)
  replace RW := Lib.hid (RW.out.quiet ((Ch.refl Nil wa).drew))
  replace BX := Lib.hid (BX.out.kept ((Ch.refl Nil wa).drew) (fun e => e))
  replace CW : Hid (Ch (VS vb lb (some ⟨ga, 0, none⟩)) w wa.drew) := Lib.hid CW.out.drew
  refine wp_region_held_drew (S := fun w' => w'.cell? ⟨vb, 0, none⟩ = some (.slice (some ⟨lb, 0, none⟩) n n) ∧ w'.cell? ⟨B, 2, none⟩ = some (.int .i64 (sl : Nat)) ∧ w'.cell? ⟨lb, sl * 3, none⟩ = some (.int .u64 (v : Nat)) ∧ w'.cell? ⟨B, 4, none⟩ = some (.int .u64 (pd : Nat))) (by kernel_rfl) ⟨RW.out.l, BX.out.sl, by have hh := (RW.out.rc sl hs).v; rw [← V.out] at hh; exact hh, BX.out.pd⟩ (fun hHeld => ?_)
  generalize wa.drew = X at RW BX CW hHeld ⊢
  clear b0
  refine take_at (v := ?_) 0 (some 57) rfl (by kernel_rfl) (by kernel_rfl) (by kernel_rfl) (by kernel_rfl) (fun _ _ _ h => h) (Or.inl ⟨by rfl, ?_⟩) (by assumption) ?_
  rotate_left
  · intro w hSw; (try dsimp only at hSw); go_simp; try (with_reducible rfl)
  (try simp only [Act.put, List.setIfInBounds_toArray, List.set_cons_zero, List.set_cons_succ])
  refine take_at (v := ?_) 1 (some 58) rfl (by kernel_rfl) (by kernel_rfl) (by kernel_rfl) (by kernel_rfl) (fun _ _ _ h => h) (Or.inl ⟨by rfl, ?_⟩) (by assumption) ?_
  rotate_left
  · intro w hSw; (try dsimp only at hSw); go_simp; try (with_reducible rfl)
  (try simp only [Act.put, List.setIfInBounds_toArray, List.set_cons_zero, List.set_cons_succ])
  refine take_at (v := ?_) 2 (some 59) rfl (by kernel_rfl) (by kernel_rfl) (by kernel_rfl) (by kernel_rfl) (fun _ _ _ h => h) (Or.inl ⟨by rfl, ?_⟩) (by assumption) ?_
  rotate_left
  · intro w hSw; (try dsimp only at hSw); go_simp; try (with_reducible rfl)
  (try simp only [Act.put, List.setIfInBounds_toArray, List.set_cons_zero, List.set_cons_succ])
  refine take_at (v := ?_) 3 (some 60) rfl (by kernel_rfl) (by kernel_rfl) (by kernel_rfl) (by kernel_rfl) (fun _ _ _ h => h) (Or.inl ⟨by rfl, ?_⟩) (by assumption) ?_
  rotate_left
  · intro w hSw; (try dsimp only at hSw); go_simp; try (with_reducible rfl)
  (try simp only [Act.put, List.setIfInBounds_toArray, List.set_cons_zero, List.set_cons_succ])
  refine take_at (v := ?_) 4 (some 61) rfl (by kernel_rfl) (by kernel_rfl) (by kernel_rfl) (by kernel_rfl) (fun _ _ _ h => h) (Or.inl ⟨by rfl, ?_⟩) (by assumption) ?_
  rotate_left
  · intro w hSw; (try dsimp only at hSw); go_simp; try (with_reducible rfl)
  (try simp only [Act.put, List.setIfInBounds_toArray, List.set_cons_zero, List.set_cons_succ])
  refine take_at (v := ?_) 5 (some 62) rfl (by kernel_rfl) (by kernel_rfl) (by kernel_rfl) (by kernel_rfl) (fun _ _ _ h => h) (Or.inl ⟨by rfl, ?_⟩) (by assumption) ?_
  rotate_left
  · intro w hSw; (try dsimp only at hSw); go_simp; try (with_reducible rfl)
  (try simp only [Act.put, List.setIfInBounds_toArray, List.set_cons_zero, List.set_cons_succ])
  refine take_at (v := ?_) 6 (some 63) rfl (by kernel_rfl) (by kernel_rfl) (by kernel_rfl) (by kernel_rfl) (fun _ _ _ h => h) (Or.inl ⟨by rfl, ?_⟩) (by assumption) ?_
  rotate_left
  · intro w hSw; (try dsimp only at hSw); go_simp; try (with_reducible rfl)
  (try simp only [Act.put, List.setIfInBounds_toArray, List.set_cons_zero, List.set_cons_succ])
  refine take_at (v := ?_) 7 (some 64) rfl (by kernel_rfl) (by kernel_rfl) (by kernel_rfl) (by kernel_rfl) (fun _ _ _ h => h) (Or.inl ⟨by rfl, ?_⟩) (by assumption) ?_
  rotate_left
  · intro w hSw; (try dsimp only at hSw); go_simp; try (with_reducible rfl)
  (try simp only [Act.put, List.setIfInBounds_toArray, List.set_cons_zero, List.set_cons_succ])
  refine take_at (v := ?_) 8 (some 65) rfl (by kernel_rfl) (by kernel_rfl) (by kernel_rfl) (by kernel_rfl) (fun _ _ _ h => h) (Or.inl ⟨by rfl, ?_⟩) (by assumption) ?_
  rotate_left
  · intro w hSw; (try dsimp only at hSw); go_simp; try (with_reducible rfl)
  (try simp only [Act.put, List.setIfInBounds_toArray, List.set_cons_zero, List.set_cons_succ])
  refine take_at (v := ?_) 9 (some 66) rfl (by kernel_rfl) (by kernel_rfl) (by kernel_rfl) (by kernel_rfl) (fun _ _ _ h => h) (Or.inl ⟨by rfl, ?_⟩) (by assumption) ?_
  rotate_left
  · intro w hSw; (try dsimp only at hSw); go_simp; try (with_reducible rfl)
  (try simp only [Act.put, List.setIfInBounds_toArray, List.set_cons_zero, List.set_cons_succ])
  refine take_at (v := ?_) 10 (some 67) rfl (by kernel_rfl) (by kernel_rfl) (by kernel_rfl) (by kernel_rfl) (fun _ _ _ h => h) (Or.inl ⟨by rfl, ?_⟩) (by assumption) ?_
  rotate_left
  · intro w hSw; (try dsimp only at hSw); go_simp; try (with_reducible rfl)
  (try simp only [Act.put, List.setIfInBounds_toArray, List.set_cons_zero, List.set_cons_succ])
  refine take_at (v := ?_) 11 (some 68) rfl (by kernel_rfl) (by kernel_rfl) (by kernel_rfl) (by kernel_rfl) (fun _ _ _ h => h) (Or.inl ⟨by rfl, ?_⟩) (by assumption) ?_
  rotate_left
  · intro w hSw; (try dsimp only at hSw); go_simp; try (with_reducible rfl)
  (try simp only [Act.put, List.setIfInBounds_toArray, List.set_cons_zero, List.set_cons_succ])
  refine wpAnyH_ready (rs := [12]) (by kernel_rfl) (by simp) ?_
  refine AllReadyH.cons rfl (fun K hK => ?_) AllReadyH.nil
  go_simp
  (try rw [e1.out])
  (try rw [e1z.out])
  have nx := refNext_any v 1 per HW.out X
  rw [show nxZ v 1 per = nxW v 1 per from rfl, XX.out] at nx
  refine nx.mono ?_
  clear nx
  rintro e w1 ⟨rfl, bl1⟩
  have cq : Ch Nil X w1 := Ch.of_below bl1
  replace RW := Lib.hid (RW.out.quiet cq)
  replace BX := Lib.hid (BX.out.kept cq (fun e => e))
  replace CW : Hid (Ch (VS vb lb (some ⟨ga, 0, none⟩)) w w1) := Lib.hid (CW.out.then cq (fun _ _ e => e.elim))
  clear bl1 cq
  refine hK.out _ _ ⟨RW.out.l, BX.out.sl, by have hh := (RW.out.rc sl hs).v; rw [← V.out] at hh; exact hh, BX.out.pd⟩ (fun hHeld => ?_)
  clear hK K
  (try simp only [Act.put, List.setIfInBounds_toArray, List.set_cons_zero, List.set_cons_succ])
  refine take_at (v := ?_) 13 (some 56) rfl (by kernel_rfl) (by kernel_rfl) (by kernel_rfl) (by kernel_rfl) (fun _ _ _ h => h) (Or.inl ⟨by rfl, ?_⟩) (by assumption) ?_
  rotate_left
  · intro w hSw; (try dsimp only at hSw); go_simp; try (with_reducible rfl)
  (try simp only [Act.put, List.setIfInBounds_toArray, List.set_cons_zero, List.set_cons_succ])
  refine take_at (v := ?_) 14 (some 70) rfl (by kernel_rfl) (by kernel_rfl) (by kernel_rfl) (by kernel_rfl) (fun _ _ _ h => h) (Or.inl ⟨by rfl, ?_⟩) (by assumption) ?_
  rotate_left
  · intro w hSw; (try dsimp only at hSw); go_simp; try (with_reducible rfl)
  (try simp only [Act.put, List.setIfInBounds_toArray, List.set_cons_zero, List.set_cons_succ])
  refine take_at (v := ?_) 15 (some 71) rfl (by kernel_rfl) (by kernel_rfl) (by kernel_rfl) (by kernel_rfl) (fun _ _ _ h => h) (Or.inl ⟨by rfl, ?_⟩) (by assumption) ?_
  rotate_left
  · intro w hSw; (try dsimp only at hSw); go_simp; try (with_reducible rfl)
  (try simp only [Act.put, List.setIfInBounds_toArray, List.set_cons_zero, List.set_cons_succ])
  refine take_at (v := ?_) 16 (some 6) rfl (by kernel_rfl) (by kernel_rfl) (by kernel_rfl) (by kernel_rfl) (fun _ _ _ h => h) (Or.inl ⟨by rfl, ?_⟩) (by assumption) ?_
  rotate_left
  · intro w hSw; (try dsimp only at hSw); go_simp; try (with_reducible rfl)
  (try simp only [Act.put, List.setIfInBounds_toArray, List.set_cons_zero, List.set_cons_succ])
  refine take_at (v := ?_) 17 (some 7) rfl (by kernel_rfl) (by kernel_rfl) (by kernel_rfl) (by kernel_rfl) (fun _ _ _ h => h) (Or.inl ⟨by rfl, ?_⟩) (by assumption) ?_
  rotate_left
  · intro w hSw; (try dsimp only at hSw); go_simp; try (with_reducible rfl)
  (try simp only [Act.put, List.setIfInBounds_toArray, List.set_cons_zero, List.set_cons_succ])
  refine wpAnyH_done (by kernel_rfl) ?_ _
  clear hHeld
  have y1 : ((x.2 : Nat) : Int) = 0 := by rw [HX.out]; rfl
  rw [y1]
  clear y1
  go_upto_region 16 with (fail)
  replace RW := Lib.hid (RW.out.quiet ((Ch.refl Nil w1).drew))
  replace BX := Lib.hid (BX.out.kept ((Ch.refl Nil w1).drew) (fun e => e))
  replace CW : Hid (Ch (VS vb lb (some ⟨ga, 0, none⟩)) w w1.drew) := Lib.hid CW.out.drew
  refine wp_region_held_drew (S := fun w' => w'.cell? ⟨vb, 0, none⟩ = some (.slice (some ⟨lb, 0, none⟩) n n) ∧ w'.cell? ⟨B, 2, none⟩ = some (.int .i64 (sl : Nat))) (by kernel_rfl) ⟨RW.out.l, BX.out.sl⟩ (fun hHeld => ?_)
  generalize w1.drew = X2 at RW BX CW hHeld ⊢
  refine take_at (v := ?_) 0 (some 74) rfl (by kernel_rfl) (by kernel_rfl) (by kernel_rfl) (by kernel_rfl) (fun _ _ _ h => h) (Or.inl ⟨by rfl, ?_⟩) (by assumption) ?_
  rotate_left
  · intro w hSw; (try dsimp only at hSw); go_simp; try (with_reducible rfl)
  (try simp only [Act.put, List.setIfInBounds_toArray, List.set_cons_zero, List.set_cons_succ])
  refine take_at (v := ?_) 1 (some 75) rfl (by kernel_rfl) (by kernel_rfl) (by kernel_rfl) (by kernel_rfl) (fun _ _ _ h => h) (Or.inl ⟨by rfl, ?_⟩) (by assumption) ?_
  rotate_left
  · intro w hSw; (try dsimp only at hSw); go_simp; try (with_reducible rfl)
  (try simp only [Act.put, List.setIfInBounds_toArray, List.set_cons_zero, List.set_cons_succ])
  refine take_at (v := ?_) 2 (some 76) rfl (by kernel_rfl) (by kernel_rfl) (by kernel_rfl) (by kernel_rfl) (fun _ _ _ h => h) (Or.inl ⟨by rfl, ?_⟩) (by assumption) ?_
  rotate_left
  · intro w hSw; (try dsimp only at hSw); go_simp; try (with_reducible rfl)
  (try simp only [Act.put, List.setIfInBounds_toArray, List.set_cons_zero, List.set_cons_succ])
  refine take_at (v := ?_) 3 (some 77) rfl (by kernel_rfl) (by kernel_rfl) (by kernel_rfl) (by kernel_rfl) (fun _ _ _ h => h) (Or.inl ⟨by rfl, ?_⟩) (by assumption) ?_
  rotate_left
  · intro w hSw; (try dsimp only at hSw); go_simp; try (with_reducible rfl)
  (try simp only [Act.put, List.setIfInBounds_toArray, List.set_cons_zero, List.set_cons_succ])
  refine take_at (v := ?_) 4 (some 78) rfl (by kernel_rfl) (by kernel_rfl) (by kernel_rfl) (by kernel_rfl) (fun _ _ _ h => h) (Or.inl ⟨by rfl, ?_⟩) (by assumption) ?_
  rotate_left
  · intro w hSw; (try dsimp only at hSw); go_simp; try (with_reducible rfl)
  (try simp only [Act.put, List.setIfInBounds_toArray, List.set_cons_zero, List.set_cons_succ])
  refine take_at (v := ?_) 5 (some 79) rfl (by kernel_rfl) (by kernel_rfl) (by kernel_rfl) (by kernel_rfl) (fun _ _ _ h => h) (Or.inl ⟨by rfl, ?_⟩) (by assumption) ?_
  rotate_left
  · intro w hSw; (try dsimp only at hSw); go_simp; try (with_reducible rfl)
  (try simp only [Act.put, List.setIfInBounds_toArray, List.set_cons_zero, List.set_cons_succ])
  refine take_at (v := ?_) 6 (some 80) rfl (by kernel_rfl) (by kernel_rfl) (by kernel_rfl) (by kernel_rfl) (fun _ _ _ h => h) (Or.inl ⟨by rfl, ?_⟩) (by assumption) ?_
  rotate_left
  · intro w hSw; (try dsimp only at hSw); go_simp; try (with_reducible rfl)
  (try simp only [Act.put, List.setIfInBounds_toArray, List.set_cons_zero, List.set_cons_succ])
  refine take_at (v := ?_) 7 (some 81) rfl (by kernel_rfl) (by kernel_rfl) (by kernel_rfl) (by kernel_rfl) (fun _ _ _ h => h) (Or.inl ⟨by rfl, ?_⟩) (by assumption) ?_
  rotate_left
  · intro w hSw; (try dsimp only at hSw); go_simp; try (with_reducible rfl)
  (try simp only [Act.put, List.setIfInBounds_toArray, List.set_cons_zero, List.set_cons_succ])
  refine take_at (v := ?_) 8 (some 82) rfl (by kernel_rfl) (by kernel_rfl) (by kernel_rfl) (by kernel_rfl) (fun _ _ _ h => h) (Or.inl ⟨by rfl, ?_⟩) (by assumption) ?_
  rotate_left
  · intro w hSw; (try dsimp only at hSw); go_simp; try (with_reducible rfl)
  (try simp only [Act.put, List.setIfInBounds_toArray, List.set_cons_zero, List.set_cons_succ])
  have tv := (RW.out.rc sl hs).v
  have tf := (RW.out.rc sl hs).fv
  refine wpAnyH_ready (rs := [9]) (by kernel_rfl) (by simp) ?_
  refine AllReadyH.cons rfl (fun K hK => ?_) AllReadyH.nil
  go_simp
  clear tv tf
  have rc1 := (RW.out.rc sl hs).setV x.1
  have ts : Tch lb (sl * 3) 3 X2 (X2.setCell ⟨lb, sl * 3, none⟩ (.int .u64 (x.1 : Nat))) := (Tch.refl _ _ _ _).set _ (by omega) _
  replace BX := Lib.hid (BX.out.kept ts.ch LB.out)
  replace CW : Hid (Ch (VS vb lb (some ⟨ga, 0, none⟩)) w (X2.setCell ⟨lb, sl * 3, none⟩ (.int .u64 (x.1 : Nat)))) := Lib.hid (CW.out.then ts.ch (fun i hi e => .inr (.inl e)))
  replace RW := Lib.hid (RW.out.turn hs ts rc1)
  clear rc1 ts
  refine hK.out _ _ ⟨RW.out.l, BX.out.sl⟩ (fun hHeld => ?_)
  clear hK K
  (try simp only [Act.put, List.setIfInBounds_toArray, List.set_cons_zero, List.set_cons_succ])
  refine wpAnyH_done (by kernel_rfl) ?_ _
  clear hHeld
  generalize X2.setCell ⟨lb, sl * 3, none⟩ (.int .u64 (x.1 : Nat)) = Y2 at RW BX CW ⊢
  obtain ⟨g, hgg⟩ : ∃ g, g = (R sl).gv := ⟨_, rfl⟩
  have G := Lib.hid hgg
  have hg : g ≤ 900000 := by rw [hgg]; exact HG.out
  clear hgg
  go_upto_region 17 with (fail)
  replace RW := Lib.hid (RW.out.quiet ((Ch.refl Nil Y2).drew))
  replace BX := Lib.hid (BX.out.kept ((Ch.refl Nil Y2).drew) (fun e => e))
  replace CW : Hid (Ch (VS vb lb (some ⟨ga, 0, none⟩)) w Y2.drew) := Lib.hid CW.out.drew
  refine wp_region_held_drew (S := fun w' => w'.cell? ⟨vb, 0, none⟩ = some (.slice (some ⟨lb, 0, none⟩) n n) ∧ w'.cell? ⟨B, 2, none⟩ = some (.int .i64 (sl : Nat))) (by kernel_rfl) ⟨RW.out.l, BX.out.sl⟩ (fun hHeld => ?_)
  generalize Y2.drew = X3 at RW BX CW hHeld ⊢
  refine take_at (v := ?_) 0 (some 83) rfl (by kernel_rfl) (by kernel_rfl) (by kernel_rfl) (by kernel_rfl) (fun _ _ _ h => h) (Or.inl ⟨by rfl, ?_⟩) (by assumption) ?_
  rotate_left
  · intro w hSw; (try dsimp only at hSw); go_simp; try (with_reducible rfl)
  (try simp only [Act.put, List.setIfInBounds_toArray, List.set_cons_zero, List.set_cons_succ])
  refine take_at (v := ?_) 1 (some 84) rfl (by kernel_rfl) (by kernel_rfl) (by kernel_rfl) (by kernel_rfl) (fun _ _ _ h => h) (Or.inl ⟨by rfl, ?_⟩) (by assumption) ?_
  rotate_left
  · intro w hSw; (try dsimp only at hSw); go_simp; try (with_reducible rfl)
  (try simp only [Act.put, List.setIfInBounds_toArray, List.set_cons_zero, List.set_cons_succ])
  refine take_at (v := ?_) 2 (some 85) rfl (by kernel_rfl) (by kernel_rfl) (by kernel_rfl) (by kernel_rfl) (fun _ _ _ h => h) (Or.inl ⟨by rfl, ?_⟩) (by assumption) ?_
  rotate_left
  · intro w hSw; (try dsimp only at hSw); go_simp; try (with_reducible rfl)
  (try simp only [Act.put, List.setIfInBounds_toArray, List.set_cons_zero, List.set_cons_succ])
  refine take_at (v := ?_) 3 (some 86) rfl (by kernel_rfl) (by kernel_rfl) (by kernel_rfl) (by kernel_rfl) (fun _ _ _ h => h) (Or.inl ⟨by rfl, ?_⟩) (by assumption) ?_
  rotate_left
  · intro w hSw; (try dsimp only at hSw); go_simp; try (with_reducible rfl)
  (try simp only [Act.put, List.setIfInBounds_toArray, List.set_cons_zero, List.set_cons_succ])
  refine take_at (v := ?_) 4 (some 87) rfl (by kernel_rfl) (by kernel_rfl) (by kernel_rfl) (by kernel_rfl) (fun _ _ _ h => h) (Or.inl ⟨by rfl, ?_⟩) (by assumption) ?_
  rotate_left
  · intro w hSw; (try dsimp only at hSw); go_simp; try (with_reducible rfl)
  (try simp only [Act.put, List.setIfInBounds_toArray, List.set_cons_zero, List.set_cons_succ])
  refine take_at (v := ?_) 5 (some 88) rfl (by kernel_rfl) (by kernel_rfl) (by kernel_rfl) (by kernel_rfl) (fun _ _ _ h => h) (Or.inl ⟨by rfl, ?_⟩) (by assumption) ?_
  rotate_left
  · intro w hSw; (try dsimp only at hSw); go_simp; try (with_reducible rfl)
  (try simp only [Act.put, List.setIfInBounds_toArray, List.set_cons_zero, List.set_cons_succ])
  refine take_at (v := ?_) 6 (some 89) rfl (by kernel_rfl) (by kernel_rfl) (by kernel_rfl) (by kernel_rfl) (fun _ _ _ h => h) (Or.inl ⟨by rfl, ?_⟩) (by assumption) ?_
  rotate_left
  · intro w hSw; (try dsimp only at hSw); go_simp; try (with_reducible rfl)
  (try simp only [Act.put, List.setIfInBounds_toArray, List.set_cons_zero, List.set_cons_succ])
  refine take_at (v := ?_) 7 (some 90) rfl (by kernel_rfl) (by kernel_rfl) (by kernel_rfl) (by kernel_rfl) (fun _ _ _ h => h) (Or.inl ⟨by rfl, ?_⟩) (by assumption) ?_
  rotate_left
  · intro w hSw; (try dsimp only at hSw); go_simp; try (with_reducible rfl)
  (try simp only [Act.put, List.setIfInBounds_toArray, List.set_cons_zero, List.set_cons_succ])
  have tg : X3.cell? ⟨lb, sl * 3 + 1, none⟩ = some (.int .u64 (g : Nat)) := by have hh := (RW.out.rc sl hs).g; rw [upR_same] at hh; rw [G.out]; exact hh
  refine wpAnyH_ready (rs := [8]) (by kernel_rfl) (by simp) ?_
  refine AllReadyH.cons rfl (fun K hK => ?_) AllReadyH.nil
  go_simp
  refine hK.out _ _ ⟨RW.out.l, BX.out.sl⟩ (fun hHeld => ?_)
  clear hK K
  (try simp only [Act.put, List.setIfInBounds_toArray, List.set_cons_zero, List.set_cons_succ])
  have e2 : IntKind.u64.wrap ((g : Int) + 1) = (g : Int) + 1 := IntWalk.u64_in _ (by omega)
  refine take_at (v := ?_) 9 (some 92) rfl (by kernel_rfl) (by kernel_rfl) (by kernel_rfl) (by kernel_rfl) (fun _ _ _ h => h) (Or.inl ⟨by rfl, ?_⟩) (by assumption) ?_
  rotate_left
  · intro w hSw; (try dsimp only at hSw); go_simp; try (with_reducible rfl)
  (try simp only [Act.put, List.setIfInBounds_toArray, List.set_cons_zero, List.set_cons_succ])
  refine take_at (v := ?_) 10 (some 93) rfl (by kernel_rfl) (by kernel_rfl) (by kernel_rfl) (by kernel_rfl) (fun _ _ _ h => h) (Or.inl ⟨by rfl, ?_⟩) (by assumption) ?_
  rotate_left
  · intro w hSw; (try dsimp only at hSw); go_simp; try (with_reducible rfl)
  (try simp only [Act.put, List.setIfInBounds_toArray, List.set_cons_zero, List.set_cons_succ])
  refine take_at (v := ?_) 11 (some 94) rfl (by kernel_rfl) (by kernel_rfl) (by kernel_rfl) (by kernel_rfl) (fun _ _ _ h => h) (Or.inl ⟨by rfl, ?_⟩) (by assumption) ?_
  rotate_left
  · intro w hSw; (try dsimp only at hSw); go_simp; try (with_reducible rfl)
  (try simp only [Act.put, List.setIfInBounds_toArray, List.set_cons_zero, List.set_cons_succ])
  have tf := (RW.out.rc sl hs).fg
  refine wpAnyH_ready (rs := [12]) (by kernel_rfl) (by simp) ?_
  refine AllReadyH.cons rfl (fun K hK => ?_) AllReadyH.nil
  go_simp
  clear tg tf e2
  rw [show (g : Int) + 1 = ((g + 1 : Nat) : Int) by omega]
  have rc1 := (RW.out.rc sl hs).setG (g + 1)
  have ts : Tch lb (sl * 3) 3 X3 (X3.setCell ⟨lb, sl * 3 + 1, none⟩ (.int .u64 ((g + 1 : Nat) : Nat))) := (Tch.refl _ _ _ _).set _ (by omega) _
  replace BX := Lib.hid (BX.out.kept ts.ch LB.out)
  replace CW : Hid (Ch (VS vb lb (some ⟨ga, 0, none⟩)) w (X3.setCell ⟨lb, sl * 3 + 1, none⟩ (.int .u64 ((g + 1 : Nat) : Nat)))) := Lib.hid (CW.out.then ts.ch (fun i hi e => .inr (.inl e)))
  replace RW := Lib.hid (RW.out.turn hs ts rc1)
  rw [upR_twice, upR_same] at RW
  dsimp only at RW
  clear rc1 ts
  refine hK.out _ _ ⟨RW.out.l, BX.out.sl⟩ (fun hHeld => ?_)
  clear hK K
  (try simp only [Act.put, List.setIfInBounds_toArray, List.set_cons_zero, List.set_cons_succ])
  refine wpAnyH_done (by kernel_rfl) ?_ _
  clear hHeld
  generalize X3.setCell ⟨lb, sl * 3 + 1, none⟩ (.int .u64 ((g + 1 : Nat) : Nat)) = Y3 at RW BX CW ⊢
  go_upto_region 18 with (fail)
  replace RW := Lib.hid (RW.out.quiet ((Ch.refl Nil Y3).drew))
  replace BX := Lib.hid (BX.out.kept ((Ch.refl Nil Y3).drew) (fun e => e))
  replace CW : Hid (Ch (VS vb lb (some ⟨ga, 0, none⟩)) w Y3.drew) := Lib.hid CW.out.drew
  refine wp_region_held_drew (S := fun w' => w'.cell? ⟨vb, 0, none⟩ = some (.slice (some ⟨lb, 0, none⟩) n n) ∧ w'.cell? ⟨B, 2, none⟩ = some (.int .i64 (sl : Nat)) ∧ w'.cell? ⟨B, 4, none⟩ = some (.int .u64 (pd : Nat))) (by kernel_rfl) ⟨RW.out.l, BX.out.sl, BX.out.pd⟩ (fun hHeld => ?_)
  generalize Y3.drew = X4 at RW BX CW hHeld ⊢
  refine take_at (v := ?_) 0 (some 95) rfl (by kernel_rfl) (by kernel_rfl) (by kernel_rfl) (by kernel_rfl) (fun _ _ _ h => h) (Or.inl ⟨by rfl, ?_⟩) (by assumption) ?_
  rotate_left
  · intro w hSw; (try dsimp only at hSw); go_simp; try (with_reducible rfl)
  (try simp only [Act.put, List.setIfInBounds_toArray, List.set_cons_zero, List.set_cons_succ])
  refine take_at (v := ?_) 1 (some 96) rfl (by kernel_rfl) (by kernel_rfl) (by kernel_rfl) (by kernel_rfl) (fun _ _ _ h => h) (Or.inl ⟨by rfl, ?_⟩) (by assumption) ?_
  rotate_left
  · intro w hSw; (try dsimp only at hSw); go_simp; try (with_reducible rfl)
  (try simp only [Act.put, List.setIfInBounds_toArray, List.set_cons_zero, List.set_cons_succ])
  refine take_at (v := ?_) 2 (some 97) rfl (by kernel_rfl) (by kernel_rfl) (by kernel_rfl) (by kernel_rfl) (fun _ _ _ h => h) (Or.inl ⟨by rfl, ?_⟩) (by assumption) ?_
  rotate_left
  · intro w hSw; (try dsimp only at hSw); go_simp; try (with_reducible rfl)
  (try simp only [Act.put, List.setIfInBounds_toArray, List.set_cons_zero, List.set_cons_succ])
  refine take_at (v := ?_) 3 (some 98) rfl (by kernel_rfl) (by kernel_rfl) (by kernel_rfl) (by kernel_rfl) (fun _ _ _ h => h) (Or.inl ⟨by rfl, ?_⟩) (by assumption) ?_
  rotate_left
  · intro w hSw; (try dsimp only at hSw); go_simp; try (with_reducible rfl)
  (try simp only [Act.put, List.setIfInBounds_toArray, List.set_cons_zero, List.set_cons_succ])
  refine take_at (v := ?_) 4 (some 99) rfl (by kernel_rfl) (by kernel_rfl) (by kernel_rfl) (by kernel_rfl) (fun _ _ _ h => h) (Or.inl ⟨by rfl, ?_⟩) (by assumption) ?_
  rotate_left
  · intro w hSw; (try dsimp only at hSw); go_simp; try (with_reducible rfl)
  (try simp only [Act.put, List.setIfInBounds_toArray, List.set_cons_zero, List.set_cons_succ])
  refine take_at (v := ?_) 5 (some 100) rfl (by kernel_rfl) (by kernel_rfl) (by kernel_rfl) (by kernel_rfl) (fun _ _ _ h => h) (Or.inl ⟨by rfl, ?_⟩) (by assumption) ?_
  rotate_left
  · intro w hSw; (try dsimp only at hSw); go_simp; try (with_reducible rfl)
  (try simp only [Act.put, List.setIfInBounds_toArray, List.set_cons_zero, List.set_cons_succ])
  refine take_at (v := ?_) 6 (some 101) rfl (by kernel_rfl) (by kernel_rfl) (by kernel_rfl) (by kernel_rfl) (fun _ _ _ h => h) (Or.inl ⟨by rfl, ?_⟩) (by assumption) ?_
  rotate_left
  · intro w hSw; (try dsimp only at hSw); go_simp; try (with_reducible rfl)
  (try simp only [Act.put, List.setIfInBounds_toArray, List.set_cons_zero, List.set_cons_succ])
  refine take_at (v := ?_) 7 (some 102) rfl (by kernel_rfl) (by kernel_rfl) (by kernel_rfl) (by kernel_rfl) (fun _ _ _ h => h) (Or.inl ⟨by rfl, ?_⟩) (by assumption) ?_
  rotate_left
  · intro w hSw; (try dsimp only at hSw); go_simp; try (with_reducible rfl)
  (try simp only [Act.put, List.setIfInBounds_toArray, List.set_cons_zero, List.set_cons_succ])
  refine take_at (v := ?_) 8 (some 103) rfl (by kernel_rfl) (by kernel_rfl) (by kernel_rfl) (by kernel_rfl) (fun _ _ _ h => h) (Or.inl ⟨by rfl, ?_⟩) (by assumption) ?_
  rotate_left
  · intro w hSw; (try dsimp only at hSw); go_simp; try (with_reducible rfl)
  (try simp only [Act.put, List.setIfInBounds_toArray, List.set_cons_zero, List.set_cons_succ])
  refine take_at (v := ?_) 9 (some 104) rfl (by kernel_rfl) (by kernel_rfl) (by kernel_rfl) (by kernel_rfl) (fun _ _ _ h => h) (Or.inl ⟨by rfl, ?_⟩) (by assumption) ?_
  rotate_left
  · intro w hSw; (try dsimp only at hSw); go_simp; try (with_reducible rfl)
  (try simp only [Act.put, List.setIfInBounds_toArray, List.set_cons_zero, List.set_cons_succ])
  have tv := (RW.out.rc sl hs).p
  have tf := (RW.out.rc sl hs).fp
  refine wpAnyH_ready (rs := [10]) (by kernel_rfl) (by simp) ?_
  refine AllReadyH.cons rfl (fun K hK => ?_) AllReadyH.nil
  go_simp
  clear tv tf
  have rc1 := (RW.out.rc sl hs).setP pd
  have ts : Tch lb (sl * 3) 3 X4 (X4.setCell ⟨lb, sl * 3 + 2, none⟩ (.int .u64 (pd : Nat))) := (Tch.refl _ _ _ _).set _ (by omega) _
  replace BX := Lib.hid (BX.out.kept ts.ch LB.out)
  replace CW : Hid (Ch (VS vb lb (some ⟨ga, 0, none⟩)) w (X4.setCell ⟨lb, sl * 3 + 2, none⟩ (.int .u64 (pd : Nat)))) := Lib.hid (CW.out.then ts.ch (fun i hi e => .inr (.inl e)))
  replace RW := Lib.hid (RW.out.turn hs ts rc1)
  rw [upR_twice, upR_same] at RW
  dsimp only at RW
  clear rc1 ts
  refine hK.out _ _ ⟨RW.out.l, BX.out.sl, BX.out.pd⟩ (fun hHeld => ?_)
  clear hK K
  (try simp only [Act.put, List.setIfInBounds_toArray, List.set_cons_zero, List.set_cons_succ])
  refine wpAnyH_done (by kernel_rfl) ?_ _
  clear hHeld
  generalize X4.setCell ⟨lb, sl * 3 + 2, none⟩ (.int .u64 (pd : Nat)) = Y4 at RW BX CW ⊢
  obtain ⟨id, hid⟩ : ∃ id, id = (g + 1) * 64 + sl := ⟨_, rfl⟩
  have HID := Lib.hid hid
  have e5 : IntKind.u64.wrap (((g + 1 : Nat) : Int) * 64) = ((g + 1 : Nat) : Int) * 64 := IntWalk.u64_in _ (by omega)
  have e6 : IntKind.u64.wrap (sl : Int) = (sl : Int) := IntWalk.u64_in _ (by omega)
  have e7 : IntKind.u64.wrap (((g + 1 : Nat) : Int) * 64 + (sl : Int)) = ((g + 1 : Nat) : Int) * 64 + (sl : Int) := IntWalk.u64_in _ (by omega)
  have E8 : Hid (((g + 1 : Nat) : Int) * 64 + (sl : Int) = (id : Int)) := Lib.hid (by omega)
  clear hid
  go_upto_region 19 with (fail)
  replace RW := Lib.hid (RW.out.quiet ((Ch.refl Nil Y4).drew))
  replace BX := Lib.hid (BX.out.kept ((Ch.refl Nil Y4).drew) (fun e => e))
  replace CW : Hid (Ch (VS vb lb (some ⟨ga, 0, none⟩)) w Y4.drew) := Lib.hid CW.out.drew
  refine wp_region_held_drew (S := fun w' => w'.cell? ⟨vb, 0, none⟩ = some (.slice (some ⟨lb, 0, none⟩) n n) ∧ w'.cell? ⟨B, 2, none⟩ = some (.int .i64 (sl : Nat)) ∧ w'.cell? ⟨lb, sl * 3 + 1, none⟩ = some (.int .u64 ((g + 1 : Nat) : Nat))) (by kernel_rfl) ⟨RW.out.l, BX.out.sl, by have hh := (RW.out.rc sl hs).g; rw [upR_same] at hh; exact hh⟩ (fun hHeld => ?_)
  generalize Y4.drew = X5 at RW BX CW hHeld ⊢
  refine take_at (v := ?_) 0 (some 105) rfl (by kernel_rfl) (by kernel_rfl) (by kernel_rfl) (by kernel_rfl) (fun _ _ _ h => h) (Or.inl ⟨by rfl, ?_⟩) (by assumption) ?_
  rotate_left
  · intro w hSw; (try dsimp only at hSw); go_simp; try (with_reducible rfl)
  (try simp only [Act.put, List.setIfInBounds_toArray, List.set_cons_zero, List.set_cons_succ])
  refine take_at (v := ?_) 1 (some 106) rfl (by kernel_rfl) (by kernel_rfl) (by kernel_rfl) (by kernel_rfl) (fun _ _ _ h => h) (Or.inl ⟨by rfl, ?_⟩) (by assumption) ?_
  rotate_left
  · intro w hSw; (try dsimp only at hSw); go_simp; try (with_reducible rfl)
  (try simp only [Act.put, List.setIfInBounds_toArray, List.set_cons_zero, List.set_cons_succ])
  refine take_at (v := ?_) 2 (some 107) rfl (by kernel_rfl) (by kernel_rfl) (by kernel_rfl) (by kernel_rfl) (fun _ _ _ h => h) (Or.inl ⟨by rfl, ?_⟩) (by assumption) ?_
  rotate_left
  · intro w hSw; (try dsimp only at hSw); go_simp; try (with_reducible rfl)
  (try simp only [Act.put, List.setIfInBounds_toArray, List.set_cons_zero, List.set_cons_succ])
  refine take_at (v := ?_) 3 (some 108) rfl (by kernel_rfl) (by kernel_rfl) (by kernel_rfl) (by kernel_rfl) (fun _ _ _ h => h) (Or.inl ⟨by rfl, ?_⟩) (by assumption) ?_
  rotate_left
  · intro w hSw; (try dsimp only at hSw); go_simp; try (with_reducible rfl)
  (try simp only [Act.put, List.setIfInBounds_toArray, List.set_cons_zero, List.set_cons_succ])
  refine take_at (v := ?_) 4 (some 109) rfl (by kernel_rfl) (by kernel_rfl) (by kernel_rfl) (by kernel_rfl) (fun _ _ _ h => h) (Or.inl ⟨by rfl, ?_⟩) (by assumption) ?_
  rotate_left
  · intro w hSw; (try dsimp only at hSw); go_simp; try (with_reducible rfl)
  (try simp only [Act.put, List.setIfInBounds_toArray, List.set_cons_zero, List.set_cons_succ])
  refine take_at (v := ?_) 5 (some 110) rfl (by kernel_rfl) (by kernel_rfl) (by kernel_rfl) (by kernel_rfl) (fun _ _ _ h => h) (Or.inl ⟨by rfl, ?_⟩) (by assumption) ?_
  rotate_left
  · intro w hSw; (try dsimp only at hSw); go_simp; try (with_reducible rfl)
  (try simp only [Act.put, List.setIfInBounds_toArray, List.set_cons_zero, List.set_cons_succ])
  refine take_at (v := ?_) 6 (some 111) rfl (by kernel_rfl) (by kernel_rfl) (by kernel_rfl) (by kernel_rfl) (fun _ _ _ h => h) (Or.inl ⟨by rfl, ?_⟩) (by assumption) ?_
  rotate_left
  · intro w hSw; (try dsimp only at hSw); go_simp; try (with_reducible rfl)
  (try simp only [Act.put, List.setIfInBounds_toArray, List.set_cons_zero, List.set_cons_succ])
  refine take_at (v := ?_) 7 (some 112) rfl (by kernel_rfl) (by kernel_rfl) (by kernel_rfl) (by kernel_rfl) (fun _ _ _ h => h) (Or.inl ⟨by rfl, ?_⟩) (by assumption) ?_
  rotate_left
  · intro w hSw; (try dsimp only at hSw); go_simp; try (with_reducible rfl)
  (try simp only [Act.put, List.setIfInBounds_toArray, List.set_cons_zero, List.set_cons_succ])
  refine take_at (v := ?_) 8 (some 113) rfl (by kernel_rfl) (by kernel_rfl) (by kernel_rfl) (by kernel_rfl) (fun _ _ _ h => h) (Or.inl ⟨by rfl, ?_⟩) (by assumption) ?_
  rotate_left
  · intro w hSw; (try dsimp only at hSw); go_simp; try (with_reducible rfl)
  (try simp only [Act.put, List.setIfInBounds_toArray, List.set_cons_zero, List.set_cons_succ])
  refine take_at (v := ?_) 9 (some 114) rfl (by kernel_rfl) (by kernel_rfl) (by kernel_rfl) (by kernel_rfl) (fun _ _ _ h => h) (Or.inl ⟨by rfl, ?_⟩) (by assumption) ?_
  rotate_left
  · intro w hSw; (try dsimp only at hSw); go_simp; try (with_reducible rfl)
  (try simp only [Act.put, List.setIfInBounds_toArray, List.set_cons_zero, List.set_cons_succ])
  refine take_at (v := ?_) 10 (some 115) rfl (by kernel_rfl) (by kernel_rfl) (by kernel_rfl) (by kernel_rfl) (fun _ _ _ h => h) (Or.inl ⟨by rfl, ?_⟩) (by assumption) ?_
  rotate_left
  · intro w hSw; (try dsimp only at hSw); go_simp; try (with_reducible rfl)
  (try simp only [Act.put, List.setIfInBounds_toArray, List.set_cons_zero, List.set_cons_succ])
  refine take_at (v := ?_) 11 (some 116) rfl (by kernel_rfl) (by kernel_rfl) (by kernel_rfl) (by kernel_rfl) (fun _ _ _ h => h) (Or.inl ⟨by rfl, ?_⟩) (by assumption) ?_
  rotate_left
  · intro w hSw; (try dsimp only at hSw); go_simp; try (with_reducible rfl)
  (try simp only [Act.put, List.setIfInBounds_toArray, List.set_cons_zero, List.set_cons_succ])
  refine take_at (v := ?_) 12 (some 117) rfl (by kernel_rfl) (by kernel_rfl) (by kernel_rfl) (by kernel_rfl) (fun _ _ _ h => h) (Or.inl ⟨by rfl, ?_⟩) (by assumption) ?_
  rotate_left
  · intro w hSw; (try dsimp only at hSw); go_simp; try (with_reducible rfl)
  (try simp only [Act.put, List.setIfInBounds_toArray, List.set_cons_zero, List.set_cons_succ])
  refine take_at (v := ?_) 13 (some 118) rfl (by kernel_rfl) (by kernel_rfl) (by kernel_rfl) (by kernel_rfl) (fun _ _ _ h => h) (Or.inl ⟨by rfl, ?_⟩) (by assumption) ?_
  rotate_left
  · intro w hSw; (try dsimp only at hSw); go_simp; try (with_reducible rfl)
  (try simp only [Act.put, List.setIfInBounds_toArray, List.set_cons_zero, List.set_cons_succ])
  refine take_at (v := ?_) 14 (some 119) rfl (by kernel_rfl) (by kernel_rfl) (by kernel_rfl) (by kernel_rfl) (fun _ _ _ h => h) (Or.inl ⟨by rfl, ?_⟩) (by assumption) ?_
  rotate_left
  · intro w hSw; (try dsimp only at hSw); go_simp; try (with_reducible rfl)
  (try simp only [Act.put, List.setIfInBounds_toArray, List.set_cons_zero, List.set_cons_succ])
  have tv := BX.out.id
  have tf := BX.out.fid
  refine wpAnyH_ready (rs := [15]) (by kernel_rfl) (by simp) ?_
  refine AllReadyH.cons rfl (fun K hK => ?_) AllReadyH.nil
  go_simp
  rw [show IntKind.u64.wrap (IntKind.u64.wrap (((g : Int) + 1) * 64) + (sl : Int)) = (id : Int) by rw [IntWalk.u64_in (((g : Int) + 1) * 64) (by omega), IntWalk.u64_in _ (by omega)]; have := E8.out; omega]
  have bx1 := BX.out.setId id
  have cs : Ch (One B) X5 (X5.setCell ⟨B, 3, none⟩ (.int .u64 (id : Nat))) := (Ch.refl _ _).setB _ _
  replace RW := Lib.hid (RW.out.kept cs (fun k hk e => BV.out (by rw [← e]; exact hk)))
  replace CW : Hid (Ch (VS vb lb (some ⟨ga, 0, none⟩)) w (X5.setCell ⟨B, 3, none⟩ (.int .u64 (id : Nat)))) := Lib.hid (CW.out.then cs (fun i hi e => by have := BLT.out; change i = _ at e; omega))
  replace BX : Hid (IsB (X5.setCell ⟨B, 3, none⟩ (.int .u64 (id : Nat))) B 2 se sl id pd) := Lib.hid bx1
  clear bx1 cs tv tf
  refine hK.out _ _ ⟨RW.out.l, BX.out.sl, by have hh := (RW.out.rc sl hs).g; rw [upR_same] at hh; exact hh⟩ (fun hHeld => ?_)
  clear hK K
  (try simp only [Act.put, List.setIfInBounds_toArray, List.set_cons_zero, List.set_cons_succ])
  refine wpAnyH_done (by kernel_rfl) ?_ _
  clear hHeld
  clear e5 e6 e7
  generalize X5.setCell ⟨B, 3, none⟩ (.int .u64 (id : Nat)) = Y5 at RW BX CW ⊢
  have b0 : Y5.cell? ⟨B, 0, none⟩ = some (.int .i64 2) := BX.out.a
  have f0 := BX.out.fa
  have bx1 := BX.out.setA 4
  have cs : Ch (One B) Y5 (Y5.setCell ⟨B, 0, none⟩ (.int .i64 4)) := (Ch.refl _ _).setB _ _
  replace RW := Lib.hid (RW.out.kept cs (fun k hk e => BV.out (by rw [← e]; exact hk)))
  replace CW : Hid (Ch (VS vb lb (some ⟨ga, 0, none⟩)) w (Y5.setCell ⟨B, 0, none⟩ (.int .i64 4))) := Lib.hid (CW.out.then cs (fun i hi e => by have := BLT.out; change i = _ at e; omega))
  replace BX : Hid (IsB (Y5.setCell ⟨B, 0, none⟩ (.int .i64 4)) B 4 se sl id pd) := Lib.hid bx1
  clear bx1 cs
  go_upto_region 22 with (fail)
  clear b0 f0
  generalize Y5.setCell ⟨B, 0, none⟩ (.int .i64 4) = wd at RW BX CW ⊢
  go_upto_region 22 with (fail)
  replace RW := Lib.hid (RW.out.quiet ((Ch.refl Nil wd).drew))
  replace BX := Lib.hid (BX.out.kept ((Ch.refl Nil wd).drew) (fun e => e))
  replace CW : Hid (Ch (VS vb lb (some ⟨ga, 0, none⟩)) w wd.drew) := Lib.hid CW.out.drew
  refine wp_region_held_drew (S := fun w' => w'.cell? ⟨vb, 2, none⟩ = some (.slice (some ⟨ga, 0, none⟩) np cr) ∧ w'.cell? ⟨B, 0, none⟩ = some (.int .i64 4) ∧ w'.cell? ⟨B, 1, none⟩ = some (.int .i64 (se : Nat)) ∧ w'.cell? ⟨B, 2, none⟩ = some (.int .i64 (sl : Nat)) ∧ w'.cell? ⟨B, 3, none⟩ = some (.int .u64 (id : Nat)) ∧ w'.cell? ⟨B, 4, none⟩ = some (.int .u64 (pd : Nat))) (by kernel_rfl) ⟨RW.out.r, BX.out.a, BX.out.se, BX.out.sl, BX.out.id, BX.out.pd⟩ (fun hHeld => ?_)
  generalize wd.drew = X at RW BX CW hHeld ⊢
  refine take_at (v := ?_) 0 (some 131) rfl (by kernel_rfl) (by kernel_rfl) (by kernel_rfl) (by kernel_rfl) (fun _ _ _ h => h) (Or.inl ⟨by rfl, ?_⟩) (by assumption) ?_
  rotate_left
  · intro w hSw; (try dsimp only at hSw); go_simp; try (with_reducible rfl)
  (try simp only [Act.put, List.setIfInBounds_toArray, List.set_cons_zero, List.set_cons_succ])
  refine take_at (v := ?_) 1 (some 132) rfl (by kernel_rfl) (by kernel_rfl) (by kernel_rfl) (by kernel_rfl) (fun _ _ _ h => h) (Or.inl ⟨by rfl, ?_⟩) (by assumption) ?_
  rotate_left
  · intro w hSw; (try dsimp only at hSw); go_simp; try (with_reducible rfl)
  (try simp only [Act.put, List.setIfInBounds_toArray, List.set_cons_zero, List.set_cons_succ])
  refine take_at (v := ?_) 2 (some 133) rfl (by kernel_rfl) (by kernel_rfl) (by kernel_rfl) (by kernel_rfl) (fun _ _ _ h => h) (Or.inl ⟨by rfl, ?_⟩) (by assumption) ?_
  rotate_left
  · intro w hSw; (try dsimp only at hSw); go_simp; try (with_reducible rfl)
  (try simp only [Act.put, List.setIfInBounds_toArray, List.set_cons_zero, List.set_cons_succ])
  refine take_at (v := ?_) 3 (some 134) rfl (by kernel_rfl) (by kernel_rfl) (by kernel_rfl) (by kernel_rfl) (fun _ _ _ h => h) (Or.inl ⟨by rfl, ?_⟩) (by assumption) ?_
  rotate_left
  · intro w hSw; (try dsimp only at hSw); go_simp; try (with_reducible rfl)
  (try simp only [Act.put, List.setIfInBounds_toArray, List.set_cons_zero, List.set_cons_succ])
  refine take_at (v := ?_) 4 (some 135) rfl (by kernel_rfl) (by kernel_rfl) (by kernel_rfl) (by kernel_rfl) (fun _ _ _ h => h) (Or.inl ⟨by rfl, ?_⟩) (by assumption) ?_
  rotate_left
  · intro w hSw; (try dsimp only at hSw); go_simp; try (with_reducible rfl)
  (try simp only [Act.put, List.setIfInBounds_toArray, List.set_cons_zero, List.set_cons_succ])
  refine take_at (v := ?_) 5 (some 136) rfl (by kernel_rfl) (by kernel_rfl) (by kernel_rfl) (by kernel_rfl) (fun _ _ _ h => h) (Or.inl ⟨by rfl, ?_⟩) (by assumption) ?_
  rotate_left
  · intro w hSw; (try dsimp only at hSw); go_simp; try (with_reducible rfl)
  (try simp only [Act.put, List.setIfInBounds_toArray, List.set_cons_zero, List.set_cons_succ])
  refine take_at (v := ?_) 6 (some 137) rfl (by kernel_rfl) (by kernel_rfl) (by kernel_rfl) (by kernel_rfl) (fun _ _ _ h => h) (Or.inl ⟨by rfl, ?_⟩) (by assumption) ?_
  rotate_left
  · intro w hSw; (try dsimp only at hSw); go_simp; try (with_reducible rfl)
  (try simp only [Act.put, List.setIfInBounds_toArray, List.set_cons_zero, List.set_cons_succ])
  obtain ⟨q0, q1, q2, q3, q4⟩ := rq_cells RW.out.q hk
  have z0 := RW.out.q.frozen (k * 5)
  have z1 := RW.out.q.frozen (k * 5 + 1)
  have z2 := RW.out.q.frozen (k * 5 + 2)
  have z3 := RW.out.q.frozen (k * 5 + 3)
  have z4 := RW.out.q.frozen (k * 5 + 4)
  refine wpAnyH_ready (rs := [7]) (by kernel_rfl) (by simp) ?_
  refine AllReadyH.cons rfl (fun K hK => ?_) AllReadyH.nil
  go_simp
  have cS : Ch (OwnS (some ⟨ga, 0, none⟩)) X (((((X.setCell ⟨ga, k * 5, none⟩ (.int .i64 4)).setCell ⟨ga, k * 5 + 1, none⟩ (.int .i64 (se : Nat))).setCell ⟨ga, k * 5 + 2, none⟩ (.int .i64 (sl : Nat))).setCell ⟨ga, k * 5 + 3, none⟩ (.int .u64 (id : Nat))).setCell ⟨ga, k * 5 + 4, none⟩ (.int .u64 (pd : Nat))) :=
    ((((((Ch.refl (OwnS (some ⟨ga, 0, none⟩)) X).set (p := ⟨ga, k * 5, none⟩) (fun _ => rfl) _).set (p := ⟨ga, k * 5 + 1, none⟩) (fun _ => rfl) _).set (p := ⟨ga, k * 5 + 2, none⟩) (fun _ => rfl) _).set (p := ⟨ga, k * 5 + 3, none⟩) (fun _ => rfl) _).set (p := ⟨ga, k * 5 + 4, none⟩) (fun _ => rfl) _)
  have ate : atN { (Q k) with id := ((R (Q k).slot).gv + 1) * 64 + (Q k).slot, ss := 2 } = 4 := by simp [atN]
  have rowS : Row (((((X.setCell ⟨ga, k * 5, none⟩ (.int .i64 4)).setCell ⟨ga, k * 5 + 1, none⟩ (.int .i64 (se : Nat))).setCell ⟨ga, k * 5 + 2, none⟩ (.int .i64 (sl : Nat))).setCell ⟨ga, k * 5 + 3, none⟩ (.int .u64 (id : Nat))).setCell ⟨ga, k * 5 + 4, none⟩ (.int .u64 (pd : Nat))) 41 5 (some ⟨ga, 0, none⟩) np cr (rqV (upQ Q k { (Q k) with id := ((R (Q k).slot).gv + 1) * 64 + (Q k).slot, ss := 2 })) := by
    have tt := rq_store RW.out.q hk { (Q k) with id := ((R (Q k).slot).gv + 1) * 64 + (Q k).slot, ss := 2 }
    rw [ate] at tt
    rw [SE.out, HID.out, G.out, SL.out, PD.out]
    exact tt
  replace RW := Lib.hid (RW.out.reqs (Q' := upQ Q k { (Q k) with id := ((R (Q k).slot).gv + 1) * 64 + (Q k).slot, ss := 2 }) cS rowS)
  replace BX := Lib.hid (BX.out.kept cS (fun e => GB.out (by simpa [OwnS] using e)))
  replace CW := Lib.hid (CW.out.trans (cS.mono fun _ _ e => .inr (.inr e)))
  refine hK.out _ _ ⟨RW.out.r, BX.out.a, BX.out.se, BX.out.sl, BX.out.id, BX.out.pd⟩ (fun hHeld => ?_)
  clear hK K cS rowS q0 q1 q2 q3 q4 z0 z1 z2 z3 z4
  (try simp only [Act.put, List.setIfInBounds_toArray, List.set_cons_zero, List.set_cons_succ])
  refine wpAnyH_done (by kernel_rfl) ?_ _
  clear hHeld
  generalize ((((X.setCell ⟨ga, k * 5, none⟩ (.int .i64 4)).setCell ⟨ga, k * 5 + 1, none⟩ (.int .i64 (se : Nat))).setCell ⟨ga, k * 5 + 2, none⟩ (.int .i64 (sl : Nat))).setCell ⟨ga, k * 5 + 3, none⟩ (.int .u64 (id : Nat))).setCell ⟨ga, k * 5 + 4, none⟩ (.int .u64 (pd : Nat)) = Y at RW BX CW ⊢
  have b0 : Y.cell? ⟨B, 0, none⟩ = some (.int .i64 4) := BX.out.a
  go_wp2
  go_ret
  rw [← SL.out, ← PD.out, ← PER.out, ← V.out, XX.out, ← G.out]
  have F := RW.out
  exact ⟨rfl, by simpa only [SL.out, PD.out, G.out] using F, CW.out⟩
end Go.Proofs.Ytjhmmfdmoalfmaa
