/-
  Contracts of the document's Step (vergeref09), case by case.
-/
import Derived.Test.YtjhmmfdmoalfmaaSlabRef2
import Derived.Test.YtjhmmfdmoalfmaaHeld
import Derived.Deep.QuietTactic
import Derived.BigQuiet
import Derived.Deep.Cut
import Derived.Deep.CutRange
import Derived.Deep.CutBlock
import Derived.RegionTactic
import Derived.BigRegion
namespace Go.Proofs.Ytjhmmfdmoalfmaa
open Go.RowKit Verge
attribute [local go_sem] Oper.semAt_some
set_option linter.unusedVariables false
set_option linter.unusedSimpArgs false
set_option maxRecDepth 100000 in
set_option maxHeartbeats 0 in
theorem refStep_full0 {vb lb n cnt np : Nat} {R : Nat → Rec} {Q : Nat → Rq} {ar : Option Addr} {cr : Nat} {k : Nat} {w : World} (h : RfS w vb lb n cnt R np Q ar cr) (hk : k < np) (hat : atN (Q k) = 3) (hnp : np ≤ 1000)  :
    Calls Try.prog 13 #[.pointer (some ⟨vb, 0, none⟩), .int .i64 k] w fun e w' => e = .returned (.int .i64 1) ∧ RfS w' vb lb n cnt R np (upQ Q k (Q k)) ar cr ∧ Ch (VS vb lb ar) w w' := by
  have n0 := h.n0
  have n1 := h.n1
  obtain ⟨ga, hga, -⟩ := h.q.form (by omega)
  subst hga
  have lc := h.q.len_cap
  obtain ⟨q0, q1, q2, q3, q4⟩ := rq_cells h.q hk
  have hr0 := h.r
  rw [hat] at q0
  replace q0 : w.cell? ⟨ga, k * 5, none⟩ = some (.int .i64 3) := q0
  obtain ⟨se, hse⟩ : ∃ se, se = (Q k).seen := ⟨_, rfl⟩
  obtain ⟨sl, hsl⟩ : ∃ sl, sl = (Q k).slot := ⟨_, rfl⟩
  obtain ⟨idn, hidn⟩ : ∃ idn, idn = (Q k).id := ⟨_, rfl⟩
  obtain ⟨pd, hpd⟩ : ∃ pd, pd = (Q k).pd := ⟨_, rfl⟩
  rw [← hse] at q1
  rw [← hsl] at q2
  rw [← hidn] at q3
  rw [← hpd] at q4
  have SE := Lib.hid hse
  have SL := Lib.hid hsl
  have ID := Lib.hid hidn
  have PD := Lib.hid hpd
  have hkz : (k : Int) < (np : Int) := by omega
  have hkz0 : (0 : Int) ≤ (k : Int) := by omega
  have e0 : ((k : Int)).toNat = k := by omega
  have cA : Ch Nil w (w.alloc (.cells #[.int .i64 3, .int .i64 (se : Nat), .int .i64 (sl : Nat), .int .u64 (idn : Nat), .int .u64 (pd : Nat)] 41)) := (Ch.refl _ _).alloc _
  have RW := Lib.hid (h.quiet cA)
  have BX : Hid (IsB (w.alloc (.cells #[.int .i64 3, .int .i64 (se : Nat), .int .i64 (sl : Nat), .int .u64 (idn : Nat), .int .u64 (pd : Nat)] 41)) w.heap.size 3 se sl idn pd) := Lib.hid (isB_new w 3 se sl idn pd _)
  have CW : Hid (Ch (VS vb lb (some ⟨ga, 0, none⟩)) w (w.alloc (.cells #[.int .i64 3, .int .i64 (se : Nat), .int .i64 (sl : Nat), .int .u64 (idn : Nat), .int .u64 (pd : Nat)] 41))) := Lib.hid (Ch_any cA)
  have BV : Hid (¬ VS vb lb (some ⟨ga, 0, none⟩) w.heap.size) := Lib.hid (fun e => by have := h.lt e; omega)
  have hll := h.l
  clear h cA hse hsl hidn hpd
  go_enter Try.func13, Try.ntmps13
  go_upto_region 2 with (fail)
  clear q0 q1 q2 q3 q4 hr0 hll
  generalize w.alloc (.cells #[.int .i64 3, .int .i64 (se : Nat), .int .i64 (sl : Nat), .int .u64 (idn : Nat), .int .u64 (pd : Nat)] 41) = wa at RW BX CW ⊢
  have BLT : Hid (w.heap.size ≤ w.heap.size) := Lib.hid (Nat.le_refl _)
  obtain ⟨B, hB⟩ : ∃ B, B = w.heap.size := ⟨_, rfl⟩
  rw [← hB] at BX BV ⊢
  replace BLT : Hid (w.heap.size ≤ B) := Lib.hid (by omega)
  clear hB
  have VB : Hid (¬ B = vb) := Lib.hid (fun e => BV.out (.inl e))
  have LB : Hid (¬ B = lb) := Lib.hid (fun e => BV.out (.inr (.inl e)))
  have GB : Hid (¬ ga = B) := Lib.hid (fun e => BV.out (.inr (.inr (by rw [← e]; rfl))))
  have b0 : wa.cell? ⟨B, 0, none⟩ = some (.int .i64 3) := BX.out.a
  go_upto_region 22 with (fail)
  replace RW := Lib.hid (RW.out.quiet ((Ch.refl Nil wa).drew))
  replace BX := Lib.hid (BX.out.kept ((Ch.refl Nil wa).drew) (fun e => e))
  replace CW : Hid (Ch (VS vb lb (some ⟨ga, 0, none⟩)) w wa.drew) := Lib.hid CW.out.drew
  refine wp_region_held_drew (S := fun w' => w'.cell? ⟨vb, 2, none⟩ = some (.slice (some ⟨ga, 0, none⟩) np cr) ∧ w'.cell? ⟨B, 0, none⟩ = some (.int .i64 3) ∧ w'.cell? ⟨B, 1, none⟩ = some (.int .i64 (se : Nat)) ∧ w'.cell? ⟨B, 2, none⟩ = some (.int .i64 (sl : Nat)) ∧ w'.cell? ⟨B, 3, none⟩ = some (.int .u64 (idn : Nat)) ∧ w'.cell? ⟨B, 4, none⟩ = some (.int .u64 (pd : Nat))) (by kernel_rfl) ⟨RW.out.r, BX.out.a, BX.out.se, BX.out.sl, BX.out.id, BX.out.pd⟩ (fun hHeld => ?_)
  generalize wa.drew = X at RW BX CW hHeld ⊢
  refine take_at (v := ?_) 0 (some 131) rfl (by kernel_rfl) (by kernel_rfl) (by kernel_rfl) (by kernel_rfl) (fun _ _ _ h => h) (Or.inl ⟨by rfl, ?_⟩) (by assumption) ?_
  rotate_left
  · intro w hSw; (try dsimp only at hSw); go_simp; try (with_reducible rfl)
  (try simp only [Act.put, List.setIfInBounds_toArray, List.set_cons_zero, List.set_cons_succ])
  refine take_at (v := ?_) 1 (some 132) rfl (by kernel_rfl) (by kernel_rfl) (by kernel_rfl) (by kernel_rfl) (fun _ _ _ h => h) (Or.inl ⟨by rfl, ?_⟩) (by assumption) ?_
  rotate_left
  · intro w hSw; (try dsimp only at hSw); go_simp; try (with_reducible rfl)
  (try simp only [Act.put, List.setIfInBounds_toArray, List.set_cons_zero, List.set_cons_succ])
  refine take_at (v := ?_) 2 (some 133) rfl (by kernel_rfl) (by kernel_rfl) (by kernel_rfl) (by kernel_rfl) (fun _ _ _ h => h) (Or.inl ⟨by rfl, ?_⟩) (by assumption) ?_
  rotate_left
  · intro w hSw; (try dsimp only at hSw); go_simp; try (with_reducible rfl)
  (try simp only [Act.put, List.setIfInBounds_toArray, List.set_cons_zero, List.set_cons_succ])
  refine take_at (v := ?_) 3 (some 134) rfl (by kernel_rfl) (by kernel_rfl) (by kernel_rfl) (by kernel_rfl) (fun _ _ _ h => h) (Or.inl ⟨by rfl, ?_⟩) (by assumption) ?_
  rotate_left
  · intro w hSw; (try dsimp only at hSw); go_simp; try (with_reducible rfl)
  (try simp only [Act.put, List.setIfInBounds_toArray, List.set_cons_zero, List.set_cons_succ])
  refine take_at (v := ?_) 4 (some 135) rfl (by kernel_rfl) (by kernel_rfl) (by kernel_rfl) (by kernel_rfl) (fun _ _ _ h => h) (Or.inl ⟨by rfl, ?_⟩) (by assumption) ?_
  rotate_left
  · intro w hSw; (try dsimp only at hSw); go_simp; try (with_reducible rfl)
  (try simp only [Act.put, List.setIfInBounds_toArray, List.set_cons_zero, List.set_cons_succ])
  refine take_at (v := ?_) 5 (some 136) rfl (by kernel_rfl) (by kernel_rfl) (by kernel_rfl) (by kernel_rfl) (fun _ _ _ h => h) (Or.inl ⟨by rfl, ?_⟩) (by assumption) ?_
  rotate_left
  · intro w hSw; (try dsimp only at hSw); go_simp; try (with_reducible rfl)
  (try simp only [Act.put, List.setIfInBounds_toArray, List.set_cons_zero, List.set_cons_succ])
  refine take_at (v := ?_) 6 (some 137) rfl (by kernel_rfl) (by kernel_rfl) (by kernel_rfl) (by kernel_rfl) (fun _ _ _ h => h) (Or.inl ⟨by rfl, ?_⟩) (by assumption) ?_
  rotate_left
  · intro w hSw; (try dsimp only at hSw); go_simp; try (with_reducible rfl)
  (try simp only [Act.put, List.setIfInBounds_toArray, List.set_cons_zero, List.set_cons_succ])
  obtain ⟨q0, q1, q2, q3, q4⟩ := rq_cells RW.out.q hk
  have z0 := RW.out.q.frozen (k * 5)
  have z1 := RW.out.q.frozen (k * 5 + 1)
  have z2 := RW.out.q.frozen (k * 5 + 2)
  have z3 := RW.out.q.frozen (k * 5 + 3)
  have z4 := RW.out.q.frozen (k * 5 + 4)
  refine wpAnyH_ready (rs := [7]) (by kernel_rfl) (by simp) ?_
  refine AllReadyH.cons rfl (fun K hK => ?_) AllReadyH.nil
  go_simp
  have cS : Ch (OwnS (some ⟨ga, 0, none⟩)) X (((((X.setCell ⟨ga, k * 5, none⟩ (.int .i64 3)).setCell ⟨ga, k * 5 + 1, none⟩ (.int .i64 (se : Nat))).setCell ⟨ga, k * 5 + 2, none⟩ (.int .i64 (sl : Nat))).setCell ⟨ga, k * 5 + 3, none⟩ (.int .u64 (idn : Nat))).setCell ⟨ga, k * 5 + 4, none⟩ (.int .u64 (pd : Nat))) :=
    ((((((Ch.refl (OwnS (some ⟨ga, 0, none⟩)) X).set (p := ⟨ga, k * 5, none⟩) (fun _ => rfl) _).set (p := ⟨ga, k * 5 + 1, none⟩) (fun _ => rfl) _).set (p := ⟨ga, k * 5 + 2, none⟩) (fun _ => rfl) _).set (p := ⟨ga, k * 5 + 3, none⟩) (fun _ => rfl) _).set (p := ⟨ga, k * 5 + 4, none⟩) (fun _ => rfl) _)
  have rowS := rq_store RW.out.q hk (Q k)
  rw [hat, ← SE.out, ← SL.out, ← ID.out, ← PD.out] at rowS
  replace RW := Lib.hid (RW.out.reqs (Q' := upQ Q k (Q k)) cS rowS)
  replace BX := Lib.hid (BX.out.kept cS (fun e => GB.out (by simpa [OwnS] using e)))
  replace CW := Lib.hid (CW.out.trans (cS.mono fun _ _ e => .inr (.inr e)))
  refine hK.out _ _ ⟨RW.out.r, BX.out.a, BX.out.se, BX.out.sl, BX.out.id, BX.out.pd⟩ (fun hHeld => ?_)
  clear hK K cS rowS q0 q1 q2 q3 q4 z0 z1 z2 z3 z4
  (try simp only [Act.put, List.setIfInBounds_toArray, List.set_cons_zero, List.set_cons_succ])
  refine wpAnyH_done (by kernel_rfl) ?_ _
  clear hHeld
  generalize ((((X.setCell ⟨ga, k * 5, none⟩ (.int .i64 3)).setCell ⟨ga, k * 5 + 1, none⟩ (.int .i64 (se : Nat))).setCell ⟨ga, k * 5 + 2, none⟩ (.int .i64 (sl : Nat))).setCell ⟨ga, k * 5 + 3, none⟩ (.int .u64 (idn : Nat))).setCell ⟨ga, k * 5 + 4, none⟩ (.int .u64 (pd : Nat)) = Y at RW BX CW ⊢
  have b0 : Y.cell? ⟨B, 0, none⟩ = some (.int .i64 3) := BX.out.a
  go_wp2
  go_ret
  exact ⟨rfl, RW.out, CW.out⟩
set_option maxRecDepth 100000 in
set_option maxHeartbeats 0 in
theorem refStep_held0 {vb lb n cnt np : Nat} {R : Nat → Rec} {Q : Nat → Rq} {ar : Option Addr} {cr : Nat} {k : Nat} {w : World} (h : RfS w vb lb n cnt R np Q ar cr) (hk : k < np) (hat : atN (Q k) = 4) (hnp : np ≤ 1000)  :
    Calls Try.prog 13 #[.pointer (some ⟨vb, 0, none⟩), .int .i64 k] w fun e w' => e = .returned (.int .i64 2) ∧ RfS w' vb lb n cnt R np (upQ Q k (Q k)) ar cr ∧ Ch (VS vb lb ar) w w' := by
  have n0 := h.n0
  have n1 := h.n1
  obtain ⟨ga, hga, -⟩ := h.q.form (by omega)
  subst hga
  have lc := h.q.len_cap
  obtain ⟨q0, q1, q2, q3, q4⟩ := rq_cells h.q hk
  have hr0 := h.r
  rw [hat] at q0
  replace q0 : w.cell? ⟨ga, k * 5, none⟩ = some (.int .i64 4) := q0
  obtain ⟨se, hse⟩ : ∃ se, se = (Q k).seen := ⟨_, rfl⟩
  obtain ⟨sl, hsl⟩ : ∃ sl, sl = (Q k).slot := ⟨_, rfl⟩
  obtain ⟨idn, hidn⟩ : ∃ idn, idn = (Q k).id := ⟨_, rfl⟩
  obtain ⟨pd, hpd⟩ : ∃ pd, pd = (Q k).pd := ⟨_, rfl⟩
  rw [← hse] at q1
  rw [← hsl] at q2
  rw [← hidn] at q3
  rw [← hpd] at q4
  have SE := Lib.hid hse
  have SL := Lib.hid hsl
  have ID := Lib.hid hidn
  have PD := Lib.hid hpd
  have hkz : (k : Int) < (np : Int) := by omega
  have hkz0 : (0 : Int) ≤ (k : Int) := by omega
  have e0 : ((k : Int)).toNat = k := by omega
  have cA : Ch Nil w (w.alloc (.cells #[.int .i64 4, .int .i64 (se : Nat), .int .i64 (sl : Nat), .int .u64 (idn : Nat), .int .u64 (pd : Nat)] 41)) := (Ch.refl _ _).alloc _
  have RW := Lib.hid (h.quiet cA)
  have BX : Hid (IsB (w.alloc (.cells #[.int .i64 4, .int .i64 (se : Nat), .int .i64 (sl : Nat), .int .u64 (idn : Nat), .int .u64 (pd : Nat)] 41)) w.heap.size 4 se sl idn pd) := Lib.hid (isB_new w 4 se sl idn pd _)
  have CW : Hid (Ch (VS vb lb (some ⟨ga, 0, none⟩)) w (w.alloc (.cells #[.int .i64 4, .int .i64 (se : Nat), .int .i64 (sl : Nat), .int .u64 (idn : Nat), .int .u64 (pd : Nat)] 41))) := Lib.hid (Ch_any cA)
  have BV : Hid (¬ VS vb lb (some ⟨ga, 0, none⟩) w.heap.size) := Lib.hid (fun e => by have := h.lt e; omega)
  have hll := h.l
  clear h cA hse hsl hidn hpd
  go_enter Try.func13, Try.ntmps13
  go_upto_region 2 with (fail)
  clear q0 q1 q2 q3 q4 hr0 hll
  generalize w.alloc (.cells #[.int .i64 4, .int .i64 (se : Nat), .int .i64 (sl : Nat), .int .u64 (idn : Nat), .int .u64 (pd : Nat)] 41) = wa at RW BX CW ⊢
  have BLT : Hid (w.heap.size ≤ w.heap.size) := Lib.hid (Nat.le_refl _)
  obtain ⟨B, hB⟩ : ∃ B, B = w.heap.size := ⟨_, rfl⟩
  rw [← hB] at BX BV ⊢
  replace BLT : Hid (w.heap.size ≤ B) := Lib.hid (by omega)
  clear hB
  have VB : Hid (¬ B = vb) := Lib.hid (fun e => BV.out (.inl e))
  have LB : Hid (¬ B = lb) := Lib.hid (fun e => BV.out (.inr (.inl e)))
  have GB : Hid (¬ ga = B) := Lib.hid (fun e => BV.out (.inr (.inr (by rw [← e]; rfl))))
  have b0 : wa.cell? ⟨B, 0, none⟩ = some (.int .i64 4) := BX.out.a
  go_upto_region 22 with (fail)
  replace RW := Lib.hid (RW.out.quiet ((Ch.refl Nil wa).drew))
  replace BX := Lib.hid (BX.out.kept ((Ch.refl Nil wa).drew) (fun e => e))
  replace CW : Hid (Ch (VS vb lb (some ⟨ga, 0, none⟩)) w wa.drew) := Lib.hid CW.out.drew
  refine wp_region_held_drew (S := fun w' => w'.cell? ⟨vb, 2, none⟩ = some (.slice (some ⟨ga, 0, none⟩) np cr) ∧ w'.cell? ⟨B, 0, none⟩ = some (.int .i64 4) ∧ w'.cell? ⟨B, 1, none⟩ = some (.int .i64 (se : Nat)) ∧ w'.cell? ⟨B, 2, none⟩ = some (.int .i64 (sl : Nat)) ∧ w'.cell? ⟨B, 3, none⟩ = some (.int .u64 (idn : Nat)) ∧ w'.cell? ⟨B, 4, none⟩ = some (.int .u64 (pd : Nat))) (by kernel_rfl) ⟨RW.out.r, BX.out.a, BX.out.se, BX.out.sl, BX.out.id, BX.out.pd⟩ (fun hHeld => ?_)
  generalize wa.drew = X at RW BX CW hHeld ⊢
  refine take_at (v := ?_) 0 (some 131) rfl (by kernel_rfl) (by kernel_rfl) (by kernel_rfl) (by kernel_rfl) (fun _ _ _ h => h) (Or.inl ⟨by rfl, ?_⟩) (by assumption) ?_
  rotate_left
  · intro w hSw; (try dsimp only at hSw); go_simp; try (with_reducible rfl)
  (try simp only [Act.put, List.setIfInBounds_toArray, List.set_cons_zero, List.set_cons_succ])
  refine take_at (v := ?_) 1 (some 132) rfl (by kernel_rfl) (by kernel_rfl) (by kernel_rfl) (by kernel_rfl) (fun _ _ _ h => h) (Or.inl ⟨by rfl, ?_⟩) (by assumption) ?_
  rotate_left
  · intro w hSw; (try dsimp only at hSw); go_simp; try (with_reducible rfl)
  (try simp only [Act.put, List.setIfInBounds_toArray, List.set_cons_zero, List.set_cons_succ])
  refine take_at (v := ?_) 2 (some 133) rfl (by kernel_rfl) (by kernel_rfl) (by kernel_rfl) (by kernel_rfl) (fun _ _ _ h => h) (Or.inl ⟨by rfl, ?_⟩) (by assumption) ?_
  rotate_left
  · intro w hSw; (try dsimp only at hSw); go_simp; try (with_reducible rfl)
  (try simp only [Act.put, List.setIfInBounds_toArray, List.set_cons_zero, List.set_cons_succ])
  refine take_at (v := ?_) 3 (some 134) rfl (by kernel_rfl) (by kernel_rfl) (by kernel_rfl) (by kernel_rfl) (fun _ _ _ h => h) (Or.inl ⟨by rfl, ?_⟩) (by assumption) ?_
  rotate_left
  · intro w hSw; (try dsimp only at hSw); go_simp; try (with_reducible rfl)
  (try simp only [Act.put, List.setIfInBounds_toArray, List.set_cons_zero, List.set_cons_succ])
  refine take_at (v := ?_) 4 (some 135) rfl (by kernel_rfl) (by kernel_rfl) (by kernel_rfl) (by kernel_rfl) (fun _ _ _ h => h) (Or.inl ⟨by rfl, ?_⟩) (by assumption) ?_
  rotate_left
  · intro w hSw; (try dsimp only at hSw); go_simp; try (with_reducible rfl)
  (try simp only [Act.put, List.setIfInBounds_toArray, List.set_cons_zero, List.set_cons_succ])
  refine take_at (v := ?_) 5 (some 136) rfl (by kernel_rfl) (by kernel_rfl) (by kernel_rfl) (by kernel_rfl) (fun _ _ _ h => h) (Or.inl ⟨by rfl, ?_⟩) (by assumption) ?_
  rotate_left
  · intro w hSw; (try dsimp only at hSw); go_simp; try (with_reducible rfl)
  (try simp only [Act.put, List.setIfInBounds_toArray, List.set_cons_zero, List.set_cons_succ])
  refine take_at (v := ?_) 6 (some 137) rfl (by kernel_rfl) (by kernel_rfl) (by kernel_rfl) (by kernel_rfl) (fun _ _ _ h => h) (Or.inl ⟨by rfl, ?_⟩) (by assumption) ?_
  rotate_left
  · intro w hSw; (try dsimp only at hSw); go_simp; try (with_reducible rfl)
  (try simp only [Act.put, List.setIfInBounds_toArray, List.set_cons_zero, List.set_cons_succ])
  obtain ⟨q0, q1, q2, q3, q4⟩ := rq_cells RW.out.q hk
  have z0 := RW.out.q.frozen (k * 5)
  have z1 := RW.out.q.frozen (k * 5 + 1)
  have z2 := RW.out.q.frozen (k * 5 + 2)
  have z3 := RW.out.q.frozen (k * 5 + 3)
  have z4 := RW.out.q.frozen (k * 5 + 4)
  refine wpAnyH_ready (rs := [7]) (by kernel_rfl) (by simp) ?_
  refine AllReadyH.cons rfl (fun K hK => ?_) AllReadyH.nil
  go_simp
  have cS : Ch (OwnS (some ⟨ga, 0, none⟩)) X (((((X.setCell ⟨ga, k * 5, none⟩ (.int .i64 4)).setCell ⟨ga, k * 5 + 1, none⟩ (.int .i64 (se : Nat))).setCell ⟨ga, k * 5 + 2, none⟩ (.int .i64 (sl : Nat))).setCell ⟨ga, k * 5 + 3, none⟩ (.int .u64 (idn : Nat))).setCell ⟨ga, k * 5 + 4, none⟩ (.int .u64 (pd : Nat))) :=
    ((((((Ch.refl (OwnS (some ⟨ga, 0, none⟩)) X).set (p := ⟨ga, k * 5, none⟩) (fun _ => rfl) _).set (p := ⟨ga, k * 5 + 1, none⟩) (fun _ => rfl) _).set (p := ⟨ga, k * 5 + 2, none⟩) (fun _ => rfl) _).set (p := ⟨ga, k * 5 + 3, none⟩) (fun _ => rfl) _).set (p := ⟨ga, k * 5 + 4, none⟩) (fun _ => rfl) _)
  have rowS := rq_store RW.out.q hk (Q k)
  rw [hat, ← SE.out, ← SL.out, ← ID.out, ← PD.out] at rowS
  replace RW := Lib.hid (RW.out.reqs (Q' := upQ Q k (Q k)) cS rowS)
  replace BX := Lib.hid (BX.out.kept cS (fun e => GB.out (by simpa [OwnS] using e)))
  replace CW := Lib.hid (CW.out.trans (cS.mono fun _ _ e => .inr (.inr e)))
  refine hK.out _ _ ⟨RW.out.r, BX.out.a, BX.out.se, BX.out.sl, BX.out.id, BX.out.pd⟩ (fun hHeld => ?_)
  clear hK K cS rowS q0 q1 q2 q3 q4 z0 z1 z2 z3 z4
  (try simp only [Act.put, List.setIfInBounds_toArray, List.set_cons_zero, List.set_cons_succ])
  refine wpAnyH_done (by kernel_rfl) ?_ _
  clear hHeld
  generalize ((((X.setCell ⟨ga, k * 5, none⟩ (.int .i64 4)).setCell ⟨ga, k * 5 + 1, none⟩ (.int .i64 (se : Nat))).setCell ⟨ga, k * 5 + 2, none⟩ (.int .i64 (sl : Nat))).setCell ⟨ga, k * 5 + 3, none⟩ (.int .u64 (idn : Nat))).setCell ⟨ga, k * 5 + 4, none⟩ (.int .u64 (pd : Nat)) = Y at RW BX CW ⊢
  have b0 : Y.cell? ⟨B, 0, none⟩ = some (.int .i64 4) := BX.out.a
  go_wp2
  go_ret
  exact ⟨rfl, RW.out, CW.out⟩
set_option maxRecDepth 100000 in
set_option maxHeartbeats 0 in
theorem refStep_full {vb lb n cnt np : Nat} {R : Nat → Rec} {Q : Nat → Rq} {ar : Option Addr} {cr : Nat} {k : Nat} {w : World} (h : RfS w vb lb n cnt R np Q ar cr) (hk : k < np) (hat : atN (Q k) = 0) (hnp : np ≤ 1000) (h0 : (Q k).ss = 0) (hc : cnt = n) :
    Calls Try.prog 13 #[.pointer (some ⟨vb, 0, none⟩), .int .i64 k] w fun e w' => e = .returned (.int .i64 1) ∧ RfS w' vb lb n cnt R np (upQ Q k { (Q k) with seen := cnt, ss := 1 }) ar cr ∧ Ch (VS vb lb ar) w w' := by
  have n0 := h.n0
  have n1 := h.n1
  obtain ⟨ga, hga, -⟩ := h.q.form (by omega)
  subst hga
  have lc := h.q.len_cap
  obtain ⟨q0, q1, q2, q3, q4⟩ := rq_cells h.q hk
  have hr0 := h.r
  rw [hat] at q0
  replace q0 : w.cell? ⟨ga, k * 5, none⟩ = some (.int .i64 0) := q0
  obtain ⟨se, hse⟩ : ∃ se, se = (Q k).seen := ⟨_, rfl⟩
  obtain ⟨sl, hsl⟩ : ∃ sl, sl = (Q k).slot := ⟨_, rfl⟩
  obtain ⟨idn, hidn⟩ : ∃ idn, idn = (Q k).id := ⟨_, rfl⟩
  obtain ⟨pd, hpd⟩ : ∃ pd, pd = (Q k).pd := ⟨_, rfl⟩
  rw [← hse] at q1
  rw [← hsl] at q2
  rw [← hidn] at q3
  rw [← hpd] at q4
  have SE := Lib.hid hse
  have SL := Lib.hid hsl
  have ID := Lib.hid hidn
  have PD := Lib.hid hpd
  have H0 := Lib.hid h0
  have HC := Lib.hid hc
  clear h0 hc
  have hkz : (k : Int) < (np : Int) := by omega
  have hkz0 : (0 : Int) ≤ (k : Int) := by omega
  have e0 : ((k : Int)).toNat = k := by omega
  have cA : Ch Nil w (w.alloc (.cells #[.int .i64 0, .int .i64 (se : Nat), .int .i64 (sl : Nat), .int .u64 (idn : Nat), .int .u64 (pd : Nat)] 41)) := (Ch.refl _ _).alloc _
  have RW := Lib.hid (h.quiet cA)
  have BX : Hid (IsB (w.alloc (.cells #[.int .i64 0, .int .i64 (se : Nat), .int .i64 (sl : Nat), .int .u64 (idn : Nat), .int .u64 (pd : Nat)] 41)) w.heap.size 0 se sl idn pd) := Lib.hid (isB_new w 0 se sl idn pd _)
  have CW : Hid (Ch (VS vb lb (some ⟨ga, 0, none⟩)) w (w.alloc (.cells #[.int .i64 0, .int .i64 (se : Nat), .int .i64 (sl : Nat), .int .u64 (idn : Nat), .int .u64 (pd : Nat)] 41))) := Lib.hid (Ch_any cA)
  have BV : Hid (¬ VS vb lb (some ⟨ga, 0, none⟩) w.heap.size) := Lib.hid (fun e => by have := h.lt e; omega)
  have hll := h.l
  clear h cA hse hsl hidn hpd
  go_enter Try.func13, Try.ntmps13
  go_upto_region 2 with (fail)
  clear q0 q1 q2 q3 q4 hr0 hll
  generalize w.alloc (.cells #[.int .i64 0, .int .i64 (se : Nat), .int .i64 (sl : Nat), .int .u64 (idn : Nat), .int .u64 (pd : Nat)] 41) = wa at RW BX CW ⊢
  have BLT : Hid (w.heap.size ≤ w.heap.size) := Lib.hid (Nat.le_refl _)
  obtain ⟨B, hB⟩ : ∃ B, B = w.heap.size := ⟨_, rfl⟩
  rw [← hB] at BX BV ⊢
  replace BLT : Hid (w.heap.size ≤ B) := Lib.hid (by omega)
  clear hB
  have VB : Hid (¬ B = vb) := Lib.hid (fun e => BV.out (.inl e))
  have LB : Hid (¬ B = lb) := Lib.hid (fun e => BV.out (.inr (.inl e)))
  have GB : Hid (¬ ga = B) := Lib.hid (fun e => BV.out (.inr (.inr (by rw [← e]; rfl))))
  have b0 : wa.cell? ⟨B, 0, none⟩ = some (.int .i64 0) := BX.out.a
  have b1 := BX.out.se
  have f0 := BX.out.fa
  have f1 := BX.out.fse
  have c1 := RW.out.c
  have bx1 := (BX.out.setSe cnt).setA 1
  have cs : Ch (One B) wa ((wa.setCell ⟨B, 1, none⟩ (.int .i64 (cnt : Nat))).setCell ⟨B, 0, none⟩ (.int .i64 1)) := ((Ch.refl _ _).setB _ _).setB _ _
  replace RW := Lib.hid (RW.out.kept cs (fun k hk e => BV.out (by rw [← e]; exact hk)))
  replace CW : Hid (Ch (VS vb lb (some ⟨ga, 0, none⟩)) w ((wa.setCell ⟨B, 1, none⟩ (.int .i64 (cnt : Nat))).setCell ⟨B, 0, none⟩ (.int .i64 1))) := Lib.hid (CW.out.then cs (fun i hi e => by have := BLT.out; change i = _ at e; omega))
  replace BX : Hid (IsB ((wa.setCell ⟨B, 1, none⟩ (.int .i64 (cnt : Nat))).setCell ⟨B, 0, none⟩ (.int .i64 1)) B 1 cnt sl idn pd) := Lib.hid bx1
  clear bx1 cs
  go_upto_region 6 with (fail)
  clear b0 b1 f0 f1 c1
  generalize (wa.setCell ⟨B, 1, none⟩ (.int .i64 (cnt : Nat))).setCell ⟨B, 0, none⟩ (.int .i64 1) = wb at RW BX CW ⊢
  have c0 := RW.out.l
  have c1 := RW.out.c
  have b0 : wb.cell? ⟨B, 0, none⟩ = some (.int .i64 1) := BX.out.a
  have f0 := BX.out.fa
  have hz : (n : Int) ≤ (cnt : Int) := by have := HC.out; omega
  go_quiet (fail)
  have cs : Ch Nil wb (wb.drewN nq) := (Ch.refl _ _).drewN nq
  replace RW := Lib.hid (RW.out.quiet cs)
  replace BX := Lib.hid (BX.out.kept cs (fun e => e))
  replace CW : Hid (Ch (VS vb lb (some ⟨ga, 0, none⟩)) w (wb.drewN nq)) := Lib.hid (CW.out.drewN nq)
  have b0 : (wb.drewN nq).cell? ⟨B, 0, none⟩ = some (.int .i64 1) := b0
  have f0 : (wb.drewN nq).frozen? ⟨B, 0, none⟩ = false := f0
  clear cs c0 c1
  generalize wb.drewN nq = wc at RW BX CW b0 f0 ⊢
  have bx1 := BX.out.setA 3
  have cs : Ch (One B) wc (wc.setCell ⟨B, 0, none⟩ (.int .i64 3)) := (Ch.refl _ _).setB _ _
  replace RW := Lib.hid (RW.out.kept cs (fun k hk e => BV.out (by rw [← e]; exact hk)))
  replace CW : Hid (Ch (VS vb lb (some ⟨ga, 0, none⟩)) w (wc.setCell ⟨B, 0, none⟩ (.int .i64 3))) := Lib.hid (CW.out.then cs (fun i hi e => by have := BLT.out; change i = _ at e; omega))
  replace BX : Hid (IsB (wc.setCell ⟨B, 0, none⟩ (.int .i64 3)) B 3 cnt sl idn pd) := Lib.hid bx1
  clear bx1 cs
  go_upto_region 22 with (fail)
  clear b0 f0
  generalize wc.setCell ⟨B, 0, none⟩ (.int .i64 3) = wd at RW BX CW ⊢
  go_upto_region 22 with (fail)
  replace RW := Lib.hid (RW.out.quiet ((Ch.refl Nil wd).drew))
  replace BX := Lib.hid (BX.out.kept ((Ch.refl Nil wd).drew) (fun e => e))
  replace CW : Hid (Ch (VS vb lb (some ⟨ga, 0, none⟩)) w wd.drew) := Lib.hid CW.out.drew
  refine wp_region_held_drew (S := fun w' => w'.cell? ⟨vb, 2, none⟩ = some (.slice (some ⟨ga, 0, none⟩) np cr) ∧ w'.cell? ⟨B, 0, none⟩ = some (.int .i64 3) ∧ w'.cell? ⟨B, 1, none⟩ = some (.int .i64 (cnt : Nat)) ∧ w'.cell? ⟨B, 2, none⟩ = some (.int .i64 (sl : Nat)) ∧ w'.cell? ⟨B, 3, none⟩ = some (.int .u64 (idn : Nat)) ∧ w'.cell? ⟨B, 4, none⟩ = some (.int .u64 (pd : Nat))) (by kernel_rfl) ⟨RW.out.r, BX.out.a, BX.out.se, BX.out.sl, BX.out.id, BX.out.pd⟩ (fun hHeld => ?_)
  generalize wd.drew = X at RW BX CW hHeld ⊢
  refine take_at (v := ?_) 0 (some 131) rfl (by kernel_rfl) (by kernel_rfl) (by kernel_rfl) (by kernel_rfl) (fun _ _ _ h => h) (Or.inl ⟨by rfl, ?_⟩) (by assumption) ?_
  rotate_left
  · intro w hSw; (try dsimp only at hSw); go_simp; try (with_reducible rfl)
  (try simp only [Act.put, List.setIfInBounds_toArray, List.set_cons_zero, List.set_cons_succ])
  refine take_at (v := ?_) 1 (some 132) rfl (by kernel_rfl) (by kernel_rfl) (by kernel_rfl) (by kernel_rfl) (fun _ _ _ h => h) (Or.inl ⟨by rfl, ?_⟩) (by assumption) ?_
  rotate_left
  · intro w hSw; (try dsimp only at hSw); go_simp; try (with_reducible rfl)
  (try simp only [Act.put, List.setIfInBounds_toArray, List.set_cons_zero, List.set_cons_succ])
  refine take_at (v := ?_) 2 (some 133) rfl (by kernel_rfl) (by kernel_rfl) (by kernel_rfl) (by kernel_rfl) (fun _ _ _ h => h) (Or.inl ⟨by rfl, ?_⟩) (by assumption) ?_
  rotate_left
  · intro w hSw; (try dsimp only at hSw); go_simp; try (with_reducible rfl)
  (try simp only [Act.put, List.setIfInBounds_toArray, List.set_cons_zero, List.set_cons_succ])
  refine take_at (v := ?_) 3 (some 134) rfl (by kernel_rfl) (by kernel_rfl) (by kernel_rfl) (by kernel_rfl) (fun _ _ _ h => h) (Or.inl ⟨by rfl, ?_⟩) (by assumption) ?_
  rotate_left
  · intro w hSw; (try dsimp only at hSw); go_simp; try (with_reducible rfl)
  (try simp only [Act.put, List.setIfInBounds_toArray, List.set_cons_zero, List.set_cons_succ])
  refine take_at (v := ?_) 4 (some 135) rfl (by kernel_rfl) (by kernel_rfl) (by kernel_rfl) (by kernel_rfl) (fun _ _ _ h => h) (Or.inl ⟨by rfl, ?_⟩) (by assumption) ?_
  rotate_left
  · intro w hSw; (try dsimp only at hSw); go_simp; try (with_reducible rfl)
  (try simp only [Act.put, List.setIfInBounds_toArray, List.set_cons_zero, List.set_cons_succ])
  refine take_at (v := ?_) 5 (some 136) rfl (by kernel_rfl) (by kernel_rfl) (by kernel_rfl) (by kernel_rfl) (fun _ _ _ h => h) (Or.inl ⟨by rfl, ?_⟩) (by assumption) ?_
  rotate_left
  · intro w hSw; (try dsimp only at hSw); go_simp; try (with_reducible rfl)
  (try simp only [Act.put, List.setIfInBounds_toArray, List.set_cons_zero, List.set_cons_succ])
  refine take_at (v := ?_) 6 (some 137) rfl (by kernel_rfl) (by kernel_rfl) (by kernel_rfl) (by kernel_rfl) (fun _ _ _ h => h) (Or.inl ⟨by rfl, ?_⟩) (by assumption) ?_
  rotate_left
  · intro w hSw; (try dsimp only at hSw); go_simp; try (with_reducible rfl)
  (try simp only [Act.put, List.setIfInBounds_toArray, List.set_cons_zero, List.set_cons_succ])
  obtain ⟨q0, q1, q2, q3, q4⟩ := rq_cells RW.out.q hk
  have z0 := RW.out.q.frozen (k * 5)
  have z1 := RW.out.q.frozen (k * 5 + 1)
  have z2 := RW.out.q.frozen (k * 5 + 2)
  have z3 := RW.out.q.frozen (k * 5 + 3)
  have z4 := RW.out.q.frozen (k * 5 + 4)
  refine wpAnyH_ready (rs := [7]) (by kernel_rfl) (by simp) ?_
  refine AllReadyH.cons rfl (fun K hK => ?_) AllReadyH.nil
  go_simp
  have cS : Ch (OwnS (some ⟨ga, 0, none⟩)) X (((((X.setCell ⟨ga, k * 5, none⟩ (.int .i64 3)).setCell ⟨ga, k * 5 + 1, none⟩ (.int .i64 (cnt : Nat))).setCell ⟨ga, k * 5 + 2, none⟩ (.int .i64 (sl : Nat))).setCell ⟨ga, k * 5 + 3, none⟩ (.int .u64 (idn : Nat))).setCell ⟨ga, k * 5 + 4, none⟩ (.int .u64 (pd : Nat))) :=
    ((((((Ch.refl (OwnS (some ⟨ga, 0, none⟩)) X).set (p := ⟨ga, k * 5, none⟩) (fun _ => rfl) _).set (p := ⟨ga, k * 5 + 1, none⟩) (fun _ => rfl) _).set (p := ⟨ga, k * 5 + 2, none⟩) (fun _ => rfl) _).set (p := ⟨ga, k * 5 + 3, none⟩) (fun _ => rfl) _).set (p := ⟨ga, k * 5 + 4, none⟩) (fun _ => rfl) _)
  have ate : atN { (Q k) with seen := cnt, ss := 1 } = 3 := by simp [atN]
  have rowS : Row (((((X.setCell ⟨ga, k * 5, none⟩ (.int .i64 3)).setCell ⟨ga, k * 5 + 1, none⟩ (.int .i64 (cnt : Nat))).setCell ⟨ga, k * 5 + 2, none⟩ (.int .i64 (sl : Nat))).setCell ⟨ga, k * 5 + 3, none⟩ (.int .u64 (idn : Nat))).setCell ⟨ga, k * 5 + 4, none⟩ (.int .u64 (pd : Nat))) 41 5 (some ⟨ga, 0, none⟩) np cr (rqV (upQ Q k { (Q k) with seen := cnt, ss := 1 })) := by
    have tt := rq_store RW.out.q hk { (Q k) with seen := cnt, ss := 1 }
    rw [ate] at tt
    rw [SL.out, ID.out, PD.out]
    exact tt
  replace RW := Lib.hid (RW.out.reqs (Q' := upQ Q k { (Q k) with seen := cnt, ss := 1 }) cS rowS)
  replace BX := Lib.hid (BX.out.kept cS (fun e => GB.out (by simpa [OwnS] using e)))
  replace CW := Lib.hid (CW.out.trans (cS.mono fun _ _ e => .inr (.inr e)))
  refine hK.out _ _ ⟨RW.out.r, BX.out.a, BX.out.se, BX.out.sl, BX.out.id, BX.out.pd⟩ (fun hHeld => ?_)
  clear hK K cS rowS q0 q1 q2 q3 q4 z0 z1 z2 z3 z4
  (try simp only [Act.put, List.setIfInBounds_toArray, List.set_cons_zero, List.set_cons_succ])
  refine wpAnyH_done (by kernel_rfl) ?_ _
  clear hHeld
  generalize ((((X.setCell ⟨ga, k * 5, none⟩ (.int .i64 3)).setCell ⟨ga, k * 5 + 1, none⟩ (.int .i64 (cnt : Nat))).setCell ⟨ga, k * 5 + 2, none⟩ (.int .i64 (sl : Nat))).setCell ⟨ga, k * 5 + 3, none⟩ (.int .u64 (idn : Nat))).setCell ⟨ga, k * 5 + 4, none⟩ (.int .u64 (pd : Nat)) = Y at RW BX CW ⊢
  have b0 : Y.cell? ⟨B, 0, none⟩ = some (.int .i64 3) := BX.out.a
  go_wp2
  go_ret
  exact ⟨rfl, RW.out, CW.out⟩
set_option maxRecDepth 100000 in
set_option maxHeartbeats 0 in
theorem refStep_look {vb lb n cnt np : Nat} {R : Nat → Rec} {Q : Nat → Rq} {ar : Option Addr} {cr : Nat} {k : Nat} {w : World} (h : RfS w vb lb n cnt R np Q ar cr) (hk : k < np) (hat : atN (Q k) = 0) (hnp : np ≤ 1000) (h0 : (Q k).ss = 0) (hc : cnt < n) :
    Calls Try.prog 13 #[.pointer (some ⟨vb, 0, none⟩), .int .i64 k] w fun e w' => e = .returned (.int .i64 0) ∧ RfS w' vb lb n cnt R np (upQ Q k { (Q k) with seen := cnt, st := 1 }) ar cr ∧ Ch (VS vb lb ar) w w' := by
  have n0 := h.n0
  have n1 := h.n1
  obtain ⟨ga, hga, -⟩ := h.q.form (by omega)
  subst hga
  have lc := h.q.len_cap
  obtain ⟨q0, q1, q2, q3, q4⟩ := rq_cells h.q hk
  have hr0 := h.r
  rw [hat] at q0
  replace q0 : w.cell? ⟨ga, k * 5, none⟩ = some (.int .i64 0) := q0
  obtain ⟨se, hse⟩ : ∃ se, se = (Q k).seen := ⟨_, rfl⟩
  obtain ⟨sl, hsl⟩ : ∃ sl, sl = (Q k).slot := ⟨_, rfl⟩
  obtain ⟨idn, hidn⟩ : ∃ idn, idn = (Q k).id := ⟨_, rfl⟩
  obtain ⟨pd, hpd⟩ : ∃ pd, pd = (Q k).pd := ⟨_, rfl⟩
  rw [← hse] at q1
  rw [← hsl] at q2
  rw [← hidn] at q3
  rw [← hpd] at q4
  have SE := Lib.hid hse
  have SL := Lib.hid hsl
  have ID := Lib.hid hidn
  have PD := Lib.hid hpd
  have H0 := Lib.hid h0
  have HC := Lib.hid hc
  clear h0 hc
  have hkz : (k : Int) < (np : Int) := by omega
  have hkz0 : (0 : Int) ≤ (k : Int) := by omega
  have e0 : ((k : Int)).toNat = k := by omega
  have cA : Ch Nil w (w.alloc (.cells #[.int .i64 0, .int .i64 (se : Nat), .int .i64 (sl : Nat), .int .u64 (idn : Nat), .int .u64 (pd : Nat)] 41)) := (Ch.refl _ _).alloc _
  have RW := Lib.hid (h.quiet cA)
  have BX : Hid (IsB (w.alloc (.cells #[.int .i64 0, .int .i64 (se : Nat), .int .i64 (sl : Nat), .int .u64 (idn : Nat), .int .u64 (pd : Nat)] 41)) w.heap.size 0 se sl idn pd) := Lib.hid (isB_new w 0 se sl idn pd _)
  have CW : Hid (Ch (VS vb lb (some ⟨ga, 0, none⟩)) w (w.alloc (.cells #[.int .i64 0, .int .i64 (se : Nat), .int .i64 (sl : Nat), .int .u64 (idn : Nat), .int .u64 (pd : Nat)] 41))) := Lib.hid (Ch_any cA)
  have BV : Hid (¬ VS vb lb (some ⟨ga, 0, none⟩) w.heap.size) := Lib.hid (fun e => by have := h.lt e; omega)
  have hll := h.l
  clear h cA hse hsl hidn hpd
  go_enter Try.func13, Try.ntmps13
  go_upto_region 2 with (fail)
  clear q0 q1 q2 q3 q4 hr0 hll
  generalize w.alloc (.cells #[.int .i64 0, .int .i64 (se : Nat), .int .i64 (sl : Nat), .int .u64 (idn : Nat), .int .u64 (pd : Nat)] 41) = wa at RW BX CW ⊢
  have BLT : Hid (w.heap.size ≤ w.heap.size) := Lib.hid (Nat.le_refl _)
  obtain ⟨B, hB⟩ : ∃ B, B = w.heap.size := ⟨_, rfl⟩
  rw [← hB] at BX BV ⊢
  replace BLT : Hid (w.heap.size ≤ B) := Lib.hid (by omega)
  clear hB
  have VB : Hid (¬ B = vb) := Lib.hid (fun e => BV.out (.inl e))
  have LB : Hid (¬ B = lb) := Lib.hid (fun e => BV.out (.inr (.inl e)))
  have GB : Hid (¬ ga = B) := Lib.hid (fun e => BV.out (.inr (.inr (by rw [← e]; rfl))))
  have b0 : wa.cell? ⟨B, 0, none⟩ = some (.int .i64 0) := BX.out.a
  have b1 := BX.out.se
  have f0 := BX.out.fa
  have f1 := BX.out.fse
  have c1 := RW.out.c
  have bx1 := (BX.out.setSe cnt).setA 1
  have cs : Ch (One B) wa ((wa.setCell ⟨B, 1, none⟩ (.int .i64 (cnt : Nat))).setCell ⟨B, 0, none⟩ (.int .i64 1)) := ((Ch.refl _ _).setB _ _).setB _ _
  replace RW := Lib.hid (RW.out.kept cs (fun k hk e => BV.out (by rw [← e]; exact hk)))
  replace CW : Hid (Ch (VS vb lb (some ⟨ga, 0, none⟩)) w ((wa.setCell ⟨B, 1, none⟩ (.int .i64 (cnt : Nat))).setCell ⟨B, 0, none⟩ (.int .i64 1))) := Lib.hid (CW.out.then cs (fun i hi e => by have := BLT.out; change i = _ at e; omega))
  replace BX : Hid (IsB ((wa.setCell ⟨B, 1, none⟩ (.int .i64 (cnt : Nat))).setCell ⟨B, 0, none⟩ (.int .i64 1)) B 1 cnt sl idn pd) := Lib.hid bx1
  clear bx1 cs
  go_upto_region 6 with (fail)
  clear b0 b1 f0 f1 c1
  generalize (wa.setCell ⟨B, 1, none⟩ (.int .i64 (cnt : Nat))).setCell ⟨B, 0, none⟩ (.int .i64 1) = wb at RW BX CW ⊢
  have c0 := RW.out.l
  have c1 := RW.out.c
  have b0 : wb.cell? ⟨B, 0, none⟩ = some (.int .i64 1) := BX.out.a
  have f0 := BX.out.fa
  have hz : ¬ (n : Int) ≤ (cnt : Int) := by have := HC.out; omega
  go_quiet (fail)
  have cs : Ch Nil wb (wb.drewN nq) := (Ch.refl _ _).drewN nq
  replace RW := Lib.hid (RW.out.quiet cs)
  replace BX := Lib.hid (BX.out.kept cs (fun e => e))
  replace CW : Hid (Ch (VS vb lb (some ⟨ga, 0, none⟩)) w (wb.drewN nq)) := Lib.hid (CW.out.drewN nq)
  clear cs c0 c1 b0 f0
  generalize wb.drewN nq = wc at RW BX CW ⊢
  go_upto_region 22 with (fail)
  replace RW := Lib.hid (RW.out.quiet ((Ch.refl Nil wc).drew))
  replace BX := Lib.hid (BX.out.kept ((Ch.refl Nil wc).drew) (fun e => e))
  replace CW : Hid (Ch (VS vb lb (some ⟨ga, 0, none⟩)) w wc.drew) := Lib.hid CW.out.drew
  refine wp_region_held_drew (S := fun w' => w'.cell? ⟨vb, 2, none⟩ = some (.slice (some ⟨ga, 0, none⟩) np cr) ∧ w'.cell? ⟨B, 0, none⟩ = some (.int .i64 1) ∧ w'.cell? ⟨B, 1, none⟩ = some (.int .i64 (cnt : Nat)) ∧ w'.cell? ⟨B, 2, none⟩ = some (.int .i64 (sl : Nat)) ∧ w'.cell? ⟨B, 3, none⟩ = some (.int .u64 (idn : Nat)) ∧ w'.cell? ⟨B, 4, none⟩ = some (.int .u64 (pd : Nat))) (by kernel_rfl) ⟨RW.out.r, BX.out.a, BX.out.se, BX.out.sl, BX.out.id, BX.out.pd⟩ (fun hHeld => ?_)
  generalize wc.drew = X at RW BX CW hHeld ⊢
  refine take_at (v := ?_) 0 (some 131) rfl (by kernel_rfl) (by kernel_rfl) (by kernel_rfl) (by kernel_rfl) (fun _ _ _ h => h) (Or.inl ⟨by rfl, ?_⟩) (by assumption) ?_
  rotate_left
  · intro w hSw; (try dsimp only at hSw); go_simp; try (with_reducible rfl)
  (try simp only [Act.put, List.setIfInBounds_toArray, List.set_cons_zero, List.set_cons_succ])
  refine take_at (v := ?_) 1 (some 132) rfl (by kernel_rfl) (by kernel_rfl) (by kernel_rfl) (by kernel_rfl) (fun _ _ _ h => h) (Or.inl ⟨by rfl, ?_⟩) (by assumption) ?_
  rotate_left
  · intro w hSw; (try dsimp only at hSw); go_simp; try (with_reducible rfl)
  (try simp only [Act.put, List.setIfInBounds_toArray, List.set_cons_zero, List.set_cons_succ])
  refine take_at (v := ?_) 2 (some 133) rfl (by kernel_rfl) (by kernel_rfl) (by kernel_rfl) (by kernel_rfl) (fun _ _ _ h => h) (Or.inl ⟨by rfl, ?_⟩) (by assumption) ?_
  rotate_left
  · intro w hSw; (try dsimp only at hSw); go_simp; try (with_reducible rfl)
  (try simp only [Act.put, List.setIfInBounds_toArray, List.set_cons_zero, List.set_cons_succ])
  refine take_at (v := ?_) 3 (some 134) rfl (by kernel_rfl) (by kernel_rfl) (by kernel_rfl) (by kernel_rfl) (fun _ _ _ h => h) (Or.inl ⟨by rfl, ?_⟩) (by assumption) ?_
  rotate_left
  · intro w hSw; (try dsimp only at hSw); go_simp; try (with_reducible rfl)
  (try simp only [Act.put, List.setIfInBounds_toArray, List.set_cons_zero, List.set_cons_succ])
  refine take_at (v := ?_) 4 (some 135) rfl (by kernel_rfl) (by kernel_rfl) (by kernel_rfl) (by kernel_rfl) (fun _ _ _ h => h) (Or.inl ⟨by rfl, ?_⟩) (by assumption) ?_
  rotate_left
  · intro w hSw; (try dsimp only at hSw); go_simp; try (with_reducible rfl)
  (try simp only [Act.put, List.setIfInBounds_toArray, List.set_cons_zero, List.set_cons_succ])
  refine take_at (v := ?_) 5 (some 136) rfl (by kernel_rfl) (by kernel_rfl) (by kernel_rfl) (by kernel_rfl) (fun _ _ _ h => h) (Or.inl ⟨by rfl, ?_⟩) (by assumption) ?_
  rotate_left
  · intro w hSw; (try dsimp only at hSw); go_simp; try (with_reducible rfl)
  (try simp only [Act.put, List.setIfInBounds_toArray, List.set_cons_zero, List.set_cons_succ])
  refine take_at (v := ?_) 6 (some 137) rfl (by kernel_rfl) (by kernel_rfl) (by kernel_rfl) (by kernel_rfl) (fun _ _ _ h => h) (Or.inl ⟨by rfl, ?_⟩) (by assumption) ?_
  rotate_left
  · intro w hSw; (try dsimp only at hSw); go_simp; try (with_reducible rfl)
  (try simp only [Act.put, List.setIfInBounds_toArray, List.set_cons_zero, List.set_cons_succ])
  obtain ⟨q0, q1, q2, q3, q4⟩ := rq_cells RW.out.q hk
  have z0 := RW.out.q.frozen (k * 5)
  have z1 := RW.out.q.frozen (k * 5 + 1)
  have z2 := RW.out.q.frozen (k * 5 + 2)
  have z3 := RW.out.q.frozen (k * 5 + 3)
  have z4 := RW.out.q.frozen (k * 5 + 4)
  refine wpAnyH_ready (rs := [7]) (by kernel_rfl) (by simp) ?_
  refine AllReadyH.cons rfl (fun K hK => ?_) AllReadyH.nil
  go_simp
  have cS : Ch (OwnS (some ⟨ga, 0, none⟩)) X (((((X.setCell ⟨ga, k * 5, none⟩ (.int .i64 1)).setCell ⟨ga, k * 5 + 1, none⟩ (.int .i64 (cnt : Nat))).setCell ⟨ga, k * 5 + 2, none⟩ (.int .i64 (sl : Nat))).setCell ⟨ga, k * 5 + 3, none⟩ (.int .u64 (idn : Nat))).setCell ⟨ga, k * 5 + 4, none⟩ (.int .u64 (pd : Nat))) :=
    ((((((Ch.refl (OwnS (some ⟨ga, 0, none⟩)) X).set (p := ⟨ga, k * 5, none⟩) (fun _ => rfl) _).set (p := ⟨ga, k * 5 + 1, none⟩) (fun _ => rfl) _).set (p := ⟨ga, k * 5 + 2, none⟩) (fun _ => rfl) _).set (p := ⟨ga, k * 5 + 3, none⟩) (fun _ => rfl) _).set (p := ⟨ga, k * 5 + 4, none⟩) (fun _ => rfl) _)
  have ate : atN { (Q k) with seen := cnt, st := 1 } = 1 := by simp [atN, H0.out]
  have rowS : Row (((((X.setCell ⟨ga, k * 5, none⟩ (.int .i64 1)).setCell ⟨ga, k * 5 + 1, none⟩ (.int .i64 (cnt : Nat))).setCell ⟨ga, k * 5 + 2, none⟩ (.int .i64 (sl : Nat))).setCell ⟨ga, k * 5 + 3, none⟩ (.int .u64 (idn : Nat))).setCell ⟨ga, k * 5 + 4, none⟩ (.int .u64 (pd : Nat))) 41 5 (some ⟨ga, 0, none⟩) np cr (rqV (upQ Q k { (Q k) with seen := cnt, st := 1 })) := by
    have tt := rq_store RW.out.q hk { (Q k) with seen := cnt, st := 1 }
    rw [ate] at tt
    rw [SL.out, ID.out, PD.out]
    exact tt
  replace RW := Lib.hid (RW.out.reqs (Q' := upQ Q k { (Q k) with seen := cnt, st := 1 }) cS rowS)
  replace BX := Lib.hid (BX.out.kept cS (fun e => GB.out (by simpa [OwnS] using e)))
  replace CW := Lib.hid (CW.out.trans (cS.mono fun _ _ e => .inr (.inr e)))
  refine hK.out _ _ ⟨RW.out.r, BX.out.a, BX.out.se, BX.out.sl, BX.out.id, BX.out.pd⟩ (fun hHeld => ?_)
  clear hK K cS rowS q0 q1 q2 q3 q4 z0 z1 z2 z3 z4
  (try simp only [Act.put, List.setIfInBounds_toArray, List.set_cons_zero, List.set_cons_succ])
  refine wpAnyH_done (by kernel_rfl) ?_ _
  clear hHeld
  generalize ((((X.setCell ⟨ga, k * 5, none⟩ (.int .i64 1)).setCell ⟨ga, k * 5 + 1, none⟩ (.int .i64 (cnt : Nat))).setCell ⟨ga, k * 5 + 2, none⟩ (.int .i64 (sl : Nat))).setCell ⟨ga, k * 5 + 3, none⟩ (.int .u64 (idn : Nat))).setCell ⟨ga, k * 5 + 4, none⟩ (.int .u64 (pd : Nat)) = Y at RW BX CW ⊢
  have b0 : Y.cell? ⟨B, 0, none⟩ = some (.int .i64 1) := BX.out.a
  go_wp2
  go_ret
  exact ⟨rfl, RW.out, CW.out⟩
set_option maxRecDepth 100000 in
set_option maxHeartbeats 0 in
theorem refStep_claim {vb lb n cnt np : Nat} {R : Nat → Rec} {Q : Nat → Rq} {ar : Option Addr} {cr : Nat} {k : Nat} {w : World} (h : RfS w vb lb n cnt R np Q ar cr) (hk : k < np) (hat : atN (Q k) = 1) (hnp : np ≤ 1000) (h0 : (Q k).ss = 0) (hc : cnt = (Q k).seen) (hcn : cnt ≤ 64) :
    Calls Try.prog 13 #[.pointer (some ⟨vb, 0, none⟩), .int .i64 k] w fun e w' => e = .returned (.int .i64 0) ∧ RfS w' vb lb n (cnt + 1) R np (upQ Q k { (Q k) with st := 2 }) ar cr ∧ Ch (VS vb lb ar) w w' := by
  have n0 := h.n0
  have n1 := h.n1
  obtain ⟨ga, hga, -⟩ := h.q.form (by omega)
  subst hga
  have lc := h.q.len_cap
  obtain ⟨q0, q1, q2, q3, q4⟩ := rq_cells h.q hk
  have hr0 := h.r
  rw [hat] at q0
  replace q0 : w.cell? ⟨ga, k * 5, none⟩ = some (.int .i64 1) := q0
  obtain ⟨se, hse⟩ : ∃ se, se = (Q k).seen := ⟨_, rfl⟩
  obtain ⟨sl, hsl⟩ : ∃ sl, sl = (Q k).slot := ⟨_, rfl⟩
  obtain ⟨idn, hidn⟩ : ∃ idn, idn = (Q k).id := ⟨_, rfl⟩
  obtain ⟨pd, hpd⟩ : ∃ pd, pd = (Q k).pd := ⟨_, rfl⟩
  rw [← hse] at q1
  rw [← hsl] at q2
  rw [← hidn] at q3
  rw [← hpd] at q4
  have SE := Lib.hid hse
  have SL := Lib.hid hsl
  have ID := Lib.hid hidn
  have PD := Lib.hid hpd
  have H0 := Lib.hid h0
  have HC := Lib.hid hc
  have HCN := Lib.hid hcn
  clear h0 hc hcn
  have hkz : (k : Int) < (np : Int) := by omega
  have hkz0 : (0 : Int) ≤ (k : Int) := by omega
  have e0 : ((k : Int)).toNat = k := by omega
  have cA : Ch Nil w (w.alloc (.cells #[.int .i64 1, .int .i64 (se : Nat), .int .i64 (sl : Nat), .int .u64 (idn : Nat), .int .u64 (pd : Nat)] 41)) := (Ch.refl _ _).alloc _
  have RW := Lib.hid (h.quiet cA)
  have BX : Hid (IsB (w.alloc (.cells #[.int .i64 1, .int .i64 (se : Nat), .int .i64 (sl : Nat), .int .u64 (idn : Nat), .int .u64 (pd : Nat)] 41)) w.heap.size 1 se sl idn pd) := Lib.hid (isB_new w 1 se sl idn pd _)
  have CW : Hid (Ch (VS vb lb (some ⟨ga, 0, none⟩)) w (w.alloc (.cells #[.int .i64 1, .int .i64 (se : Nat), .int .i64 (sl : Nat), .int .u64 (idn : Nat), .int .u64 (pd : Nat)] 41))) := Lib.hid (Ch_any cA)
  have BV : Hid (¬ VS vb lb (some ⟨ga, 0, none⟩) w.heap.size) := Lib.hid (fun e => by have := h.lt e; omega)
  have hll := h.l
  clear h cA hse hsl hidn hpd
  go_enter Try.func13, Try.ntmps13
  go_upto_region 2 with (fail)
  clear q0 q1 q2 q3 q4 hr0 hll
  generalize w.alloc (.cells #[.int .i64 1, .int .i64 (se : Nat), .int .i64 (sl : Nat), .int .u64 (idn : Nat), .int .u64 (pd : Nat)] 41) = wa at RW BX CW ⊢
  have BLT : Hid (w.heap.size ≤ w.heap.size) := Lib.hid (Nat.le_refl _)
  obtain ⟨B, hB⟩ : ∃ B, B = w.heap.size := ⟨_, rfl⟩
  rw [← hB] at BX BV ⊢
  replace BLT : Hid (w.heap.size ≤ B) := Lib.hid (by omega)
  clear hB
  have VB : Hid (¬ B = vb) := Lib.hid (fun e => BV.out (.inl e))
  have LB : Hid (¬ B = lb) := Lib.hid (fun e => BV.out (.inr (.inl e)))
  have GB : Hid (¬ ga = B) := Lib.hid (fun e => BV.out (.inr (.inr (by rw [← e]; rfl))))
  have b0 : wa.cell? ⟨B, 0, none⟩ = some (.int .i64 1) := BX.out.a
  have f0 := BX.out.fa
  have bx1 := BX.out.setA 0
  have cs : Ch (One B) wa (wa.setCell ⟨B, 0, none⟩ (.int .i64 0)) := (Ch.refl _ _).setB _ _
  replace RW := Lib.hid (RW.out.kept cs (fun k hk e => BV.out (by rw [← e]; exact hk)))
  replace CW : Hid (Ch (VS vb lb (some ⟨ga, 0, none⟩)) w (wa.setCell ⟨B, 0, none⟩ (.int .i64 0))) := Lib.hid (CW.out.then cs (fun i hi e => by have := BLT.out; change i = _ at e; omega))
  replace BX : Hid (IsB (wa.setCell ⟨B, 0, none⟩ (.int .i64 0)) B 0 se sl idn pd) := Lib.hid bx1
  clear bx1 cs
  go_upto_region 10 with (fail)
  clear b0 f0
  generalize wa.setCell ⟨B, 0, none⟩ (.int .i64 0) = wb at RW BX CW ⊢
  have c1 := RW.out.c
  have b1 := BX.out.se
  have hz : ((cnt : Int) == (se : Int)) = true := by rw [beq_iff_eq]; have h1 := HC.out; have h2 := SE.out; omega
  have HZE : Hid ((cnt : Int) = (se : Int)) := Lib.hid (by have h1 := HC.out; have h2 := SE.out; omega)
  --  : (cnt : Int) = (se : Int) := by have h1 := HC.out; have h2 := SE.out; omega
  go_quiet (fail)
  have cs : Ch Nil wb (wb.drewN nq) := (Ch.refl _ _).drewN nq
  replace RW := Lib.hid (RW.out.quiet cs)
  replace BX := Lib.hid (BX.out.kept cs (fun e => e))
  replace CW : Hid (Ch (VS vb lb (some ⟨ga, 0, none⟩)) w (wb.drewN nq)) := Lib.hid (CW.out.drewN nq)
  clear cs c1 b1
  generalize wb.drewN nq = wc at RW BX CW ⊢
  have c1 := RW.out.c
  have fc := RW.out.fc
  have b0 : wc.cell? ⟨B, 0, none⟩ = some (.int .i64 0) := BX.out.a
  have f0 := BX.out.fa
  have hcn : cnt ≤ 64 := HCN.out
  have rw1 := RW.out.setC (cnt + 1)
  rw [show ((cnt + 1 : Nat) : Int) = (cnt : Int) + 1 by omega] at rw1
  have cv : Ch (One vb) wc (wc.setCell ⟨vb, 1, none⟩ (.int .i64 ((cnt : Int) + 1))) := (Ch.refl _ _).setB _ _
  have cs : Ch (One B) (wc.setCell ⟨vb, 1, none⟩ (.int .i64 ((cnt : Int) + 1))) ((wc.setCell ⟨vb, 1, none⟩ (.int .i64 ((cnt : Int) + 1))).setCell ⟨B, 0, none⟩ (.int .i64 2)) := (Ch.refl _ _).setB _ _
  have bx1 := (BX.out.kept cv VB.out).setA 2
  have hvb := VB.out
  have hvb2 : ¬ vb = B := fun e => hvb e.symm
  replace RW := Lib.hid (rw1.kept cs (fun k hk e => BV.out (by rw [← e]; exact hk)))
  replace CW : Hid (Ch (VS vb lb (some ⟨ga, 0, none⟩)) w ((wc.setCell ⟨vb, 1, none⟩ (.int .i64 ((cnt : Int) + 1))).setCell ⟨B, 0, none⟩ (.int .i64 2))) := Lib.hid ((CW.out.then cv (fun i hi e => .inl e)).then cs (fun i hi e => by have := BLT.out; change i = _ at e; omega))
  replace BX : Hid (IsB ((wc.setCell ⟨vb, 1, none⟩ (.int .i64 ((cnt : Int) + 1))).setCell ⟨B, 0, none⟩ (.int .i64 2)) B 2 se sl idn pd) := Lib.hid bx1
  clear bx1 cs cv rw1
  go_upto_region 22 with (fail)
  clear b0 f0 c1 fc
  generalize (wc.setCell ⟨vb, 1, none⟩ (.int .i64 ((cnt : Int) + 1))).setCell ⟨B, 0, none⟩ (.int .i64 2) = wd at RW BX CW ⊢
  go_upto_region 22 with (fail)
  replace RW := Lib.hid (RW.out.quiet ((Ch.refl Nil wd).drew))
  replace BX := Lib.hid (BX.out.kept ((Ch.refl Nil wd).drew) (fun e => e))
  replace CW : Hid (Ch (VS vb lb (some ⟨ga, 0, none⟩)) w wd.drew) := Lib.hid CW.out.drew
  refine wp_region_held_drew (S := fun w' => w'.cell? ⟨vb, 2, none⟩ = some (.slice (some ⟨ga, 0, none⟩) np cr) ∧ w'.cell? ⟨B, 0, none⟩ = some (.int .i64 2) ∧ w'.cell? ⟨B, 1, none⟩ = some (.int .i64 (se : Nat)) ∧ w'.cell? ⟨B, 2, none⟩ = some (.int .i64 (sl : Nat)) ∧ w'.cell? ⟨B, 3, none⟩ = some (.int .u64 (idn : Nat)) ∧ w'.cell? ⟨B, 4, none⟩ = some (.int .u64 (pd : Nat))) (by kernel_rfl) ⟨RW.out.r, BX.out.a, BX.out.se, BX.out.sl, BX.out.id, BX.out.pd⟩ (fun hHeld => ?_)
  generalize wd.drew = X at RW BX CW hHeld ⊢
  refine take_at (v := ?_) 0 (some 131) rfl (by kernel_rfl) (by kernel_rfl) (by kernel_rfl) (by kernel_rfl) (fun _ _ _ h => h) (Or.inl ⟨by rfl, ?_⟩) (by assumption) ?_
  rotate_left
  · intro w hSw; (try dsimp only at hSw); go_simp; try (with_reducible rfl)
  (try simp only [Act.put, List.setIfInBounds_toArray, List.set_cons_zero, List.set_cons_succ])
  refine take_at (v := ?_) 1 (some 132) rfl (by kernel_rfl) (by kernel_rfl) (by kernel_rfl) (by kernel_rfl) (fun _ _ _ h => h) (Or.inl ⟨by rfl, ?_⟩) (by assumption) ?_
  rotate_left
  · intro w hSw; (try dsimp only at hSw); go_simp; try (with_reducible rfl)
  (try simp only [Act.put, List.setIfInBounds_toArray, List.set_cons_zero, List.set_cons_succ])
  refine take_at (v := ?_) 2 (some 133) rfl (by kernel_rfl) (by kernel_rfl) (by kernel_rfl) (by kernel_rfl) (fun _ _ _ h => h) (Or.inl ⟨by rfl, ?_⟩) (by assumption) ?_
  rotate_left
  · intro w hSw; (try dsimp only at hSw); go_simp; try (with_reducible rfl)
  (try simp only [Act.put, List.setIfInBounds_toArray, List.set_cons_zero, List.set_cons_succ])
  refine take_at (v := ?_) 3 (some 134) rfl (by kernel_rfl) (by kernel_rfl) (by kernel_rfl) (by kernel_rfl) (fun _ _ _ h => h) (Or.inl ⟨by rfl, ?_⟩) (by assumption) ?_
  rotate_left
  · intro w hSw; (try dsimp only at hSw); go_simp; try (with_reducible rfl)
  (try simp only [Act.put, List.setIfInBounds_toArray, List.set_cons_zero, List.set_cons_succ])
  refine take_at (v := ?_) 4 (some 135) rfl (by kernel_rfl) (by kernel_rfl) (by kernel_rfl) (by kernel_rfl) (fun _ _ _ h => h) (Or.inl ⟨by rfl, ?_⟩) (by assumption) ?_
  rotate_left
  · intro w hSw; (try dsimp only at hSw); go_simp; try (with_reducible rfl)
  (try simp only [Act.put, List.setIfInBounds_toArray, List.set_cons_zero, List.set_cons_succ])
  refine take_at (v := ?_) 5 (some 136) rfl (by kernel_rfl) (by kernel_rfl) (by kernel_rfl) (by kernel_rfl) (fun _ _ _ h => h) (Or.inl ⟨by rfl, ?_⟩) (by assumption) ?_
  rotate_left
  · intro w hSw; (try dsimp only at hSw); go_simp; try (with_reducible rfl)
  (try simp only [Act.put, List.setIfInBounds_toArray, List.set_cons_zero, List.set_cons_succ])
  refine take_at (v := ?_) 6 (some 137) rfl (by kernel_rfl) (by kernel_rfl) (by kernel_rfl) (by kernel_rfl) (fun _ _ _ h => h) (Or.inl ⟨by rfl, ?_⟩) (by assumption) ?_
  rotate_left
  · intro w hSw; (try dsimp only at hSw); go_simp; try (with_reducible rfl)
  (try simp only [Act.put, List.setIfInBounds_toArray, List.set_cons_zero, List.set_cons_succ])
  obtain ⟨q0, q1, q2, q3, q4⟩ := rq_cells RW.out.q hk
  have z0 := RW.out.q.frozen (k * 5)
  have z1 := RW.out.q.frozen (k * 5 + 1)
  have z2 := RW.out.q.frozen (k * 5 + 2)
  have z3 := RW.out.q.frozen (k * 5 + 3)
  have z4 := RW.out.q.frozen (k * 5 + 4)
  refine wpAnyH_ready (rs := [7]) (by kernel_rfl) (by simp) ?_
  refine AllReadyH.cons rfl (fun K hK => ?_) AllReadyH.nil
  go_simp
  have cS : Ch (OwnS (some ⟨ga, 0, none⟩)) X (((((X.setCell ⟨ga, k * 5, none⟩ (.int .i64 2)).setCell ⟨ga, k * 5 + 1, none⟩ (.int .i64 (se : Nat))).setCell ⟨ga, k * 5 + 2, none⟩ (.int .i64 (sl : Nat))).setCell ⟨ga, k * 5 + 3, none⟩ (.int .u64 (idn : Nat))).setCell ⟨ga, k * 5 + 4, none⟩ (.int .u64 (pd : Nat))) :=
    ((((((Ch.refl (OwnS (some ⟨ga, 0, none⟩)) X).set (p := ⟨ga, k * 5, none⟩) (fun _ => rfl) _).set (p := ⟨ga, k * 5 + 1, none⟩) (fun _ => rfl) _).set (p := ⟨ga, k * 5 + 2, none⟩) (fun _ => rfl) _).set (p := ⟨ga, k * 5 + 3, none⟩) (fun _ => rfl) _).set (p := ⟨ga, k * 5 + 4, none⟩) (fun _ => rfl) _)
  have ate : atN { (Q k) with st := 2 } = 2 := by simp [atN, H0.out]
  have rowS : Row (((((X.setCell ⟨ga, k * 5, none⟩ (.int .i64 2)).setCell ⟨ga, k * 5 + 1, none⟩ (.int .i64 (se : Nat))).setCell ⟨ga, k * 5 + 2, none⟩ (.int .i64 (sl : Nat))).setCell ⟨ga, k * 5 + 3, none⟩ (.int .u64 (idn : Nat))).setCell ⟨ga, k * 5 + 4, none⟩ (.int .u64 (pd : Nat))) 41 5 (some ⟨ga, 0, none⟩) np cr (rqV (upQ Q k { (Q k) with st := 2 })) := by
    have tt := rq_store RW.out.q hk { (Q k) with st := 2 }
    rw [ate] at tt
    rw [SE.out, SL.out, ID.out, PD.out]
    exact tt
  replace RW := Lib.hid (RW.out.reqs (Q' := upQ Q k { (Q k) with st := 2 }) cS rowS)
  replace BX := Lib.hid (BX.out.kept cS (fun e => GB.out (by simpa [OwnS] using e)))
  replace CW := Lib.hid (CW.out.trans (cS.mono fun _ _ e => .inr (.inr e)))
  refine hK.out _ _ ⟨RW.out.r, BX.out.a, BX.out.se, BX.out.sl, BX.out.id, BX.out.pd⟩ (fun hHeld => ?_)
  clear hK K cS rowS q0 q1 q2 q3 q4 z0 z1 z2 z3 z4
  (try simp only [Act.put, List.setIfInBounds_toArray, List.set_cons_zero, List.set_cons_succ])
  refine wpAnyH_done (by kernel_rfl) ?_ _
  clear hHeld
  generalize ((((X.setCell ⟨ga, k * 5, none⟩ (.int .i64 2)).setCell ⟨ga, k * 5 + 1, none⟩ (.int .i64 (se : Nat))).setCell ⟨ga, k * 5 + 2, none⟩ (.int .i64 (sl : Nat))).setCell ⟨ga, k * 5 + 3, none⟩ (.int .u64 (idn : Nat))).setCell ⟨ga, k * 5 + 4, none⟩ (.int .u64 (pd : Nat)) = Y at RW BX CW ⊢
  have b0 : Y.cell? ⟨B, 0, none⟩ = some (.int .i64 2) := BX.out.a
  go_wp2
  go_ret
  exact ⟨rfl, RW.out, CW.out⟩
set_option maxRecDepth 100000 in
set_option maxHeartbeats 0 in
theorem refStep_miss {vb lb n cnt np : Nat} {R : Nat → Rec} {Q : Nat → Rq} {ar : Option Addr} {cr : Nat} {k : Nat} {w : World} (h : RfS w vb lb n cnt R np Q ar cr) (hk : k < np) (hat : atN (Q k) = 1) (hnp : np ≤ 1000) (h0 : (Q k).ss = 0) (hc : cnt ≠ (Q k).seen) :
    Calls Try.prog 13 #[.pointer (some ⟨vb, 0, none⟩), .int .i64 k] w fun e w' => e = .returned (.int .i64 0) ∧ RfS w' vb lb n cnt R np (upQ Q k { (Q k) with st := 0 }) ar cr ∧ Ch (VS vb lb ar) w w' := by
  have n0 := h.n0
  have n1 := h.n1
  obtain ⟨ga, hga, -⟩ := h.q.form (by omega)
  subst hga
  have lc := h.q.len_cap
  obtain ⟨q0, q1, q2, q3, q4⟩ := rq_cells h.q hk
  have hr0 := h.r
  rw [hat] at q0
  replace q0 : w.cell? ⟨ga, k * 5, none⟩ = some (.int .i64 1) := q0
  obtain ⟨se, hse⟩ : ∃ se, se = (Q k).seen := ⟨_, rfl⟩
  obtain ⟨sl, hsl⟩ : ∃ sl, sl = (Q k).slot := ⟨_, rfl⟩
  obtain ⟨idn, hidn⟩ : ∃ idn, idn = (Q k).id := ⟨_, rfl⟩
  obtain ⟨pd, hpd⟩ : ∃ pd, pd = (Q k).pd := ⟨_, rfl⟩
  rw [← hse] at q1
  rw [← hsl] at q2
  rw [← hidn] at q3
  rw [← hpd] at q4
  have SE := Lib.hid hse
  have SL := Lib.hid hsl
  have ID := Lib.hid hidn
  have PD := Lib.hid hpd
  have H0 := Lib.hid h0
  have HC := Lib.hid hc
  clear h0 hc
  have hkz : (k : Int) < (np : Int) := by omega
  have hkz0 : (0 : Int) ≤ (k : Int) := by omega
  have e0 : ((k : Int)).toNat = k := by omega
  have cA : Ch Nil w (w.alloc (.cells #[.int .i64 1, .int .i64 (se : Nat), .int .i64 (sl : Nat), .int .u64 (idn : Nat), .int .u64 (pd : Nat)] 41)) := (Ch.refl _ _).alloc _
  have RW := Lib.hid (h.quiet cA)
  have BX : Hid (IsB (w.alloc (.cells #[.int .i64 1, .int .i64 (se : Nat), .int .i64 (sl : Nat), .int .u64 (idn : Nat), .int .u64 (pd : Nat)] 41)) w.heap.size 1 se sl idn pd) := Lib.hid (isB_new w 1 se sl idn pd _)
  have CW : Hid (Ch (VS vb lb (some ⟨ga, 0, none⟩)) w (w.alloc (.cells #[.int .i64 1, .int .i64 (se : Nat), .int .i64 (sl : Nat), .int .u64 (idn : Nat), .int .u64 (pd : Nat)] 41))) := Lib.hid (Ch_any cA)
  have BV : Hid (¬ VS vb lb (some ⟨ga, 0, none⟩) w.heap.size) := Lib.hid (fun e => by have := h.lt e; omega)
  have hll := h.l
  clear h cA hse hsl hidn hpd
  go_enter Try.func13, Try.ntmps13
  go_upto_region 2 with (fail)
  clear q0 q1 q2 q3 q4 hr0 hll
  generalize w.alloc (.cells #[.int .i64 1, .int .i64 (se : Nat), .int .i64 (sl : Nat), .int .u64 (idn : Nat), .int .u64 (pd : Nat)] 41) = wa at RW BX CW ⊢
  have BLT : Hid (w.heap.size ≤ w.heap.size) := Lib.hid (Nat.le_refl _)
  obtain ⟨B, hB⟩ : ∃ B, B = w.heap.size := ⟨_, rfl⟩
  rw [← hB] at BX BV ⊢
  replace BLT : Hid (w.heap.size ≤ B) := Lib.hid (by omega)
  clear hB
  have VB : Hid (¬ B = vb) := Lib.hid (fun e => BV.out (.inl e))
  have LB : Hid (¬ B = lb) := Lib.hid (fun e => BV.out (.inr (.inl e)))
  have GB : Hid (¬ ga = B) := Lib.hid (fun e => BV.out (.inr (.inr (by rw [← e]; rfl))))
  have b0 : wa.cell? ⟨B, 0, none⟩ = some (.int .i64 1) := BX.out.a
  have f0 := BX.out.fa
  have bx1 := BX.out.setA 0
  have cs : Ch (One B) wa (wa.setCell ⟨B, 0, none⟩ (.int .i64 0)) := (Ch.refl _ _).setB _ _
  replace RW := Lib.hid (RW.out.kept cs (fun k hk e => BV.out (by rw [← e]; exact hk)))
  replace CW : Hid (Ch (VS vb lb (some ⟨ga, 0, none⟩)) w (wa.setCell ⟨B, 0, none⟩ (.int .i64 0))) := Lib.hid (CW.out.then cs (fun i hi e => by have := BLT.out; change i = _ at e; omega))
  replace BX : Hid (IsB (wa.setCell ⟨B, 0, none⟩ (.int .i64 0)) B 0 se sl idn pd) := Lib.hid bx1
  clear bx1 cs
  go_upto_region 10 with (fail)
  clear b0 f0
  generalize wa.setCell ⟨B, 0, none⟩ (.int .i64 0) = wb at RW BX CW ⊢
  have c1 := RW.out.c
  have b1 := BX.out.se
  have hz : ((cnt : Int) == (se : Int)) = false := by rw [beq_eq_false_iff_ne]; have h1 := HC.out; have h2 := SE.out; omega
  go_quiet (fail)
  have cs : Ch Nil wb (wb.drewN nq) := (Ch.refl _ _).drewN nq
  replace RW := Lib.hid (RW.out.quiet cs)
  replace BX := Lib.hid (BX.out.kept cs (fun e => e))
  replace CW : Hid (Ch (VS vb lb (some ⟨ga, 0, none⟩)) w (wb.drewN nq)) := Lib.hid (CW.out.drewN nq)
  clear cs c1 b1
  generalize wb.drewN nq = wc at RW BX CW ⊢
  go_upto_region 22 with (fail)
  replace RW := Lib.hid (RW.out.quiet ((Ch.refl Nil wc).drew))
  replace BX := Lib.hid (BX.out.kept ((Ch.refl Nil wc).drew) (fun e => e))
  replace CW : Hid (Ch (VS vb lb (some ⟨ga, 0, none⟩)) w wc.drew) := Lib.hid CW.out.drew
  refine wp_region_held_drew (S := fun w' => w'.cell? ⟨vb, 2, none⟩ = some (.slice (some ⟨ga, 0, none⟩) np cr) ∧ w'.cell? ⟨B, 0, none⟩ = some (.int .i64 0) ∧ w'.cell? ⟨B, 1, none⟩ = some (.int .i64 (se : Nat)) ∧ w'.cell? ⟨B, 2, none⟩ = some (.int .i64 (sl : Nat)) ∧ w'.cell? ⟨B, 3, none⟩ = some (.int .u64 (idn : Nat)) ∧ w'.cell? ⟨B, 4, none⟩ = some (.int .u64 (pd : Nat))) (by kernel_rfl) ⟨RW.out.r, BX.out.a, BX.out.se, BX.out.sl, BX.out.id, BX.out.pd⟩ (fun hHeld => ?_)
  generalize wc.drew = X at RW BX CW hHeld ⊢
  refine take_at (v := ?_) 0 (some 131) rfl (by kernel_rfl) (by kernel_rfl) (by kernel_rfl) (by kernel_rfl) (fun _ _ _ h => h) (Or.inl ⟨by rfl, ?_⟩) (by assumption) ?_
  rotate_left
  · intro w hSw; (try dsimp only at hSw); go_simp; try (with_reducible rfl)
  (try simp only [Act.put, List.setIfInBounds_toArray, List.set_cons_zero, List.set_cons_succ])
  refine take_at (v := ?_) 1 (some 132) rfl (by kernel_rfl) (by kernel_rfl) (by kernel_rfl) (by kernel_rfl) (fun _ _ _ h => h) (Or.inl ⟨by rfl, ?_⟩) (by assumption) ?_
  rotate_left
  · intro w hSw; (try dsimp only at hSw); go_simp; try (with_reducible rfl)
  (try simp only [Act.put, List.setIfInBounds_toArray, List.set_cons_zero, List.set_cons_succ])
  refine take_at (v := ?_) 2 (some 133) rfl (by kernel_rfl) (by kernel_rfl) (by kernel_rfl) (by kernel_rfl) (fun _ _ _ h => h) (Or.inl ⟨by rfl, ?_⟩) (by assumption) ?_
  rotate_left
  · intro w hSw; (try dsimp only at hSw); go_simp; try (with_reducible rfl)
  (try simp only [Act.put, List.setIfInBounds_toArray, List.set_cons_zero, List.set_cons_succ])
  refine take_at (v := ?_) 3 (some 134) rfl (by kernel_rfl) (by kernel_rfl) (by kernel_rfl) (by kernel_rfl) (fun _ _ _ h => h) (Or.inl ⟨by rfl, ?_⟩) (by assumption) ?_
  rotate_left
  · intro w hSw; (try dsimp only at hSw); go_simp; try (with_reducible rfl)
  (try simp only [Act.put, List.setIfInBounds_toArray, List.set_cons_zero, List.set_cons_succ])
  refine take_at (v := ?_) 4 (some 135) rfl (by kernel_rfl) (by kernel_rfl) (by kernel_rfl) (by kernel_rfl) (fun _ _ _ h => h) (Or.inl ⟨by rfl, ?_⟩) (by assumption) ?_
  rotate_left
  · intro w hSw; (try dsimp only at hSw); go_simp; try (with_reducible rfl)
  (try simp only [Act.put, List.setIfInBounds_toArray, List.set_cons_zero, List.set_cons_succ])
  refine take_at (v := ?_) 5 (some 136) rfl (by kernel_rfl) (by kernel_rfl) (by kernel_rfl) (by kernel_rfl) (fun _ _ _ h => h) (Or.inl ⟨by rfl, ?_⟩) (by assumption) ?_
  rotate_left
  · intro w hSw; (try dsimp only at hSw); go_simp; try (with_reducible rfl)
  (try simp only [Act.put, List.setIfInBounds_toArray, List.set_cons_zero, List.set_cons_succ])
  refine take_at (v := ?_) 6 (some 137) rfl (by kernel_rfl) (by kernel_rfl) (by kernel_rfl) (by kernel_rfl) (fun _ _ _ h => h) (Or.inl ⟨by rfl, ?_⟩) (by assumption) ?_
  rotate_left
  · intro w hSw; (try dsimp only at hSw); go_simp; try (with_reducible rfl)
  (try simp only [Act.put, List.setIfInBounds_toArray, List.set_cons_zero, List.set_cons_succ])
  obtain ⟨q0, q1, q2, q3, q4⟩ := rq_cells RW.out.q hk
  have z0 := RW.out.q.frozen (k * 5)
  have z1 := RW.out.q.frozen (k * 5 + 1)
  have z2 := RW.out.q.frozen (k * 5 + 2)
  have z3 := RW.out.q.frozen (k * 5 + 3)
  have z4 := RW.out.q.frozen (k * 5 + 4)
  refine wpAnyH_ready (rs := [7]) (by kernel_rfl) (by simp) ?_
  refine AllReadyH.cons rfl (fun K hK => ?_) AllReadyH.nil
  go_simp
  have cS : Ch (OwnS (some ⟨ga, 0, none⟩)) X (((((X.setCell ⟨ga, k * 5, none⟩ (.int .i64 0)).setCell ⟨ga, k * 5 + 1, none⟩ (.int .i64 (se : Nat))).setCell ⟨ga, k * 5 + 2, none⟩ (.int .i64 (sl : Nat))).setCell ⟨ga, k * 5 + 3, none⟩ (.int .u64 (idn : Nat))).setCell ⟨ga, k * 5 + 4, none⟩ (.int .u64 (pd : Nat))) :=
    ((((((Ch.refl (OwnS (some ⟨ga, 0, none⟩)) X).set (p := ⟨ga, k * 5, none⟩) (fun _ => rfl) _).set (p := ⟨ga, k * 5 + 1, none⟩) (fun _ => rfl) _).set (p := ⟨ga, k * 5 + 2, none⟩) (fun _ => rfl) _).set (p := ⟨ga, k * 5 + 3, none⟩) (fun _ => rfl) _).set (p := ⟨ga, k * 5 + 4, none⟩) (fun _ => rfl) _)
  have ate : atN { (Q k) with st := 0 } = 0 := by simp [atN, H0.out]
  have rowS : Row (((((X.setCell ⟨ga, k * 5, none⟩ (.int .i64 0)).setCell ⟨ga, k * 5 + 1, none⟩ (.int .i64 (se : Nat))).setCell ⟨ga, k * 5 + 2, none⟩ (.int .i64 (sl : Nat))).setCell ⟨ga, k * 5 + 3, none⟩ (.int .u64 (idn : Nat))).setCell ⟨ga, k * 5 + 4, none⟩ (.int .u64 (pd : Nat))) 41 5 (some ⟨ga, 0, none⟩) np cr (rqV (upQ Q k { (Q k) with st := 0 })) := by
    have tt := rq_store RW.out.q hk { (Q k) with st := 0 }
    rw [ate] at tt
    rw [SE.out, SL.out, ID.out, PD.out]
    exact tt
  replace RW := Lib.hid (RW.out.reqs (Q' := upQ Q k { (Q k) with st := 0 }) cS rowS)
  replace BX := Lib.hid (BX.out.kept cS (fun e => GB.out (by simpa [OwnS] using e)))
  replace CW := Lib.hid (CW.out.trans (cS.mono fun _ _ e => .inr (.inr e)))
  refine hK.out _ _ ⟨RW.out.r, BX.out.a, BX.out.se, BX.out.sl, BX.out.id, BX.out.pd⟩ (fun hHeld => ?_)
  clear hK K cS rowS q0 q1 q2 q3 q4 z0 z1 z2 z3 z4
  (try simp only [Act.put, List.setIfInBounds_toArray, List.set_cons_zero, List.set_cons_succ])
  refine wpAnyH_done (by kernel_rfl) ?_ _
  clear hHeld
  generalize ((((X.setCell ⟨ga, k * 5, none⟩ (.int .i64 0)).setCell ⟨ga, k * 5 + 1, none⟩ (.int .i64 (se : Nat))).setCell ⟨ga, k * 5 + 2, none⟩ (.int .i64 (sl : Nat))).setCell ⟨ga, k * 5 + 3, none⟩ (.int .u64 (idn : Nat))).setCell ⟨ga, k * 5 + 4, none⟩ (.int .u64 (pd : Nat)) = Y at RW BX CW ⊢
  have b0 : Y.cell? ⟨B, 0, none⟩ = some (.int .i64 0) := BX.out.a
  go_wp2
  go_ret
  exact ⟨rfl, RW.out, CW.out⟩
end Go.Proofs.Ytjhmmfdmoalfmaa
