/-
  The statements' 'alive': the document's example.
-/
import Derived.Test.YtpihlchocjdpmaaFirFaults2
import Derived.Test.YtpihlchocjdpmaaFirLog
import Derived.Test.YtpihlchocjdpmaaFirInts
import Derived.Test.YtpihlchocjdpmaaHeld
import Derived.Deep.CutRange
import Derived.Deep.CutBlock
namespace Go.Proofs.Ytpihlchocjdpmaa
open Go.RowKit Verge
attribute [local go_sem] Oper.semAt_some
set_option linter.unusedVariables false
set_option linter.unusedSimpArgs false

def exA : Fr := ⟨64, 1, 5, 5⟩
def exB : Fr := ⟨65, 1, 7, 6⟩
/-- the example's log, the box of its first firing -/
structure AlIn (w : World) (lb bx : Nat) (a : Option Addr) (cap : Nat) (W : World) : Prop where
  log : IsLog W lb a cap [exA, exB]
  x0 : W.cell? ⟨bx, 0, none⟩ = some (.int .u64 64)
  x1 : W.cell? ⟨bx, 1, none⟩ = some (.int .u64 1)
  x2 : W.cell? ⟨bx, 2, none⟩ = some (.int .u64 5)
  x3 : W.cell? ⟨bx, 3, none⟩ = some (.int .u64 5)
  c : Ch Nil w W
section
variable {w W W' : World} {lb bx cap cap' c : Nat} {a a' b : Option Addr}
theorem AlIn.kept (h : AlIn w lb bx a cap W) (c : Ch Nil W W') : AlIn w lb bx a cap W' :=
  ⟨h.log.kept c (fun _ _ e => e), c.keeps h.x0 (fun e => e), c.keeps h.x1 (fun e => e), c.keeps h.x2 (fun e => e), c.keeps h.x3 (fun e => e), h.c.trans c⟩
theorem al_of (h : AlIn w lb bx a cap W) : Calls Try.prog 13 #[.pointer (some ⟨lb, 0, none⟩), .int .u64 64] W fun e W' => ∃ a' cap', e = .returned (.slice a' 1 cap') ∧ FRow W' a' cap' [exA] ∧ Ch Nil W W' := by
  refine (of_of 64 h.log.at_ (fun k hk => h.log.lt k (.inr hk)) (by simp)).mono ?_
  rintro e W' ⟨a', cap', rfl, r, -, c⟩
  exact ⟨a', cap', rfl, r, c⟩
theorem al_all (h : AlIn w lb bx a cap W) : Calls Try.prog 12 #[.pointer (some ⟨lb, 0, none⟩)] W fun e W' => ∃ a' cap', e = .returned (.slice a' 2 cap') ∧ FRow W' a' cap' [exA, exB] ∧ Ch Nil W W' := by
  refine (all_of h.log.at_ (fun k hk => h.log.lt k (.inr hk)) (by simp)).mono ?_
  rintro e W' ⟨a', cap', rfl, r, -, c⟩
  exact ⟨a', cap', rfl, r, c⟩
theorem al_same (r : FRow W a' cap' [exA]) (s : Src W b [exA]) : Calls Try.prog 11 #[.slice a' 1 cap', .slice b 1 c] W fun e W' => e = .returned (.bool true) ∧ Ch Nil W W' := by
  refine (same_of r.src s (by simp) (by simp)).mono ?_
  rintro e W' ⟨rfl, c⟩
  exact ⟨by simp, c⟩
theorem al_faults (s : Src W a' [exA, exB]) : Calls Try.prog 22 #[.slice a' 2 cap'] W fun e W' => ∃ a'' cap'', e = .returned (.slice a'' 1 cap'') ∧ SrcC W' a'' 1 (fun i => .int .i64 (qf [1] i)) ∧ Ch Nil W W' := by
  refine (faults_of s (by intro f hf; simp at hf; rcases hf with rfl | rfl <;> simp [Fr.ok, exA, exB]) (by simp)).mono ?_
  rintro e W' ⟨a', cap', rfl, r, -, c⟩
  have hf : faultsTo [exA, exB] [exA, exB].length = [1] := by decide
  rw [hf] at r ⊢
  exact ⟨a', cap', rfl, Row.srcC r, c⟩
theorem src_ex (W : World) : Src (W.alloc (.cells #[.int .u64 64, .int .u64 1, .int .u64 5, .int .u64 5] 43)) (some ⟨W.heap.size, 0, none⟩) [exA] := by
  refine .inr ⟨W.heap.size, 0, rfl, fun i f hf j hj => ?_⟩
  obtain rfl : i = 0 := by have := (List.getElem?_eq_some_iff.1 hf).1; simpa using this
  simp at hf
  subst hf
  have : j = 0 ∨ j = 1 ∨ j = 2 ∨ j = 3 := by omega
  rcases this with rfl | rfl | rfl | rfl <;> simp [cell_fresh, frc, exA]
theorem src_two (W : World) : Src (W.alloc (.cells #[.int .u64 64, .int .u64 1, .int .u64 5, .int .u64 5, .int .u64 65, .int .u64 1, .int .u64 7, .int .u64 6] 43)) (some ⟨W.heap.size, 0, none⟩) [exA, exB] := by
  refine .inr ⟨W.heap.size, 0, rfl, fun i f hf j hj => ?_⟩
  have hi : i < 2 := by have := (List.getElem?_eq_some_iff.1 hf).1; simpa using this
  have h2 : i = 0 ∨ i = 1 := by omega
  have : j = 0 ∨ j = 1 ∨ j = 2 ∨ j = 3 := by omega
  rcases h2 with rfl | rfl <;> (simp at hf; subst hf) <;> rcases this with rfl | rfl | rfl | rfl <;> simp [cell_fresh, frc, exA, exB]
theorem src_int (W : World) : SrcC (W.alloc (.cells #[.int .i64 1] 3)) (some ⟨W.heap.size, 0, none⟩) 1 (fun i => .int .i64 (qf [1] i)) := by
  refine .inr ⟨W.heap.size, 0, rfl, fun i hi => ?_⟩
  obtain rfl : i = 0 := by omega
  simp [cell_fresh, qf]
end

set_option maxHeartbeats 4000000 in
theorem alive_any (w : World) :
    Calls Try.prog 8 #[] w fun e w' => e = .returned (.bool true) ∧ Ch Nil w w' := by
  go_enter Try.func8, Try.ntmps8
  go_wp2_with fail
  refine (new_of w).mono ?_
  rintro e w1 ⟨rfl, l1, c1⟩
  have L1 := Lib.hid l1
  have C1 := Lib.hid c1
  have hs1 := lt_of_cell l1.c
  have hle : w.heap.size ≤ w.heap.size := Nat.le_refl _
  generalize hlb : w.heap.size = lb at l1 L1 hs1 hle ⊢
  have HLB := Lib.hid hlb
  clear l1 c1 hlb hle
  go_wp2_with fail
  have cA : Ch Nil w1 (((w1.alloc (.cells #[.int .u64 64, .int .u64 1, .int .u64 5, .int .u64 5] 43)).alloc (.cells #[.int .u64 65, .int .u64 1, .int .u64 7, .int .u64 6] 43)).alloc (.cells #[.int .u64 64, .int .u64 1, .int .u64 5, .int .u64 5, .int .u64 65, .int .u64 1, .int .u64 7, .int .u64 6] 43)) := (((Ch.refl _ _).alloc _).alloc _).alloc _
  have hsrc : Src (((w1.alloc (.cells #[.int .u64 64, .int .u64 1, .int .u64 5, .int .u64 5] 43)).alloc (.cells #[.int .u64 65, .int .u64 1, .int .u64 7, .int .u64 6] 43)).alloc (.cells #[.int .u64 64, .int .u64 1, .int .u64 5, .int .u64 5, .int .u64 65, .int .u64 1, .int .u64 7, .int .u64 6] 43)) (some ⟨w1.heap.size + 1 + 1, 0, none⟩) [exA, exB] := by
    have h := src_two ((w1.alloc (.cells #[.int .u64 64, .int .u64 1, .int .u64 5, .int .u64 5] 43)).alloc (.cells #[.int .u64 65, .int .u64 1, .int .u64 7, .int .u64 6] 43))
    rw [show ((w1.alloc (.cells #[.int .u64 64, .int .u64 1, .int .u64 5, .int .u64 5] 43)).alloc (.cells #[.int .u64 65, .int .u64 1, .int .u64 7, .int .u64 6] 43)).heap.size = w1.heap.size + 1 + 1 by simp] at h
    exact h
  have hx : ∀ j v, #[Value.int .u64 64, .int .u64 1, .int .u64 5, .int .u64 5][j]? = some v → (((w1.alloc (.cells #[.int .u64 64, .int .u64 1, .int .u64 5, .int .u64 5] 43)).alloc (.cells #[.int .u64 65, .int .u64 1, .int .u64 7, .int .u64 6] 43)).alloc (.cells #[.int .u64 64, .int .u64 1, .int .u64 5, .int .u64 5, .int .u64 65, .int .u64 1, .int .u64 7, .int .u64 6] 43)).cell? ⟨w1.heap.size, j, none⟩ = some v := fun j v hv =>
    (((Ch.refl Nil (w1.alloc (.cells #[.int .u64 64, .int .u64 1, .int .u64 5, .int .u64 5] 43))).alloc _).alloc _).keeps (by simp [cell_fresh, hv]) (fun e => e)
  refine (put_of (L1.out.kept cA (fun _ _ e => e)) hsrc (fun e => (by cases e)) (by simp) (by simp)).mono ?_
  rintro e W0 ⟨a, cap, rfl, lg, c2, -⟩
  have hlt1 : lb < w1.heap.size := hs1
  have nb : ¬ LgS lb none w1.heap.size := by
    rintro (h | h)
    · omega
    · cases h
  have A0 : Hid (AlIn w lb w1.heap.size a cap W0) := Lib.hid ⟨lg, c2.keeps (hx 0 _ rfl) nb, c2.keeps (hx 1 _ rfl) nb, c2.keeps (hx 2 _ rfl) nb, c2.keeps (hx 3 _ rfl) nb, (C1.out.trans cA).then c2 (fun i hi e => by
    rcases e with h | h
    · have := HLB.out; omega
    · cases h)⟩
  clear lg c2 hx hsrc cA nb
  go_upto_region 6 with (fail)
  refine wp_region_held_drew (S := fun w' => w'.cell? ⟨w1.heap.size, 0, none⟩ = some (.int .u64 64) ∧ w'.cell? ⟨w1.heap.size, 1, none⟩ = some (.int .u64 1) ∧ w'.cell? ⟨w1.heap.size, 2, none⟩ = some (.int .u64 5) ∧ w'.cell? ⟨w1.heap.size, 3, none⟩ = some (.int .u64 5)) (by kernel_rfl) ⟨A0.out.x0, A0.out.x1, A0.out.x2, A0.out.x3⟩ (fun hHeld => ?_)
  replace A0 := Lib.hid (A0.out.kept (Ch.refl Nil _).drew)
  generalize W0.drew = W0 at hHeld A0 ⊢
  generalize w1.heap.size = bx at *
  clear C1 L1 HLB hs1 hlt1
  refine take_at (v := ?_) 0 (some 14) rfl (by kernel_rfl) (by kernel_rfl) (by kernel_rfl) (by kernel_rfl) (fun _ _ _ h => h) (Or.inl ⟨by rfl, ?_⟩) (by assumption) ?_
  rotate_left
  · intro w hSw; (try dsimp only at hSw); go_simp; try (with_reducible rfl)
  (try simp only [Act.put, List.setIfInBounds_toArray, List.set_cons_zero, List.set_cons_succ])
  refine take_at (v := ?_) 2 (some 16) rfl (by kernel_rfl) (by kernel_rfl) (by kernel_rfl) (by kernel_rfl) (fun _ _ _ h => h) (Or.inl ⟨by rfl, ?_⟩) (by assumption) ?_
  rotate_left
  · intro w hSw; (try dsimp only at hSw); go_simp; try (with_reducible rfl)
  (try simp only [Act.put, List.setIfInBounds_toArray, List.set_cons_zero, List.set_cons_succ])
  refine wpAnyH_ready (rs := [1, 3]) (by kernel_rfl) (by simp) ?_
  refine AllReadyH.cons rfl (fun K hK => ?_) (AllReadyH.cons rfl (fun K hK => ?_) AllReadyH.nil)
  · skip
    go_simp
    refine (al_of A0.out).mono ?_
    rintro e W1 ⟨a1, cap1, rfl, r, c1⟩
    have A1 := Lib.hid (A0.out.kept c1)
    have R1 := Lib.hid r
    refine hK.out _ _ ⟨A1.out.x0, A1.out.x1, A1.out.x2, A1.out.x3⟩ (fun hHeld => ?_)
    clear c1 r
    clear hK K
    (try simp only [Act.put, List.setIfInBounds_toArray, List.set_cons_zero, List.set_cons_succ])
    refine wpAnyH_ready (rs := [3]) (by kernel_rfl) (by simp) ?_
    refine AllReadyH.cons rfl (fun K hK => ?_) AllReadyH.nil
    go_simp
    have A2 := Lib.hid (A1.out.kept ((Ch.refl Nil _).alloc (.cells #[.int .u64 64, .int .u64 1, .int .u64 5, .int .u64 5] 43)))
    have R2 := Lib.hid (R1.out.kept ((Ch.refl Nil _).alloc (.cells #[.int .u64 64, .int .u64 1, .int .u64 5, .int .u64 5] 43)) (fun _ _ e => e))
    have B2 := Lib.hid (src_ex W1)
    refine hK.out _ _ ⟨A2.out.x0, A2.out.x1, A2.out.x2, A2.out.x3⟩ (fun hHeld => ?_)
    generalize hgw : W1.alloc _ = W2 at *
    clear hgw
    clear hK K
    (try simp only [Act.put, List.setIfInBounds_toArray, List.set_cons_zero, List.set_cons_succ])
    refine wpAnyH_ready (rs := [4]) (by kernel_rfl) (by simp) ?_
    refine AllReadyH.cons rfl (fun K hK => ?_) AllReadyH.nil
    go_simp
    refine (al_same R2.out B2.out).mono ?_
    rintro e W3 ⟨rfl, c3⟩
    have A3 := Lib.hid (A2.out.kept c3)
    have R3 := Lib.hid (R2.out.kept c3 (fun _ _ e => e))
    have B3 := Lib.hid (B2.out.kept c3 (fun _ _ e => e))
    refine hK.out _ _ ⟨A3.out.x0, A3.out.x1, A3.out.x2, A3.out.x3⟩ (fun hHeld => ?_)
    clear c3 
    clear hK K
    (try simp only [Act.put, List.setIfInBounds_toArray, List.set_cons_zero, List.set_cons_succ])
    refine take_at (v := ?_) 5 (some 19) rfl (by kernel_rfl) (by kernel_rfl) (by kernel_rfl) (by kernel_rfl) (fun _ _ _ h => h) (Or.inl ⟨by rfl, ?_⟩) (by assumption) ?_
    rotate_left
    · intro w hSw; (try dsimp only at hSw); go_simp; try (with_reducible rfl)
    (try simp only [Act.put, List.setIfInBounds_toArray, List.set_cons_zero, List.set_cons_succ])
    refine take_at (v := ?_) 6 (some 20) rfl (by kernel_rfl) (by kernel_rfl) (by kernel_rfl) (by kernel_rfl) (fun _ _ _ h => h) (Or.inl ⟨by rfl, ?_⟩) (by assumption) ?_
    rotate_left
    · intro w hSw; (try dsimp only at hSw); go_simp; try (with_reducible rfl)
    (try simp only [Act.put, List.setIfInBounds_toArray, List.set_cons_zero, List.set_cons_succ])
    refine wpAnyH_ready (rs := [7, 9]) (by kernel_rfl) (by simp) ?_
    refine AllReadyH.cons rfl (fun K hK => ?_) (AllReadyH.cons rfl (fun K hK => ?_) AllReadyH.nil)
    · skip
      go_simp
      refine (al_all A3.out).mono ?_
      rintro e W4 ⟨a2, cap2, rfl, r, c4⟩
      have A4 := Lib.hid (A3.out.kept c4)
      have R4 := Lib.hid (R3.out.kept c4 (fun _ _ e => e))
      have B4 := Lib.hid (B3.out.kept c4 (fun _ _ e => e))
      have T4 := Lib.hid r
      refine hK.out _ _ ⟨A4.out.x0, A4.out.x1, A4.out.x2, A4.out.x3⟩ (fun hHeld => ?_)
      clear c4 r
      clear hK K
      (try simp only [Act.put, List.setIfInBounds_toArray, List.set_cons_zero, List.set_cons_succ])
      refine wpAnyH_ready (rs := [8, 9]) (by kernel_rfl) (by simp) ?_
      refine AllReadyH.cons rfl (fun K hK => ?_) (AllReadyH.cons rfl (fun K hK => ?_) AllReadyH.nil)
      · skip
        go_simp
        refine (al_faults (FRow.src T4.out)).mono ?_
        rintro e W5 ⟨a3, cap3, rfl, r, c5⟩
        have A5 := Lib.hid (A4.out.kept c5)
        have R5 := Lib.hid (R4.out.kept c5 (fun _ _ e => e))
        have B5 := Lib.hid (B4.out.kept c5 (fun _ _ e => e))
        have T5 := Lib.hid (T4.out.kept c5 (fun _ _ e => e))
        have F5 := Lib.hid r
        refine hK.out _ _ ⟨A5.out.x0, A5.out.x1, A5.out.x2, A5.out.x3⟩ (fun hHeld => ?_)
        clear c5 r
        clear hK K
        (try simp only [Act.put, List.setIfInBounds_toArray, List.set_cons_zero, List.set_cons_succ])
        refine wpAnyH_ready (rs := [9]) (by kernel_rfl) (by simp) ?_
        refine AllReadyH.cons rfl (fun K hK => ?_) AllReadyH.nil
        go_simp
        have A6 := Lib.hid (A5.out.kept ((Ch.refl Nil _).alloc (.cells #[.int .i64 1] 3)))
        have R6 := Lib.hid (R5.out.kept ((Ch.refl Nil _).alloc (.cells #[.int .i64 1] 3)) (fun _ _ e => e))
        have B6 := Lib.hid (B5.out.kept ((Ch.refl Nil _).alloc (.cells #[.int .i64 1] 3)) (fun _ _ e => e))
        have T6 := Lib.hid (T5.out.kept ((Ch.refl Nil _).alloc (.cells #[.int .i64 1] 3)) (fun _ _ e => e))
        have F6 := Lib.hid (F5.out.kept ((Ch.refl Nil _).alloc (.cells #[.int .i64 1] 3)) (fun _ _ e => e))
        have I6 := Lib.hid (src_int W5)
        refine hK.out _ _ ⟨A6.out.x0, A6.out.x1, A6.out.x2, A6.out.x3⟩ (fun hHeld => ?_)
        generalize hgw : W5.alloc _ = W6 at *
        clear hgw
        clear hK K
        (try simp only [Act.put, List.setIfInBounds_toArray, List.set_cons_zero, List.set_cons_succ])
        refine wpAnyH_ready (rs := [10]) (by kernel_rfl) (by simp) ?_
        refine AllReadyH.cons rfl (fun K hK => ?_) AllReadyH.nil
        go_simp
        refine (ints_src F6.out I6.out (by omega)).mono ?_
        rintro e W7 ⟨rfl, c7⟩
        have A7 := Lib.hid (A6.out.kept c7)
        have R7 := Lib.hid (R6.out.kept c7 (fun _ _ e => e))
        have B7 := Lib.hid (B6.out.kept c7 (fun _ _ e => e))
        have T7 := Lib.hid (T6.out.kept c7 (fun _ _ e => e))
        have F7 := Lib.hid (F6.out.kept c7 (fun _ _ e => e))
        have I7 := Lib.hid (I6.out.kept c7 (fun _ _ e => e))
        refine hK.out _ _ ⟨A7.out.x0, A7.out.x1, A7.out.x2, A7.out.x3⟩ (fun hHeld => ?_)
        clear c7 
        clear hK K
        (try simp only [Act.put, List.setIfInBounds_toArray, List.set_cons_zero, List.set_cons_succ])
        refine take_at (v := ?_) 11 (some 25) rfl (by kernel_rfl) (by kernel_rfl) (by kernel_rfl) (by kernel_rfl) (fun _ _ _ h => h) (Or.inl ⟨by rfl, ?_⟩) (by assumption) ?_
        rotate_left
        · intro w hSw; (try dsimp only at hSw); go_simp; try (with_reducible rfl)
        (try simp only [Act.put, List.setIfInBounds_toArray, List.set_cons_zero, List.set_cons_succ])
        refine take_at (v := ?_) 12 (some 0) rfl (by kernel_rfl) (by kernel_rfl) (by kernel_rfl) (by kernel_rfl) (fun _ _ _ h => h) (Or.inl ⟨by rfl, ?_⟩) (by assumption) ?_
        rotate_left
        · intro w hSw; (try dsimp only at hSw); go_simp; try (with_reducible rfl)
        (try simp only [Act.put, List.setIfInBounds_toArray, List.set_cons_zero, List.set_cons_succ])
        refine wpAnyH_done (by kernel_rfl) ?_ _
        clear hHeld
        go_wp2
        go_ret
        exact ⟨rfl, A7.out.c⟩
      · skip
        go_simp
        have A5 := Lib.hid (A4.out.kept ((Ch.refl Nil _).alloc (.cells #[.int .i64 1] 3)))
        have R5 := Lib.hid (R4.out.kept ((Ch.refl Nil _).alloc (.cells #[.int .i64 1] 3)) (fun _ _ e => e))
        have B5 := Lib.hid (B4.out.kept ((Ch.refl Nil _).alloc (.cells #[.int .i64 1] 3)) (fun _ _ e => e))
        have T5 := Lib.hid (T4.out.kept ((Ch.refl Nil _).alloc (.cells #[.int .i64 1] 3)) (fun _ _ e => e))
        have I5 := Lib.hid (src_int W4)
        refine hK.out _ _ ⟨A5.out.x0, A5.out.x1, A5.out.x2, A5.out.x3⟩ (fun hHeld => ?_)
        generalize hgw : W4.alloc _ = W5 at *
        clear hgw
        clear hK K
        (try simp only [Act.put, List.setIfInBounds_toArray, List.set_cons_zero, List.set_cons_succ])
        refine wpAnyH_ready (rs := [8]) (by kernel_rfl) (by simp) ?_
        refine AllReadyH.cons rfl (fun K hK => ?_) AllReadyH.nil
        go_simp
        refine (al_faults (FRow.src T5.out)).mono ?_
        rintro e W6 ⟨a3, cap3, rfl, r, c6⟩
        have A6 := Lib.hid (A5.out.kept c6)
        have R6 := Lib.hid (R5.out.kept c6 (fun _ _ e => e))
        have B6 := Lib.hid (B5.out.kept c6 (fun _ _ e => e))
        have T6 := Lib.hid (T5.out.kept c6 (fun _ _ e => e))
        have I6 := Lib.hid (I5.out.kept c6 (fun _ _ e => e))
        have F6 := Lib.hid r
        refine hK.out _ _ ⟨A6.out.x0, A6.out.x1, A6.out.x2, A6.out.x3⟩ (fun hHeld => ?_)
        clear c6 r
        clear hK K
        (try simp only [Act.put, List.setIfInBounds_toArray, List.set_cons_zero, List.set_cons_succ])
        refine wpAnyH_ready (rs := [10]) (by kernel_rfl) (by simp) ?_
        refine AllReadyH.cons rfl (fun K hK => ?_) AllReadyH.nil
        go_simp
        refine (ints_src F6.out I6.out (by omega)).mono ?_
        rintro e W7 ⟨rfl, c7⟩
        have A7 := Lib.hid (A6.out.kept c7)
        have R7 := Lib.hid (R6.out.kept c7 (fun _ _ e => e))
        have B7 := Lib.hid (B6.out.kept c7 (fun _ _ e => e))
        have T7 := Lib.hid (T6.out.kept c7 (fun _ _ e => e))
        have I7 := Lib.hid (I6.out.kept c7 (fun _ _ e => e))
        have F7 := Lib.hid (F6.out.kept c7 (fun _ _ e => e))
        refine hK.out _ _ ⟨A7.out.x0, A7.out.x1, A7.out.x2, A7.out.x3⟩ (fun hHeld => ?_)
        clear c7 
        clear hK K
        (try simp only [Act.put, List.setIfInBounds_toArray, List.set_cons_zero, List.set_cons_succ])
        refine take_at (v := ?_) 11 (some 25) rfl (by kernel_rfl) (by kernel_rfl) (by kernel_rfl) (by kernel_rfl) (fun _ _ _ h => h) (Or.inl ⟨by rfl, ?_⟩) (by assumption) ?_
        rotate_left
        · intro w hSw; (try dsimp only at hSw); go_simp; try (with_reducible rfl)
        (try simp only [Act.put, List.setIfInBounds_toArray, List.set_cons_zero, List.set_cons_succ])
        refine take_at (v := ?_) 12 (some 0) rfl (by kernel_rfl) (by kernel_rfl) (by kernel_rfl) (by kernel_rfl) (fun _ _ _ h => h) (Or.inl ⟨by rfl, ?_⟩) (by assumption) ?_
        rotate_left
        · intro w hSw; (try dsimp only at hSw); go_simp; try (with_reducible rfl)
        (try simp only [Act.put, List.setIfInBounds_toArray, List.set_cons_zero, List.set_cons_succ])
        refine wpAnyH_done (by kernel_rfl) ?_ _
        clear hHeld
        go_wp2
        go_ret
        exact ⟨rfl, A7.out.c⟩
    · skip
      go_simp
      have A4 := Lib.hid (A3.out.kept ((Ch.refl Nil _).alloc (.cells #[.int .i64 1] 3)))
      have R4 := Lib.hid (R3.out.kept ((Ch.refl Nil _).alloc (.cells #[.int .i64 1] 3)) (fun _ _ e => e))
      have B4 := Lib.hid (B3.out.kept ((Ch.refl Nil _).alloc (.cells #[.int .i64 1] 3)) (fun _ _ e => e))
      have I4 := Lib.hid (src_int W3)
      refine hK.out _ _ ⟨A4.out.x0, A4.out.x1, A4.out.x2, A4.out.x3⟩ (fun hHeld => ?_)
      generalize hgw : W3.alloc _ = W4 at *
      clear hgw
      clear hK K
      (try simp only [Act.put, List.setIfInBounds_toArray, List.set_cons_zero, List.set_cons_succ])
      refine wpAnyH_ready (rs := [7]) (by kernel_rfl) (by simp) ?_
      refine AllReadyH.cons rfl (fun K hK => ?_) AllReadyH.nil
      go_simp
      refine (al_all A4.out).mono ?_
      rintro e W5 ⟨a2, cap2, rfl, r, c5⟩
      have A5 := Lib.hid (A4.out.kept c5)
      have R5 := Lib.hid (R4.out.kept c5 (fun _ _ e => e))
      have B5 := Lib.hid (B4.out.kept c5 (fun _ _ e => e))
      have I5 := Lib.hid (I4.out.kept c5 (fun _ _ e => e))
      have T5 := Lib.hid r
      refine hK.out _ _ ⟨A5.out.x0, A5.out.x1, A5.out.x2, A5.out.x3⟩ (fun hHeld => ?_)
      clear c5 r
      clear hK K
      (try simp only [Act.put, List.setIfInBounds_toArray, List.set_cons_zero, List.set_cons_succ])
      refine wpAnyH_ready (rs := [8]) (by kernel_rfl) (by simp) ?_
      refine AllReadyH.cons rfl (fun K hK => ?_) AllReadyH.nil
      go_simp
      refine (al_faults (FRow.src T5.out)).mono ?_
      rintro e W6 ⟨a3, cap3, rfl, r, c6⟩
      have A6 := Lib.hid (A5.out.kept c6)
      have R6 := Lib.hid (R5.out.kept c6 (fun _ _ e => e))
      have B6 := Lib.hid (B5.out.kept c6 (fun _ _ e => e))
      have I6 := Lib.hid (I5.out.kept c6 (fun _ _ e => e))
      have T6 := Lib.hid (T5.out.kept c6 (fun _ _ e => e))
      have F6 := Lib.hid r
      refine hK.out _ _ ⟨A6.out.x0, A6.out.x1, A6.out.x2, A6.out.x3⟩ (fun hHeld => ?_)
      clear c6 r
      clear hK K
      (try simp only [Act.put, List.setIfInBounds_toArray, List.set_cons_zero, List.set_cons_succ])
      refine wpAnyH_ready (rs := [10]) (by kernel_rfl) (by simp) ?_
      refine AllReadyH.cons rfl (fun K hK => ?_) AllReadyH.nil
      go_simp
      refine (ints_src F6.out I6.out (by omega)).mono ?_
      rintro e W7 ⟨rfl, c7⟩
      have A7 := Lib.hid (A6.out.kept c7)
      have R7 := Lib.hid (R6.out.kept c7 (fun _ _ e => e))
      have B7 := Lib.hid (B6.out.kept c7 (fun _ _ e => e))
      have I7 := Lib.hid (I6.out.kept c7 (fun _ _ e => e))
      have T7 := Lib.hid (T6.out.kept c7 (fun _ _ e => e))
      have F7 := Lib.hid (F6.out.kept c7 (fun _ _ e => e))
      refine hK.out _ _ ⟨A7.out.x0, A7.out.x1, A7.out.x2, A7.out.x3⟩ (fun hHeld => ?_)
      clear c7 
      clear hK K
      (try simp only [Act.put, List.setIfInBounds_toArray, List.set_cons_zero, List.set_cons_succ])
      refine take_at (v := ?_) 11 (some 25) rfl (by kernel_rfl) (by kernel_rfl) (by kernel_rfl) (by kernel_rfl) (fun _ _ _ h => h) (Or.inl ⟨by rfl, ?_⟩) (by assumption) ?_
      rotate_left
      · intro w hSw; (try dsimp only at hSw); go_simp; try (with_reducible rfl)
      (try simp only [Act.put, List.setIfInBounds_toArray, List.set_cons_zero, List.set_cons_succ])
      refine take_at (v := ?_) 12 (some 0) rfl (by kernel_rfl) (by kernel_rfl) (by kernel_rfl) (by kernel_rfl) (fun _ _ _ h => h) (Or.inl ⟨by rfl, ?_⟩) (by assumption) ?_
      rotate_left
      · intro w hSw; (try dsimp only at hSw); go_simp; try (with_reducible rfl)
      (try simp only [Act.put, List.setIfInBounds_toArray, List.set_cons_zero, List.set_cons_succ])
      refine wpAnyH_done (by kernel_rfl) ?_ _
      clear hHeld
      go_wp2
      go_ret
      exact ⟨rfl, A7.out.c⟩
  · skip
    go_simp
    have A1 := Lib.hid (A0.out.kept ((Ch.refl Nil _).alloc (.cells #[.int .u64 64, .int .u64 1, .int .u64 5, .int .u64 5] 43)))
    have B1 := Lib.hid (src_ex W0)
    refine hK.out _ _ ⟨A1.out.x0, A1.out.x1, A1.out.x2, A1.out.x3⟩ (fun hHeld => ?_)
    generalize hgw : W0.alloc _ = W1 at *
    clear hgw
    clear hK K
    (try simp only [Act.put, List.setIfInBounds_toArray, List.set_cons_zero, List.set_cons_succ])
    refine wpAnyH_ready (rs := [1]) (by kernel_rfl) (by simp) ?_
    refine AllReadyH.cons rfl (fun K hK => ?_) AllReadyH.nil
    go_simp
    refine (al_of A1.out).mono ?_
    rintro e W2 ⟨a1, cap1, rfl, r, c2⟩
    have A2 := Lib.hid (A1.out.kept c2)
    have B2 := Lib.hid (B1.out.kept c2 (fun _ _ e => e))
    have R2 := Lib.hid r
    refine hK.out _ _ ⟨A2.out.x0, A2.out.x1, A2.out.x2, A2.out.x3⟩ (fun hHeld => ?_)
    clear c2 r
    clear hK K
    (try simp only [Act.put, List.setIfInBounds_toArray, List.set_cons_zero, List.set_cons_succ])
    refine wpAnyH_ready (rs := [4]) (by kernel_rfl) (by simp) ?_
    refine AllReadyH.cons rfl (fun K hK => ?_) AllReadyH.nil
    go_simp
    refine (al_same R2.out B2.out).mono ?_
    rintro e W3 ⟨rfl, c3⟩
    have A3 := Lib.hid (A2.out.kept c3)
    have B3 := Lib.hid (B2.out.kept c3 (fun _ _ e => e))
    have R3 := Lib.hid (R2.out.kept c3 (fun _ _ e => e))
    refine hK.out _ _ ⟨A3.out.x0, A3.out.x1, A3.out.x2, A3.out.x3⟩ (fun hHeld => ?_)
    clear c3 
    clear hK K
    (try simp only [Act.put, List.setIfInBounds_toArray, List.set_cons_zero, List.set_cons_succ])
    refine take_at (v := ?_) 5 (some 19) rfl (by kernel_rfl) (by kernel_rfl) (by kernel_rfl) (by kernel_rfl) (fun _ _ _ h => h) (Or.inl ⟨by rfl, ?_⟩) (by assumption) ?_
    rotate_left
    · intro w hSw; (try dsimp only at hSw); go_simp; try (with_reducible rfl)
    (try simp only [Act.put, List.setIfInBounds_toArray, List.set_cons_zero, List.set_cons_succ])
    refine take_at (v := ?_) 6 (some 20) rfl (by kernel_rfl) (by kernel_rfl) (by kernel_rfl) (by kernel_rfl) (fun _ _ _ h => h) (Or.inl ⟨by rfl, ?_⟩) (by assumption) ?_
    rotate_left
    · intro w hSw; (try dsimp only at hSw); go_simp; try (with_reducible rfl)
    (try simp only [Act.put, List.setIfInBounds_toArray, List.set_cons_zero, List.set_cons_succ])
    refine wpAnyH_ready (rs := [7, 9]) (by kernel_rfl) (by simp) ?_
    refine AllReadyH.cons rfl (fun K hK => ?_) (AllReadyH.cons rfl (fun K hK => ?_) AllReadyH.nil)
    · skip
      go_simp
      refine (al_all A3.out).mono ?_
      rintro e W4 ⟨a2, cap2, rfl, r, c4⟩
      have A4 := Lib.hid (A3.out.kept c4)
      have B4 := Lib.hid (B3.out.kept c4 (fun _ _ e => e))
      have R4 := Lib.hid (R3.out.kept c4 (fun _ _ e => e))
      have T4 := Lib.hid r
      refine hK.out _ _ ⟨A4.out.x0, A4.out.x1, A4.out.x2, A4.out.x3⟩ (fun hHeld => ?_)
      clear c4 r
      clear hK K
      (try simp only [Act.put, List.setIfInBounds_toArray, List.set_cons_zero, List.set_cons_succ])
      refine wpAnyH_ready (rs := [8, 9]) (by kernel_rfl) (by simp) ?_
      refine AllReadyH.cons rfl (fun K hK => ?_) (AllReadyH.cons rfl (fun K hK => ?_) AllReadyH.nil)
      · skip
        go_simp
        refine (al_faults (FRow.src T4.out)).mono ?_
        rintro e W5 ⟨a3, cap3, rfl, r, c5⟩
        have A5 := Lib.hid (A4.out.kept c5)
        have B5 := Lib.hid (B4.out.kept c5 (fun _ _ e => e))
        have R5 := Lib.hid (R4.out.kept c5 (fun _ _ e => e))
        have T5 := Lib.hid (T4.out.kept c5 (fun _ _ e => e))
        have F5 := Lib.hid r
        refine hK.out _ _ ⟨A5.out.x0, A5.out.x1, A5.out.x2, A5.out.x3⟩ (fun hHeld => ?_)
        clear c5 r
        clear hK K
        (try simp only [Act.put, List.setIfInBounds_toArray, List.set_cons_zero, List.set_cons_succ])
        refine wpAnyH_ready (rs := [9]) (by kernel_rfl) (by simp) ?_
        refine AllReadyH.cons rfl (fun K hK => ?_) AllReadyH.nil
        go_simp
        have A6 := Lib.hid (A5.out.kept ((Ch.refl Nil _).alloc (.cells #[.int .i64 1] 3)))
        have B6 := Lib.hid (B5.out.kept ((Ch.refl Nil _).alloc (.cells #[.int .i64 1] 3)) (fun _ _ e => e))
        have R6 := Lib.hid (R5.out.kept ((Ch.refl Nil _).alloc (.cells #[.int .i64 1] 3)) (fun _ _ e => e))
        have T6 := Lib.hid (T5.out.kept ((Ch.refl Nil _).alloc (.cells #[.int .i64 1] 3)) (fun _ _ e => e))
        have F6 := Lib.hid (F5.out.kept ((Ch.refl Nil _).alloc (.cells #[.int .i64 1] 3)) (fun _ _ e => e))
        have I6 := Lib.hid (src_int W5)
        refine hK.out _ _ ⟨A6.out.x0, A6.out.x1, A6.out.x2, A6.out.x3⟩ (fun hHeld => ?_)
        generalize hgw : W5.alloc _ = W6 at *
        clear hgw
        clear hK K
        (try simp only [Act.put, List.setIfInBounds_toArray, List.set_cons_zero, List.set_cons_succ])
        refine wpAnyH_ready (rs := [10]) (by kernel_rfl) (by simp) ?_
        refine AllReadyH.cons rfl (fun K hK => ?_) AllReadyH.nil
        go_simp
        refine (ints_src F6.out I6.out (by omega)).mono ?_
        rintro e W7 ⟨rfl, c7⟩
        have A7 := Lib.hid (A6.out.kept c7)
        have B7 := Lib.hid (B6.out.kept c7 (fun _ _ e => e))
        have R7 := Lib.hid (R6.out.kept c7 (fun _ _ e => e))
        have T7 := Lib.hid (T6.out.kept c7 (fun _ _ e => e))
        have F7 := Lib.hid (F6.out.kept c7 (fun _ _ e => e))
        have I7 := Lib.hid (I6.out.kept c7 (fun _ _ e => e))
        refine hK.out _ _ ⟨A7.out.x0, A7.out.x1, A7.out.x2, A7.out.x3⟩ (fun hHeld => ?_)
        clear c7 
        clear hK K
        (try simp only [Act.put, List.setIfInBounds_toArray, List.set_cons_zero, List.set_cons_succ])
        refine take_at (v := ?_) 11 (some 25) rfl (by kernel_rfl) (by kernel_rfl) (by kernel_rfl) (by kernel_rfl) (fun _ _ _ h => h) (Or.inl ⟨by rfl, ?_⟩) (by assumption) ?_
        rotate_left
        · intro w hSw; (try dsimp only at hSw); go_simp; try (with_reducible rfl)
        (try simp only [Act.put, List.setIfInBounds_toArray, List.set_cons_zero, List.set_cons_succ])
        refine take_at (v := ?_) 12 (some 0) rfl (by kernel_rfl) (by kernel_rfl) (by kernel_rfl) (by kernel_rfl) (fun _ _ _ h => h) (Or.inl ⟨by rfl, ?_⟩) (by assumption) ?_
        rotate_left
        · intro w hSw; (try dsimp only at hSw); go_simp; try (with_reducible rfl)
        (try simp only [Act.put, List.setIfInBounds_toArray, List.set_cons_zero, List.set_cons_succ])
        refine wpAnyH_done (by kernel_rfl) ?_ _
        clear hHeld
        go_wp2
        go_ret
        exact ⟨rfl, A7.out.c⟩
      · skip
        go_simp
        have A5 := Lib.hid (A4.out.kept ((Ch.refl Nil _).alloc (.cells #[.int .i64 1] 3)))
        have B5 := Lib.hid (B4.out.kept ((Ch.refl Nil _).alloc (.cells #[.int .i64 1] 3)) (fun _ _ e => e))
        have R5 := Lib.hid (R4.out.kept ((Ch.refl Nil _).alloc (.cells #[.int .i64 1] 3)) (fun _ _ e => e))
        have T5 := Lib.hid (T4.out.kept ((Ch.refl Nil _).alloc (.cells #[.int .i64 1] 3)) (fun _ _ e => e))
        have I5 := Lib.hid (src_int W4)
        refine hK.out _ _ ⟨A5.out.x0, A5.out.x1, A5.out.x2, A5.out.x3⟩ (fun hHeld => ?_)
        generalize hgw : W4.alloc _ = W5 at *
        clear hgw
        clear hK K
        (try simp only [Act.put, List.setIfInBounds_toArray, List.set_cons_zero, List.set_cons_succ])
        refine wpAnyH_ready (rs := [8]) (by kernel_rfl) (by simp) ?_
        refine AllReadyH.cons rfl (fun K hK => ?_) AllReadyH.nil
        go_simp
        refine (al_faults (FRow.src T5.out)).mono ?_
        rintro e W6 ⟨a3, cap3, rfl, r, c6⟩
        have A6 := Lib.hid (A5.out.kept c6)
        have B6 := Lib.hid (B5.out.kept c6 (fun _ _ e => e))
        have R6 := Lib.hid (R5.out.kept c6 (fun _ _ e => e))
        have T6 := Lib.hid (T5.out.kept c6 (fun _ _ e => e))
        have I6 := Lib.hid (I5.out.kept c6 (fun _ _ e => e))
        have F6 := Lib.hid r
        refine hK.out _ _ ⟨A6.out.x0, A6.out.x1, A6.out.x2, A6.out.x3⟩ (fun hHeld => ?_)
        clear c6 r
        clear hK K
        (try simp only [Act.put, List.setIfInBounds_toArray, List.set_cons_zero, List.set_cons_succ])
        refine wpAnyH_ready (rs := [10]) (by kernel_rfl) (by simp) ?_
        refine AllReadyH.cons rfl (fun K hK => ?_) AllReadyH.nil
        go_simp
        refine (ints_src F6.out I6.out (by omega)).mono ?_
        rintro e W7 ⟨rfl, c7⟩
        have A7 := Lib.hid (A6.out.kept c7)
        have B7 := Lib.hid (B6.out.kept c7 (fun _ _ e => e))
        have R7 := Lib.hid (R6.out.kept c7 (fun _ _ e => e))
        have T7 := Lib.hid (T6.out.kept c7 (fun _ _ e => e))
        have I7 := Lib.hid (I6.out.kept c7 (fun _ _ e => e))
        have F7 := Lib.hid (F6.out.kept c7 (fun _ _ e => e))
        refine hK.out _ _ ⟨A7.out.x0, A7.out.x1, A7.out.x2, A7.out.x3⟩ (fun hHeld => ?_)
        clear c7 
        clear hK K
        (try simp only [Act.put, List.setIfInBounds_toArray, List.set_cons_zero, List.set_cons_succ])
        refine take_at (v := ?_) 11 (some 25) rfl (by kernel_rfl) (by kernel_rfl) (by kernel_rfl) (by kernel_rfl) (fun _ _ _ h => h) (Or.inl ⟨by rfl, ?_⟩) (by assumption) ?_
        rotate_left
        · intro w hSw; (try dsimp only at hSw); go_simp; try (with_reducible rfl)
        (try simp only [Act.put, List.setIfInBounds_toArray, List.set_cons_zero, List.set_cons_succ])
        refine take_at (v := ?_) 12 (some 0) rfl (by kernel_rfl) (by kernel_rfl) (by kernel_rfl) (by kernel_rfl) (fun _ _ _ h => h) (Or.inl ⟨by rfl, ?_⟩) (by assumption) ?_
        rotate_left
        · intro w hSw; (try dsimp only at hSw); go_simp; try (with_reducible rfl)
        (try simp only [Act.put, List.setIfInBounds_toArray, List.set_cons_zero, List.set_cons_succ])
        refine wpAnyH_done (by kernel_rfl) ?_ _
        clear hHeld
        go_wp2
        go_ret
        exact ⟨rfl, A7.out.c⟩
    · skip
      go_simp
      have A4 := Lib.hid (A3.out.kept ((Ch.refl Nil _).alloc (.cells #[.int .i64 1] 3)))
      have B4 := Lib.hid (B3.out.kept ((Ch.refl Nil _).alloc (.cells #[.int .i64 1] 3)) (fun _ _ e => e))
      have R4 := Lib.hid (R3.out.kept ((Ch.refl Nil _).alloc (.cells #[.int .i64 1] 3)) (fun _ _ e => e))
      have I4 := Lib.hid (src_int W3)
      refine hK.out _ _ ⟨A4.out.x0, A4.out.x1, A4.out.x2, A4.out.x3⟩ (fun hHeld => ?_)
      generalize hgw : W3.alloc _ = W4 at *
      clear hgw
      clear hK K
      (try simp only [Act.put, List.setIfInBounds_toArray, List.set_cons_zero, List.set_cons_succ])
      refine wpAnyH_ready (rs := [7]) (by kernel_rfl) (by simp) ?_
      refine AllReadyH.cons rfl (fun K hK => ?_) AllReadyH.nil
      go_simp
      refine (al_all A4.out).mono ?_
      rintro e W5 ⟨a2, cap2, rfl, r, c5⟩
      have A5 := Lib.hid (A4.out.kept c5)
      have B5 := Lib.hid (B4.out.kept c5 (fun _ _ e => e))
      have R5 := Lib.hid (R4.out.kept c5 (fun _ _ e => e))
      have I5 := Lib.hid (I4.out.kept c5 (fun _ _ e => e))
      have T5 := Lib.hid r
      refine hK.out _ _ ⟨A5.out.x0, A5.out.x1, A5.out.x2, A5.out.x3⟩ (fun hHeld => ?_)
      clear c5 r
      clear hK K
      (try simp only [Act.put, List.setIfInBounds_toArray, List.set_cons_zero, List.set_cons_succ])
      refine wpAnyH_ready (rs := [8]) (by kernel_rfl) (by simp) ?_
      refine AllReadyH.cons rfl (fun K hK => ?_) AllReadyH.nil
      go_simp
      refine (al_faults (FRow.src T5.out)).mono ?_
      rintro e W6 ⟨a3, cap3, rfl, r, c6⟩
      have A6 := Lib.hid (A5.out.kept c6)
      have B6 := Lib.hid (B5.out.kept c6 (fun _ _ e => e))
      have R6 := Lib.hid (R5.out.kept c6 (fun _ _ e => e))
      have I6 := Lib.hid (I5.out.kept c6 (fun _ _ e => e))
      have T6 := Lib.hid (T5.out.kept c6 (fun _ _ e => e))
      have F6 := Lib.hid r
      refine hK.out _ _ ⟨A6.out.x0, A6.out.x1, A6.out.x2, A6.out.x3⟩ (fun hHeld => ?_)
      clear c6 r
      clear hK K
      (try simp only [Act.put, List.setIfInBounds_toArray, List.set_cons_zero, List.set_cons_succ])
      refine wpAnyH_ready (rs := [10]) (by kernel_rfl) (by simp) ?_
      refine AllReadyH.cons rfl (fun K hK => ?_) AllReadyH.nil
      go_simp
      refine (ints_src F6.out I6.out (by omega)).mono ?_
      rintro e W7 ⟨rfl, c7⟩
      have A7 := Lib.hid (A6.out.kept c7)
      have B7 := Lib.hid (B6.out.kept c7 (fun _ _ e => e))
      have R7 := Lib.hid (R6.out.kept c7 (fun _ _ e => e))
      have I7 := Lib.hid (I6.out.kept c7 (fun _ _ e => e))
      have T7 := Lib.hid (T6.out.kept c7 (fun _ _ e => e))
      have F7 := Lib.hid (F6.out.kept c7 (fun _ _ e => e))
      refine hK.out _ _ ⟨A7.out.x0, A7.out.x1, A7.out.x2, A7.out.x3⟩ (fun hHeld => ?_)
      clear c7 
      clear hK K
      (try simp only [Act.put, List.setIfInBounds_toArray, List.set_cons_zero, List.set_cons_succ])
      refine take_at (v := ?_) 11 (some 25) rfl (by kernel_rfl) (by kernel_rfl) (by kernel_rfl) (by kernel_rfl) (fun _ _ _ h => h) (Or.inl ⟨by rfl, ?_⟩) (by assumption) ?_
      rotate_left
      · intro w hSw; (try dsimp only at hSw); go_simp; try (with_reducible rfl)
      (try simp only [Act.put, List.setIfInBounds_toArray, List.set_cons_zero, List.set_cons_succ])
      refine take_at (v := ?_) 12 (some 0) rfl (by kernel_rfl) (by kernel_rfl) (by kernel_rfl) (by kernel_rfl) (fun _ _ _ h => h) (Or.inl ⟨by rfl, ?_⟩) (by assumption) ?_
      rotate_left
      · intro w hSw; (try dsimp only at hSw); go_simp; try (with_reducible rfl)
      (try simp only [Act.put, List.setIfInBounds_toArray, List.set_cons_zero, List.set_cons_succ])
      refine wpAnyH_done (by kernel_rfl) ?_ _
      clear hHeld
      go_wp2
      go_ret
      exact ⟨rfl, A7.out.c⟩
end Go.Proofs.Ytpihlchocjdpmaa
