/-
  The document's answer: a list without one; a list's values.
-/
import Derived.Test.YtmebkogkcnmkiaaListRef2
namespace Go.Proofs.Ytmebkogkcnmkiaa
open Go.RowKit Verge
attribute [local go_sem] Oper.semAt_some
set_option linter.unusedVariables false
set_option linter.unusedSimpArgs false
section
variable {S : Nat → Prop} {w w1 w' : World} {R : Nat → Prop} {wb q k vc c' : Nat} {Val : Nat → Int} {L : Nat → List Nat} {ra : Nat → Option Addr} {rc : Nat → Nat} {va a : Option Addr} {xs : List Nat}
/-- those of the first j that are not n -/
def flt (xs : List Nat) (n j : Nat) : List Nat := (xs.take j).filter (· != n)
theorem flt_yes {xs : List Nat} {n j y : Nat} (h : xs[j]? = some y) (hy : y ≠ n) : flt xs n (j + 1) = flt xs n j ++ [y] := by
  unfold flt; rw [List.take_add_one, h, List.filter_append]; simp [hy]
theorem flt_no {xs : List Nat} {n j : Nat} (h : xs[j]? = some n) : flt xs n (j + 1) = flt xs n j := by
  unfold flt; rw [List.take_add_one, h, List.filter_append]; simp
theorem flt_all (xs : List Nat) (n : Nat) : flt xs n xs.length = xs.filter (· != n) := by unfold flt; rw [List.take_length]
theorem flt_len (xs : List Nat) (n j : Nat) : (flt xs n j).length ≤ xs.length := by
  unfold flt; exact Nat.le_trans (List.length_filter_le _ _) (by rw [List.length_take]; omega)

set_option maxRecDepth 100000 in
set_option maxHeartbeats 1600000 in
theorem RefL.out (h : RefL w R wb q Val L ra rc va vc) (hk : k < 3) (n : Nat) (hl : (L k).length ≤ 100000) :
    Calls Try.prog 10 #[.pointer (some ⟨wb, 0, none⟩), .int .i64 k, .int .i64 n] w fun e w' => (∃ r, e = .returned r) ∧ ∃ R' ra' rc', (∀ j, R' j → R j ∨ w.heap.size ≤ j) ∧ RefL w' R' wb q Val (upd L k ((L k).filter (· != n))) ra' rc' va vc ∧ Ch R w w' := by
  have H := Lib.hid h
  clear h
  have hkz : (k : Int) < 3 := by omega
  go_enter Try.func10, Try.ntmps10
  go_wp2
  go_loopw [6, 7] (fun o i wr => ∃ (j : Nat) (a : Option Addr) (c : Nat), j ≤ (L k).length ∧ i = .int .i64 j ∧ o = .slice a (flt (L k) n j).length c ∧ RowI wr a (flt (L k) n j).length c (numR (flt (L k) n j)) ∧ (flt (L k) n j = [] → a = none ∧ c = 0) ∧ (∀ g, OwnS a g → w.heap.size ≤ g) ∧ Ch Nil w wr) (fun _ i _ => (L k).length - (intOf i).toNat)
  case atStart => exact ⟨0, none, 0, by omega, rfl, rfl, Row.nil _ _ _ _, fun _ => ⟨rfl, rfl⟩, fun g hg => (by cases hg), Ch.refl _ _⟩
  case round =>
    obtain ⟨j, a, c, hj, rfl, rfl, hr, hn, ho, hc⟩ := hrel
    have HR := Lib.hid hr
    have HN := Lib.hid hn
    have HO := Lib.hid ho
    have HC := Lib.hid hc
    have HW := Lib.hid (H.out.kept hc (fun _ _ e => e))
    have fl := flt_len (L k) n j
    clear hr hn ho hc
    have hcell := HW.out.c k hk
    by_cases hlt : j < (L k).length
    · obtain ⟨g, hg, hgl⟩ := (HW.out.r k hk).form (by omega)
      rw [hg] at hcell
      have hr := HW.out.r k hk
      rw [hg] at hr
      have q1 := Row.cell hr j (by omega)
      have lc := Row.len_cap hr
      clear hr
      obtain ⟨y, hy⟩ : ∃ y, (L k)[j]? = some y := ⟨_, List.getElem?_eq_getElem hlt⟩
      have hyv : numR (L k) j = (y : Int) := by simp only [numR]; rw [List.getD_eq_getElem?_getD, hy]; rfl
      have q2 : wr.cell? ⟨g, j, none⟩ = some (.int .i64 (y : Int)) := by rw [← hyv]; exact q1
      have HY := Lib.hid hy
      have HG := Lib.hid hg
      clear q1 hyv hy hg
      have hjz : (j : Int) < ((L k).length : Int) := by omega
      by_cases e : y = n
      · subst e
        have eb : ((y : Int) != (y : Int)) = false := by simp
        have E1 := Lib.hid (flt_no HY.out)
        go_wp2
        go_roundw
        case rel => exact ⟨j + 1, a, c, by omega, by go_num, by rw [E1.out], by rw [E1.out]; exact HR.out, by rw [E1.out]; exact HN.out, HO.out, HC.out⟩
        case measure => simp [intOf]; omega
      · have eb : ((y : Int) != (n : Int)) = true := by rw [bne_iff_ne]; omega
        have E1 := Lib.hid (flt_yes HY.out e)
        have E2 : Hid ((flt (L k) n j).length + 1 = (flt (L k) n (j + 1)).length) := Lib.hid (by rw [flt_yes HY.out e]; simp)
        have R5 := Lib.hid (HR.out.kept (S := Nil) ((Ch.refl Nil wr).alloc (.cells #[.int .i64 (y : Int)] 3)) (fun _ _ e => e))
        clear e
        go_wp2_with (at_builtin; refine append_row _ rfl _ _ _ rfl 3 (.int .i64 0) 1 8 Try.underlying29 (by kernel_rfl) rfl (by omega) (by omega) rfl R5.out (by omega) wr.heap.size 1 [.int .i64 (y : Int)] 3 rfl rfl (heap_alloc_new wr _) (by simp [Value.oneCell']) (fun i => .int .i64 (numR (flt (L k) n (j + 1)) i)) (fun i hi => by simp only [numR]; rw [E1.out, getD_snoc _ _ _ (by omega)]) (by intro m u hu; obtain rfl : m = 0 := (by cases m; rfl; simp at hu); simp at hu; subst hu; simp only [numR, Nat.mul_one, Nat.add_zero]; rw [E1.out, getD_last]) _ rfl ?_)
        intro g6 cap6 w6 row6 ch6 at6 lt6
        have c6 : Ch (OwnS a) wr w6 := (((Ch.refl Nil wr).alloc _).mono (fun _ _ e => e.elim)).trans ch6
        have C6 := Lib.hid (HC.out.then c6 (fun i hi e => by have := HO.out i e; omega))
        have O6 : Hid (∀ g, OwnS (some ⟨g6, 0, none⟩) g → w.heap.size ≤ g) := Lib.hid (fun g hg => by
          cases hg
          rcases at6 with h' | h'
          · exact HO.out _ h'
          · have := HC.out.size; rw [h']; simp; omega)
        have R6 := Lib.hid row6
        clear ch6 row6 at6 lt6 R5 c6 q2 hcell
        go_wp2
        go_roundw
        case rel => exact ⟨j + 1, some ⟨g6, 0, none⟩, cap6, by omega, by go_num, by rw [E2.out], by rw [← E2.out]; exact R6.out, fun e => (by rw [E1.out] at e; simp at e), O6.out, C6.out⟩
        case measure => simp [intOf]; omega
    · obtain rfl : (L k).length = j := by omega
      have fz := HW.out.b.fz k
      have FIN := Lib.hid (H.out.setL (a := a) (c' := c) (xs := (L k).filter (· != n)) hk (HC.out.mono (fun _ _ e => e.elim)) (by rw [← flt_all]; exact HR.out) (fun j hj => .inr (HO.out j hj)) (fun e => HN.out (by rw [flt_all]; exact e)) (fun i hi => H.out.xl k hk i (List.mem_filter.1 hi).1))
      have E := Lib.hid (flt_all (L k) n)
      go_wp2
      go_end0
      refine ⟨⟨_, rfl⟩, _, _, _, ?_, by rw [E.out]; exact FIN.out.1, by rw [E.out]; exact FIN.out.2⟩
      rintro m (hm | hm)
      · exact .inl hm
      · exact .inr (HO.out m hm)

set_option maxRecDepth 100000 in
set_option maxHeartbeats 1600000 in
theorem RefL.all (h : RefL w R wb q Val L ra rc va vc) (hk : k < 3) (hl : (L k).length ≤ 100000) :
    Calls Try.prog 14 #[.pointer (some ⟨wb, 0, none⟩), .int .i64 k] w fun e w' => ∃ r c, e = .returned (.slice r (L k).length c) ∧ RowI w' r (L k).length c (fun j => Val ((L k).getD j 0)) ∧ (∀ g, OwnS r g → w.heap.size ≤ g) ∧ Ch Nil w w' := by
  have H := Lib.hid h
  clear h
  have hkz : (k : Int) < 3 := by omega
  go_enter Try.func14, Try.ntmps14
  go_wp2
  go_loopw [5, 6] (fun o i wr => ∃ (j : Nat) (a : Option Addr) (c : Nat), j ≤ (L k).length ∧ i = .int .i64 j ∧ o = .slice a j c ∧ RowI wr a j c (fun i => Val ((L k).getD i 0)) ∧ (∀ g, OwnS a g → w.heap.size ≤ g) ∧ Ch Nil w wr) (fun _ i _ => (L k).length - (intOf i).toNat)
  case atStart => exact ⟨0, none, 0, by omega, rfl, rfl, Row.nil _ _ _ _, fun g hg => (by cases hg), Ch.refl _ _⟩
  case round =>
    obtain ⟨j, a, c, hj, rfl, rfl, hr, ho, hc⟩ := hrel
    have HR := Lib.hid hr
    have HO := Lib.hid ho
    have HC := Lib.hid hc
    have HW := Lib.hid (H.out.kept hc (fun _ _ e => e))
    clear hr ho hc
    have hcell := HW.out.c k hk
    by_cases hlt : j < (L k).length
    · obtain ⟨g, hg, hgl⟩ := (HW.out.r k hk).form (by omega)
      rw [hg] at hcell
      have hr := HW.out.r k hk
      rw [hg] at hr
      have q1 := Row.cell hr j (by omega)
      have lc := Row.len_cap hr
      clear hr
      obtain ⟨y, hy⟩ : ∃ y, (L k)[j]? = some y := ⟨_, List.getElem?_eq_getElem hlt⟩
      have hyq : y < q := H.out.xl k hk y (List.mem_of_getElem? hy)
      have hyv : numR (L k) j = (y : Int) := by simp only [numR]; rw [List.getD_eq_getElem?_getD, hy]; rfl
      have hyg : (L k).getD j 0 = y := by rw [List.getD_eq_getElem?_getD, hy]; rfl
      have HYG := Lib.hid hyg
      have q2 : wr.cell? ⟨g, j, none⟩ = some (.int .i64 (y : Int)) := by rw [← hyv]; exact q1
      obtain ⟨gv, hgv, -⟩ := HW.out.rv.form (by omega)
      have cvv := HW.out.cv
      have rvv := HW.out.rv
      rw [hgv] at cvv rvv
      have q3 := Row.cell rvv y (by omega)
      have lcv := Row.len_cap rvv
      have na1 : ∀ m, OwnS a m → w.heap.size ≤ m := HO.out
      have nwb : wb < w.heap.size := H.out.lt _ H.out.mb
      have ng : g < w.heap.size := H.out.lt _ (H.out.mr k hk g (by rw [hg]; rfl))
      have ngv : gv < w.heap.size := H.out.lt _ (H.out.mv gv (by rw [hgv]; rfl))
      have hjz : (j : Int) < ((L k).length : Int) := by omega
      have hyz : (y : Int) < (q : Int) := by omega
      have wcs := HC.out.size
      have C3 := Lib.hid cvv
      have C1 := Lib.hid hcell
      have Q2 := Lib.hid q2
      have Q3 := Lib.hid q3
      have NA := Lib.hid na1
      clear q1 hyv hy rvv hg hgv hyg na1 q3
      go_wp2
      clear hcell cvv q2
      refine wp_region_held_drew (S := fun w' => (w'.cell? ⟨wb, 3, none⟩ = some (.slice (some ⟨gv, 0, none⟩) q vc) ∧ w'.cell? ⟨wb, k, none⟩ = some (.slice (some ⟨g, 0, none⟩) (L k).length (rc k))) ∧ w'.cell? ⟨g, j, none⟩ = some (.int .i64 (y : Int)) ∧ w'.cell? ⟨gv, y, none⟩ = some (.int .i64 (Val y))) (by kernel_rfl) ⟨⟨C3.out, C1.out⟩, Q2.out, Q3.out⟩ (fun hHeld => ?_)
      have HCd := Lib.hid (HC.out.drew)
      have HRd := Lib.hid (HR.out.kept (S := Nil) ((Ch.refl Nil wr).drew) (fun _ _ e => e))
      clear C3 C1 Q2 Q3
      generalize wr.drew = X at hHeld HCd HRd ⊢
      have wXs := HCd.out.size
      refine take_at (v := ?_) 0 (some 18) rfl (by kernel_rfl) (by kernel_rfl) (by kernel_rfl) (by kernel_rfl) (fun _ _ _ h => h) (Or.inl ⟨by rfl, ?_⟩) (by assumption) ?_
      rotate_left
      · intro w hSw; (try dsimp only at hSw); go_simp; try (with_reducible rfl)
      (try simp only [Act.put, List.setIfInBounds_toArray, List.set_cons_zero, List.set_cons_succ])
      refine take_at (v := ?_) 1 (some 19) rfl (by kernel_rfl) (by kernel_rfl) (by kernel_rfl) (by kernel_rfl) (fun _ _ _ h => h) (Or.inl ⟨by rfl, ?_⟩) (by assumption) ?_
      rotate_left
      · intro w hSw; (try dsimp only at hSw); go_simp; try (with_reducible rfl)
      (try simp only [Act.put, List.setIfInBounds_toArray, List.set_cons_zero, List.set_cons_succ])
      refine take_at (v := ?_) 2 (some 20) rfl (by kernel_rfl) (by kernel_rfl) (by kernel_rfl) (by kernel_rfl) (fun _ _ _ h => h) (Or.inl ⟨by rfl, ?_⟩) (by assumption) ?_
      rotate_left
      · intro w hSw; (try dsimp only at hSw); go_simp; try (with_reducible rfl)
      (try simp only [Act.put, List.setIfInBounds_toArray, List.set_cons_zero, List.set_cons_succ])
      refine take_at (v := ?_) 3 (some 21) rfl (by kernel_rfl) (by kernel_rfl) (by kernel_rfl) (by kernel_rfl) (fun _ _ _ h => h) (Or.inl ⟨by rfl, ?_⟩) (by assumption) ?_
      rotate_left
      · intro w hSw; (try dsimp only at hSw); go_simp; try (with_reducible rfl)
      (try simp only [Act.put, List.setIfInBounds_toArray, List.set_cons_zero, List.set_cons_succ])
      refine take_at (v := ?_) 4 (some 22) rfl (by kernel_rfl) (by kernel_rfl) (by kernel_rfl) (by kernel_rfl) (fun _ _ _ h => h) (Or.inl ⟨by rfl, ?_⟩) (by assumption) ?_
      rotate_left
      · intro w hSw; (try dsimp only at hSw); go_simp; try (with_reducible rfl)
      (try simp only [Act.put, List.setIfInBounds_toArray, List.set_cons_zero, List.set_cons_succ])
      refine take_at (v := ?_) 5 (some 23) rfl (by kernel_rfl) (by kernel_rfl) (by kernel_rfl) (by kernel_rfl) (fun _ _ _ h => h) (Or.inl ⟨by rfl, ?_⟩) (by assumption) ?_
      rotate_left
      · intro w hSw; (try dsimp only at hSw); go_simp; try (with_reducible rfl)
      (try simp only [Act.put, List.setIfInBounds_toArray, List.set_cons_zero, List.set_cons_succ])
      refine take_at (v := ?_) 6 (some 24) rfl (by kernel_rfl) (by kernel_rfl) (by kernel_rfl) (by kernel_rfl) (fun _ _ _ h => h) (Or.inl ⟨by rfl, ?_⟩) (by assumption) ?_
      rotate_left
      · intro w hSw; (try dsimp only at hSw); go_simp; try (with_reducible rfl)
      (try simp only [Act.put, List.setIfInBounds_toArray, List.set_cons_zero, List.set_cons_succ])
      refine take_at (v := ?_) 7 (some 25) rfl (by kernel_rfl) (by kernel_rfl) (by kernel_rfl) (by kernel_rfl) (fun _ _ _ h => h) (Or.inl ⟨by rfl, ?_⟩) (by assumption) ?_
      rotate_left
      · intro w hSw; (try dsimp only at hSw); go_simp; try (with_reducible rfl)
      (try simp only [Act.put, List.setIfInBounds_toArray, List.set_cons_zero, List.set_cons_succ])
      refine take_at (v := ?_) 8 (some 26) rfl (by kernel_rfl) (by kernel_rfl) (by kernel_rfl) (by kernel_rfl) (fun _ _ _ h => h) (Or.inl ⟨by rfl, ?_⟩) (by assumption) ?_
      rotate_left
      · intro w hSw; (try dsimp only at hSw); go_simp; try (with_reducible rfl)
      (try simp only [Act.put, List.setIfInBounds_toArray, List.set_cons_zero, List.set_cons_succ])
      refine take_at (v := ?_) 9 (some 27) rfl (by kernel_rfl) (by kernel_rfl) (by kernel_rfl) (by kernel_rfl) (fun _ _ _ h => h) (Or.inl ⟨by rfl, ?_⟩) (by assumption) ?_
      rotate_left
      · intro w hSw; (try dsimp only at hSw); go_simp; try (with_reducible rfl)
      (try simp only [Act.put, List.setIfInBounds_toArray, List.set_cons_zero, List.set_cons_succ])
      refine take_at (v := ?_) 10 (some 28) rfl (by kernel_rfl) (by kernel_rfl) (by kernel_rfl) (by kernel_rfl) (fun _ _ _ h => h) (Or.inl ⟨by rfl, ?_⟩) (by assumption) ?_
      rotate_left
      · intro w hSw; (try dsimp only at hSw); go_simp; try (with_reducible rfl)
      (try simp only [Act.put, List.setIfInBounds_toArray, List.set_cons_zero, List.set_cons_succ])
      refine take_at (v := ?_) 11 (some 29) rfl (by kernel_rfl) (by kernel_rfl) (by kernel_rfl) (by kernel_rfl) (fun _ _ _ h => h) (Or.inl ⟨by rfl, ?_⟩) (by assumption) ?_
      rotate_left
      · intro w hSw; (try dsimp only at hSw); go_simp; try (with_reducible rfl)
      (try simp only [Act.put, List.setIfInBounds_toArray, List.set_cons_zero, List.set_cons_succ])
      refine take_at (v := ?_) 12 (some 30) rfl (by kernel_rfl) (by kernel_rfl) (by kernel_rfl) (by kernel_rfl) (fun _ _ _ h => h) (Or.inl ⟨by rfl, ?_⟩) (by assumption) ?_
      rotate_left
      · intro w hSw; (try dsimp only at hSw); go_simp; try (with_reducible rfl)
      (try simp only [Act.put, List.setIfInBounds_toArray, List.set_cons_zero, List.set_cons_succ])
      refine take_at (v := ?_) 13 (some 31) rfl (by kernel_rfl) (by kernel_rfl) (by kernel_rfl) (by kernel_rfl) (fun _ _ _ h => h) (Or.inl ⟨by rfl, ?_⟩) (by assumption) ?_
      rotate_left
      · intro w hSw; (try dsimp only at hSw); go_simp; try (with_reducible rfl)
      (try simp only [Act.put, List.setIfInBounds_toArray, List.set_cons_zero, List.set_cons_succ])
      refine take_at (v := ?_) 14 (some 32) rfl (by kernel_rfl) (by kernel_rfl) (by kernel_rfl) (by kernel_rfl) (fun _ _ _ h => h) (Or.inl ⟨by rfl, ?_⟩) (by assumption) ?_
      rotate_left
      · intro w hSw; (try dsimp only at hSw); go_simp; try (with_reducible rfl)
      (try simp only [Act.put, List.setIfInBounds_toArray, List.set_cons_zero, List.set_cons_succ])
      refine take_at (v := ?_) 15 (some 33) rfl (by kernel_rfl) (by kernel_rfl) (by kernel_rfl) (by kernel_rfl) (fun _ _ _ h => h) (Or.inl ⟨by rfl, ?_⟩) (by assumption) ?_
      rotate_left
      · intro w hSw; (try dsimp only at hSw); go_simp; try (with_reducible rfl)
      (try simp only [Act.put, List.setIfInBounds_toArray, List.set_cons_zero, List.set_cons_succ])
      refine wpAnyH_ready (rs := [16]) (by kernel_rfl) (by simp) ?_
      refine AllReadyH.cons rfl (fun K' hK => ?_) AllReadyH.nil
      go_simp
      have cX : Ch Nil X (X.alloc (.cells #[.int .i64 (Val y)] 3)) := (Ch.refl _ _).alloc _
      have hH2 : ((X.alloc (.cells #[.int .i64 (Val y)] 3)).cell? ⟨wb, 3, none⟩ = some (.slice (some ⟨gv, 0, none⟩) q vc) ∧ (X.alloc (.cells #[.int .i64 (Val y)] 3)).cell? ⟨wb, k, none⟩ = some (.slice (some ⟨g, 0, none⟩) (L k).length (rc k))) ∧ (X.alloc (.cells #[.int .i64 (Val y)] 3)).cell? ⟨g, j, none⟩ = some (.int .i64 (y : Int)) ∧ (X.alloc (.cells #[.int .i64 (Val y)] 3)).cell? ⟨gv, y, none⟩ = some (.int .i64 (Val y)) :=
        ⟨⟨cX.keeps hHeld.1.1 (fun e => e), cX.keeps hHeld.1.2 (fun e => e)⟩, cX.keeps hHeld.2.1 (fun e => e), cX.keeps hHeld.2.2 (fun e => e)⟩
      clear hHeld
      refine hK.out _ _ hH2 (fun hHeld => ?_)
      clear hK K' hH2
      (try simp only [Act.put, List.setIfInBounds_toArray, List.set_cons_zero, List.set_cons_succ])
      have R5 := Lib.hid (HRd.out.kept cX (fun _ _ e => e))
      refine wpAnyH_ready (rs := [17]) (by kernel_rfl) (by simp) ?_
      refine AllReadyH.cons rfl (fun K' hK => ?_) AllReadyH.nil
      refine step_row rfl _ _ _ rfl 3 (.int .i64 0) 1 8 Try.underlying29 (by kernel_rfl) rfl (by omega) (by omega) rfl R5.out (by omega) X.heap.size 1 [.int .i64 (Val y)] 3 rfl rfl (heap_alloc_new X _) (by simp [Value.oneCell']) (fun i => .int .i64 (Val ((L k).getD i 0))) (fun _ _ => rfl) (by intro m u hu; obtain rfl : m = 0 := (by cases m; rfl; simp at hu); simp at hu; subst hu; simp only [Nat.mul_one, Nat.add_zero]; rw [HYG.out]) _ rfl ?_
      intro g6 cap6 w6 row6 ch6 at6 lt6
      have C6 := Lib.hid ((HCd.out.trans cX).then ch6 (fun i hi e => by have := NA.out i e; omega))
      have O6 : Hid (∀ g, OwnS (some ⟨g6, 0, none⟩) g → w.heap.size ≤ g) := Lib.hid (fun g hg => by
        cases hg
        rcases at6 with h' | h'
        · exact NA.out _ h'
        · rw [h']; simp; omega)
      have R6 := Lib.hid row6
      have nn : ∀ m, m < w.heap.size → ¬ OwnS a m := fun m hm e => by have := NA.out m e; omega
      refine hK.out _ _ ⟨⟨ch6.keeps hHeld.1.1 (nn _ nwb), ch6.keeps hHeld.1.2 (nn _ nwb)⟩, ch6.keeps hHeld.2.1 (nn _ ng), ch6.keeps hHeld.2.2 (nn _ ngv)⟩ (fun hHeld2 => ?_)
      clear hK K' hHeld ch6 row6 at6 lt6 R5 cX nn
      (try simp only [Act.put, List.setIfInBounds_toArray, List.set_cons_zero, List.set_cons_succ])
      refine take_at (v := ?_) 18 (some 5) rfl (by kernel_rfl) (by kernel_rfl) (by kernel_rfl) (by kernel_rfl) (fun _ _ _ h => h) (Or.inl ⟨by rfl, ?_⟩) (by assumption) ?_
      rotate_left
      · intro w hSw; (try dsimp only at hSw); go_simp; try (with_reducible rfl)
      (try simp only [Act.put, List.setIfInBounds_toArray, List.set_cons_zero, List.set_cons_succ])
      refine wpAnyH_done (by kernel_rfl) ?_ _
      clear hHeld2
      go_wp2
      go_roundw
      case rel => exact ⟨j + 1, some ⟨g6, 0, none⟩, cap6, by omega, by go_num, rfl, R6.out, O6.out, C6.out⟩
      case measure => simp [intOf]; omega
    · obtain rfl : (L k).length = j := by omega
      go_wp2
      go_ret
      exact ⟨a, c, rfl, HR.out, HO.out, HC.out⟩
end
end Go.Proofs.Ytmebkogkcnmkiaa
