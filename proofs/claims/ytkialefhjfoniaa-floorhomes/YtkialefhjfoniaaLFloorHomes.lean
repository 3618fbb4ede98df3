/-
  Proved: for every number of shards and all slots the statement FloorHomes returns true: slots have one home just if their numbers differ by a multiple of how many shards there are; and nothing that was there is changed. Conditions: none.
-/
import Derived.Test.YtkialefhjfoniaaFlAlive
import Derived.Test.YtkialefhjfoniaaHeld
import Derived.ProofKit
import Derived.OpenShut
import Derived.ChangeOld
import Derived.Below
namespace Go.Proofs.Ytkialefhjfoniaa
open Go.ChangeShapes Go.WideShapes Go.ChangeAt Go.RowKit Verge
set_option linter.unusedVariables false
set_option linter.unusedSimpArgs false
attribute [local go_sem] Oper.semAt_some

theorem homes_mod (x y n dd : Nat) (hn : 1 ≤ n ∧ n ≤ 4) (h : x = y + dd ∨ y = x + dd) : (x % n = y % n) ↔ dd % n = 0 := by
  have : n = 1 ∨ n = 2 ∨ n = 3 ∨ n = 4 := by omega
  rcases this with rfl | rfl | rfl | rfl <;> omega
set_option maxHeartbeats 8000000 in
set_option maxRecDepth 100000 in
theorem FloorHomes_walk (a b c : Int) (wa : (Lit.int .u8 a).wf = true) (wb : (Lit.int .u16 b).wf = true) (wc : (Lit.int .u16 c).wf = true) (w : World) :
    Calls Try.prog 5 #[.int .u8 a, .int .u16 b, .int .u16 c] w fun e w' => e = .returned (.bool true) ∧ Below w.heap.size w w' := by
  suffices h : Calls Try.prog 5 #[.int .u8 a, .int .u16 b, .int .u16 c] w fun e w' => e = .returned (.bool true) ∧ Ch Nil w w' from
    h.mono fun e w' ⟨he, c⟩ => ⟨he, c.below (Nat.le_refl _) (fun _ _ e => e.elim)⟩
  obtain ⟨ha, ha'⟩ := bounds_u8 wa
  obtain ⟨hb, hb'⟩ := bounds_u16 wb
  obtain ⟨hc, hc'⟩ := bounds_u16 wc
  clear wa wb wc
  obtain ⟨x, rfl⟩ := Int.eq_ofNat_of_zero_le hb
  obtain ⟨y, rfl⟩ := Int.eq_ofNat_of_zero_le hc
  obtain ⟨n, hn⟩ : ∃ n : Nat, 1 + a % 4 = (n : Int) := ⟨(1 + a % 4).toNat, by omega⟩
  have n0 : 1 ≤ n ∧ n ≤ 4 := by omega
  obtain ⟨dd, hdd⟩ : ∃ dd : Nat, x = y + dd ∨ y = x + dd := ⟨(if y ≤ x then x - y else y - x), by split <;> omega⟩
  obtain ⟨m, hm0⟩ : ∃ m : Nat, dd % n = m := ⟨_, rfl⟩
  have hm : (dd : Int) % (n : Int) = (m : Int) := by rw [← hm0]; omega
  have hm2 : (dd : Int).tmod (n : Int) = (m : Int) := by rw [Int.tmod_eq_emod_of_nonneg (by omega)]; exact hm
  obtain ⟨E, hE⟩ : ∃ E : Bool, E = decide (m = 0) := ⟨_, rfl⟩
  have h57 : ((m : Int) == 0) = E := by rw [hE, Bool.eq_iff_iff, beq_iff_eq, decide_eq_true_iff]; omega
  have HMO := Lib.hid (homes_mod x y n dd n0 hdd)
  have HM0 := Lib.hid hm0
  have HEE := Lib.hid hE
  have nz : ¬ (n = 0) := by omega
  have nz2 : ((n : Int) == 0) = false := by rw [beq_eq_false_iff_ne]; omega
  obtain ⟨z, hz⟩ : ∃ z : Int, (x : Int) - (y : Int) = z := ⟨_, rfl⟩
  have zb : -65536 ≤ z ∧ z ≤ 65536 := by omega
  have HDZ : Hid ((z = dd ∧ 0 ≤ z) ∨ (z = -dd ∧ z < 0)) := Lib.hid (by rcases hdd with h | h <;> omega)
  have db : (dd : Int) ≤ 65536 := by rcases hdd with h | h <;> omega
  have HN1 := Lib.hid hn
  clear hdd hm0 hE
  go_enter Try.func5, Try.ntmps5
  go_wp2_with fail
  refine (alive_any _).mono ?_
  rintro e w0 ⟨rfl, c0⟩
  have C0 := Lib.hid c0
  clear c0
  go_wp2_with fail
  refine (plain_of _ 8 _).mono ?_
  rintro e w1 ⟨rfl, c1⟩
  have C1 := Lib.hid (C0.out.trans c1)
  clear c1 C0
  go_wp2_with fail
  refine (newPlain _ 8 n 8 rfl rfl n0 (by omega) _).mono ?_
  rintro e w2 ⟨F, rfl, hF, hn2, n2⟩
  have N2 := Lib.hid n2
  have HF := Lib.hid (show F.c.s = F.n from by rw [hF, hn2])
  have HN := Lib.hid hn2
  have C2 := Lib.hid (C1.out.trans n2.c)
  have HE : Hid (decide (F.sh (x % n) = F.sh (y % n)) = E) := Lib.hid (by
    rw [HEE.out, Bool.eq_iff_iff, decide_eq_true_iff, decide_eq_true_iff, n2.o.ne (by rw [hn2]; exact Nat.mod_lt _ (by omega)) (by rw [hn2]; exact Nat.mod_lt _ (by omega)), HMO.out, HM0.out])
  clear n2 hF hn2 C1
  by_cases hneg : z < 0
  · have hz2 : -z = (dd : Int) := by rcases HDZ.out with h | h <;> omega
    have hd := Lib.hid hneg
    · skip
      go_upto_region 11 with (fail)
      have EW := Lib.hid (N2.out.sd (x % n) (by rw [HN.out]; exact Nat.mod_lt _ (by omega))).bk
      have EV := Lib.hid (N2.out.sd (y % n) (by rw [HN.out]; exact Nat.mod_lt _ (by omega))).bk
      have Q0 := eqlS (EW.out.kept (show Ch Nil w2 w2.drew from (Ch.refl _ _).drew) (fun e => e)) (EV.out.kept (show Ch Nil w2 w2.drew from (Ch.refl _ _).drew) (fun e => e))
      rw [HE.out] at Q0
      refine wp_region_held_drew (S := fun w' => (binOp .eql 42 (.pointer (some ⟨F.sh (x % n), 0, none⟩)) (.pointer (some ⟨F.sh (y % n), 0, none⟩))).run Try.prog w' = .ok (.bool E) w') (by kernel_rfl) Q0 (fun hHeld => ?_)
      have CD := Lib.hid (show Ch Nil w2 w2.drew from (Ch.refl _ _).drew)
      clear Q0
      generalize w2.drew = V at *
      refine take_at (v := ?_) 0 (some 42) rfl (by kernel_rfl) (by kernel_rfl) (by kernel_rfl) (by kernel_rfl) (fun _ _ _ h => h) (Or.inl ⟨by rfl, ?_⟩) (by assumption) ?_
      rotate_left
      · intro w hSw; (try dsimp only at hSw); go_simp; try (with_reducible rfl)
      (try simp only [Act.put, List.setIfInBounds_toArray, List.set_cons_zero, List.set_cons_succ])
      refine take_at (v := ?_) 1 (some 43) rfl (by kernel_rfl) (by kernel_rfl) (by kernel_rfl) (by kernel_rfl) (fun _ _ _ h => h) (Or.inl ⟨by rfl, ?_⟩) (by assumption) ?_
      rotate_left
      · intro w hSw; (try dsimp only at hSw); go_simp; try (with_reducible rfl)
      (try simp only [Act.put, List.setIfInBounds_toArray, List.set_cons_zero, List.set_cons_succ])
      refine wpAnyH_ready (rs := [2]) (by kernel_rfl) (by simp) ?_
      refine AllReadyH.cons rfl (fun K hK => ?_) AllReadyH.nil
      go_simp
      refine (home_in (N2.out.fl.kept CD.out (fun e => e)) (N2.out.r.kept CD.out (fun _ _ e => e)) HF.out (by rw [HN.out]; omega) (by rw [HN.out]; omega) x x (x % n) rfl (by rw [HN.out])).mono ?_
      rintro e w3 ⟨rfl, c3⟩
      have C3 := Lib.hid (CD.out.trans c3)
      have Q1 := eqlS (EW.out.kept C3.out (fun e => e)) (EV.out.kept C3.out (fun e => e))
      rw [HE.out] at Q1
      clear c3
      refine hK.out _ _ Q1 (fun hHeld => ?_)
      clear hK K Q1
      (try simp only [Act.put, List.setIfInBounds_toArray, List.set_cons_zero, List.set_cons_succ])
      refine take_at (v := ?_) 3 (some 45) rfl (by kernel_rfl) (by kernel_rfl) (by kernel_rfl) (by kernel_rfl) (fun _ _ _ h => h) (Or.inl ⟨by rfl, ?_⟩) (by assumption) ?_
      rotate_left
      · intro w hSw; (try dsimp only at hSw); go_simp; try (with_reducible rfl)
      (try simp only [Act.put, List.setIfInBounds_toArray, List.set_cons_zero, List.set_cons_succ])
      refine take_at (v := ?_) 4 (some 46) rfl (by kernel_rfl) (by kernel_rfl) (by kernel_rfl) (by kernel_rfl) (fun _ _ _ h => h) (Or.inl ⟨by rfl, ?_⟩) (by assumption) ?_
      rotate_left
      · intro w hSw; (try dsimp only at hSw); go_simp; try (with_reducible rfl)
      (try simp only [Act.put, List.setIfInBounds_toArray, List.set_cons_zero, List.set_cons_succ])
      refine take_at (v := ?_) 5 (some 47) rfl (by kernel_rfl) (by kernel_rfl) (by kernel_rfl) (by kernel_rfl) (fun _ _ _ h => h) (Or.inl ⟨by rfl, ?_⟩) (by assumption) ?_
      rotate_left
      · intro w hSw; (try dsimp only at hSw); go_simp; try (with_reducible rfl)
      (try simp only [Act.put, List.setIfInBounds_toArray, List.set_cons_zero, List.set_cons_succ])
      refine take_at (v := ?_) 6 (some 48) rfl (by kernel_rfl) (by kernel_rfl) (by kernel_rfl) (by kernel_rfl) (fun _ _ _ h => h) (Or.inl ⟨by rfl, ?_⟩) (by assumption) ?_
      rotate_left
      · intro w hSw; (try dsimp only at hSw); go_simp; try (with_reducible rfl)
      (try simp only [Act.put, List.setIfInBounds_toArray, List.set_cons_zero, List.set_cons_succ])
      refine take_at (v := ?_) 8 (some 50) rfl (by kernel_rfl) (by kernel_rfl) (by kernel_rfl) (by kernel_rfl) (fun _ _ _ h => h) (Or.inl ⟨by rfl, ?_⟩) (by assumption) ?_
      rotate_left
      · intro w hSw; (try dsimp only at hSw); go_simp; try (with_reducible rfl)
      (try simp only [Act.put, List.setIfInBounds_toArray, List.set_cons_zero, List.set_cons_succ])
      refine take_at (v := ?_) 9 (some 51) rfl (by kernel_rfl) (by kernel_rfl) (by kernel_rfl) (by kernel_rfl) (fun _ _ _ h => h) (Or.inl ⟨by rfl, ?_⟩) (by assumption) ?_
      rotate_left
      · intro w hSw; (try dsimp only at hSw); go_simp; try (with_reducible rfl)
      (try simp only [Act.put, List.setIfInBounds_toArray, List.set_cons_zero, List.set_cons_succ])
      refine take_at (v := ?_) 12 (some 54) rfl (by kernel_rfl) (by kernel_rfl) (by kernel_rfl) (by kernel_rfl) (fun _ _ _ h => h) (Or.inl ⟨by rfl, ?_⟩) (by assumption) ?_
      rotate_left
      · intro w hSw; (try dsimp only at hSw); go_simp; try (with_reducible rfl)
      (try simp only [Act.put, List.setIfInBounds_toArray, List.set_cons_zero, List.set_cons_succ])
      refine take_at (v := ?_) 13 (some 55) rfl (by kernel_rfl) (by kernel_rfl) (by kernel_rfl) (by kernel_rfl) (fun _ _ _ h => h) (Or.inl ⟨by rfl, ?_⟩) (by assumption) ?_
      rotate_left
      · intro w hSw; (try dsimp only at hSw); go_simp; try (with_reducible rfl)
      (try simp only [Act.put, List.setIfInBounds_toArray, List.set_cons_zero, List.set_cons_succ])
      refine take_at (v := ?_) 14 (some 56) rfl (by kernel_rfl) (by kernel_rfl) (by kernel_rfl) (by kernel_rfl) (fun _ _ _ h => h) (Or.inl ⟨by rfl, ?_⟩) (by assumption) ?_
      rotate_left
      · intro w hSw; (try dsimp only at hSw); go_simp; try (with_reducible rfl)
      (try simp only [Act.put, List.setIfInBounds_toArray, List.set_cons_zero, List.set_cons_succ])
      refine take_at (v := ?_) 15 (some 57) rfl (by kernel_rfl) (by kernel_rfl) (by kernel_rfl) (by kernel_rfl) (fun _ _ _ h => h) (Or.inl ⟨by rfl, ?_⟩) (by assumption) ?_
      rotate_left
      · intro w hSw; (try dsimp only at hSw); go_simp; try (with_reducible rfl)
      (try simp only [Act.put, List.setIfInBounds_toArray, List.set_cons_zero, List.set_cons_succ])
      refine wpAnyH_ready (rs := [7]) (by kernel_rfl) (by simp) ?_
      refine AllReadyH.cons rfl (fun K hK => ?_) AllReadyH.nil
      go_simp
      refine (home_in (N2.out.fl.kept C3.out (fun e => e)) (N2.out.r.kept C3.out (fun _ _ e => e)) HF.out (by rw [HN.out]; omega) (by rw [HN.out]; omega) x x (x % n) rfl (by rw [HN.out])).mono ?_
      rintro e w4 ⟨rfl, c4⟩
      have C4 := Lib.hid (C3.out.trans c4)
      have Q1 := eqlS (EW.out.kept C4.out (fun e => e)) (EV.out.kept C4.out (fun e => e))
      rw [HE.out] at Q1
      clear c4
      refine hK.out _ _ Q1 (fun hHeld => ?_)
      clear hK K Q1
      (try simp only [Act.put, List.setIfInBounds_toArray, List.set_cons_zero, List.set_cons_succ])
      refine wpAnyH_ready (rs := [10]) (by kernel_rfl) (by simp) ?_
      refine AllReadyH.cons rfl (fun K hK => ?_) AllReadyH.nil
      go_simp
      refine (home_in (N2.out.fl.kept C4.out (fun e => e)) (N2.out.r.kept C4.out (fun _ _ e => e)) HF.out (by rw [HN.out]; omega) (by rw [HN.out]; omega) y y (y % n) rfl (by rw [HN.out])).mono ?_
      rintro e w5 ⟨rfl, c5⟩
      have C5 := Lib.hid (C4.out.trans c5)
      have Q1 := eqlS (EW.out.kept C5.out (fun e => e)) (EV.out.kept C5.out (fun e => e))
      rw [HE.out] at Q1
      clear c5
      refine hK.out _ _ Q1 (fun hHeld => ?_)
      clear hK K Q1
      (try simp only [Act.put, List.setIfInBounds_toArray, List.set_cons_zero, List.set_cons_succ])
      refine take_at (v := ?_) 11 (some 53) rfl (by kernel_rfl) (by kernel_rfl) (by kernel_rfl) (by kernel_rfl) (fun _ _ _ h => h) (Or.inl ⟨by rfl, ?_⟩) (by assumption) ?_
      rotate_left
      · intro w hSw; (try dsimp only at hSw); go_simp; try (with_reducible rfl)
      (try simp only [Act.put, List.setIfInBounds_toArray, List.set_cons_zero, List.set_cons_succ])
      refine take_at (v := ?_) 16 (some 58) rfl (by kernel_rfl) (by kernel_rfl) (by kernel_rfl) (by kernel_rfl) (fun _ _ _ h => h) (Or.inl ⟨by rfl, ?_⟩) (by assumption) ?_
      rotate_left
      · intro w hSw; (try dsimp only at hSw); go_simp; try (with_reducible rfl)
      (try simp only [Act.put, List.setIfInBounds_toArray, List.set_cons_zero, List.set_cons_succ])
      refine take_at (v := ?_) 17 (some 59) rfl (by kernel_rfl) (by kernel_rfl) (by kernel_rfl) (by kernel_rfl) (fun _ _ _ h => h) (Or.inl ⟨by rfl, ?_⟩) (by assumption) ?_
      rotate_left
      · intro w hSw; (try dsimp only at hSw); go_simp; try (with_reducible rfl)
      (try simp only [Act.put, List.setIfInBounds_toArray, List.set_cons_zero, List.set_cons_succ])
      refine take_at (v := ?_) 18 (some 6) rfl (by kernel_rfl) (by kernel_rfl) (by kernel_rfl) (by kernel_rfl) (fun _ _ _ h => h) (Or.inl ⟨by rfl, ?_⟩) (by assumption) ?_
      rotate_left
      · intro w hSw; (try dsimp only at hSw); go_simp; try (with_reducible rfl)
      (try simp only [Act.put, List.setIfInBounds_toArray, List.set_cons_zero, List.set_cons_succ])
      refine wpAnyH_done (by kernel_rfl) ?_ _
      go_wp2
      go_ret
      exact ⟨rfl, (C2.out.trans C5.out)⟩
  · by_cases hzd : z = (dd : Int)
    · subst hzd
      go_upto_region 11 with (fail)
      have EW := Lib.hid (N2.out.sd (x % n) (by rw [HN.out]; exact Nat.mod_lt _ (by omega))).bk
      have EV := Lib.hid (N2.out.sd (y % n) (by rw [HN.out]; exact Nat.mod_lt _ (by omega))).bk
      have Q0 := eqlS (EW.out.kept (show Ch Nil w2 w2.drew from (Ch.refl _ _).drew) (fun e => e)) (EV.out.kept (show Ch Nil w2 w2.drew from (Ch.refl _ _).drew) (fun e => e))
      rw [HE.out] at Q0
      refine wp_region_held_drew (S := fun w' => (binOp .eql 42 (.pointer (some ⟨F.sh (x % n), 0, none⟩)) (.pointer (some ⟨F.sh (y % n), 0, none⟩))).run Try.prog w' = .ok (.bool E) w') (by kernel_rfl) Q0 (fun hHeld => ?_)
      have CD := Lib.hid (show Ch Nil w2 w2.drew from (Ch.refl _ _).drew)
      clear Q0
      generalize w2.drew = V at *
      refine take_at (v := ?_) 0 (some 42) rfl (by kernel_rfl) (by kernel_rfl) (by kernel_rfl) (by kernel_rfl) (fun _ _ _ h => h) (Or.inl ⟨by rfl, ?_⟩) (by assumption) ?_
      rotate_left
      · intro w hSw; (try dsimp only at hSw); go_simp; try (with_reducible rfl)
      (try simp only [Act.put, List.setIfInBounds_toArray, List.set_cons_zero, List.set_cons_succ])
      refine take_at (v := ?_) 1 (some 43) rfl (by kernel_rfl) (by kernel_rfl) (by kernel_rfl) (by kernel_rfl) (fun _ _ _ h => h) (Or.inl ⟨by rfl, ?_⟩) (by assumption) ?_
      rotate_left
      · intro w hSw; (try dsimp only at hSw); go_simp; try (with_reducible rfl)
      (try simp only [Act.put, List.setIfInBounds_toArray, List.set_cons_zero, List.set_cons_succ])
      refine wpAnyH_ready (rs := [2]) (by kernel_rfl) (by simp) ?_
      refine AllReadyH.cons rfl (fun K hK => ?_) AllReadyH.nil
      go_simp
      refine (home_in (N2.out.fl.kept CD.out (fun e => e)) (N2.out.r.kept CD.out (fun _ _ e => e)) HF.out (by rw [HN.out]; omega) (by rw [HN.out]; omega) x x (x % n) rfl (by rw [HN.out])).mono ?_
      rintro e w3 ⟨rfl, c3⟩
      have C3 := Lib.hid (CD.out.trans c3)
      have Q1 := eqlS (EW.out.kept C3.out (fun e => e)) (EV.out.kept C3.out (fun e => e))
      rw [HE.out] at Q1
      clear c3
      refine hK.out _ _ Q1 (fun hHeld => ?_)
      clear hK K Q1
      (try simp only [Act.put, List.setIfInBounds_toArray, List.set_cons_zero, List.set_cons_succ])
      refine take_at (v := ?_) 3 (some 45) rfl (by kernel_rfl) (by kernel_rfl) (by kernel_rfl) (by kernel_rfl) (fun _ _ _ h => h) (Or.inl ⟨by rfl, ?_⟩) (by assumption) ?_
      rotate_left
      · intro w hSw; (try dsimp only at hSw); go_simp; try (with_reducible rfl)
      (try simp only [Act.put, List.setIfInBounds_toArray, List.set_cons_zero, List.set_cons_succ])
      refine take_at (v := ?_) 4 (some 46) rfl (by kernel_rfl) (by kernel_rfl) (by kernel_rfl) (by kernel_rfl) (fun _ _ _ h => h) (Or.inl ⟨by rfl, ?_⟩) (by assumption) ?_
      rotate_left
      · intro w hSw; (try dsimp only at hSw); go_simp; try (with_reducible rfl)
      (try simp only [Act.put, List.setIfInBounds_toArray, List.set_cons_zero, List.set_cons_succ])
      refine take_at (v := ?_) 5 (some 47) rfl (by kernel_rfl) (by kernel_rfl) (by kernel_rfl) (by kernel_rfl) (fun _ _ _ h => h) (Or.inl ⟨by rfl, ?_⟩) (by assumption) ?_
      rotate_left
      · intro w hSw; (try dsimp only at hSw); go_simp; try (with_reducible rfl)
      (try simp only [Act.put, List.setIfInBounds_toArray, List.set_cons_zero, List.set_cons_succ])
      refine take_at (v := ?_) 6 (some 48) rfl (by kernel_rfl) (by kernel_rfl) (by kernel_rfl) (by kernel_rfl) (fun _ _ _ h => h) (Or.inl ⟨by rfl, ?_⟩) (by assumption) ?_
      rotate_left
      · intro w hSw; (try dsimp only at hSw); go_simp; try (with_reducible rfl)
      (try simp only [Act.put, List.setIfInBounds_toArray, List.set_cons_zero, List.set_cons_succ])
      refine take_at (v := ?_) 8 (some 50) rfl (by kernel_rfl) (by kernel_rfl) (by kernel_rfl) (by kernel_rfl) (fun _ _ _ h => h) (Or.inl ⟨by rfl, ?_⟩) (by assumption) ?_
      rotate_left
      · intro w hSw; (try dsimp only at hSw); go_simp; try (with_reducible rfl)
      (try simp only [Act.put, List.setIfInBounds_toArray, List.set_cons_zero, List.set_cons_succ])
      refine take_at (v := ?_) 9 (some 51) rfl (by kernel_rfl) (by kernel_rfl) (by kernel_rfl) (by kernel_rfl) (fun _ _ _ h => h) (Or.inl ⟨by rfl, ?_⟩) (by assumption) ?_
      rotate_left
      · intro w hSw; (try dsimp only at hSw); go_simp; try (with_reducible rfl)
      (try simp only [Act.put, List.setIfInBounds_toArray, List.set_cons_zero, List.set_cons_succ])
      refine take_at (v := ?_) 12 (some 54) rfl (by kernel_rfl) (by kernel_rfl) (by kernel_rfl) (by kernel_rfl) (fun _ _ _ h => h) (Or.inl ⟨by rfl, ?_⟩) (by assumption) ?_
      rotate_left
      · intro w hSw; (try dsimp only at hSw); go_simp; try (with_reducible rfl)
      (try simp only [Act.put, List.setIfInBounds_toArray, List.set_cons_zero, List.set_cons_succ])
      refine take_at (v := ?_) 13 (some 55) rfl (by kernel_rfl) (by kernel_rfl) (by kernel_rfl) (by kernel_rfl) (fun _ _ _ h => h) (Or.inl ⟨by rfl, ?_⟩) (by assumption) ?_
      rotate_left
      · intro w hSw; (try dsimp only at hSw); go_simp; try (with_reducible rfl)
      (try simp only [Act.put, List.setIfInBounds_toArray, List.set_cons_zero, List.set_cons_succ])
      refine take_at (v := ?_) 14 (some 56) rfl (by kernel_rfl) (by kernel_rfl) (by kernel_rfl) (by kernel_rfl) (fun _ _ _ h => h) (Or.inl ⟨by rfl, ?_⟩) (by assumption) ?_
      rotate_left
      · intro w hSw; (try dsimp only at hSw); go_simp; try (with_reducible rfl)
      (try simp only [Act.put, List.setIfInBounds_toArray, List.set_cons_zero, List.set_cons_succ])
      refine take_at (v := ?_) 15 (some 57) rfl (by kernel_rfl) (by kernel_rfl) (by kernel_rfl) (by kernel_rfl) (fun _ _ _ h => h) (Or.inl ⟨by rfl, ?_⟩) (by assumption) ?_
      rotate_left
      · intro w hSw; (try dsimp only at hSw); go_simp; try (with_reducible rfl)
      (try simp only [Act.put, List.setIfInBounds_toArray, List.set_cons_zero, List.set_cons_succ])
      refine wpAnyH_ready (rs := [7]) (by kernel_rfl) (by simp) ?_
      refine AllReadyH.cons rfl (fun K hK => ?_) AllReadyH.nil
      go_simp
      refine (home_in (N2.out.fl.kept C3.out (fun e => e)) (N2.out.r.kept C3.out (fun _ _ e => e)) HF.out (by rw [HN.out]; omega) (by rw [HN.out]; omega) x x (x % n) rfl (by rw [HN.out])).mono ?_
      rintro e w4 ⟨rfl, c4⟩
      have C4 := Lib.hid (C3.out.trans c4)
      have Q1 := eqlS (EW.out.kept C4.out (fun e => e)) (EV.out.kept C4.out (fun e => e))
      rw [HE.out] at Q1
      clear c4
      refine hK.out _ _ Q1 (fun hHeld => ?_)
      clear hK K Q1
      (try simp only [Act.put, List.setIfInBounds_toArray, List.set_cons_zero, List.set_cons_succ])
      refine wpAnyH_ready (rs := [10]) (by kernel_rfl) (by simp) ?_
      refine AllReadyH.cons rfl (fun K hK => ?_) AllReadyH.nil
      go_simp
      refine (home_in (N2.out.fl.kept C4.out (fun e => e)) (N2.out.r.kept C4.out (fun _ _ e => e)) HF.out (by rw [HN.out]; omega) (by rw [HN.out]; omega) y y (y % n) rfl (by rw [HN.out])).mono ?_
      rintro e w5 ⟨rfl, c5⟩
      have C5 := Lib.hid (C4.out.trans c5)
      have Q1 := eqlS (EW.out.kept C5.out (fun e => e)) (EV.out.kept C5.out (fun e => e))
      rw [HE.out] at Q1
      clear c5
      refine hK.out _ _ Q1 (fun hHeld => ?_)
      clear hK K Q1
      (try simp only [Act.put, List.setIfInBounds_toArray, List.set_cons_zero, List.set_cons_succ])
      refine take_at (v := ?_) 11 (some 53) rfl (by kernel_rfl) (by kernel_rfl) (by kernel_rfl) (by kernel_rfl) (fun _ _ _ h => h) (Or.inl ⟨by rfl, ?_⟩) (by assumption) ?_
      rotate_left
      · intro w hSw; (try dsimp only at hSw); go_simp; try (with_reducible rfl)
      (try simp only [Act.put, List.setIfInBounds_toArray, List.set_cons_zero, List.set_cons_succ])
      refine take_at (v := ?_) 16 (some 58) rfl (by kernel_rfl) (by kernel_rfl) (by kernel_rfl) (by kernel_rfl) (fun _ _ _ h => h) (Or.inl ⟨by rfl, ?_⟩) (by assumption) ?_
      rotate_left
      · intro w hSw; (try dsimp only at hSw); go_simp; try (with_reducible rfl)
      (try simp only [Act.put, List.setIfInBounds_toArray, List.set_cons_zero, List.set_cons_succ])
      refine take_at (v := ?_) 17 (some 59) rfl (by kernel_rfl) (by kernel_rfl) (by kernel_rfl) (by kernel_rfl) (fun _ _ _ h => h) (Or.inl ⟨by rfl, ?_⟩) (by assumption) ?_
      rotate_left
      · intro w hSw; (try dsimp only at hSw); go_simp; try (with_reducible rfl)
      (try simp only [Act.put, List.setIfInBounds_toArray, List.set_cons_zero, List.set_cons_succ])
      refine take_at (v := ?_) 18 (some 6) rfl (by kernel_rfl) (by kernel_rfl) (by kernel_rfl) (by kernel_rfl) (fun _ _ _ h => h) (Or.inl ⟨by rfl, ?_⟩) (by assumption) ?_
      rotate_left
      · intro w hSw; (try dsimp only at hSw); go_simp; try (with_reducible rfl)
      (try simp only [Act.put, List.setIfInBounds_toArray, List.set_cons_zero, List.set_cons_succ])
      refine wpAnyH_done (by kernel_rfl) ?_ _
      go_wp2
      go_ret
      exact ⟨rfl, (C2.out.trans C5.out)⟩
    · exact absurd (by rcases HDZ.out with h | h <;> omega) hzd

theorem FloorHomes_own : ownKnob Try.prog.godebug = none := by kernel_rfl

set_option maxRecDepth 100000 in
theorem FloorHomes_lifted (os : Os) (started : os.Started) (H : Type) (enc : TypeId × Value → H) :
    ReturnsInHanded {} Try.checked os 5 .any (Rows.floorHomesSpec.pre6 enc Try.prog Try.f5 Rows.floorHomesRow.domain false) (Rows.floorHomesSpec.post enc Try.prog Try.f5 false true false false) := by
  refine returnsInHanded_of_change (C := Try.checked) FloorHomes_own started (by kernel_rfl) Try.func5
    (ChangeSpec.witness6 (enc := enc) (C := Try.checked) false ⟨#[], #[.int .u8 0, .int .u16 0, .int .u16 0], []⟩ 8 (by kernel_rfl) (by kernel_rfl) (by kernel_rfl) (by kernel_rfl)) ?_
  intro W base args ds gs before hval0 hW hcnd _
  have hval : ∀ (j : Nat) t v, Try.f5.params[j]? = some t → args[j]? = some v → Value.okWide Try.prog W .any base t v := hval0
  have hW' := hW
  obtain ⟨p, q, hA0, hV, rfl, hfz, hnd⟩ := hW
  have hA : DataW.TrodAll enc Try.prog W 0 (fun _ => true) true Try.f5.params.toList args.toList ds p := hA0
  rw [Try.params5] at hA hval
  obtain ⟨v0, vs0, d0, ds0, p0, q0, hargs, rfl, rfl, h0, r0⟩ := trodAll_cons hA
  obtain ⟨v1, vs1, d1, ds1, p1, q1, rfl, rfl, rfl, h1, r1⟩ := trodAll_cons r0
  obtain ⟨v2, vs2, d2, ds2, p2, q2, rfl, rfl, rfl, h2, r2⟩ := trodAll_cons r1
  obtain ⟨rfl, rfl, rfl⟩ := trodAll_nil r2
  obtain rfl : args = #[v0, v1, v2] := by cases args; simp_all
  obtain ⟨rfl, rfl⟩ := trodVars_none hV
  obtain ⟨a0, rfl, rfl, rfl, w0⟩ := open_int Try.underlying5 (hval 0 5 v0 rfl rfl) h0
  obtain ⟨a1, rfl, rfl, rfl, w1⟩ := open_int Try.underlying69 (hval 1 69 v1 rfl rfl) h1
  obtain ⟨a2, rfl, rfl, rfl, w2⟩ := open_int Try.underlying69 (hval 2 69 v2 rfl rfl) h2
  clear hA0 hval0
  simp only [List.append_nil] at hW'
  refine (FloorHomes_walk a0 a1 a2 w0 w1 w2 W).mono fun e W' ⟨he, bel⟩ => ?_
  subst he
  exact ⟨_, rfl, _, _, _, [], _, [], hW', trodAll_mk1 (shut_bool Try.underlying4 _), (trodAll_cons_mk (shut_int Try.underlying5 w0) (trodAll_cons_mk (shut_int Try.underlying69 w1) (trodAll_cons_mk (shut_int Try.underlying69 w2) trodAll_mk0))), rfl, bel.frame _, fun h => by cases h⟩

theorem floorHomes_holds : Rows.FloorHomesSaid :=
  OpenClaim.holds_of_wide 5 Try.f5 rfl rfl rfl rfl rfl rfl rfl ⟨rfl, rfl, rfl, rfl, rfl⟩ rfl rfl rfl rfl rfl (by kernel_rfl) Try.func5 (by kernel_rfl)
    (of_decide_eq_true (by kernel_rfl)) (by unfold Func.isWrapper; rw [if_neg (of_decide_eq_false (by kernel_rfl))]; exact ⟨rfl, rfl⟩)
    (fun os started H enc _ => FloorHomes_lifted os started H enc)
end Go.Proofs.Ytkialefhjfoniaa
