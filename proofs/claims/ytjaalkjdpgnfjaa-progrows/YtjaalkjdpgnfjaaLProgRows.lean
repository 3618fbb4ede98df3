/-
  Proved: for every row of rows the statement ProgRows returns true: rows that stand one behind the other make just their steps, in order, one a step, and nothing is done ahead of its step; and nothing that was there is changed. Conditions: none.
-/
import Derived.Test.YtjaalkjdpgnfjaaStgAlive
import Derived.Test.YtjaalkjdpgnfjaaStgRef
import Derived.ProofKit
import Derived.OpenShut
import Derived.ChangeOld
import Derived.Below
namespace Go.Proofs.Ytjaalkjdpgnfjaa
open Go.ChangeShapes Go.WideShapes Go.ChangeAt Go.RowKit Verge
set_option linter.unusedVariables false
set_option linter.unusedSimpArgs false
attribute [local go_sem] Oper.semAt_some

/-- a program that goes through these numbers, k of them made -/
abbrev Rw (X : Nat → Prop) (A b k : Nat) (F : List Int) (w : World) : Prop := Pg X (sts (Got A) (F.take k) (F.drop k)) (Got A (F.take k)) b k w
theorem Rw.next {X : Nat → Prop} {A b k : Nat} {F : List Int} {w : World} (h : Rw X A b k F w) (hk : k < F.length) (hn : k < 1000000) :
    Calls Try.prog 16 #[.pointer (some ⟨b, 0, none⟩)] w fun e w' => e = .returned (.bool true) ∧ Rw X A b (k + 1) F w' ∧ Ch (fun k => ¬ X k) w w' := by
  obtain ⟨v, hv⟩ : ∃ v, F[k]? = some v := ⟨_, List.getElem?_eq_getElem hk⟩
  have e1 : F.drop k = v :: F.drop (k + 1) := by rw [List.drop_eq_getElem_cons hk]; rw [List.getElem?_eq_getElem hk] at hv; cases hv; rfl
  have e2 : F.take (k + 1) = F.take k ++ [v] := by rw [List.take_add_one, hv]; rfl
  unfold Rw at h ⊢
  rw [e1] at h
  rw [e2]
  exact Pg.step h hn
theorem Rw.got {X : Nat → Prop} {A b k : Nat} {F : List Int} {w : World} (h : Rw X A b k F w) : ∃ a cap, GotAt A (F.take k) a cap w := by
  obtain ⟨M, ⟨a, cap, h, -⟩, -⟩ := h.state
  exact ⟨a, cap, h⟩
theorem Rw.over {A k : Nat} {F : List Int} (hk : k ≤ F.length) : (sts (Got A) (F.take k) (F.drop k)).isEmpty = decide (k = F.length) := by
  rw [sts_empty]
  by_cases e : k = F.length
  · subst e; simp
  · simp [e]; omega
/-- a row that is given to a slice of its own, cut -/
theorem SrcC.cut {w : World} {a : Option Addr} {n k : Nat} {V : Nat → Value} (h : SrcC w a n V) (hk : k ≤ n) : SrcC w a k V := by
  rcases h with rfl | ⟨b, o, e, h⟩
  · left; omega
  · exact .inr ⟨b, o, e, fun i hi => h i (by omega)⟩
theorem num_take {F : List Int} {k i : Nat} (h : i < k) : num (F.take k) i = num F i := by
  unfold num
  rw [List.getD_eq_getElem?_getD, List.getD_eq_getElem?_getD, List.getElem?_take_of_lt h]
theorem src_got {w : World} {A k cap : Nat} {F : List Int} {a : Option Addr} (h : GotAt A (F.take k) a cap w) (hk : k ≤ F.length) : SrcC w a k (fun i => .int .i64 (num F i)) := by
  have h1 := (Row.srcC h.r)
  rw [List.length_take, Nat.min_eq_left hk] at h1
  exact h1.congr (fun i hi => by rw [num_take hi])

set_option maxRecDepth 100000 in
set_option maxHeartbeats 16000000 in
theorem ProgRows_walk (a : Option Addr) (len cap : Nat) (w : World) (R : IsRows .i64 w a len cap) :
    Calls Try.prog 3 #[.slice a len cap] w fun e w' => e = .returned (.bool true) ∧ Below w.heap.size w w' := by
  obtain ⟨pl, hS, rfl, hc, hm⟩ := srcS_of R
  have HS := Lib.hid hS
  clear hS R
  go_enter Try.func3, Try.ntmps3
  go_wp2_with fail
  refine (alive_any _).mono ?_
  rintro e w1 ⟨rfl, c1⟩
  have C1 := Lib.hid c1
  have G1 := Lib.hid (great_of (cap := cap) (HS.out.ag (c1.ag (fun _ h => h) (fun _ _ e => e))) (by omega))
  clear c1
  go_wp2_with fail
  refine G1.out.mono ?_
  rintro e w2 ⟨rfl, c2⟩
  have C2 := Lib.hid (C1.out.trans c2)
  clear c2 G1 C1
  rcases hg : gr pl with _ | _
  · obtain ⟨hl, hr⟩ := gr_false hg
    have A3 := Lib.hid (show Ag (fun k => k < w.heap.size) w w2 from C2.out.ag (fun _ h => h) (fun _ _ e => e))
    have W3 := Lib.hid (rowRef_of (cap := cap) (w := w2.alloc (.cells #[.slice none 0 0] 25)) (HS.out.ag (A3.out.trans (((Ch.refl Nil w2).alloc _).ag (fun k hk => by have := C2.out.size; omega) (fun _ _ e => e)))) hl hr)
    go_wp2_with fail
    have cA : Ch Nil w2 (w2.alloc (.cells #[.slice none 0 0] 25)) := (Ch.refl _ _).alloc _
    have kA : (w2.alloc (.cells #[.slice none 0 0] 25)).cell? ⟨w2.heap.size, 0, none⟩ = some (.slice none 0 0) := by rw [cell_fresh]; rfl
    have bA : Blk (w2.alloc (.cells #[.slice none 0 0] 25)) w2.heap.size := Blk.new _ _ _
    have GA := Lib.hid (show GotAt w2.heap.size [] none 0 (w2.alloc (.cells #[.slice none 0 0] 25)) from ⟨kA, bA, Row.nil _ _ _ _, fun e => by cases e⟩)
    have C3 := Lib.hid (C2.out.trans cA)
    have hA : w.heap.size ≤ w2.heap.size := C2.out.size
    clear cA kA bA C2
    generalize w2.alloc (.cells #[.slice none 0 0] 25) = w3 at W3 GA C3 ⊢
    generalize w2.heap.size = A at GA hA ⊢
    refine W3.out.mono ?_
    rintro e w4 ⟨aw, cw, rfl, rw4, c4, ow4⟩
    have C4 := Lib.hid (C3.out.trans c4)
    have G4 := Lib.hid (GA.out.kept c4 (fun e => e) (fun _ _ e => e))
    have RW4 := Lib.hid rw4
    have lA : A < w3.heap.size := lt_of_cell GA.out.c
    have OW := Lib.hid (show ∀ k, OwnS aw k → w3.heap.size ≤ k from ow4)
    have CH := Lib.hid (chain_of (B := w.heap.size) (got_holds A) pl [] w4 a cap (fun k => k = A) (HS.out.ag (C4.out.ag (fun _ h => h) (fun _ _ e => e))) ⟨none, 0, G4.out, fun k => ⟨.inl, fun h => h.elim id (fun e => by cases e)⟩⟩ (fun k hk => by omega) C4.out.size (by simp; omega) hr hc hm)
    have hfl := flat_len hr
    clear rw4 c4 ow4 W3 GA C3 hg
    go_wp2_with fail
    refine CH.out.mono ?_
    rintro e w5 ⟨v, S5, M5, rfl, q5, st5, c5, sm5, ss5, sa5, sl5⟩
    have z4 := C4.out.size
    have RW5 := Lib.hid (Row.kept RW4.out c5 (fun k hk e => by have := OW.out k hk; omega))
    have C5 := Lib.hid (C4.out.then c5 (fun i hi e => by have e' : i = A := e; omega))
    have z5 := c5.size
    have rlt := RW4.out.lt
    have NW := Lib.hid (pg_new (X := fun k => k < w.heap.size ∨ OwnS aw k) st5 q5 sa5 sl5 (fun k hk => by
      rcases hk with hk | hk
      · refine ⟨by omega, fun e => ?_⟩
        rcases sm5 k e with h | h <;> omega
      · have h1 := OW.out k hk
        have h2 := rlt k hk
        refine ⟨by omega, fun e => ?_⟩
        rcases sm5 k e with h | h <;> omega))
    clear CH q5 st5 c5 sm5 ss5 sa5 sl5 RW4 C4 G4 rlt
    go_wp2_with fail
    refine NW.out.mono ?_
    rintro e w6 ⟨b, rfl, p6, c6, hb6⟩
    have RW6 := Lib.hid (Row.kept RW5.out c6 (fun k hk e => e))
    have C6 := Lib.hid (C5.out.trans c6)
    obtain ⟨F, hF⟩ : ∃ F, F = flat pl := ⟨_, rfl⟩
    rw [← hF] at hfl p6 RW6
    have P6 : Hid (Rw (fun k => k < w.heap.size ∨ OwnS aw k) A b 0 F w6) := Lib.hid p6
    have lcw := RW6.out.len_cap
    rw [← hF]
    clear NW p6 c6 RW5 C5 hF HS
    obtain ⟨n, hn⟩ : ∃ n, n = F.length := ⟨_, rfl⟩
    have HN := Lib.hid hn
    rw [← hn] at hfl lcw ⊢
    clear hn
    go_wp2
    go_loopw [6] (fun i wr => ∃ k : Nat, k ≤ n ∧ i = .int .i64 k ∧ Rw (fun k => k < w.heap.size ∨ OwnS aw k) A b k F wr ∧ Ch (fun k => ¬ (k < w.heap.size ∨ OwnS aw k)) w6 wr) (fun i _ => n - (intOf i).toNat)
    case atStart => exact ⟨0, by omega, rfl, P6.out, Ch.refl _ _⟩
    case round =>
      obtain ⟨k, hk, rfl, hp, hc7⟩ := hrel
      have HP := Lib.hid hp
      have HC := Lib.hid hc7
      have RW7 := Lib.hid (SrcC.cut (Row.srcC (Row.kept RW6.out hc7 (fun k hk e => e (.inr hk)))) (show k ≤ F.length by rw [← HN.out]; exact hk))
      clear hp hc7
      by_cases hlt : k < n
      · have hkz : (k : Int) < (n : Int) := by omega
        have hkz0 : (0 : Int) ≤ (k : Int) := by omega
        have hkc : (k : Int) ≤ (cw : Int) := by omega
        have hsame : (IntKind.i64.wrap (k : Int)) = (k : Int) := IntWalk.i64_in _ (by omega)
        have hneq : ((k : Int) != (k : Int)) = false := by simp
        have heqq : ((k : Int) == (k : Int)) = true := by simp
        go_upto_region 13 with (fail)
        refine wp_region_held_drew (S := fun _ => True) (by kernel_rfl) trivial (fun hHeld => ?_)
        have D0 : Ch Nil wr wr.drew := (Ch.refl _ _).drew
        have P0 := Lib.hid (Pg.kept HP.out D0)
        have R0 := Lib.hid (RW7.out.kept D0 (fun _ _ e => e))
        have E0 := Lib.hid (HC.out.trans (D0.mono (fun _ _ e => e.elim)))
        clear D0 HP HC RW7
        generalize wr.drew = x0 at P0 R0 E0 hHeld ⊢
        have Q0 := Lib.hid (Pg.done P0.out)
        rw [Rw.over (by rw [← HN.out]; exact hk), ← HN.out, decide_eq_false (show ¬ k = n by omega)] at Q0
        refine take_at (v := ?_) 0 (some 24) rfl (by kernel_rfl) (by kernel_rfl) (by kernel_rfl) (by kernel_rfl) (fun _ _ _ h => h) (Or.inl ⟨by rfl, ?_⟩) (by assumption) ?_
        rotate_left
        · intro w hSw; (try dsimp only at hSw); go_simp; try (with_reducible rfl)
        (try simp only [Act.put, List.setIfInBounds_toArray, List.set_cons_zero, List.set_cons_succ])
        refine wpAnyH_ready (rs := [1]) (by kernel_rfl) (by simp) ?_
        refine AllReadyH.cons rfl (fun K hK => ?_) AllReadyH.nil
        go_simp
        refine Q0.out.mono ?_
        rintro e x1 ⟨rfl, d1⟩
        have P1 := Lib.hid (Pg.kept P0.out d1)
        have R1 := Lib.hid (R0.out.kept d1 (fun _ _ e => e))
        have E1 := Lib.hid (E0.out.trans (d1.mono (fun _ _ e => e.elim)))
        have Q1 := Lib.hid (Pg.may P1.out)
        rw [Rw.over (by rw [← HN.out]; exact hk), ← HN.out, decide_eq_false (show ¬ k = n by omega)] at Q1
        clear d1 Q0 P0 R0 E0
        refine hK.out _ _ trivial (fun hHeld => ?_)
        clear hK K
        (try simp only [Act.put, List.setIfInBounds_toArray, List.set_cons_zero, List.set_cons_succ])
        refine take_at (v := ?_) 2 (some 26) rfl (by kernel_rfl) (by kernel_rfl) (by kernel_rfl) (by kernel_rfl) (fun _ _ _ h => h) (Or.inl ⟨by rfl, ?_⟩) (by assumption) ?_
        rotate_left
        · intro w hSw; (try dsimp only at hSw); go_simp; try (with_reducible rfl)
        (try simp only [Act.put, List.setIfInBounds_toArray, List.set_cons_zero, List.set_cons_succ])
        refine take_at (v := ?_) 3 (some 27) rfl (by kernel_rfl) (by kernel_rfl) (by kernel_rfl) (by kernel_rfl) (fun _ _ _ h => h) (Or.inl ⟨by rfl, ?_⟩) (by assumption) ?_
        rotate_left
        · intro w hSw; (try dsimp only at hSw); go_simp; try (with_reducible rfl)
        (try simp only [Act.put, List.setIfInBounds_toArray, List.set_cons_zero, List.set_cons_succ])
        refine wpAnyH_ready (rs := [4]) (by kernel_rfl) (by simp) ?_
        refine AllReadyH.cons rfl (fun K hK => ?_) AllReadyH.nil
        go_simp
        refine Q1.out.mono ?_
        rintro e x2 ⟨rfl, d2⟩
        have P2 := Lib.hid (Pg.kept P1.out d2)
        have R2 := Lib.hid (R1.out.kept d2 (fun _ _ e => e))
        have E2 := Lib.hid (E1.out.trans (d2.mono (fun _ _ e => e.elim)))
        have Q2 := Lib.hid (Pg.steps P2.out)
        clear d2 Q1 P1 R1 E1
        refine hK.out _ _ trivial (fun hHeld => ?_)
        clear hK K
        (try simp only [Act.put, List.setIfInBounds_toArray, List.set_cons_zero, List.set_cons_succ])
        refine take_at (v := ?_) 5 (some 29) rfl (by kernel_rfl) (by kernel_rfl) (by kernel_rfl) (by kernel_rfl) (fun _ _ _ h => h) (Or.inl ⟨by rfl, ?_⟩) (by assumption) ?_
        rotate_left
        · intro w hSw; (try dsimp only at hSw); go_simp; try (with_reducible rfl)
        (try simp only [Act.put, List.setIfInBounds_toArray, List.set_cons_zero, List.set_cons_succ])
        refine take_at (v := ?_) 6 (some 30) rfl (by kernel_rfl) (by kernel_rfl) (by kernel_rfl) (by kernel_rfl) (fun _ _ _ h => h) (Or.inl ⟨by rfl, ?_⟩) (by assumption) ?_
        rotate_left
        · intro w hSw; (try dsimp only at hSw); go_simp; try (with_reducible rfl)
        (try simp only [Act.put, List.setIfInBounds_toArray, List.set_cons_zero, List.set_cons_succ])
        refine take_at (v := ?_) 7 (some 31) rfl (by kernel_rfl) (by kernel_rfl) (by kernel_rfl) (by kernel_rfl) (fun _ _ _ h => h) (Or.inl ⟨by rfl, ?_⟩) (by assumption) ?_
        rotate_left
        · intro w hSw; (try dsimp only at hSw); go_simp; try (with_reducible rfl)
        (try simp only [Act.put, List.setIfInBounds_toArray, List.set_cons_zero, List.set_cons_succ])
        refine take_at (v := ?_) 8 (some 32) rfl (by kernel_rfl) (by kernel_rfl) (by kernel_rfl) (by kernel_rfl) (fun _ _ _ h => h) (Or.inl ⟨by rfl, ?_⟩) (by assumption) ?_
        rotate_left
        · intro w hSw; (try dsimp only at hSw); go_simp; try (with_reducible rfl)
        (try simp only [Act.put, List.setIfInBounds_toArray, List.set_cons_zero, List.set_cons_succ])
        refine take_at (v := ?_) 10 (some 34) rfl (by kernel_rfl) (by kernel_rfl) (by kernel_rfl) (by kernel_rfl) (fun _ _ _ h => h) (Or.inl ⟨by rfl, ?_⟩) (by assumption) ?_
        rotate_left
        · intro w hSw; (try dsimp only at hSw); go_simp; try (with_reducible rfl)
        (try simp only [Act.put, List.setIfInBounds_toArray, List.set_cons_zero, List.set_cons_succ])
        refine wpAnyH_ready (rs := [9]) (by kernel_rfl) (by simp) ?_
        refine AllReadyH.cons rfl (fun K hK => ?_) AllReadyH.nil
        go_simp
        refine Q2.out.mono ?_
        rintro e x3 ⟨rfl, d3⟩
        have P3 := Lib.hid (Pg.kept P2.out d3)
        have R3 := Lib.hid (R2.out.kept d3 (fun _ _ e => e))
        have E3 := Lib.hid (E2.out.trans (d3.mono (fun _ _ e => e.elim)))
        obtain ⟨ag, cg, hgot⟩ := Rw.got P3.out
        have hgc := hgot.c
        rw [List.length_take, ← HN.out, Nat.min_eq_left hk] at hgc
        have Q3 := Lib.hid (ints_src (cap := cg) (cap' := cw) (src_got hgot (by rw [← HN.out]; exact hk)) R3.out (by omega))
        clear d3 Q2 P2 R2 E2 hgot
        refine hK.out _ _ trivial (fun hHeld => ?_)
        clear hK K
        (try simp only [Act.put, List.setIfInBounds_toArray, List.set_cons_zero, List.set_cons_succ])
        refine take_at (v := ?_) 11 (some 35) rfl (by kernel_rfl) (by kernel_rfl) (by kernel_rfl) (by kernel_rfl) (fun _ _ _ h => h) (Or.inl ⟨by rfl, ?_⟩) (by assumption) ?_
        rotate_left
        · intro w hSw; (try dsimp only at hSw); go_simp; try (with_reducible rfl)
        (try simp only [Act.put, List.setIfInBounds_toArray, List.set_cons_zero, List.set_cons_succ])
        refine take_at (v := ?_) 12 (some 36) rfl (by kernel_rfl) (by kernel_rfl) (by kernel_rfl) (by kernel_rfl) (fun _ _ _ h => h) (Or.inl ⟨by rfl, ?_⟩) (by assumption) ?_
        rotate_left
        · intro w hSw; (try dsimp only at hSw); go_simp; try (with_reducible rfl)
        (try simp only [Act.put, List.setIfInBounds_toArray, List.set_cons_zero, List.set_cons_succ])
        refine take_at (v := ?_) 13 (some 37) rfl (by kernel_rfl) (by kernel_rfl) (by kernel_rfl) (by kernel_rfl) (fun _ _ _ h => h) (Or.inl ⟨by rfl, ?_⟩) (by assumption) ?_
        rotate_left
        · intro w hSw; (try dsimp only at hSw); go_simp; try (with_reducible rfl)
        (try simp only [Act.put, List.setIfInBounds_toArray, List.set_cons_zero, List.set_cons_succ])
        refine take_at (v := ?_) 15 (some 39) rfl (by kernel_rfl) (by kernel_rfl) (by kernel_rfl) (by kernel_rfl) (fun _ _ _ h => h) (Or.inl ⟨by rfl, ?_⟩) (by assumption) ?_
        rotate_left
        · intro w hSw; (try dsimp only at hSw); go_simp; try (with_reducible rfl)
        (try simp only [Act.put, List.setIfInBounds_toArray, List.set_cons_zero, List.set_cons_succ])
        refine take_at (v := ?_) 16 (some 40) rfl (by kernel_rfl) (by kernel_rfl) (by kernel_rfl) (by kernel_rfl) (fun _ _ _ h => h) (Or.inl ⟨by rfl, ?_⟩) (by assumption) ?_
        rotate_left
        · intro w hSw; (try dsimp only at hSw); go_simp; try (with_reducible rfl)
        (try simp only [Act.put, List.setIfInBounds_toArray, List.set_cons_zero, List.set_cons_succ])
        refine take_at (v := ?_) 17 (some 41) rfl (by kernel_rfl) (by kernel_rfl) (by kernel_rfl) (by kernel_rfl) (fun _ _ _ h => h) (Or.inl ⟨by rfl, ?_⟩) (by assumption) ?_
        rotate_left
        · intro w hSw; (try dsimp only at hSw); go_simp; try (with_reducible rfl)
        (try simp only [Act.put, List.setIfInBounds_toArray, List.set_cons_zero, List.set_cons_succ])
        refine wpAnyH_ready (rs := [14]) (by kernel_rfl) (by simp) ?_
        refine AllReadyH.cons rfl (fun K hK => ?_) AllReadyH.nil
        go_simp
        refine hK.out _ _ trivial (fun hHeld => ?_)
        clear hK K
        (try simp only [Act.put, List.setIfInBounds_toArray, List.set_cons_zero, List.set_cons_succ])
        refine wpAnyH_ready (rs := [18]) (by kernel_rfl) (by simp) ?_
        refine AllReadyH.cons rfl (fun K hK => ?_) AllReadyH.nil
        go_simp
        refine Q3.out.mono ?_
        rintro e x4 ⟨rfl, d4⟩
        have P4 := Lib.hid (Pg.kept P3.out d4)
        have E4 := Lib.hid (E3.out.trans (d4.mono (fun _ _ e => e.elim)))
        have Q4 := Lib.hid (Rw.next P4.out (by rw [← HN.out]; exact hlt) (by omega))
        clear d4 Q3 P3 R3 E3 hgc
        refine hK.out _ _ trivial (fun hHeld => ?_)
        clear hK K
        (try simp only [Act.put, List.setIfInBounds_toArray, List.set_cons_zero, List.set_cons_succ])
        refine take_at (v := ?_) 19 (some 43) rfl (by kernel_rfl) (by kernel_rfl) (by kernel_rfl) (by kernel_rfl) (fun _ _ _ h => h) (Or.inl ⟨by rfl, ?_⟩) (by assumption) ?_
        rotate_left
        · intro w hSw; (try dsimp only at hSw); go_simp; try (with_reducible rfl)
        (try simp only [Act.put, List.setIfInBounds_toArray, List.set_cons_zero, List.set_cons_succ])
        refine take_at (v := ?_) 20 (some 44) rfl (by kernel_rfl) (by kernel_rfl) (by kernel_rfl) (by kernel_rfl) (fun _ _ _ h => h) (Or.inl ⟨by rfl, ?_⟩) (by assumption) ?_
        rotate_left
        · intro w hSw; (try dsimp only at hSw); go_simp; try (with_reducible rfl)
        (try simp only [Act.put, List.setIfInBounds_toArray, List.set_cons_zero, List.set_cons_succ])
        refine take_at (v := ?_) 21 (some 45) rfl (by kernel_rfl) (by kernel_rfl) (by kernel_rfl) (by kernel_rfl) (fun _ _ _ h => h) (Or.inl ⟨by rfl, ?_⟩) (by assumption) ?_
        rotate_left
        · intro w hSw; (try dsimp only at hSw); go_simp; try (with_reducible rfl)
        (try simp only [Act.put, List.setIfInBounds_toArray, List.set_cons_zero, List.set_cons_succ])
        refine take_at (v := ?_) 22 (some 46) rfl (by kernel_rfl) (by kernel_rfl) (by kernel_rfl) (by kernel_rfl) (fun _ _ _ h => h) (Or.inl ⟨by rfl, ?_⟩) (by assumption) ?_
        rotate_left
        · intro w hSw; (try dsimp only at hSw); go_simp; try (with_reducible rfl)
        (try simp only [Act.put, List.setIfInBounds_toArray, List.set_cons_zero, List.set_cons_succ])
        refine wpAnyH_ready (rs := [23]) (by kernel_rfl) (by simp) ?_
        refine AllReadyH.cons rfl (fun K hK => ?_) AllReadyH.nil
        go_simp
        refine Q4.out.mono ?_
        rintro e x5 ⟨rfl, p5, d5⟩
        have P5 := Lib.hid p5
        have E5 := Lib.hid (E4.out.trans d5)
        clear d5 Q4 P4 E4 p5
        refine hK.out _ _ trivial (fun hHeld => ?_)
        clear hK K
        (try simp only [Act.put, List.setIfInBounds_toArray, List.set_cons_zero, List.set_cons_succ])
        refine take_at (v := ?_) 24 (some 48) rfl (by kernel_rfl) (by kernel_rfl) (by kernel_rfl) (by kernel_rfl) (fun _ _ _ h => h) (Or.inl ⟨by rfl, ?_⟩) (by assumption) ?_
        rotate_left
        · intro w hSw; (try dsimp only at hSw); go_simp; try (with_reducible rfl)
        (try simp only [Act.put, List.setIfInBounds_toArray, List.set_cons_zero, List.set_cons_succ])
        refine take_at (v := ?_) 25 (some 49) rfl (by kernel_rfl) (by kernel_rfl) (by kernel_rfl) (by kernel_rfl) (fun _ _ _ h => h) (Or.inl ⟨by rfl, ?_⟩) (by assumption) ?_
        rotate_left
        · intro w hSw; (try dsimp only at hSw); go_simp; try (with_reducible rfl)
        (try simp only [Act.put, List.setIfInBounds_toArray, List.set_cons_zero, List.set_cons_succ])
        refine wpAnyH_done (by kernel_rfl) ?_ _
        go_wp2
        go_roundw
        case rel => exact ⟨k + 1, by omega, by go_num, P5.out, E5.out⟩
        case measure => simp [intOf]; omega
      · obtain rfl : k = n := by omega
        have Q0 := Lib.hid (Pg.done HP.out)
        rw [Rw.over (by rw [← HN.out]; exact hk), ← HN.out, decide_eq_true rfl] at Q0
        go_wp2_with fail
        refine Q0.out.mono ?_
        rintro e x1 ⟨rfl, d1⟩
        have P1 := Lib.hid (Pg.kept HP.out d1)
        have R1 := Lib.hid (RW7.out.kept d1 (fun _ _ e => e))
        have E1 := Lib.hid (HC.out.trans (d1.mono (fun _ _ e => e.elim)))
        have Q1 := Lib.hid (Pg.may P1.out)
        rw [Rw.over (by rw [← HN.out]; exact hk), ← HN.out, decide_eq_true rfl] at Q1
        clear d1 Q0 HP RW7 HC
        go_wp2_with fail
        refine Q1.out.mono ?_
        rintro e x2 ⟨rfl, d2⟩
        have P2 := Lib.hid (Pg.kept P1.out d2)
        have R2 := Lib.hid (R1.out.kept d2 (fun _ _ e => e))
        have E2 := Lib.hid (E1.out.trans (d2.mono (fun _ _ e => e.elim)))
        have T2 : Hid (Pg (fun k => k < w.heap.size ∨ OwnS aw k) [] (Got A (F.take k)) b k x2) := Lib.hid (by
          have := P2.out
          unfold Rw at this
          rw [HN.out, List.drop_length] at this
          rw [HN.out]
          exact this)
        have Q2 := Lib.hid T2.out.stuck
        clear d2 Q1 P1 R1 E1
        go_wp2_with fail
        refine Q2.out.mono ?_
        rintro e x3 ⟨rfl, d3⟩
        have P3 := Lib.hid (Pg.kept P2.out d3)
        have R3 := Lib.hid (R2.out.kept d3 (fun _ _ e => e))
        have E3 := Lib.hid (E2.out.trans (d3.mono (fun _ _ e => e.elim)))
        have Q3 := Lib.hid (Pg.steps P3.out)
        clear d3 Q2 P2 R2 E2 T2
        go_wp2_with fail
        refine Q3.out.mono ?_
        rintro e x4 ⟨rfl, d4⟩
        have P4 := Lib.hid (Pg.kept P3.out d4)
        have R4 := Lib.hid (R3.out.kept d4 (fun _ _ e => e))
        have E4 := Lib.hid (E3.out.trans (d4.mono (fun _ _ e => e.elim)))
        obtain ⟨ag, cg, hgot⟩ := Rw.got P4.out
        have hgc := hgot.c
        rw [List.length_take, ← HN.out, Nat.min_self] at hgc
        have Q4 := Lib.hid (ints_src (cap := cg) (cap' := cw) (src_got hgot (by rw [← HN.out]; exact hk)) R4.out (by omega))
        clear d4 Q3 P3 R3 E3 hgot
        go_wp2_with fail
        refine Q4.out.mono ?_
        rintro e x5 ⟨rfl, d5⟩
        have E5 := Lib.hid (E4.out.trans (d5.mono (fun _ _ e => e.elim)))
        clear d5 Q4
        go_wp2
        go_ret
        exact ⟨rfl, (C6.out.then E5.out (fun i hi e => e (.inl hi))).below (Nat.le_refl _) (fun _ _ h => h.elim)⟩
  · go_wp2
    go_ret
    exact ⟨rfl, C2.out.below (Nat.le_refl _) (fun _ _ h => h.elim)⟩

theorem ProgRows_own : ownKnob Try.prog.godebug = none := by kernel_rfl
theorem ProgRows_laidOut : laidOutB Try.prog = true := by kernel_rfl

set_option maxRecDepth 100000 in
theorem ProgRows_lifted (os : Os) (started : os.Started) (H : Type) (enc : TypeId × Value → H) :
    ReturnsInHanded {} Try.checked os 3 .any (Rows.progRowsSpec.pre6 enc Try.prog Try.f3 Rows.progRowsRow.domain false) (Rows.progRowsSpec.post enc Try.prog Try.f3 false true false false) := by
  refine returnsInHanded_of_change (C := Try.checked) ProgRows_own started (by kernel_rfl) Try.func3
    (ChangeSpec.witness6 (enc := enc) (C := Try.checked) false ⟨#[], #[.slice none 0 0], []⟩ 8 (by kernel_rfl) (by kernel_rfl) (by kernel_rfl) (by kernel_rfl)) ?_
  intro W base args ds gs before hval0 hW hcnd _
  have hval : ∀ (j : Nat) t v, Try.f3.params[j]? = some t → args[j]? = some v → Value.okWide Try.prog W .any base t v := hval0
  have hW' := hW
  obtain ⟨p, q, hA0, hV, rfl, hfz, hnd⟩ := hW
  have hA : DataW.TrodAll enc Try.prog W 0 (fun _ => true) true Try.f3.params.toList args.toList ds p := hA0
  rw [Try.params3] at hA hval
  obtain ⟨v0, vs0, d0, ds0, p0, q0, hargs, rfl, rfl, h0, r0⟩ := trodAll_cons hA
  obtain ⟨rfl, rfl, rfl⟩ := trodAll_nil r0
  obtain rfl : args = #[v0] := by cases args; simp_all
  obtain ⟨rfl, rfl⟩ := trodVars_none hV
  obtain ⟨a0, len0, cap0, rfl⟩ := okWide_slice Try.underlying22 (hval 0 22 v0 rfl rfl)
  have k0 := h0
  have lt0 : ∀ x ∈ p0, x.block < W.heap.size := by obtain ⟨m, hm⟩ := k0; exact DataW.trod_lt m _ _ _ hm
  have w0 : IsRows .i64 W a0 len0 cap0 := by
    obtain ⟨fuel, hf⟩ := h0
    exact open_rows Try.underlying22 Try.underlying25 Try.underlying3 (by kernel_rfl) (by kernel_rfl) hf
  clear hA0 hval0
  refine (ProgRows_walk a0 len0 cap0 W w0).mono fun e W' ⟨he, bel⟩ => ?_
  subst he
  exact ⟨_, rfl, _, _, _, [], _, [], hW', trodAll_mk1 (shut_bool Try.underlying4 _), (trodAll_cons_mk (Below.trod ProgRows_laidOut (by kernel_rfl) (of_decide_eq_true (by kernel_rfl)) k0 bel lt0) trodAll_mk0), rfl, bel.frame _, fun h => by cases h⟩

theorem progRows_holds : Rows.ProgRowsSaid :=
  OpenClaim.holds_of_wide 3 Try.f3 rfl rfl rfl rfl rfl rfl rfl ⟨rfl, rfl, rfl, rfl, rfl⟩ rfl rfl rfl rfl rfl (by kernel_rfl) Try.func3 (by kernel_rfl)
    (of_decide_eq_true (by kernel_rfl)) (by unfold Func.isWrapper; rw [if_neg (of_decide_eq_false (by kernel_rfl))]; exact ⟨rfl, rfl⟩)
    (fun os started H enc _ => ProgRows_lifted os started H enc)
end Go.Proofs.Ytjaalkjdpgnfjaa
