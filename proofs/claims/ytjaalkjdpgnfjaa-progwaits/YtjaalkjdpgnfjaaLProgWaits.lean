/-
  Proved: for every row of gates, and every row of numbers, the statement ProgWaits returns true: a step that may not be made isn't, however often it is tried, and what may be is asked anew each time; and nothing that was there is changed. Conditions: none.
-/
import Derived.Test.YtjaalkjdpgnfjaaStgAlive
import Derived.Test.YtjaalkjdpgnfjaaStgRef
import Derived.Test.YtjaalkjdpgnfjaaStgWt
import Derived.Test.YtjaalkjdpgnfjaaIsBools
import Derived.ProofKit
import Derived.OpenShut
import Derived.ChangeOld
import Derived.Below
namespace Go.Proofs.Ytjaalkjdpgnfjaa
open Go.ChangeShapes Go.WideShapes Go.ChangeAt Go.RowKit Verge
set_option linter.unusedVariables false
set_option linter.unusedSimpArgs false
attribute [local go_sem] Oper.semAt_some

/-- a row cut -/
theorem cutC {w : World} {a : Option Addr} {n k : Nat} {V : Nat → Value} (h : SrcC w a n V) (hk : k ≤ n) : SrcC w a k V := by
  rcases h with rfl | ⟨b, o, e, h⟩
  · left; omega
  · exact .inr ⟨b, o, e, fun i hi => h i (by omega)⟩
theorem num_cut {F : List Int} {k i : Nat} (h : i < k) : num (F.take k) i = num F i := by
  unfold num
  rw [List.getD_eq_getElem?_getD, List.getD_eq_getElem?_getD, List.getElem?_take_of_lt h]
theorem srcC_cut {w : World} {a : Option Addr} {xs : List Int} {k : Nat} (h : SrcA w a xs) (hk : k ≤ xs.length) : SrcC w a k (fun i => .int .i64 (num xs i)) := by
  rcases h with rfl | ⟨b, o, rfl, h⟩
  · left; simpa using hk
  · refine .inr ⟨b, o, rfl, fun i hi => h i _ ?_⟩
    unfold num
    rw [List.getD_eq_getElem?_getD, List.getElem?_eq_getElem (by omega)]
    rfl
theorem srcC_got {w : World} {A k cap : Nat} {F : List Int} {a : Option Addr} (h : GotAt A (F.take k) a cap w) (hk : k ≤ F.length) : SrcC w a k (fun i => .int .i64 (num F i)) := by
  have h1 := (Row.srcC h.r)
  rw [List.length_take, Nat.min_eq_left hk] at h1
  exact h1.congr (fun i hi => by rw [num_cut hi])

/-- the three variables that it lays -/
theorem laidG (w : World) (B : Nat) :
    Ch Nil w (((w.alloc (.cells #[.bool false] 4)).alloc (.cells #[.slice none 0 0] 25)).alloc (.cells #[mkF B w.heap.size (w.heap.size + 1) (w.heap.size + 1 + 1)] 37)) ∧
    (((w.alloc (.cells #[.bool false] 4)).alloc (.cells #[.slice none 0 0] 25)).alloc (.cells #[mkF B w.heap.size (w.heap.size + 1) (w.heap.size + 1 + 1)] 37)).cell? ⟨w.heap.size, 0, none⟩ = some (.bool false) ∧
    Blk (((w.alloc (.cells #[.bool false] 4)).alloc (.cells #[.slice none 0 0] 25)).alloc (.cells #[mkF B w.heap.size (w.heap.size + 1) (w.heap.size + 1 + 1)] 37)) w.heap.size ∧
    (((w.alloc (.cells #[.bool false] 4)).alloc (.cells #[.slice none 0 0] 25)).alloc (.cells #[mkF B w.heap.size (w.heap.size + 1) (w.heap.size + 1 + 1)] 37)).cell? ⟨w.heap.size + 1, 0, none⟩ = some (.slice none 0 0) ∧
    Blk (((w.alloc (.cells #[.bool false] 4)).alloc (.cells #[.slice none 0 0] 25)).alloc (.cells #[mkF B w.heap.size (w.heap.size + 1) (w.heap.size + 1 + 1)] 37)) (w.heap.size + 1) ∧
    (((w.alloc (.cells #[.bool false] 4)).alloc (.cells #[.slice none 0 0] 25)).alloc (.cells #[mkF B w.heap.size (w.heap.size + 1) (w.heap.size + 1 + 1)] 37)).cell? ⟨w.heap.size + 1 + 1, 0, none⟩ = some (mkF B w.heap.size (w.heap.size + 1) (w.heap.size + 1 + 1)) ∧
    (((w.alloc (.cells #[.bool false] 4)).alloc (.cells #[.slice none 0 0] 25)).alloc (.cells #[mkF B w.heap.size (w.heap.size + 1) (w.heap.size + 1 + 1)] 37)).heap.size = w.heap.size + 3 := by
  generalize mkF B w.heap.size (w.heap.size + 1) (w.heap.size + 1 + 1) = F
  have z1 : (w.alloc (.cells #[.bool false] 4)).heap.size = w.heap.size + 1 := by simp
  have z2 : ((w.alloc (.cells #[.bool false] 4)).alloc (.cells #[.slice none 0 0] 25)).heap.size = w.heap.size + 1 + 1 := by simp
  have c2 : Ch Nil (w.alloc (.cells #[.bool false] 4)) ((w.alloc (.cells #[.bool false] 4)).alloc (.cells #[.slice none 0 0] 25)) := (Ch.refl _ _).alloc _
  have c3 : Ch Nil ((w.alloc (.cells #[.bool false] 4)).alloc (.cells #[.slice none 0 0] 25)) (((w.alloc (.cells #[.bool false] 4)).alloc (.cells #[.slice none 0 0] 25)).alloc (.cells #[F] 37)) := (Ch.refl _ _).alloc _
  have b1 : Blk (w.alloc (.cells #[.bool false] 4)) w.heap.size := Blk.new _ _ _
  have b2 : Blk ((w.alloc (.cells #[.bool false] 4)).alloc (.cells #[.slice none 0 0] 25)) (w.heap.size + 1) := by rw [← z1]; exact Blk.new _ _ _
  exact ⟨((Ch.refl _ _).alloc _).trans (c2.trans c3), (c2.trans c3).keeps (by rw [cell_fresh]; rfl) (fun e => e), b1.kept (c2.trans c3) (fun e => e), c3.keeps (by rw [← z1, cell_fresh]; rfl) (fun e => e), b2.kept c3 (fun e => e), by rw [← z2, cell_fresh]; rfl, by simp⟩
set_option maxRecDepth 100000 in
set_option maxHeartbeats 16000000 in
theorem ProgWaits_walk (ad : Option Addr) (len cap : Nat) (G : Nat → Bool) (a : Option Addr) (ln cp : Nat) (zs : List Int) (w : World) (hv : IsBools w ad len cap G) (R : IsRow .i64 w a ln cp zs) :
    Calls Try.prog 4 #[.slice ad len cap, .slice a ln cp] w fun e w' => e = .returned (.bool true) ∧ Below w.heap.size w w' := by
  have hsm := R.small
  have hsg := hv.small
  have hcp : ln ≤ cp := by
    rcases R with ⟨-, rfl, rfl, -⟩ | ⟨x, -, h, -⟩
    · exact Nat.le_refl _
    · exact h
  obtain ⟨hS, hxl⟩ := srcB_of R
  generalize zs.take ln = xs at hS hxl
  subst hxl
  have HS := Lib.hid hS
  have HG := Lib.hid hv
  have cB : Ch Nil w (w.alloc (.cells #[.slice a xs.length cp] 25)) := (Ch.refl _ _).alloc _
  have kB : (w.alloc (.cells #[.slice a xs.length cp] 25)).cell? ⟨w.heap.size, 0, none⟩ = some (.slice a xs.length cp) := by rw [cell_fresh]; rfl
  have CB := Lib.hid cB
  have KB := Lib.hid kB
  have ZB : Hid ((w.alloc (.cells #[.slice a xs.length cp] 25)).heap.size = w.heap.size + 1) := Lib.hid (by simp)
  clear hS R hv cB kB
  go_enter Try.func4, Try.ntmps4
  go_wp2_with fail
  generalize w.alloc (.cells #[.slice a xs.length cp] 25) = w0 at CB KB ZB ⊢
  refine (alive_any _).mono ?_
  rintro e w1 ⟨rfl, c1⟩
  have C1 := Lib.hid (CB.out.trans c1)
  have k1 := c1.keeps KB.out (fun e => e)
  have K1 := Lib.hid k1
  have hz1 : w.heap.size < w1.heap.size := by have := c1.size; have := ZB.out; omega
  clear c1 CB KB ZB
  by_cases hb : 200 < len
  · have hbz : (200 : Int) < (len : Int) := by omega
    go_wp2
    go_ret
    exact ⟨rfl, C1.out.below (Nat.le_refl _) (fun _ _ h => h.elim)⟩
  · have hbz : ¬ (200 : Int) < (len : Int) := by omega
    by_cases hb2 : 30 < xs.length
    · have hbz2 : (30 : Int) < (xs.length : Int) := by omega
      go_wp2
      go_ret
      exact ⟨rfl, C1.out.below (Nat.le_refl _) (fun _ _ h => h.elim)⟩
    · have hbz2 : ¬ (30 : Int) < (xs.length : Int) := by omega
      have st0 := IsFn.store (v := .nilFunc) (.inl rfl)
      have st32 := run_store_fn
      have hl3 := laidG w1 w.heap.size
      obtain ⟨c2, kO, bO, kG, bG, kS, z2⟩ := hl3
      have C2 := Lib.hid (C1.out.trans c2)
      have KO := Lib.hid (And.intro kO bO)
      have KG := Lib.hid (And.intro kG bG)
      have KS := Lib.hid kS
      have Z2 := Lib.hid z2
      have K2 := Lib.hid (c2.keeps K1.out (fun e => e))
      clear c2 kO bO kG bG kS z2 K1
      go_upto_region 9 with (fail)
      clear k1
      unfold mkF at KO KG KS C2 K2 Z2
      generalize ((w1.alloc (.cells #[.bool false] 4)).alloc (.cells #[.slice none 0 0] 25)).alloc _ = w2 at KO KG KS C2 K2 Z2 ⊢
      generalize w1.heap.size = A at hz1 KO KG KS Z2 ⊢
      have kS := KS.out
      have SG0 := Lib.hid (stage_of (Ob := A) (Gb := A + 1) (Sb := A + 1 + 1) (i := 0) K2.out (by omega))
      go_wp2_with fail
      refine SG0.out.mono ?_
      rintro e w3 ⟨m0, d0, rfl, st3, c3⟩
      have fn3 := st3.fns
      clear kS SG0
      go_wp2_with fail
      refine (new_any m0 d0 _).mono ?_
      rintro e w4 ⟨b, rfl, p4, c4, hb4⟩
      have z2 := Z2.out
      have z3 := c3.size
      have cc := c3.trans c4
      have W4 : Hid (Wt w.heap.size A b a cp xs 0 false w4) := Lib.hid ⟨m0, d0, w2.heap.size, none, 0, cc.keeps K2.out (fun e => e), cc.keeps KS.out (fun e => e), cc.keeps KO.out.1 (fun e => e), KO.out.2.kept cc (fun e => e), HS.out.ag ((C2.out.trans cc).ag (fun _ h => h) (fun _ _ e => e)), st3.kept c4 (fun _ _ _ e => e), p4, GotAt.kept (S := Nil) ⟨KG.out.1, KG.out.2, Row.nil _ _ _ _, (fun e => (by cases e))⟩ cc (fun e => e) (fun _ _ e => e), by omega, ⟨by omega, by omega, hz1⟩, (fun k hk => (by cases hk)), (fun ib hd => by
        rcases st3 with ⟨-, -, rfl⟩ | ⟨-, ib2, -, rfl, q1, q2⟩
        · cases hd
        · have := lt_of_cell q1
          unfold doF at hd
          simp at hd
          subst hd
          simp only at this
          omega)⟩
      have C4 := Lib.hid ((C2.out.trans cc).mono (S' := fun k => w.heap.size ≤ k) (fun _ _ e => e.elim))
      clear st3 c3 fn3 p4 c4 cc KO KG KS K2 C2 Z2 hb4 z3 st0 st32 HS
      go_wp2
      go_loopw [9, 10] (fun n i wr => ∃ (k m : Nat) (o : Bool), k ≤ len ∧ n = .int .i64 m ∧ i = .int .i64 k ∧ Wt w.heap.size A b a cp xs m o wr ∧ Ch (fun k => w.heap.size ≤ k) w wr) (fun _ i _ => len - (intOf i).toNat)
      case atStart => exact ⟨0, 0, false, by omega, rfl, rfl, W4.out, C4.out⟩
      case round =>
        obtain ⟨k, m, o, hk, rfl, rfl, hw, hc⟩ := hrel
        have HW := Lib.hid hw
        have HC := Lib.hid hc
        by_cases hlt : k < len
        · obtain ⟨x, rfl, -, -, hx⟩ := HG.out.item hlt
          have hx' := (hc.ag (S := fun k => k < w.heap.size) (fun _ h => h) (fun k (h : k < w.heap.size) (e : w.heap.size ≤ k) => by omega)).cell hx (by have := lt_of_cell hx; exact this)
          obtain ⟨mm, dd, lo, ag, cg, hat⟩ := hw
          have hA := hat.o
          have hl0 := hat.l
          have hfz := hat.ok.fz
          have hm30 := hat.mn
          have hkz : (k : Int) < (len : Int) := by omega
          have hkz0 : (0 : Int) ≤ (k : Int) := by omega
          clear hat hx hc
          go_upto_region 15 with (fail)
          have GT := HW.out.gate (G k)
          have nAB : w.heap.size ≠ A := by omega
          have hA2 : (wr.setCell ⟨A, 0, none⟩ (.bool (G k))).cell? ⟨A, 0, none⟩ = some (.bool (G k)) := World.cell?_setCell_same _ _ _ hA
          have hl2 : (wr.setCell ⟨A, 0, none⟩ (.bool (G k))).cell? ⟨w.heap.size, 0, none⟩ = some (.slice a xs.length cp) := by rw [cell_set, if_neg (by rintro ⟨e, -⟩; exact nAB e)]; exact hl0
          have W0 := Lib.hid GT.1
          have E0 := Lib.hid (HC.out.trans GT.2)
          clear GT hA hl0 hfz HW HC hx'
          generalize wr.setCell ⟨A, 0, none⟩ (.bool (G k)) = x0 at hA2 hl2 W0 E0 ⊢
          have hA := hA2
          have hl0 := hl2
          have hfz := True.intro
          clear hA2 hl2
          cases hG : G k with
          | false =>
            rw [hG] at hA W0
            clear hG
            go_upto_region 16 with (fail)
            have Q0 := Lib.hid W0.out.asks
            rw [Bool.false_and] at Q0
            go_wp2_with fail
            refine Q0.out.mono ?_
            rintro e x1 ⟨rfl, d1⟩
            have W1 := Lib.hid (W0.out.nil d1)
            have E1 := Lib.hid (E0.out.trans (d1.mono (fun _ _ e => e.elim)))
            clear d1 Q0 W0 E0
            have Q1 := Lib.hid (W1.out.shut (by rw [Bool.false_and]))
            clear hA hl0 hfz
            go_wp2_with fail
            refine Q1.out.mono ?_
            rintro e x2 ⟨rfl, d2⟩
            have W2 := Lib.hid (W1.out.nil d2)
            have E2 := Lib.hid (E1.out.trans (d2.mono (fun _ _ e => e.elim)))
            clear d2 Q1 W1 E1
            obtain ⟨mm, dd, lo, ag, cg, hat⟩ := W2.out
            have hml : m ≤ xs.length := hat.mn
            have b1 := hat.l
            have b2 := hat.g.c
            rw [List.length_take, Nat.min_eq_left hml] at b2
            have SG := Lib.hid (srcC_got hat.g hml)
            have SL := Lib.hid (srcC_cut hat.src.srcA hml)
            clear hat
            obtain ⟨m', hm'⟩ : ∃ m', m' = m := ⟨_, rfl⟩
            rw [← hm'] at hml b2 SG SL W2
            obtain ⟨r2, hr2⟩ : ∃ r2, ((m' : Int) == (xs.length : Int)) = r2 := ⟨_, rfl⟩
            have HR2 := Lib.hid (show decide (m' = xs.length) = r2 by rw [← hr2, Bool.eq_iff_iff]; simp; omega)
            have HM' := Lib.hid hm'
            subst hm'
            go_upto_region 20 with (fail)
            have hmc0 : (0 : Int) ≤ (m' : Int) := by omega
            have hmcc : (m' : Int) ≤ (cp : Int) := by omega
            have hne : ((m' : Int) != (m' : Int)) = false := by simp
            refine wp_region_held_drew (S := fun w' => w'.cell? ⟨w.heap.size, 0, none⟩ = some (.slice a xs.length cp) ∧ w'.cell? ⟨A + 1, 0, none⟩ = some (.slice ag m' cg)) (by kernel_rfl) ⟨b1, b2⟩ (fun hHeld => ?_)
            have D0 : Ch Nil x2 x2.drew := (Ch.refl _ _).drew
            have W3 := Lib.hid (W2.out.nil D0)
            have E3 := Lib.hid (E2.out.trans (D0.mono (fun _ _ e => e.elim)))
            have SG3 := Lib.hid (SG.out.kept D0 (fun _ _ e => e))
            have SL3 := Lib.hid (SL.out.kept D0 (fun _ _ e => e))
            clear D0 W2 E2 SG SL b1 b2
            generalize x2.drew = x3 at W3 E3 SG3 SL3 hHeld ⊢
            have Q3 := Lib.hid W3.out.steps
            refine take_at (v := ?_) 0 (some 56) rfl (by kernel_rfl) (by kernel_rfl) (by kernel_rfl) (by kernel_rfl) (fun _ _ _ h => h) (Or.inl ⟨by rfl, ?_⟩) (by assumption) ?_
            rotate_left
            · intro w hSw; (try dsimp only at hSw); go_simp; try (with_reducible rfl)
            (try simp only [Act.put, List.setIfInBounds_toArray, List.set_cons_zero, List.set_cons_succ])
            refine take_at (v := ?_) 2 (some 58) rfl (by kernel_rfl) (by kernel_rfl) (by kernel_rfl) (by kernel_rfl) (fun _ _ _ h => h) (Or.inl ⟨by rfl, ?_⟩) (by assumption) ?_
            rotate_left
            · intro w hSw; (try dsimp only at hSw); go_simp; try (with_reducible rfl)
            (try simp only [Act.put, List.setIfInBounds_toArray, List.set_cons_zero, List.set_cons_succ])
            refine wpAnyH_ready (rs := [1]) (by kernel_rfl) (by simp) ?_
            refine AllReadyH.cons rfl (fun K hK => ?_) AllReadyH.nil
            go_simp
            refine Q3.out.mono ?_
            rintro e x4 ⟨rfl, d4⟩
            have W4 := Lib.hid (W3.out.nil d4)
            have E4 := Lib.hid (E3.out.trans (d4.mono (fun _ _ e => e.elim)))
            have Q4 := Lib.hid (ints_src (cap := cg) (cap' := cp) (SG3.out.kept d4 (fun _ _ e => e)) (SL3.out.kept d4 (fun _ _ e => e)) (by omega))
            have SN := Lib.hid (And.intro (d4.keeps hHeld.1 (fun e => e)) (d4.keeps hHeld.2 (fun e => e)))
            clear d4 Q3 W3 E3 SG3 SL3 hHeld
            refine hK.out _ _ (SN.out) (fun hHeld => ?_)
            clear hK K SN
            (try simp only [Act.put, List.setIfInBounds_toArray, List.set_cons_zero, List.set_cons_succ])
            refine take_at (v := ?_) 3 (some 59) rfl (by kernel_rfl) (by kernel_rfl) (by kernel_rfl) (by kernel_rfl) (fun _ _ _ h => h) (Or.inl ⟨by rfl, ?_⟩) (by assumption) ?_
            rotate_left
            · intro w hSw; (try dsimp only at hSw); go_simp; try (with_reducible rfl)
            (try simp only [Act.put, List.setIfInBounds_toArray, List.set_cons_zero, List.set_cons_succ])
            refine take_at (v := ?_) 4 (some 60) rfl (by kernel_rfl) (by kernel_rfl) (by kernel_rfl) (by kernel_rfl) (fun _ _ _ h => h) (Or.inl ⟨by rfl, ?_⟩) (by assumption) ?_
            rotate_left
            · intro w hSw; (try dsimp only at hSw); go_simp; try (with_reducible rfl)
            (try simp only [Act.put, List.setIfInBounds_toArray, List.set_cons_zero, List.set_cons_succ])
            refine take_at (v := ?_) 5 (some 61) rfl (by kernel_rfl) (by kernel_rfl) (by kernel_rfl) (by kernel_rfl) (fun _ _ _ h => h) (Or.inl ⟨by rfl, ?_⟩) (by assumption) ?_
            rotate_left
            · intro w hSw; (try dsimp only at hSw); go_simp; try (with_reducible rfl)
            (try simp only [Act.put, List.setIfInBounds_toArray, List.set_cons_zero, List.set_cons_succ])
            refine take_at (v := ?_) 6 (some 62) rfl (by kernel_rfl) (by kernel_rfl) (by kernel_rfl) (by kernel_rfl) (fun _ _ _ h => h) (Or.inl ⟨by rfl, ?_⟩) (by assumption) ?_
            rotate_left
            · intro w hSw; (try dsimp only at hSw); go_simp; try (with_reducible rfl)
            (try simp only [Act.put, List.setIfInBounds_toArray, List.set_cons_zero, List.set_cons_succ])
            refine take_at (v := ?_) 7 (some 63) rfl (by kernel_rfl) (by kernel_rfl) (by kernel_rfl) (by kernel_rfl) (fun _ _ _ h => h) (Or.inl ⟨by rfl, ?_⟩) (by assumption) ?_
            rotate_left
            · intro w hSw; (try dsimp only at hSw); go_simp; try (with_reducible rfl)
            (try simp only [Act.put, List.setIfInBounds_toArray, List.set_cons_zero, List.set_cons_succ])
            refine take_at (v := ?_) 8 (some 64) rfl (by kernel_rfl) (by kernel_rfl) (by kernel_rfl) (by kernel_rfl) (fun _ _ _ h => h) (Or.inl ⟨by rfl, ?_⟩) (by assumption) ?_
            rotate_left
            · intro w hSw; (try dsimp only at hSw); go_simp; try (with_reducible rfl)
            (try simp only [Act.put, List.setIfInBounds_toArray, List.set_cons_zero, List.set_cons_succ])
            refine wpAnyH_ready (rs := [9]) (by kernel_rfl) (by simp) ?_
            refine AllReadyH.cons rfl (fun K hK => ?_) AllReadyH.nil
            go_simp
            refine Q4.out.mono ?_
            rintro e x5 ⟨rfl, d5⟩
            have W5 := Lib.hid (W4.out.nil d5)
            have E5 := Lib.hid (E4.out.trans (d5.mono (fun _ _ e => e.elim)))
            have Q5 := Lib.hid W5.out.done
            rw [HR2.out] at Q5
            have SN := Lib.hid (And.intro (d5.keeps hHeld.1 (fun e => e)) (d5.keeps hHeld.2 (fun e => e)))
            clear d5 Q4 W4 E4 hHeld
            refine hK.out _ _ (SN.out) (fun hHeld => ?_)
            clear hK K SN
            (try simp only [Act.put, List.setIfInBounds_toArray, List.set_cons_zero, List.set_cons_succ])
            refine take_at (v := ?_) 10 (some 66) rfl (by kernel_rfl) (by kernel_rfl) (by kernel_rfl) (by kernel_rfl) (fun _ _ _ h => h) (Or.inl ⟨by rfl, ?_⟩) (by assumption) ?_
            rotate_left
            · intro w hSw; (try dsimp only at hSw); go_simp; try (with_reducible rfl)
            (try simp only [Act.put, List.setIfInBounds_toArray, List.set_cons_zero, List.set_cons_succ])
            refine take_at (v := ?_) 11 (some 67) rfl (by kernel_rfl) (by kernel_rfl) (by kernel_rfl) (by kernel_rfl) (fun _ _ _ h => h) (Or.inl ⟨by rfl, ?_⟩) (by assumption) ?_
            rotate_left
            · intro w hSw; (try dsimp only at hSw); go_simp; try (with_reducible rfl)
            (try simp only [Act.put, List.setIfInBounds_toArray, List.set_cons_zero, List.set_cons_succ])
            refine take_at (v := ?_) 12 (some 68) rfl (by kernel_rfl) (by kernel_rfl) (by kernel_rfl) (by kernel_rfl) (fun _ _ _ h => h) (Or.inl ⟨by rfl, ?_⟩) (by assumption) ?_
            rotate_left
            · intro w hSw; (try dsimp only at hSw); go_simp; try (with_reducible rfl)
            (try simp only [Act.put, List.setIfInBounds_toArray, List.set_cons_zero, List.set_cons_succ])
            refine take_at (v := ?_) 13 (some 69) rfl (by kernel_rfl) (by kernel_rfl) (by kernel_rfl) (by kernel_rfl) (fun _ _ _ h => h) (Or.inl ⟨by rfl, ?_⟩) (by assumption) ?_
            rotate_left
            · intro w hSw; (try dsimp only at hSw); go_simp; try (with_reducible rfl)
            (try simp only [Act.put, List.setIfInBounds_toArray, List.set_cons_zero, List.set_cons_succ])
            refine take_at (v := ?_) 15 (some 71) rfl (by kernel_rfl) (by kernel_rfl) (by kernel_rfl) (by kernel_rfl) (fun _ _ _ h => h) (Or.inl ⟨by rfl, ?_⟩) (by assumption) ?_
            rotate_left
            · intro w hSw; (try dsimp only at hSw); go_simp; try (with_reducible rfl)
            (try simp only [Act.put, List.setIfInBounds_toArray, List.set_cons_zero, List.set_cons_succ])
            refine take_at (v := ?_) 16 (some 72) rfl (by kernel_rfl) (by kernel_rfl) (by kernel_rfl) (by kernel_rfl) (fun _ _ _ h => h) (Or.inl ⟨by rfl, ?_⟩) (by assumption) ?_
            rotate_left
            · intro w hSw; (try dsimp only at hSw); go_simp; try (with_reducible rfl)
            (try simp only [Act.put, List.setIfInBounds_toArray, List.set_cons_zero, List.set_cons_succ])
            refine take_at (v := ?_) 17 (some 73) rfl (by kernel_rfl) (by kernel_rfl) (by kernel_rfl) (by kernel_rfl) (fun _ _ _ h => h) (Or.inl ⟨by rfl, ?_⟩) (by assumption) ?_
            rotate_left
            · intro w hSw; (try dsimp only at hSw); go_simp; try (with_reducible rfl)
            (try simp only [Act.put, List.setIfInBounds_toArray, List.set_cons_zero, List.set_cons_succ])
            refine take_at (v := ?_) 18 (some 74) rfl (by kernel_rfl) (by kernel_rfl) (by kernel_rfl) (by kernel_rfl) (fun _ _ _ h => h) (Or.inl ⟨by rfl, ?_⟩) (by assumption) ?_
            rotate_left
            · intro w hSw; (try dsimp only at hSw); go_simp; try (with_reducible rfl)
            (try simp only [Act.put, List.setIfInBounds_toArray, List.set_cons_zero, List.set_cons_succ])
            refine wpAnyH_ready (rs := [14]) (by kernel_rfl) (by simp) ?_
            refine AllReadyH.cons rfl (fun K hK => ?_) AllReadyH.nil
            go_simp
            refine Q5.out.mono ?_
            rintro e x6 ⟨rfl, d6⟩
            have W6 := Lib.hid (W5.out.nil d6)
            have E6 := Lib.hid (E5.out.trans (d6.mono (fun _ _ e => e.elim)))
            have SN := Lib.hid (And.intro (d6.keeps hHeld.1 (fun e => e)) (d6.keeps hHeld.2 (fun e => e)))
            clear d6 Q5 W5 E5 hHeld
            refine hK.out _ _ (SN.out) (fun hHeld => ?_)
            clear hK K SN
            (try simp only [Act.put, List.setIfInBounds_toArray, List.set_cons_zero, List.set_cons_succ])
            refine take_at (v := ?_) 19 (some 75) rfl (by kernel_rfl) (by kernel_rfl) (by kernel_rfl) (by kernel_rfl) (fun _ _ _ h => h) (Or.inl ⟨by rfl, ?_⟩) (by assumption) ?_
            rotate_left
            · intro w hSw; (try dsimp only at hSw); go_simp; try (with_reducible rfl)
            (try simp only [Act.put, List.setIfInBounds_toArray, List.set_cons_zero, List.set_cons_succ])
            refine take_at (v := ?_) 20 (some 76) rfl (by kernel_rfl) (by kernel_rfl) (by kernel_rfl) (by kernel_rfl) (fun _ _ _ h => h) (Or.inl ⟨by rfl, ?_⟩) (by assumption) ?_
            rotate_left
            · intro w hSw; (try dsimp only at hSw); go_simp; try (with_reducible rfl)
            (try simp only [Act.put, List.setIfInBounds_toArray, List.set_cons_zero, List.set_cons_succ])
            refine wpAnyH_done (by kernel_rfl) ?_ _
            clear hHeld
            go_wp2
            go_roundw
            case rel => exact ⟨k + 1, m', _, by omega, rfl, by go_num, W6.out, E6.out⟩
            case measure => simp [intOf]; omega
          | true =>
            rw [hG] at hA W0
            clear hG
            by_cases hmn : m < xs.length
            · have hmz : (m : Int) < (xs.length : Int) := by omega
              go_upto_region 16 with (fail)
              have Q0 := Lib.hid W0.out.asks
              rw [decide_eq_true hmn, Bool.and_true] at Q0
              go_wp2_with fail
              refine Q0.out.mono ?_
              rintro e x1 ⟨rfl, d1⟩
              have W1 := Lib.hid (W0.out.nil d1)
              have E1 := Lib.hid (E0.out.trans (d1.mono (fun _ _ e => e.elim)))
              clear d1 Q0 W0 E0
              have Q1 := Lib.hid (W1.out.goes hmn (by omega))
              clear hA hl0 hfz
              go_wp2_with fail
              refine Q1.out.mono ?_
              rintro e x2 ⟨rfl, w2', d2⟩
              have W2 := Lib.hid w2'
              have E2 := Lib.hid (E1.out.trans d2)
              clear d2 Q1 W1 E1 w2'
              obtain ⟨mm, dd, lo, ag, cg, hat⟩ := W2.out
              have hml : (m + 1) ≤ xs.length := hat.mn
              have b1 := hat.l
              have b2 := hat.g.c
              rw [List.length_take, Nat.min_eq_left hml] at b2
              have SG := Lib.hid (srcC_got hat.g hml)
              have SL := Lib.hid (srcC_cut hat.src.srcA hml)
              clear hat
              obtain ⟨m', hm'⟩ : ∃ m', m' = (m + 1) := ⟨_, rfl⟩
              rw [← hm'] at hml b2 SG SL W2
              obtain ⟨r2, hr2⟩ : ∃ r2, ((m' : Int) == (xs.length : Int)) = r2 := ⟨_, rfl⟩
              have HR2 := Lib.hid (show decide (m' = xs.length) = r2 by rw [← hr2, Bool.eq_iff_iff]; simp; omega)
              have HM' := Lib.hid hm'
              have hw : IntKind.i64.wrap ((m : Int) + 1) = (m' : Int) := by rw [show (m' : Int) = (m : Int) + 1 by omega]; exact IntWalk.i64_in _ (by omega)
              clear hm'
              go_upto_region 20 with (fail)
              have hmc0 : (0 : Int) ≤ (m' : Int) := by omega
              have hmcc : (m' : Int) ≤ (cp : Int) := by omega
              have hne : ((m' : Int) != (m' : Int)) = false := by simp
              refine wp_region_held_drew (S := fun w' => w'.cell? ⟨w.heap.size, 0, none⟩ = some (.slice a xs.length cp) ∧ w'.cell? ⟨A + 1, 0, none⟩ = some (.slice ag m' cg)) (by kernel_rfl) ⟨b1, b2⟩ (fun hHeld => ?_)
              have D0 : Ch Nil x2 x2.drew := (Ch.refl _ _).drew
              have W3 := Lib.hid (W2.out.nil D0)
              have E3 := Lib.hid (E2.out.trans (D0.mono (fun _ _ e => e.elim)))
              have SG3 := Lib.hid (SG.out.kept D0 (fun _ _ e => e))
              have SL3 := Lib.hid (SL.out.kept D0 (fun _ _ e => e))
              clear D0 W2 E2 SG SL b1 b2
              generalize x2.drew = x3 at W3 E3 SG3 SL3 hHeld ⊢
              have Q3 := Lib.hid W3.out.steps
              refine take_at (v := ?_) 0 (some 56) rfl (by kernel_rfl) (by kernel_rfl) (by kernel_rfl) (by kernel_rfl) (fun _ _ _ h => h) (Or.inl ⟨by rfl, ?_⟩) (by assumption) ?_
              rotate_left
              · intro w hSw; (try dsimp only at hSw); go_simp; try (with_reducible rfl)
              (try simp only [Act.put, List.setIfInBounds_toArray, List.set_cons_zero, List.set_cons_succ])
              refine take_at (v := ?_) 2 (some 58) rfl (by kernel_rfl) (by kernel_rfl) (by kernel_rfl) (by kernel_rfl) (fun _ _ _ h => h) (Or.inl ⟨by rfl, ?_⟩) (by assumption) ?_
              rotate_left
              · intro w hSw; (try dsimp only at hSw); go_simp; try (with_reducible rfl)
              (try simp only [Act.put, List.setIfInBounds_toArray, List.set_cons_zero, List.set_cons_succ])
              refine wpAnyH_ready (rs := [1]) (by kernel_rfl) (by simp) ?_
              refine AllReadyH.cons rfl (fun K hK => ?_) AllReadyH.nil
              go_simp
              refine Q3.out.mono ?_
              rintro e x4 ⟨rfl, d4⟩
              have W4 := Lib.hid (W3.out.nil d4)
              have E4 := Lib.hid (E3.out.trans (d4.mono (fun _ _ e => e.elim)))
              have Q4 := Lib.hid (ints_src (cap := cg) (cap' := cp) (SG3.out.kept d4 (fun _ _ e => e)) (SL3.out.kept d4 (fun _ _ e => e)) (by omega))
              have SN := Lib.hid (And.intro (d4.keeps hHeld.1 (fun e => e)) (d4.keeps hHeld.2 (fun e => e)))
              clear d4 Q3 W3 E3 SG3 SL3 hHeld
              refine hK.out _ _ (SN.out) (fun hHeld => ?_)
              clear hK K SN
              (try simp only [Act.put, List.setIfInBounds_toArray, List.set_cons_zero, List.set_cons_succ])
              refine take_at (v := ?_) 3 (some 59) rfl (by kernel_rfl) (by kernel_rfl) (by kernel_rfl) (by kernel_rfl) (fun _ _ _ h => h) (Or.inl ⟨by rfl, ?_⟩) (by assumption) ?_
              rotate_left
              · intro w hSw; (try dsimp only at hSw); go_simp; try (with_reducible rfl)
              (try simp only [Act.put, List.setIfInBounds_toArray, List.set_cons_zero, List.set_cons_succ])
              refine take_at (v := ?_) 4 (some 60) rfl (by kernel_rfl) (by kernel_rfl) (by kernel_rfl) (by kernel_rfl) (fun _ _ _ h => h) (Or.inl ⟨by rfl, ?_⟩) (by assumption) ?_
              rotate_left
              · intro w hSw; (try dsimp only at hSw); go_simp; try (with_reducible rfl)
              (try simp only [Act.put, List.setIfInBounds_toArray, List.set_cons_zero, List.set_cons_succ])
              refine take_at (v := ?_) 5 (some 61) rfl (by kernel_rfl) (by kernel_rfl) (by kernel_rfl) (by kernel_rfl) (fun _ _ _ h => h) (Or.inl ⟨by rfl, ?_⟩) (by assumption) ?_
              rotate_left
              · intro w hSw; (try dsimp only at hSw); go_simp; try (with_reducible rfl)
              (try simp only [Act.put, List.setIfInBounds_toArray, List.set_cons_zero, List.set_cons_succ])
              refine take_at (v := ?_) 6 (some 62) rfl (by kernel_rfl) (by kernel_rfl) (by kernel_rfl) (by kernel_rfl) (fun _ _ _ h => h) (Or.inl ⟨by rfl, ?_⟩) (by assumption) ?_
              rotate_left
              · intro w hSw; (try dsimp only at hSw); go_simp; try (with_reducible rfl)
              (try simp only [Act.put, List.setIfInBounds_toArray, List.set_cons_zero, List.set_cons_succ])
              refine take_at (v := ?_) 7 (some 63) rfl (by kernel_rfl) (by kernel_rfl) (by kernel_rfl) (by kernel_rfl) (fun _ _ _ h => h) (Or.inl ⟨by rfl, ?_⟩) (by assumption) ?_
              rotate_left
              · intro w hSw; (try dsimp only at hSw); go_simp; try (with_reducible rfl)
              (try simp only [Act.put, List.setIfInBounds_toArray, List.set_cons_zero, List.set_cons_succ])
              refine take_at (v := ?_) 8 (some 64) rfl (by kernel_rfl) (by kernel_rfl) (by kernel_rfl) (by kernel_rfl) (fun _ _ _ h => h) (Or.inl ⟨by rfl, ?_⟩) (by assumption) ?_
              rotate_left
              · intro w hSw; (try dsimp only at hSw); go_simp; try (with_reducible rfl)
              (try simp only [Act.put, List.setIfInBounds_toArray, List.set_cons_zero, List.set_cons_succ])
              refine wpAnyH_ready (rs := [9]) (by kernel_rfl) (by simp) ?_
              refine AllReadyH.cons rfl (fun K hK => ?_) AllReadyH.nil
              go_simp
              refine Q4.out.mono ?_
              rintro e x5 ⟨rfl, d5⟩
              have W5 := Lib.hid (W4.out.nil d5)
              have E5 := Lib.hid (E4.out.trans (d5.mono (fun _ _ e => e.elim)))
              have Q5 := Lib.hid W5.out.done
              rw [HR2.out] at Q5
              have SN := Lib.hid (And.intro (d5.keeps hHeld.1 (fun e => e)) (d5.keeps hHeld.2 (fun e => e)))
              clear d5 Q4 W4 E4 hHeld
              refine hK.out _ _ (SN.out) (fun hHeld => ?_)
              clear hK K SN
              (try simp only [Act.put, List.setIfInBounds_toArray, List.set_cons_zero, List.set_cons_succ])
              refine take_at (v := ?_) 10 (some 66) rfl (by kernel_rfl) (by kernel_rfl) (by kernel_rfl) (by kernel_rfl) (fun _ _ _ h => h) (Or.inl ⟨by rfl, ?_⟩) (by assumption) ?_
              rotate_left
              · intro w hSw; (try dsimp only at hSw); go_simp; try (with_reducible rfl)
              (try simp only [Act.put, List.setIfInBounds_toArray, List.set_cons_zero, List.set_cons_succ])
              refine take_at (v := ?_) 11 (some 67) rfl (by kernel_rfl) (by kernel_rfl) (by kernel_rfl) (by kernel_rfl) (fun _ _ _ h => h) (Or.inl ⟨by rfl, ?_⟩) (by assumption) ?_
              rotate_left
              · intro w hSw; (try dsimp only at hSw); go_simp; try (with_reducible rfl)
              (try simp only [Act.put, List.setIfInBounds_toArray, List.set_cons_zero, List.set_cons_succ])
              refine take_at (v := ?_) 12 (some 68) rfl (by kernel_rfl) (by kernel_rfl) (by kernel_rfl) (by kernel_rfl) (fun _ _ _ h => h) (Or.inl ⟨by rfl, ?_⟩) (by assumption) ?_
              rotate_left
              · intro w hSw; (try dsimp only at hSw); go_simp; try (with_reducible rfl)
              (try simp only [Act.put, List.setIfInBounds_toArray, List.set_cons_zero, List.set_cons_succ])
              refine take_at (v := ?_) 13 (some 69) rfl (by kernel_rfl) (by kernel_rfl) (by kernel_rfl) (by kernel_rfl) (fun _ _ _ h => h) (Or.inl ⟨by rfl, ?_⟩) (by assumption) ?_
              rotate_left
              · intro w hSw; (try dsimp only at hSw); go_simp; try (with_reducible rfl)
              (try simp only [Act.put, List.setIfInBounds_toArray, List.set_cons_zero, List.set_cons_succ])
              refine take_at (v := ?_) 15 (some 71) rfl (by kernel_rfl) (by kernel_rfl) (by kernel_rfl) (by kernel_rfl) (fun _ _ _ h => h) (Or.inl ⟨by rfl, ?_⟩) (by assumption) ?_
              rotate_left
              · intro w hSw; (try dsimp only at hSw); go_simp; try (with_reducible rfl)
              (try simp only [Act.put, List.setIfInBounds_toArray, List.set_cons_zero, List.set_cons_succ])
              refine take_at (v := ?_) 16 (some 72) rfl (by kernel_rfl) (by kernel_rfl) (by kernel_rfl) (by kernel_rfl) (fun _ _ _ h => h) (Or.inl ⟨by rfl, ?_⟩) (by assumption) ?_
              rotate_left
              · intro w hSw; (try dsimp only at hSw); go_simp; try (with_reducible rfl)
              (try simp only [Act.put, List.setIfInBounds_toArray, List.set_cons_zero, List.set_cons_succ])
              refine take_at (v := ?_) 17 (some 73) rfl (by kernel_rfl) (by kernel_rfl) (by kernel_rfl) (by kernel_rfl) (fun _ _ _ h => h) (Or.inl ⟨by rfl, ?_⟩) (by assumption) ?_
              rotate_left
              · intro w hSw; (try dsimp only at hSw); go_simp; try (with_reducible rfl)
              (try simp only [Act.put, List.setIfInBounds_toArray, List.set_cons_zero, List.set_cons_succ])
              refine take_at (v := ?_) 18 (some 74) rfl (by kernel_rfl) (by kernel_rfl) (by kernel_rfl) (by kernel_rfl) (fun _ _ _ h => h) (Or.inl ⟨by rfl, ?_⟩) (by assumption) ?_
              rotate_left
              · intro w hSw; (try dsimp only at hSw); go_simp; try (with_reducible rfl)
              (try simp only [Act.put, List.setIfInBounds_toArray, List.set_cons_zero, List.set_cons_succ])
              refine wpAnyH_ready (rs := [14]) (by kernel_rfl) (by simp) ?_
              refine AllReadyH.cons rfl (fun K hK => ?_) AllReadyH.nil
              go_simp
              refine Q5.out.mono ?_
              rintro e x6 ⟨rfl, d6⟩
              have W6 := Lib.hid (W5.out.nil d6)
              have E6 := Lib.hid (E5.out.trans (d6.mono (fun _ _ e => e.elim)))
              have SN := Lib.hid (And.intro (d6.keeps hHeld.1 (fun e => e)) (d6.keeps hHeld.2 (fun e => e)))
              clear d6 Q5 W5 E5 hHeld
              refine hK.out _ _ (SN.out) (fun hHeld => ?_)
              clear hK K SN
              (try simp only [Act.put, List.setIfInBounds_toArray, List.set_cons_zero, List.set_cons_succ])
              refine take_at (v := ?_) 19 (some 75) rfl (by kernel_rfl) (by kernel_rfl) (by kernel_rfl) (by kernel_rfl) (fun _ _ _ h => h) (Or.inl ⟨by rfl, ?_⟩) (by assumption) ?_
              rotate_left
              · intro w hSw; (try dsimp only at hSw); go_simp; try (with_reducible rfl)
              (try simp only [Act.put, List.setIfInBounds_toArray, List.set_cons_zero, List.set_cons_succ])
              refine take_at (v := ?_) 20 (some 76) rfl (by kernel_rfl) (by kernel_rfl) (by kernel_rfl) (by kernel_rfl) (fun _ _ _ h => h) (Or.inl ⟨by rfl, ?_⟩) (by assumption) ?_
              rotate_left
              · intro w hSw; (try dsimp only at hSw); go_simp; try (with_reducible rfl)
              (try simp only [Act.put, List.setIfInBounds_toArray, List.set_cons_zero, List.set_cons_succ])
              refine wpAnyH_done (by kernel_rfl) ?_ _
              clear hHeld
              go_wp2
              go_roundw
              case rel => exact ⟨k + 1, m', _, by omega, rfl, by go_num, W6.out, E6.out⟩
              case measure => simp [intOf]; omega
            · have hmz : ¬ (m : Int) < (xs.length : Int) := by omega
              go_upto_region 16 with (fail)
              have Q0 := Lib.hid W0.out.asks
              rw [decide_eq_false hmn, Bool.and_false] at Q0
              go_wp2_with fail
              refine Q0.out.mono ?_
              rintro e x1 ⟨rfl, d1⟩
              have W1 := Lib.hid (W0.out.nil d1)
              have E1 := Lib.hid (E0.out.trans (d1.mono (fun _ _ e => e.elim)))
              clear d1 Q0 W0 E0
              have Q1 := Lib.hid (W1.out.shut (by rw [decide_eq_false hmn, Bool.and_false]))
              clear hA hl0 hfz
              go_wp2_with fail
              refine Q1.out.mono ?_
              rintro e x2 ⟨rfl, d2⟩
              have W2 := Lib.hid (W1.out.nil d2)
              have E2 := Lib.hid (E1.out.trans (d2.mono (fun _ _ e => e.elim)))
              clear d2 Q1 W1 E1
              obtain ⟨mm, dd, lo, ag, cg, hat⟩ := W2.out
              have hml : m ≤ xs.length := hat.mn
              have b1 := hat.l
              have b2 := hat.g.c
              rw [List.length_take, Nat.min_eq_left hml] at b2
              have SG := Lib.hid (srcC_got hat.g hml)
              have SL := Lib.hid (srcC_cut hat.src.srcA hml)
              clear hat
              obtain ⟨m', hm'⟩ : ∃ m', m' = m := ⟨_, rfl⟩
              rw [← hm'] at hml b2 SG SL W2
              obtain ⟨r2, hr2⟩ : ∃ r2, ((m' : Int) == (xs.length : Int)) = r2 := ⟨_, rfl⟩
              have HR2 := Lib.hid (show decide (m' = xs.length) = r2 by rw [← hr2, Bool.eq_iff_iff]; simp; omega)
              have HM' := Lib.hid hm'
              subst hm'
              go_upto_region 20 with (fail)
              have hmc0 : (0 : Int) ≤ (m' : Int) := by omega
              have hmcc : (m' : Int) ≤ (cp : Int) := by omega
              have hne : ((m' : Int) != (m' : Int)) = false := by simp
              refine wp_region_held_drew (S := fun w' => w'.cell? ⟨w.heap.size, 0, none⟩ = some (.slice a xs.length cp) ∧ w'.cell? ⟨A + 1, 0, none⟩ = some (.slice ag m' cg)) (by kernel_rfl) ⟨b1, b2⟩ (fun hHeld => ?_)
              have D0 : Ch Nil x2 x2.drew := (Ch.refl _ _).drew
              have W3 := Lib.hid (W2.out.nil D0)
              have E3 := Lib.hid (E2.out.trans (D0.mono (fun _ _ e => e.elim)))
              have SG3 := Lib.hid (SG.out.kept D0 (fun _ _ e => e))
              have SL3 := Lib.hid (SL.out.kept D0 (fun _ _ e => e))
              clear D0 W2 E2 SG SL b1 b2
              generalize x2.drew = x3 at W3 E3 SG3 SL3 hHeld ⊢
              have Q3 := Lib.hid W3.out.steps
              refine take_at (v := ?_) 0 (some 56) rfl (by kernel_rfl) (by kernel_rfl) (by kernel_rfl) (by kernel_rfl) (fun _ _ _ h => h) (Or.inl ⟨by rfl, ?_⟩) (by assumption) ?_
              rotate_left
              · intro w hSw; (try dsimp only at hSw); go_simp; try (with_reducible rfl)
              (try simp only [Act.put, List.setIfInBounds_toArray, List.set_cons_zero, List.set_cons_succ])
              refine take_at (v := ?_) 2 (some 58) rfl (by kernel_rfl) (by kernel_rfl) (by kernel_rfl) (by kernel_rfl) (fun _ _ _ h => h) (Or.inl ⟨by rfl, ?_⟩) (by assumption) ?_
              rotate_left
              · intro w hSw; (try dsimp only at hSw); go_simp; try (with_reducible rfl)
              (try simp only [Act.put, List.setIfInBounds_toArray, List.set_cons_zero, List.set_cons_succ])
              refine wpAnyH_ready (rs := [1]) (by kernel_rfl) (by simp) ?_
              refine AllReadyH.cons rfl (fun K hK => ?_) AllReadyH.nil
              go_simp
              refine Q3.out.mono ?_
              rintro e x4 ⟨rfl, d4⟩
              have W4 := Lib.hid (W3.out.nil d4)
              have E4 := Lib.hid (E3.out.trans (d4.mono (fun _ _ e => e.elim)))
              have Q4 := Lib.hid (ints_src (cap := cg) (cap' := cp) (SG3.out.kept d4 (fun _ _ e => e)) (SL3.out.kept d4 (fun _ _ e => e)) (by omega))
              have SN := Lib.hid (And.intro (d4.keeps hHeld.1 (fun e => e)) (d4.keeps hHeld.2 (fun e => e)))
              clear d4 Q3 W3 E3 SG3 SL3 hHeld
              refine hK.out _ _ (SN.out) (fun hHeld => ?_)
              clear hK K SN
              (try simp only [Act.put, List.setIfInBounds_toArray, List.set_cons_zero, List.set_cons_succ])
              refine take_at (v := ?_) 3 (some 59) rfl (by kernel_rfl) (by kernel_rfl) (by kernel_rfl) (by kernel_rfl) (fun _ _ _ h => h) (Or.inl ⟨by rfl, ?_⟩) (by assumption) ?_
              rotate_left
              · intro w hSw; (try dsimp only at hSw); go_simp; try (with_reducible rfl)
              (try simp only [Act.put, List.setIfInBounds_toArray, List.set_cons_zero, List.set_cons_succ])
              refine take_at (v := ?_) 4 (some 60) rfl (by kernel_rfl) (by kernel_rfl) (by kernel_rfl) (by kernel_rfl) (fun _ _ _ h => h) (Or.inl ⟨by rfl, ?_⟩) (by assumption) ?_
              rotate_left
              · intro w hSw; (try dsimp only at hSw); go_simp; try (with_reducible rfl)
              (try simp only [Act.put, List.setIfInBounds_toArray, List.set_cons_zero, List.set_cons_succ])
              refine take_at (v := ?_) 5 (some 61) rfl (by kernel_rfl) (by kernel_rfl) (by kernel_rfl) (by kernel_rfl) (fun _ _ _ h => h) (Or.inl ⟨by rfl, ?_⟩) (by assumption) ?_
              rotate_left
              · intro w hSw; (try dsimp only at hSw); go_simp; try (with_reducible rfl)
              (try simp only [Act.put, List.setIfInBounds_toArray, List.set_cons_zero, List.set_cons_succ])
              refine take_at (v := ?_) 6 (some 62) rfl (by kernel_rfl) (by kernel_rfl) (by kernel_rfl) (by kernel_rfl) (fun _ _ _ h => h) (Or.inl ⟨by rfl, ?_⟩) (by assumption) ?_
              rotate_left
              · intro w hSw; (try dsimp only at hSw); go_simp; try (with_reducible rfl)
              (try simp only [Act.put, List.setIfInBounds_toArray, List.set_cons_zero, List.set_cons_succ])
              refine take_at (v := ?_) 7 (some 63) rfl (by kernel_rfl) (by kernel_rfl) (by kernel_rfl) (by kernel_rfl) (fun _ _ _ h => h) (Or.inl ⟨by rfl, ?_⟩) (by assumption) ?_
              rotate_left
              · intro w hSw; (try dsimp only at hSw); go_simp; try (with_reducible rfl)
              (try simp only [Act.put, List.setIfInBounds_toArray, List.set_cons_zero, List.set_cons_succ])
              refine take_at (v := ?_) 8 (some 64) rfl (by kernel_rfl) (by kernel_rfl) (by kernel_rfl) (by kernel_rfl) (fun _ _ _ h => h) (Or.inl ⟨by rfl, ?_⟩) (by assumption) ?_
              rotate_left
              · intro w hSw; (try dsimp only at hSw); go_simp; try (with_reducible rfl)
              (try simp only [Act.put, List.setIfInBounds_toArray, List.set_cons_zero, List.set_cons_succ])
              refine wpAnyH_ready (rs := [9]) (by kernel_rfl) (by simp) ?_
              refine AllReadyH.cons rfl (fun K hK => ?_) AllReadyH.nil
              go_simp
              refine Q4.out.mono ?_
              rintro e x5 ⟨rfl, d5⟩
              have W5 := Lib.hid (W4.out.nil d5)
              have E5 := Lib.hid (E4.out.trans (d5.mono (fun _ _ e => e.elim)))
              have Q5 := Lib.hid W5.out.done
              rw [HR2.out] at Q5
              have SN := Lib.hid (And.intro (d5.keeps hHeld.1 (fun e => e)) (d5.keeps hHeld.2 (fun e => e)))
              clear d5 Q4 W4 E4 hHeld
              refine hK.out _ _ (SN.out) (fun hHeld => ?_)
              clear hK K SN
              (try simp only [Act.put, List.setIfInBounds_toArray, List.set_cons_zero, List.set_cons_succ])
              refine take_at (v := ?_) 10 (some 66) rfl (by kernel_rfl) (by kernel_rfl) (by kernel_rfl) (by kernel_rfl) (fun _ _ _ h => h) (Or.inl ⟨by rfl, ?_⟩) (by assumption) ?_
              rotate_left
              · intro w hSw; (try dsimp only at hSw); go_simp; try (with_reducible rfl)
              (try simp only [Act.put, List.setIfInBounds_toArray, List.set_cons_zero, List.set_cons_succ])
              refine take_at (v := ?_) 11 (some 67) rfl (by kernel_rfl) (by kernel_rfl) (by kernel_rfl) (by kernel_rfl) (fun _ _ _ h => h) (Or.inl ⟨by rfl, ?_⟩) (by assumption) ?_
              rotate_left
              · intro w hSw; (try dsimp only at hSw); go_simp; try (with_reducible rfl)
              (try simp only [Act.put, List.setIfInBounds_toArray, List.set_cons_zero, List.set_cons_succ])
              refine take_at (v := ?_) 12 (some 68) rfl (by kernel_rfl) (by kernel_rfl) (by kernel_rfl) (by kernel_rfl) (fun _ _ _ h => h) (Or.inl ⟨by rfl, ?_⟩) (by assumption) ?_
              rotate_left
              · intro w hSw; (try dsimp only at hSw); go_simp; try (with_reducible rfl)
              (try simp only [Act.put, List.setIfInBounds_toArray, List.set_cons_zero, List.set_cons_succ])
              refine take_at (v := ?_) 13 (some 69) rfl (by kernel_rfl) (by kernel_rfl) (by kernel_rfl) (by kernel_rfl) (fun _ _ _ h => h) (Or.inl ⟨by rfl, ?_⟩) (by assumption) ?_
              rotate_left
              · intro w hSw; (try dsimp only at hSw); go_simp; try (with_reducible rfl)
              (try simp only [Act.put, List.setIfInBounds_toArray, List.set_cons_zero, List.set_cons_succ])
              refine take_at (v := ?_) 15 (some 71) rfl (by kernel_rfl) (by kernel_rfl) (by kernel_rfl) (by kernel_rfl) (fun _ _ _ h => h) (Or.inl ⟨by rfl, ?_⟩) (by assumption) ?_
              rotate_left
              · intro w hSw; (try dsimp only at hSw); go_simp; try (with_reducible rfl)
              (try simp only [Act.put, List.setIfInBounds_toArray, List.set_cons_zero, List.set_cons_succ])
              refine take_at (v := ?_) 16 (some 72) rfl (by kernel_rfl) (by kernel_rfl) (by kernel_rfl) (by kernel_rfl) (fun _ _ _ h => h) (Or.inl ⟨by rfl, ?_⟩) (by assumption) ?_
              rotate_left
              · intro w hSw; (try dsimp only at hSw); go_simp; try (with_reducible rfl)
              (try simp only [Act.put, List.setIfInBounds_toArray, List.set_cons_zero, List.set_cons_succ])
              refine take_at (v := ?_) 17 (some 73) rfl (by kernel_rfl) (by kernel_rfl) (by kernel_rfl) (by kernel_rfl) (fun _ _ _ h => h) (Or.inl ⟨by rfl, ?_⟩) (by assumption) ?_
              rotate_left
              · intro w hSw; (try dsimp only at hSw); go_simp; try (with_reducible rfl)
              (try simp only [Act.put, List.setIfInBounds_toArray, List.set_cons_zero, List.set_cons_succ])
              refine take_at (v := ?_) 18 (some 74) rfl (by kernel_rfl) (by kernel_rfl) (by kernel_rfl) (by kernel_rfl) (fun _ _ _ h => h) (Or.inl ⟨by rfl, ?_⟩) (by assumption) ?_
              rotate_left
              · intro w hSw; (try dsimp only at hSw); go_simp; try (with_reducible rfl)
              (try simp only [Act.put, List.setIfInBounds_toArray, List.set_cons_zero, List.set_cons_succ])
              refine wpAnyH_ready (rs := [14]) (by kernel_rfl) (by simp) ?_
              refine AllReadyH.cons rfl (fun K hK => ?_) AllReadyH.nil
              go_simp
              refine Q5.out.mono ?_
              rintro e x6 ⟨rfl, d6⟩
              have W6 := Lib.hid (W5.out.nil d6)
              have E6 := Lib.hid (E5.out.trans (d6.mono (fun _ _ e => e.elim)))
              have SN := Lib.hid (And.intro (d6.keeps hHeld.1 (fun e => e)) (d6.keeps hHeld.2 (fun e => e)))
              clear d6 Q5 W5 E5 hHeld
              refine hK.out _ _ (SN.out) (fun hHeld => ?_)
              clear hK K SN
              (try simp only [Act.put, List.setIfInBounds_toArray, List.set_cons_zero, List.set_cons_succ])
              refine take_at (v := ?_) 19 (some 75) rfl (by kernel_rfl) (by kernel_rfl) (by kernel_rfl) (by kernel_rfl) (fun _ _ _ h => h) (Or.inl ⟨by rfl, ?_⟩) (by assumption) ?_
              rotate_left
              · intro w hSw; (try dsimp only at hSw); go_simp; try (with_reducible rfl)
              (try simp only [Act.put, List.setIfInBounds_toArray, List.set_cons_zero, List.set_cons_succ])
              refine take_at (v := ?_) 20 (some 76) rfl (by kernel_rfl) (by kernel_rfl) (by kernel_rfl) (by kernel_rfl) (fun _ _ _ h => h) (Or.inl ⟨by rfl, ?_⟩) (by assumption) ?_
              rotate_left
              · intro w hSw; (try dsimp only at hSw); go_simp; try (with_reducible rfl)
              (try simp only [Act.put, List.setIfInBounds_toArray, List.set_cons_zero, List.set_cons_succ])
              refine wpAnyH_done (by kernel_rfl) ?_ _
              clear hHeld
              go_wp2
              go_roundw
              case rel => exact ⟨k + 1, m', _, by omega, rfl, by go_num, W6.out, E6.out⟩
              case measure => simp [intOf]; omega
        · obtain rfl : k = len := by omega
          clear hw hc
          go_wp2
          go_ret
          exact ⟨rfl, HC.out.below (Nat.le_refl _) (fun _ _ h => h)⟩

theorem ProgWaits_own : ownKnob Try.prog.godebug = none := by kernel_rfl
theorem ProgWaits_laidOut : laidOutB Try.prog = true := by kernel_rfl

set_option maxRecDepth 100000 in
theorem ProgWaits_lifted (os : Os) (started : os.Started) (H : Type) (enc : TypeId × Value → H) :
    ReturnsInHanded {} Try.checked os 4 .any (Rows.progWaitsSpec.pre6 enc Try.prog Try.f4 Rows.progWaitsRow.domain false) (Rows.progWaitsSpec.post enc Try.prog Try.f4 false true false false) := by
  refine returnsInHanded_of_change (C := Try.checked) ProgWaits_own started (by kernel_rfl) Try.func4
    (ChangeSpec.witness6 (enc := enc) (C := Try.checked) false ⟨#[], #[.slice none 0 0, .slice none 0 0], []⟩ 8 (by kernel_rfl) (by kernel_rfl) (by kernel_rfl) (by kernel_rfl)) ?_
  intro W base args ds gs before hval0 hW hcnd _
  have hval : ∀ (j : Nat) t v, Try.f4.params[j]? = some t → args[j]? = some v → Value.okWide Try.prog W .any base t v := hval0
  have hW' := hW
  obtain ⟨p, q, hA0, hV, rfl, hfz, hnd⟩ := hW
  have hA : DataW.TrodAll enc Try.prog W 0 (fun _ => true) true Try.f4.params.toList args.toList ds p := hA0
  rw [Try.params4] at hA hval
  obtain ⟨v0, vs0, d0, ds0, p0, q0, hargs, rfl, rfl, h0, r0⟩ := trodAll_cons hA
  obtain ⟨v1, vs1, d1, ds1, p1, q1, rfl, rfl, rfl, h1, r1⟩ := trodAll_cons r0
  obtain ⟨rfl, rfl, rfl⟩ := trodAll_nil r1
  obtain rfl : args = #[v0, v1] := by cases args; simp_all
  obtain ⟨rfl, rfl⟩ := trodVars_none hV
  obtain ⟨a0, len0, cap0, rfl⟩ := okWide_slice Try.underlying36 (hval 0 36 v0 rfl rfl)
  have k0 := h0
  have lt0 : ∀ x ∈ p0, x.block < W.heap.size := by obtain ⟨m, hm⟩ := k0; exact DataW.trod_lt m _ _ _ hm
  obtain ⟨z0, w0⟩ : ∃ B, IsBools W a0 len0 cap0 B := by
    obtain ⟨fuel, hf⟩ := h0
    exact open_bools11 Try.underlying36 Try.underlying4 (by kernel_rfl) hf
  obtain ⟨a1, len1, cap1, rfl⟩ := okWide_slice Try.underlying25 (hval 1 25 v1 rfl rfl)
  have k1 := h1
  have lt1 : ∀ x ∈ p1, x.block < W.heap.size := by obtain ⟨m, hm⟩ := k1; exact DataW.trod_lt m _ _ _ hm
  obtain ⟨z1, w1⟩ : ∃ zs, IsRow .i64 W a1 len1 cap1 zs := by
    obtain ⟨fuel, hf⟩ := h1
    rcases open_ints Try.underlying25 Try.underlying3 (by kernel_rfl) hf with ⟨hcs, _⟩ | ⟨x, l, c, zs, hcs, _, hl, hm, hz, _, hcell, hwz⟩
    · simp [Value.cells] at hcs
      obtain ⟨rfl, rfl, rfl⟩ := hcs
      exact ⟨[], .inl ⟨rfl, rfl, rfl, rfl⟩⟩
    · simp [Value.cells] at hcs
      obtain ⟨rfl, rfl, rfl⟩ := hcs
      exact ⟨zs, .inr ⟨_, rfl, hl, hm, by simpa using hz, hcell, hwz⟩⟩
  clear hA0 hval0
  refine (ProgWaits_walk a0 len0 cap0 z0 a1 len1 cap1 z1 W w0 w1).mono fun e W' ⟨he, bel⟩ => ?_
  subst he
  exact ⟨_, rfl, _, _, _, [], _, [], hW', trodAll_mk1 (shut_bool Try.underlying4 _), (trodAll_cons_mk (Below.trod ProgWaits_laidOut (by kernel_rfl) (of_decide_eq_true (by kernel_rfl)) k0 bel lt0) (trodAll_cons_mk (Below.trod ProgWaits_laidOut (by kernel_rfl) (of_decide_eq_true (by kernel_rfl)) k1 bel lt1) trodAll_mk0)), rfl, bel.frame _, fun h => by cases h⟩

theorem progWaits_holds : Rows.ProgWaitsSaid :=
  OpenClaim.holds_of_wide 4 Try.f4 rfl rfl rfl rfl rfl rfl rfl ⟨rfl, rfl, rfl, rfl, rfl⟩ rfl rfl rfl rfl rfl (by kernel_rfl) Try.func4 (by kernel_rfl)
    (of_decide_eq_true (by kernel_rfl)) (by unfold Func.isWrapper; rw [if_neg (of_decide_eq_false (by kernel_rfl))]; exact ⟨rfl, rfl⟩)
    (fun os started H enc _ => ProgWaits_lifted os started H enc)
end Go.Proofs.Ytjaalkjdpgnfjaa
