/-
  Contract of package floor's New: what a new floor is; none of a config that may not be.
-/
import Derived.Test.YtkialefhjfoniaaGreatFlCheck
import Derived.Test.YtkialefhjfoniaaGreatFlNews
import Derived.Test.YtkialefhjfoniaaGreatFlCells
import Derived.Test.YtkialefhjfoniaaGreatFlShape
import Derived.Test.YtkialefhjfoniaaGreatSlabWalks1
namespace Go.Proofs.YtkialefhjfoniaaGreat
open Go.RowKit Verge
attribute [local go_sem] Oper.semAt_some
set_option linter.unusedVariables false
set_option linter.unusedSimpArgs false

set_option maxHeartbeats 2000000 in
theorem floorNew_bad (c : Cf) (hc : ¬ cfOk c) (w : World) :
    Calls Tryz.prog 5 #[.agg #[.int .i64 c.s, .int .i64 c.c, .int .i64 c.r, .int .i64 c.m, .int .i64 c.k, .int .i64 c.l]] w fun e w' => e = .returned (.tuple #[.pointer none, .int .i64 8]) ∧ Ch Nil w w' := by
  have cA : Ch Nil w (w.alloc (Obj.cells #[.int .i64 c.s, .int .i64 c.c, .int .i64 c.r, .int .i64 c.m, .int .i64 c.k, .int .i64 c.l] 29)) := (Ch.refl _ _).alloc _
  have bx : IsVs (w.alloc (Obj.cells #[.int .i64 c.s, .int .i64 c.c, .int .i64 c.r, .int .i64 c.m, .int .i64 c.k, .int .i64 c.l] 29)) w.heap.size (cfV c) := IsVs.new w (cfV c) 29
  have CA := Lib.hid cA
  have HC := Lib.hid hc
  clear cA hc
  go_enter Tryz.func5, Tryz.ntmps5
  go_upto_region 1 with (fail)
  generalize w.alloc (Obj.cells #[.int .i64 c.s, .int .i64 c.c, .int .i64 c.r, .int .i64 c.m, .int .i64 c.k, .int .i64 c.l] 29) = W at CA bx ⊢
  generalize w.heap.size = B at bx ⊢
  obtain ⟨c0, c1, c2, c3, c4, c5⟩ := bx.cells6
  clear bx
  go_wp2_with fail
  refine (check_of c 8 (Lib.hid (by rw [if_neg HC.out])) _).mono ?_
  rintro e w1 ⟨rfl, k1⟩
  have C1 := Lib.hid (CA.out.trans k1)
  clear k1 c0 c1 c2 c3 c4 c5
  go_wp2
  go_ret2
  exact ⟨rfl, C1.out⟩

set_option maxHeartbeats 8000000 in
set_option maxRecDepth 100000 in
theorem floorNew_ok (n cp rg rm : Nat) (kk ll : Int) (hok : cfOk ⟨n, cp, rg, rm, kk, ll⟩) (w : World) :
    Calls Tryz.prog 5 #[.agg #[.int .i64 (n : Int), .int .i64 (cp : Int), .int .i64 (rg : Int), .int .i64 (rm : Int), .int .i64 kk, .int .i64 ll]] w fun e w' => ∃ F : Fb, e = .returned (.tuple #[.pointer (some ⟨F.f, 0, none⟩), .int .i64 0]) ∧ F.c = ⟨n, cp, rg, rm, kk, ll⟩ ∧ F.n = n ∧ NewF w w' F cp rm := by
  have cA : Ch Nil w (w.alloc (Obj.cells #[.int .i64 (n : Int), .int .i64 (cp : Int), .int .i64 (rg : Int), .int .i64 (rm : Int), .int .i64 kk, .int .i64 ll] 29)) := (Ch.refl _ _).alloc _
  have bx : IsVs (w.alloc (Obj.cells #[.int .i64 (n : Int), .int .i64 (cp : Int), .int .i64 (rg : Int), .int .i64 (rm : Int), .int .i64 kk, .int .i64 ll] 29)) w.heap.size [.int .i64 (n : Int), .int .i64 (cp : Int), .int .i64 (rg : Int), .int .i64 (rm : Int), .int .i64 kk, .int .i64 ll] := IsVs.new w [.int .i64 (n : Int), .int .i64 (cp : Int), .int .i64 (rg : Int), .int .i64 (rm : Int), .int .i64 kk, .int .i64 ll] 29
  have CA := Lib.hid cA
  have HK := Lib.hid hok
  have n1 : 1 ≤ n ∧ n ≤ 4 := by have h : 1 ≤ (n : Int) ∧ (n : Int) ≤ 4 := hok 0 (by omega); omega
  have q1 : 0 < cp ∧ cp ≤ 64 := by have h : 1 ≤ (cp : Int) ∧ (cp : Int) ≤ 64 := hok 1 (by omega); omega
  have q2 : 0 < rg ∧ rg ≤ 64 := by have h : 1 ≤ (rg : Int) ∧ (rg : Int) ≤ 64 := hok 2 (by omega); omega
  have q3 : 1 ≤ rm ∧ rm ≤ 16 := by have h : 1 ≤ (rm : Int) ∧ (rm : Int) ≤ 16 := hok 3 (by omega); omega
  have Q1 := Lib.hid q1
  have Q2 := Lib.hid q2
  have Q3 := Lib.hid q3
  clear cA hok q1 q2 q3
  go_enter Tryz.func5, Tryz.ntmps5
  go_upto_region 1 with (fail)
  generalize w.alloc (Obj.cells #[.int .i64 (n : Int), .int .i64 (cp : Int), .int .i64 (rg : Int), .int .i64 (rm : Int), .int .i64 kk, .int .i64 ll] 29) = W at CA bx ⊢
  obtain ⟨B, hB⟩ : ∃ B, B = w.heap.size := ⟨_, rfl⟩
  rw [← hB] at bx ⊢
  have HB := Lib.hid hB
  clear hB
  have BX := Lib.hid bx
  obtain ⟨c0, c1, c2, c3, c4, c5⟩ := bx.cells6
  clear bx
  go_wp2_with fail
  refine (check_of ⟨n, cp, rg, rm, kk, ll⟩ 0 (Lib.hid (by rw [if_pos HK.out])) _).mono ?_
  rintro e w1 ⟨rfl, k1⟩
  have C1 := Lib.hid (CA.out.trans k1)
  have B1 := Lib.hid (BX.out.kept k1 (fun e => e))
  clear k1 c0 c1 c2 c3 c4 c5 BX CA
  go_upto_region 4 with (fail)
  have B1d := Lib.hid (B1.out.kept (show Ch Nil w1 w1.drew from (Ch.refl _ _).drew) (fun e => e))
  have C1d := Lib.hid (C1.out.trans (show Ch Nil w1 w1.drew from (Ch.refl _ _).drew))
  clear B1 C1
  refine wp_region_held_drew (S := fun w' => w'.cell? ⟨B, 0, none⟩ = some (.int .i64 (n : Int)) ∧ w'.cell? ⟨B, 1, none⟩ = some (.int .i64 (cp : Int)) ∧ w'.cell? ⟨B, 2, none⟩ = some (.int .i64 (rg : Int)) ∧ w'.cell? ⟨B, 3, none⟩ = some (.int .i64 (rm : Int)) ∧ w'.cell? ⟨B, 4, none⟩ = some (.int .i64 kk) ∧ w'.cell? ⟨B, 5, none⟩ = some (.int .i64 ll)) (by kernel_rfl) B1d.out.cells6 (fun hHeld => ?_)
  generalize w1.drew = V at *
  refine take_at (v := ?_) 0 (some 13) rfl (by kernel_rfl) (by kernel_rfl) (by kernel_rfl) (by kernel_rfl) (fun _ _ _ h => h) (Or.inl ⟨by rfl, ?_⟩) (by assumption) ?_
  rotate_left
  · intro w hSw; (try dsimp only at hSw); go_simp; try (with_reducible rfl)
  (try simp only [Act.put, List.setIfInBounds_toArray, List.set_cons_zero, List.set_cons_succ])
  refine wpAnyH_ready (rs := [1]) (by kernel_rfl) (by simp) ?_
  refine AllReadyH.cons rfl (fun K hK => ?_) AllReadyH.nil
  go_simp
  refine (nLog _).mono ?_
  rintro e w2 ⟨lb, rfl, hlb, g2, k2⟩
  have C2 := Lib.hid (C1d.out.trans k2)
  have B2 := Lib.hid (B1d.out.kept k2 (fun e => e))
  have G2 := Lib.hid g2
  have O2 := Lib.hid (show w.heap.size ≤ B ∧ B < lb ∧ lb < w2.heap.size from by have := C1d.out.size; have := HB.out; have := B1d.out.lt; have := g2.lt; omega)
  clear g2 k2 hlb C1d B1d
  refine hK.out _ _ B2.out.cells6 (fun hHeld => ?_)
  clear hK K
  (try simp only [Act.put, List.setIfInBounds_toArray, List.set_cons_zero, List.set_cons_succ])
  refine wpAnyH_ready (rs := [2]) (by kernel_rfl) (by simp) ?_
  refine AllReadyH.cons rfl (fun K hK => ?_) AllReadyH.nil
  go_simp
  refine (ofB _ _).mono ?_
  rintro e w3 ⟨rfl, g3, k3, z3⟩
  obtain ⟨cl, hcl⟩ : ∃ b, b = w2.heap.size := ⟨_, rfl⟩
  rw [← hcl] at g3 ⊢
  have C3 := Lib.hid (C2.out.trans k3)
  have B3 := Lib.hid (B2.out.kept k3 (fun e => e))
  have G3 := Lib.hid (And.intro (G2.out.kept k3 (fun e => e)) g3)
  have O3 := Lib.hid (show w.heap.size ≤ B ∧ B < lb ∧ lb < cl ∧ cl < w3.heap.size from by have := O2.out; have := g3.lt; omega)
  clear g3 k3 z3 C2 B2 G2 O2 hcl
  refine hK.out _ _ B3.out.cells6 (fun hHeld => ?_)
  clear hK K
  (try simp only [Act.put, List.setIfInBounds_toArray, List.set_cons_zero, List.set_cons_succ])
  refine wpAnyH_ready (rs := [3]) (by kernel_rfl) (by simp) ?_
  refine AllReadyH.cons rfl (fun K hK => ?_) AllReadyH.nil
  go_simp
  refine (ofJ _ _).mono ?_
  rintro e w4 ⟨rfl, g4, k4, z4⟩
  obtain ⟨ins, hins⟩ : ∃ b, b = w3.heap.size := ⟨_, rfl⟩
  rw [← hins] at g4 ⊢
  have C4 := Lib.hid (C3.out.trans k4)
  have B4 := Lib.hid (B3.out.kept k4 (fun e => e))
  have G4 := Lib.hid (And.intro (G3.out.1.kept k4 (fun e => e)) (And.intro (G3.out.2.kept k4 (fun e => e)) g4))
  have O4 := Lib.hid (show w.heap.size ≤ B ∧ B < lb ∧ lb < cl ∧ cl < ins ∧ ins < w4.heap.size from by have := O3.out; have := g4.lt; omega)
  clear g4 k4 z4 C3 B3 G3 O3 hins
  refine hK.out _ _ B4.out.cells6 (fun hHeld => ?_)
  clear hK K
  (try simp only [Act.put, List.setIfInBounds_toArray, List.set_cons_zero, List.set_cons_succ])
  refine wpAnyH_ready (rs := [4]) (by kernel_rfl) (by simp) ?_
  refine AllReadyH.cons rfl (fun K hK => ?_) AllReadyH.nil
  go_simp
  refine (ofJ _ _).mono ?_
  rintro e w5 ⟨rfl, g5, k5, z5⟩
  obtain ⟨bz, hbz⟩ : ∃ b, b = w4.heap.size := ⟨_, rfl⟩
  rw [← hbz] at g5 ⊢
  have C5 := Lib.hid (C4.out.trans k5)
  have B5 := Lib.hid (B4.out.kept k5 (fun e => e))
  have G5 := Lib.hid (And.intro (G4.out.1.kept k5 (fun e => e)) (And.intro (G4.out.2.1.kept k5 (fun e => e)) (And.intro (G4.out.2.2.kept k5 (fun e => e)) g5)))
  have O5 := Lib.hid (show w.heap.size ≤ B ∧ B < lb ∧ lb < cl ∧ cl < ins ∧ ins < bz ∧ bz < w5.heap.size from by have := O4.out; have := g5.lt; omega)
  clear g5 k5 z5 C4 B4 G4 O4 hbz
  refine hK.out _ _ B5.out.cells6 (fun hHeld => ?_)
  clear hK K
  (try simp only [Act.put, List.setIfInBounds_toArray, List.set_cons_zero, List.set_cons_succ])
  refine wpAnyH_ready (rs := [5]) (by kernel_rfl) (by simp) ?_
  refine AllReadyH.cons rfl (fun K hK => ?_) AllReadyH.nil
  go_simp
  refine (ofU _ _).mono ?_
  rintro e w6 ⟨rfl, g6, k6, z6⟩
  obtain ⟨nw, hnw⟩ : ∃ b, b = w5.heap.size := ⟨_, rfl⟩
  rw [← hnw] at g6 ⊢
  have C6 := Lib.hid (C5.out.trans k6)
  have B6 := Lib.hid (B5.out.kept k6 (fun e => e))
  have G6 := Lib.hid (And.intro (G5.out.1.kept k6 (fun e => e)) (And.intro (G5.out.2.1.kept k6 (fun e => e)) (And.intro (G5.out.2.2.1.kept k6 (fun e => e)) (And.intro (G5.out.2.2.2.kept k6 (fun e => e)) g6))))
  have O6 := Lib.hid (show w.heap.size ≤ B ∧ B < lb ∧ lb < cl ∧ cl < ins ∧ ins < bz ∧ bz < nw ∧ nw < w6.heap.size from by have := O5.out; have := g6.lt; omega)
  clear g6 k6 z6 C5 B5 G5 O5 hnw
  refine hK.out _ _ B6.out.cells6 (fun hHeld => ?_)
  clear hK K
  (try simp only [Act.put, List.setIfInBounds_toArray, List.set_cons_zero, List.set_cons_succ])
  refine take_at (v := ?_) 6 (some 19) rfl (by kernel_rfl) (by kernel_rfl) (by kernel_rfl) (by kernel_rfl) (fun _ _ _ h => h) (Or.inl ⟨by rfl, ?_⟩) (by assumption) ?_
  rotate_left
  · intro w hSw; (try dsimp only at hSw); go_simp; try (with_reducible rfl)
  (try simp only [Act.put, List.setIfInBounds_toArray, List.set_cons_zero, List.set_cons_succ])
  refine wpAnyH_ready (rs := [7]) (by kernel_rfl) (by simp) ?_
  refine AllReadyH.cons rfl (fun K hK => ?_) AllReadyH.nil
  go_simp
  have k7 : Ch Nil w6 (w6.alloc (Obj.cells #[.int .i64 (n : Int), .int .i64 (cp : Int), .int .i64 (rg : Int), .int .i64 (rm : Int), .int .i64 kk, .int .i64 ll, .pointer none, .slice none 0 0, .pointer none, .pointer (some ⟨lb, 0, none⟩), .pointer (some ⟨cl, 0, none⟩), .pointer (some ⟨ins, 0, none⟩), .pointer (some ⟨bz, 0, none⟩), .pointer (some ⟨nw, 0, none⟩), .slice none 0 0] 77)) := (Ch.refl _ _).alloc _
  have fl : IsVs (w6.alloc (Obj.cells #[.int .i64 (n : Int), .int .i64 (cp : Int), .int .i64 (rg : Int), .int .i64 (rm : Int), .int .i64 kk, .int .i64 ll, .pointer none, .slice none 0 0, .pointer none, .pointer (some ⟨lb, 0, none⟩), .pointer (some ⟨cl, 0, none⟩), .pointer (some ⟨ins, 0, none⟩), .pointer (some ⟨bz, 0, none⟩), .pointer (some ⟨nw, 0, none⟩), .slice none 0 0] 77)) w6.heap.size [.int .i64 (n : Int), .int .i64 (cp : Int), .int .i64 (rg : Int), .int .i64 (rm : Int), .int .i64 kk, .int .i64 ll, .pointer none, .slice none 0 0, .pointer none, .pointer (some ⟨lb, 0, none⟩), .pointer (some ⟨cl, 0, none⟩), .pointer (some ⟨ins, 0, none⟩), .pointer (some ⟨bz, 0, none⟩), .pointer (some ⟨nw, 0, none⟩), .slice none 0 0] := IsVs.new w6 [.int .i64 (n : Int), .int .i64 (cp : Int), .int .i64 (rg : Int), .int .i64 (rm : Int), .int .i64 kk, .int .i64 ll, .pointer none, .slice none 0 0, .pointer none, .pointer (some ⟨lb, 0, none⟩), .pointer (some ⟨cl, 0, none⟩), .pointer (some ⟨ins, 0, none⟩), .pointer (some ⟨bz, 0, none⟩), .pointer (some ⟨nw, 0, none⟩), .slice none 0 0] 77
  have C7 := Lib.hid (C6.out.trans k7)
  have B7 := Lib.hid (B6.out.kept k7 (fun e => e))
  have FL := Lib.hid fl
  have PT := Lib.hid (Prt0.mk (w0 := w) (B := B) (f := w6.heap.size) (W := w6.alloc (Obj.cells #[.int .i64 (n : Int), .int .i64 (cp : Int), .int .i64 (rg : Int), .int .i64 (rm : Int), .int .i64 kk, .int .i64 ll, .pointer none, .slice none 0 0, .pointer none, .pointer (some ⟨lb, 0, none⟩), .pointer (some ⟨cl, 0, none⟩), .pointer (some ⟨ins, 0, none⟩), .pointer (some ⟨bz, 0, none⟩), .pointer (some ⟨nw, 0, none⟩), .slice none 0 0] 77)) (G6.out.1.kept k7 (fun e => e)) (G6.out.2.1.kept k7 (fun e => e)) (G6.out.2.2.1.kept k7 (fun e => e)) (G6.out.2.2.2.1.kept k7 (fun e => e)) (G6.out.2.2.2.2.kept k7 (fun e => e)) O6.out.1 O6.out.2.1 O6.out.2.2.1 O6.out.2.2.2.1 O6.out.2.2.2.2.1 O6.out.2.2.2.2.2.1 O6.out.2.2.2.2.2.2 fl.lt C7.out)
  clear k7 fl C6 B6 G6 O6
  generalize w6.alloc (Obj.cells #[.int .i64 (n : Int), .int .i64 (cp : Int), .int .i64 (rg : Int), .int .i64 (rm : Int), .int .i64 kk, .int .i64 ll, .pointer none, .slice none 0 0, .pointer none, .pointer (some ⟨lb, 0, none⟩), .pointer (some ⟨cl, 0, none⟩), .pointer (some ⟨ins, 0, none⟩), .pointer (some ⟨bz, 0, none⟩), .pointer (some ⟨nw, 0, none⟩), .slice none 0 0] 77) = w7 at C7 B7 FL PT ⊢
  generalize w6.heap.size = f at FL PT ⊢
  refine hK.out _ _ B7.out.cells6 (fun hHeld => ?_)
  clear hK K
  (try simp only [Act.put, List.setIfInBounds_toArray, List.set_cons_zero, List.set_cons_succ])
  refine take_at (v := ?_) 8 (some 5) rfl (by kernel_rfl) (by kernel_rfl) (by kernel_rfl) (by kernel_rfl) (fun _ _ _ h => h) (Or.inl ⟨by rfl, ?_⟩) (by assumption) ?_
  rotate_left
  · intro w hSw; (try dsimp only at hSw); go_simp; try (with_reducible rfl)
  (try simp only [Act.put, List.setIfInBounds_toArray, List.set_cons_zero, List.set_cons_succ])
  refine wpAnyH_done (by kernel_rfl) ?_ _
  obtain ⟨c0, c1, c2, c3, c4, c5⟩ := B7.out.cells6
  go_wp2_with fail
  clear c0 c1 c2 c3 c4 c5
  refine (new_in cp _ Q1.out.1 Q1.out.2).mono ?_
  rintro e w8 ⟨rfl, s8, k8⟩
  have B8 := Lib.hid (B7.out.kept k8 (fun e => e))
  have S8 := Lib.hid (And.intro s8 (And.intro (show f < w7.heap.size from PT.out.flt) (show w7.heap.size + 1 < w8.heap.size from s8.lt)))
  have P8 := Lib.hid (PT.out.kept k8)
  have F8 := Lib.hid (FL.out.kept k8 (fun e => e))
  clear s8 k8 B7 PT FL C7
  generalize w7.heap.size = srb at S8 ⊢
  have f6 := F8.out.b.fz 6
  have a6 := F8.out.c 6 _ rfl
  go_upto_region 6 with (fail)
  clear f6 a6
  have F9 := Lib.hid (F8.out.setAt 6 (.pointer (some ⟨srb + 1, 0, none⟩)))
  have k9 : Ch (One f) w8 (w8.setCell ⟨f, 6, none⟩ (.pointer (some ⟨srb + 1, 0, none⟩))) := (Ch.refl _ _).setB 6 _
  have P9 := Lib.hid (P8.out.turn k9 (Nat.le_refl _))
  have Bf : B < f := by have := P8.out.o1; have := P8.out.o2; have := P8.out.o3; have := P8.out.o4; have := P8.out.o5; have := P8.out.o6; omega
  have B9 := Lib.hid (B8.out.kept k9 (fun e => by have e' : B = f := e; omega))
  have S9 := Lib.hid (And.intro (S8.out.1.kept k9 (fun e => by have := S8.out.2.1; have e' : srb + 1 = f := e; omega) (fun e => by have := S8.out.2.1; have e' : srb = f := e; omega)) (And.intro (show f < srb from S8.out.2.1) (show srb + 1 < (w8.setCell ⟨f, 6, none⟩ (.pointer (some ⟨srb + 1, 0, none⟩))).heap.size from by have := S8.out.2.2; simpa using this)))
  clear k9 B8 P8 F8 S8
  generalize w8.setCell ⟨f, 6, none⟩ (.pointer (some ⟨srb + 1, 0, none⟩)) = w9 at B9 P9 F9 S9 ⊢
  obtain ⟨c0, c1, c2, c3, c4, c5⟩ := B9.out.cells6
  go_wp2_with fail
  clear c0 c1 c2 c3 c4 c5
  refine (nPipe rm Q3.out.1 Q3.out.2 _).mono ?_
  rintro e w10 ⟨pb, cb, rfl, hcb, hpb, q10, k10⟩
  have BA := Lib.hid (B9.out.kept k10 (fun e => e))
  have PA := Lib.hid (P9.out.kept k10)
  have FA := Lib.hid (F9.out.kept k10 (fun e => e))
  have SA := Lib.hid (And.intro (S9.out.1.quiet k10) (And.intro S9.out.2.1 (show srb + 1 < cb from by have := S9.out.2.2; omega)))
  have QA := Lib.hid (And.intro q10 hpb)
  clear q10 hpb hcb k10 B9 P9 F9 S9
  have f8 := FA.out.b.fz 8
  have a8 := FA.out.c 8 _ rfl
  go_upto_region 7 with (fail)
  clear f8 a8
  have FB := Lib.hid (FA.out.setAt 8 (.pointer (some ⟨pb, 0, none⟩)))
  have k11 : Ch (One f) w10 (w10.setCell ⟨f, 8, none⟩ (.pointer (some ⟨pb, 0, none⟩))) := (Ch.refl _ _).setB 8 _
  have PB := Lib.hid (PA.out.turn k11 (Nat.le_refl _))
  have BB := Lib.hid (BA.out.kept k11 (fun e => by have e' : B = f := e; omega))
  have SB := Lib.hid (And.intro (SA.out.1.kept k11 (fun e => by have := SA.out.2.1; have e' : srb + 1 = f := e; omega) (fun e => by have := SA.out.2.1; have e' : srb = f := e; omega)) SA.out.2)
  have QB := Lib.hid (And.intro (QA.out.1.kept k11 (fun e => by have := SA.out.2; have := QA.out.2; have e' : pb = f := e; omega) (fun e => by have := SA.out.2; have e' : cb = f := e; omega)) QA.out.2)
  clear k11 BA PA FA SA QA Bf
  generalize w10.setCell ⟨f, 8, none⟩ (.pointer (some ⟨pb, 0, none⟩)) = w11 at BB PB FB SB QB ⊢
  have NL : Hid (NewL w B ⟨⟨n, cp, rg, rm, kk, ll⟩, f, srb + 1, 0, n, 0, pb, lb, cl, ins, bz, nw, srb, cb, fun _ => 0, fun _ => 0⟩ cp rm 0 none 0 w11) :=
    Lib.hid ⟨PB.out, BB.out, SB.out.1, QB.out.1, FB.out, Row.nil _ _ _ _, fun i hi => by omega, SB.out.2.1, Nat.lt_succ_self _, SB.out.2.2, QB.out.2, fun i hi => by omega, fun i j _ hj => by omega, fun g hg => by simp [OwnS] at hg⟩
  obtain ⟨c0, c1, c2, c3, c4, c5⟩ := BB.out.cells6
  clear BB PB FB SB QB
  go_upto_region 8 with (fail)
  clear c0 c1 c2 c3 c4 c5
  go_loopw [41] (fun i wr => ∃ (k : Nat) (sh lk : Nat → Nat) (a : Option Addr) (gc : Nat), k ≤ n ∧ i = .int .i64 k ∧ NewL w B ⟨⟨n, cp, rg, rm, kk, ll⟩, f, srb + 1, 0, n, 0, pb, lb, cl, ins, bz, nw, srb, cb, sh, lk⟩ cp rm k a gc wr) (fun i _ => n - (intOf i).toNat)
  case atStart => exact ⟨0, _, _, none, 0, by omega, rfl, NL.out⟩
  case round =>
    obtain ⟨k, sh, lk, a, gc, hk, rfl, hN⟩ := hrel
    have HN := Lib.hid hN
    clear hN NL
    by_cases hlt : k < n
    · have hkz : (k : Int) < (n : Int) := by omega
      obtain ⟨c0, c1, c2, c3, c4, c5⟩ := HN.out.bx.cells6
      go_wp2_with fail
      clear c0 c1 c2 c3 c4 c5
      refine (nShard rg _ Q2.out.1 Q2.out.2).mono ?_
      rintro e w3 ⟨s, l, rfl, hl, hs, sd, k3⟩
      have c7 : w3.cell? ⟨f, 7, none⟩ = some (.slice a k gc) := (HN.out.kept k3).fl.c 7 _ rfl
      have H3 := Lib.hid (HN.out.kept k3)
      have cX : Ch Nil w3 (w3.alloc (.cells #[.pointer (some ⟨s, 0, none⟩)] 57)) := (Ch.refl _ _).alloc _
      have HX := Lib.hid (And.intro (HN.out.kept (k3.trans cX)) (And.intro (k3.trans cX) (And.intro (sd.kept cX (fun e => e) (fun e => e)) (And.intro (show wr.heap.size ≤ l ∧ l < s from ⟨hl, hs⟩) (show s < (w3.alloc (.cells #[.pointer (some ⟨s, 0, none⟩)] 57)).heap.size from (sd.bk.kept cX (fun e => e)).lt)))))
      have R3 := Lib.hid (HX.out.1.r)
      have FZ := Lib.hid (HX.out.1.fl.b)
      have hna : ¬ OwnS a f := fun e => by have h1 := (HN.out.og _ e).1; have h2 := HN.out.o7; have h3 := HN.out.o8; have h4 := HN.out.o9; have h5 := HN.out.oa; dsimp only at h1 h2 h3 h4 h5; omega
      clear sd k3 hl hs cX H3
      have hvs : Hid (shV ⟨⟨n, cp, rg, rm, kk, ll⟩, f, srb + 1, 0, n, 0, pb, lb, cl, ins, bz, nw, srb, cb, upd14 sh k s, upd14 lk k l⟩ k = .pointer (some ⟨s, 0, none⟩)) := Lib.hid (by simp [shV, upd14])
      have hvo : Hid (∀ i, i < k → shV ⟨⟨n, cp, rg, rm, kk, ll⟩, f, srb + 1, 0, n, 0, pb, lb, cl, ins, bz, nw, srb, cb, upd14 sh k s, upd14 lk k l⟩ i = shV ⟨⟨n, cp, rg, rm, kk, ll⟩, f, srb + 1, 0, n, 0, pb, lb, cl, ins, bz, nw, srb, cb, sh, lk⟩ i) := Lib.hid (fun i hi => by simp [shV, upd14, Nat.ne_of_lt hi])
      go_wp2_with (at_builtin; refine append_row _ rfl _ _ _ rfl 57 (.pointer none) 1 8 Tryz.underlying75 (by kernel_rfl) rfl (by omega) (by omega) rfl R3.out (by omega) w3.heap.size 1 [.pointer (some ⟨s, 0, none⟩)] 57 rfl rfl (heap_alloc_new w3 _) (by simp [Value.oneCell']) (shV ⟨⟨n, cp, rg, rm, kk, ll⟩, f, srb + 1, 0, n, 0, pb, lb, cl, ins, bz, nw, srb, cb, upd14 sh k s, upd14 lk k l⟩) (fun i hi => hvo.out i (by omega)) (by intro j u hu; obtain rfl : j = 0 := (by cases j; rfl; simp at hu); simp at hu; subst hu; simpa using hvs.out) _ rfl ?_)
      intro g cap' w' row ch at_ lt
      have d2 := ch.keeps (HX.out.1.fl.c 7 _ rfl) hna
      have e2 := (FZ.out.kept ch hna).fz 7
      have NEXT := Lib.hid (HN.out.more HX.out.2.1 (s := s) (l := l) (g := g) (gc' := cap') (W2 := w') HX.out.2.2.2.1.1 HX.out.2.2.2.1.2 HX.out.2.2.1 HX.out.2.2.2.2 row ch (at_.imp id (fun e => by rw [World.size_alloc]; omega)))
      clear row ch at_ lt HX R3 FZ HN
      go_wp2
      go_roundw
      case rel => exact ⟨k + 1, _, _, _, _, by omega, by go_num, NEXT.out⟩
      case measure => simp [intOf]; omega
    · obtain rfl : k = n := by omega
      have hp : 0 < k := by omega
      obtain ⟨g, rfl, -⟩ := HN.out.r.form hp
      go_wp2
      go_ret2
      refine ⟨⟨⟨k, cp, rg, rm, kk, ll⟩, f, srb + 1, g, k, gc, pb, lb, cl, ins, bz, nw, srb, cb, sh, lk⟩, rfl, rfl, rfl, ?_⟩
      exact (HN.out.setG g gc).made rfl rfl rfl
end Go.Proofs.YtkialefhjfoniaaGreat
