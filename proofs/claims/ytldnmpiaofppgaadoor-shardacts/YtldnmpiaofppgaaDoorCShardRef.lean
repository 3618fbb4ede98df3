import Derived.Test.YtldnmpiaofppgaaDoorCShardRefQ
import Derived.Test.YtldnmpiaofppgaaDoorK02
import Derived.Test.YtldnmpiaofppgaaDoorK07
import Derived.Deep.QuietTactic
import Derived.BigQuiet
import Derived.Deep.Cut
import Derived.Deep.CutRange
import Derived.Deep.CutBlock
import Derived.RegionTactic
import Derived.BigRegion
/-
  The document's shard: Arm, Turn.
-/
namespace Go.Proofs.YtldnmpiaofppgaaDoor
open Go.RowKit Verge Go.Proofs.YtldnmpiaofppgaaDoor.LT
set_option linter.unusedVariables false
set_option linter.unusedSimpArgs false
attribute [local go_sem] Oper.semAt_some

/-- the document's shard: its wheel, its row of tasks -/
structure R13 (w : World) (rb now : Nat) (l : List Dn) (L : List Tk) (ar : Option Addr) (cr : Nat) (tb : Option Addr) (tcp : Nat) : Prop where
  r : RefW (some (.slice tb L.length tcp)) w rb now l ar cr
  t : TRow w tb tcp L
  nb : ¬ OwnS tb rb
  na : ∀ k, OwnS ar k → ¬ OwnS tb k
/-- its blocks -/
def RS13 (rb : Nat) (ar tb : Option Addr) : Nat → Prop := fun k => RS rb ar k ∨ OwnS tb k
section
variable {S : Nat → Prop} {w w' : World} {rb now : Nat} {l : List Dn} {L : List Tk} {ar tb : Option Addr} {cr tcp : Nat} {Q : List Ent}
theorem R13.kept (h : R13 w rb now l L ar cr tb tcp) (c : Ch S w w') (hn : ∀ k, RS13 rb ar tb k → ¬ S k) : R13 w' rb now l L ar cr tb tcp :=
  ⟨h.r.kept c (fun k hk => hn k (.inl hk)), Row.kept h.t c (fun k hk => hn k (.inr hk)), h.nb, h.na⟩
theorem R13.quiet (h : R13 w rb now l L ar cr tb tcp) (c : Ch Nil w w') : R13 w' rb now l L ar cr tb tcp := h.kept c (fun _ _ e => e)
theorem R13.lt (h : R13 w rb now l L ar cr tb tcp) {k : Nat} (hk : RS13 rb ar tb k) : k < w.heap.size := by
  rcases hk with hk | hk
  · exact h.r.lt hk
  · exact Row.lt h.t k hk
theorem TRow.is {cap g k : Nat} {M : List Tk} {f : Tk} (h : TRow w (some ⟨g, 0, none⟩) cap M) (hf : M[k]? = some f) : IsTk w g (k * 5) f := fun j hj => by
  have hk := (List.getElem?_eq_some_iff.1 hf).1
  have := Row.cell h (k * 5 + j) (by omega)
  rw [tc_at hf hj] at this; exact this

set_option maxHeartbeats 2000000 in
theorem refArm_bad (u : Tk) (w : World) (rb : Nat) (hs : u.s < 0) :
    Calls Tryd.prog 11 #[.pointer (some ⟨rb, 0, none⟩), .agg #[.int .u64 (u.i : Nat), .int .i64 u.s, .int .u64 (u.g : Nat), .int .u64 (u.d : Nat), .int .u64 (u.p : Nat)]] w fun e w' => e = .returned (.tuple #[.int .u64 0, .int .i64 1]) ∧ Ch Nil w w' := by
  have d1 : decide (u.s < 0) = true := by simpa using hs
  have cA : Ch Nil w (w.alloc (Obj.cells #[.int .u64 (u.i : Nat), .int .i64 u.s, .int .u64 (u.g : Nat), .int .u64 (u.d : Nat), .int .u64 (u.p : Nat)] 37)) := (Ch.refl _ _).alloc _
  have BX := IsTk.new w 37 u
  have CA := Lib.hid cA
  clear cA
  go_enter Tryd.func11, Tryd.ntmps11
  go_upto_region 1 with (fail)
  generalize w.alloc (Obj.cells #[.int .u64 (u.i : Nat), .int .i64 u.s, .int .u64 (u.g : Nat), .int .u64 (u.d : Nat), .int .u64 (u.p : Nat)] 37) = wa at BX CA ⊢
  generalize w.heap.size = B at BX ⊢
  obtain ⟨x0, x1, x2, x3, x4⟩ := BX.cells0
  go_wp2
  go_ret2
  exact ⟨rfl, CA.out⟩

set_option maxHeartbeats 8000000 in
set_option maxRecDepth 100000 in
theorem refArm_ok (H : R13 w rb now l L ar cr tb tcp) (u : Tk) (h0 : 0 ≤ u.s) (hd : u.d < 18446744073709551616) (hn : now < 18446744073709551615) (hl0 : l.length ≤ 100000) (hL0 : L.length ≤ 100000) (d : Nat) (hdd : Hid (d = max u.d (now + 1))) :
    Calls Tryd.prog 11 #[.pointer (some ⟨rb, 0, none⟩), .agg #[.int .u64 (u.i : Nat), .int .i64 u.s, .int .u64 (u.g : Nat), .int .u64 (u.d : Nat), .int .u64 (u.p : Nat)]] w fun e w' => ∃ tb' tcp' ar' cr', e = .returned (.tuple #[.int .u64 (d : Nat), .int .i64 0]) ∧ R13 w' rb now (l ++ [⟨((L.length : Nat) : Int), d, spotN d now⟩]) (L ++ [reD u d]) ar' cr' tb' tcp' ∧ (∀ k, OwnS ar' k → OwnS ar k ∨ w.heap.size ≤ k) ∧ (∀ k, OwnS tb' k → OwnS tb k ∨ w.heap.size ≤ k) ∧ Ch (RS13 rb ar tb) w w' := by
  have d1 : decide (u.s < 0) = false := by simpa using h0
  have cA : Ch Nil w (w.alloc (Obj.cells #[.int .u64 (u.i : Nat), .int .i64 u.s, .int .u64 (u.g : Nat), .int .u64 (u.d : Nat), .int .u64 (u.p : Nat)] 37)) := (Ch.refl _ _).alloc _
  have BX := IsTk.new w 37 u
  have BK := Blk.new w #[.int .u64 (u.i : Nat), .int .i64 u.s, .int .u64 (u.g : Nat), .int .u64 (u.d : Nat), .int .u64 (u.p : Nat)] 37
  have HR := Lib.hid (H.quiet cA)
  have CA := Lib.hid cA
  have nB : Hid (¬ RS rb ar w.heap.size) := Lib.hid fun e => by have := H.r.lt e; omega
  have nT : Hid (¬ OwnS tb w.heap.size) := Lib.hid fun e => by have := Row.lt H.t _ e; omega
  have nrb0 : w.heap.size ≠ rb := fun e => nB.out (.inl e)
  have hnz : ((now : Int) == 18446744073709551615) = false := by rw [beq_eq_false_iff_ne]; omega
  have hd2 : Hid (d < 18446744073709551616) := Lib.hid (by have := hdd.out; omega)
  have hn64 : Hid (now < 18446744073709551616) := Lib.hid (by omega)
  have hl := Lib.hid hl0
  have hL := Lib.hid hL0
  have hnow : (now : Int) < 18446744073709551615 := by omega
  obtain ⟨nl, hnl⟩ : ∃ nl, nl = L.length := ⟨_, rfl⟩
  have HNL := Lib.hid hnl
  rw [← hnl]
  clear cA H hnl hl0 hL0
  go_enter Tryd.func11, Tryd.ntmps11
  go_upto_region 1 with (fail)
  generalize w.alloc (Obj.cells #[.int .u64 (u.i : Nat), .int .i64 u.s, .int .u64 (u.g : Nat), .int .u64 (u.d : Nat), .int .u64 (u.p : Nat)] 37) = wa at BX BK CA HR ⊢
  obtain ⟨B, hB⟩ : ∃ B, B = w.heap.size := ⟨_, rfl⟩
  have HB := Lib.hid hB
  rw [← hB] at BX BK nB nT nrb0 ⊢
  clear hB
  obtain ⟨x0, x1, x2, x3, x4⟩ := BX.cells0
  have t0 := HR.out.r.t
  go_upto_region 5 with (fail)
  have HRd := Lib.hid (HR.out.quiet (Ch.refl _ _).drew)
  have BXd : Hid (IsTk wa.drew B 0 u) := Lib.hid (BX.kept (S := Nil) (Ch.refl _ _).drew (fun e => e))
  have BKd : Hid (Blk wa.drew B) := Lib.hid (BK.kept (S := Nil) (Ch.refl _ _).drew (fun e => e))
  have CAd : Hid (Ch Nil w wa.drew) := Lib.hid CA.out.drew
  clear HR BX BK CA x0 x1 x2 x3 x4 t0
  refine wp_region_held_drew (S := fun w' => w'.cell? ⟨B, 3, none⟩ = some (.int .u64 (u.d : Nat)) ∧ w'.cell? ⟨rb, 0, none⟩ = some (.int .u64 (now : Nat))) (by kernel_rfl) ⟨BXd.out.cells0.2.2.2.1, HRd.out.r.t⟩ (fun hHeld => ?_)
  generalize wa.drew = w5 at *
  refine take_at (v := ?_) 0 (some 15) rfl (by kernel_rfl) (by kernel_rfl) (by kernel_rfl) (by kernel_rfl) (fun _ _ _ h => h) (Or.inl ⟨by rfl, ?_⟩) (by assumption) ?_
  rotate_left
  · intro w hSw; (try dsimp only at hSw); go_simp; try (with_reducible rfl)
  (try simp only [Act.put, List.setIfInBounds_toArray, List.set_cons_zero, List.set_cons_succ])
  refine take_at (v := ?_) 1 (some 16) rfl (by kernel_rfl) (by kernel_rfl) (by kernel_rfl) (by kernel_rfl) (fun _ _ _ h => h) (Or.inl ⟨by rfl, ?_⟩) (by assumption) ?_
  rotate_left
  · intro w hSw; (try dsimp only at hSw); go_simp; try (with_reducible rfl)
  (try simp only [Act.put, List.setIfInBounds_toArray, List.set_cons_zero, List.set_cons_succ])
  refine take_at (v := ?_) 2 (some 17) rfl (by kernel_rfl) (by kernel_rfl) (by kernel_rfl) (by kernel_rfl) (fun _ _ _ h => h) (Or.inl ⟨by rfl, ?_⟩) (by assumption) ?_
  rotate_left
  · intro w hSw; (try dsimp only at hSw); go_simp; try (with_reducible rfl)
  (try simp only [Act.put, List.setIfInBounds_toArray, List.set_cons_zero, List.set_cons_succ])
  refine take_at (v := ?_) 3 (some 18) rfl (by kernel_rfl) (by kernel_rfl) (by kernel_rfl) (by kernel_rfl) (fun _ _ _ h => h) (Or.inl ⟨by rfl, ?_⟩) (by assumption) ?_
  rotate_left
  · intro w hSw; (try dsimp only at hSw); go_simp; try (with_reducible rfl)
  (try simp only [Act.put, List.setIfInBounds_toArray, List.set_cons_zero, List.set_cons_succ])
  refine take_at (v := ?_) 4 (some 19) rfl (by kernel_rfl) (by kernel_rfl) (by kernel_rfl) (by kernel_rfl) (fun _ _ _ h => h) (Or.inl ⟨by rfl, ?_⟩) (by assumption) ?_
  rotate_left
  · intro w hSw; (try dsimp only at hSw); go_simp; try (with_reducible rfl)
  (try simp only [Act.put, List.setIfInBounds_toArray, List.set_cons_zero, List.set_cons_succ])
  refine take_at (v := ?_) 5 (some 20) rfl (by kernel_rfl) (by kernel_rfl) (by kernel_rfl) (by kernel_rfl) (fun _ _ _ h => h) (Or.inl ⟨by rfl, ?_⟩) (by assumption) ?_
  rotate_left
  · intro w hSw; (try dsimp only at hSw); go_simp; try (with_reducible rfl)
  (try simp only [Act.put, List.setIfInBounds_toArray, List.set_cons_zero, List.set_cons_succ])
  refine take_at (v := ?_) 6 (some 21) rfl (by kernel_rfl) (by kernel_rfl) (by kernel_rfl) (by kernel_rfl) (fun _ _ _ h => h) (Or.inl ⟨by rfl, ?_⟩) (by assumption) ?_
  rotate_left
  · intro w hSw; (try dsimp only at hSw); go_simp; try (with_reducible rfl)
  (try simp only [Act.put, List.setIfInBounds_toArray, List.set_cons_zero, List.set_cons_succ])
  refine take_at (v := ?_) 7 (some 22) rfl (by kernel_rfl) (by kernel_rfl) (by kernel_rfl) (by kernel_rfl) (fun _ _ _ h => h) (Or.inl ⟨by rfl, ?_⟩) (by assumption) ?_
  rotate_left
  · intro w hSw; (try dsimp only at hSw); go_simp; try (with_reducible rfl)
  (try simp only [Act.put, List.setIfInBounds_toArray, List.set_cons_zero, List.set_cons_succ])
  refine wpAnyH_done (by kernel_rfl) ?_ _
  clear hHeld
  clear hnz hnow d1
  have x3 := BXd.out.cells0.2.2.2.1
  have t0 := HRd.out.r.t
  by_cases hle : u.d ≤ now
  · have hz : (u.d : Int) ≤ (now : Int) := by omega
    have hde : Hid (((now : Int) + 1) = (d : Int)) := Lib.hid (by have := hdd.out; omega)
    clear hle
    have g3 := BKd.out.fz 3
    go_upto_region 7 with (fail)
    rw [hde.out]
    have cB : Ch (One B) w5 (w5.setCell ⟨B, 3, none⟩ (.int .u64 (d : Nat))) := (Ch.refl _ _).setB 3 _
    have ct : Tch B 3 1 w5 (w5.setCell ⟨B, 3, none⟩ (.int .u64 (d : Nat))) := (Tch.refl _ _ _ _).set _ (by omega) _
    have B6 : Hid (IsTk (w5.setCell ⟨B, 3, none⟩ (.int .u64 (d : Nat))) B 0 (reD u d)) := Lib.hid (by
      obtain ⟨y0, y1, y2, y3, y4⟩ := BXd.out.cells0
      exact IsTk.of ⟨(ct.cell _ (by omega)).trans y0, (ct.cell _ (by omega)).trans y1, (ct.cell _ (by omega)).trans y2, World.cell?_setCell_same _ _ _ y3, (ct.cell _ (by omega)).trans y4⟩)
    have R6 := Lib.hid (HRd.out.kept cB (fun k hk e => by
      have e' : k = B := e
      rcases hk with hk | hk
      · exact nB.out (e' ▸ hk)
      · exact nT.out (e' ▸ hk)))
    have C6 : Hid (Ch Nil w (w5.setCell ⟨B, 3, none⟩ (.int .u64 (d : Nat)))) := Lib.hid (CAd.out.up cB (fun k e => by have e' : k = B := e; have := HB.out; omega))
    clear HRd BXd CAd BKd x3 t0 g3 cB ct
    generalize w5.setCell ⟨B, 3, none⟩ (.int .u64 (d : Nat)) = w6 at *
    -- regions 7 .. 9, with a task v whose deadline is d, in block B
    go_upto_region 7 with (fail)
    have R6d := Lib.hid (R6.out.quiet (Ch.refl _ _).drew)
    have B6d : Hid (IsTk w6.drew B 0 (reD u d)) := Lib.hid (B6.out.kept (S := Nil) (Ch.refl _ _).drew (fun e => e))
    have C6d : Hid (Ch Nil w w6.drew) := Lib.hid C6.out.drew
    have sz6 : B < w6.drew.heap.size := B6d.out.lt
    have zr := R6d.out.r.z
    rw [← HNL.out] at zr
    have y3 := B6d.out.cells0.2.2.2.1
    simp only [reD] at y3
    clear R6 B6 C6
    refine wp_region_held_drew (S := fun w' => w'.cell? ⟨rb, 2, none⟩ = some (.slice tb nl tcp) ∧ w'.cell? ⟨B, 3, none⟩ = some (.int .u64 (d : Nat))) (by kernel_rfl) ⟨zr, y3⟩ (fun hHeld => ?_)
    clear zr y3
    generalize w6.drew = W at *
    refine take_at (v := ?_) 0 (some 30) rfl (by kernel_rfl) (by kernel_rfl) (by kernel_rfl) (by kernel_rfl) (fun _ _ _ h => h) (Or.inl ⟨by rfl, ?_⟩) (by assumption) ?_
    rotate_left
    · intro w hSw; (try dsimp only at hSw); go_simp; try (with_reducible rfl)
    (try simp only [Act.put, List.setIfInBounds_toArray, List.set_cons_zero, List.set_cons_succ])
    refine take_at (v := ?_) 1 (some 31) rfl (by kernel_rfl) (by kernel_rfl) (by kernel_rfl) (by kernel_rfl) (fun _ _ _ h => h) (Or.inl ⟨by rfl, ?_⟩) (by assumption) ?_
    rotate_left
    · intro w hSw; (try dsimp only at hSw); go_simp; try (with_reducible rfl)
    (try simp only [Act.put, List.setIfInBounds_toArray, List.set_cons_zero, List.set_cons_succ])
    refine take_at (v := ?_) 2 (some 32) rfl (by kernel_rfl) (by kernel_rfl) (by kernel_rfl) (by kernel_rfl) (fun _ _ _ h => h) (Or.inl ⟨by rfl, ?_⟩) (by assumption) ?_
    rotate_left
    · intro w hSw; (try dsimp only at hSw); go_simp; try (with_reducible rfl)
    (try simp only [Act.put, List.setIfInBounds_toArray, List.set_cons_zero, List.set_cons_succ])
    refine take_at (v := ?_) 3 (some 33) rfl (by kernel_rfl) (by kernel_rfl) (by kernel_rfl) (by kernel_rfl) (fun _ _ _ h => h) (Or.inl ⟨by rfl, ?_⟩) (by assumption) ?_
    rotate_left
    · intro w hSw; (try dsimp only at hSw); go_simp; try (with_reducible rfl)
    (try simp only [Act.put, List.setIfInBounds_toArray, List.set_cons_zero, List.set_cons_succ])
    refine take_at (v := ?_) 4 (some 34) rfl (by kernel_rfl) (by kernel_rfl) (by kernel_rfl) (by kernel_rfl) (fun _ _ _ h => h) (Or.inl ⟨by rfl, ?_⟩) (by assumption) ?_
    rotate_left
    · intro w hSw; (try dsimp only at hSw); go_simp; try (with_reducible rfl)
    (try simp only [Act.put, List.setIfInBounds_toArray, List.set_cons_zero, List.set_cons_succ])
    refine take_at (v := ?_) 5 (some 35) rfl (by kernel_rfl) (by kernel_rfl) (by kernel_rfl) (by kernel_rfl) (fun _ _ _ h => h) (Or.inl ⟨by rfl, ?_⟩) (by assumption) ?_
    rotate_left
    · intro w hSw; (try dsimp only at hSw); go_simp; try (with_reducible rfl)
    (try simp only [Act.put, List.setIfInBounds_toArray, List.set_cons_zero, List.set_cons_succ])
    refine take_at (v := ?_) 6 (some 36) rfl (by kernel_rfl) (by kernel_rfl) (by kernel_rfl) (by kernel_rfl) (fun _ _ _ h => h) (Or.inl ⟨by rfl, ?_⟩) (by assumption) ?_
    rotate_left
    · intro w hSw; (try dsimp only at hSw); go_simp; try (with_reducible rfl)
    (try simp only [Act.put, List.setIfInBounds_toArray, List.set_cons_zero, List.set_cons_succ])
    refine take_at (v := ?_) 7 (some 37) rfl (by kernel_rfl) (by kernel_rfl) (by kernel_rfl) (by kernel_rfl) (fun _ _ _ h => h) (Or.inl ⟨by rfl, ?_⟩) (by assumption) ?_
    rotate_left
    · intro w hSw; (try dsimp only at hSw); go_simp; try (with_reducible rfl)
    (try simp only [Act.put, List.setIfInBounds_toArray, List.set_cons_zero, List.set_cons_succ])
    refine take_at (v := ?_) 8 (some 38) rfl (by kernel_rfl) (by kernel_rfl) (by kernel_rfl) (by kernel_rfl) (fun _ _ _ h => h) (Or.inl ⟨by rfl, ?_⟩) (by assumption) ?_
    rotate_left
    · intro w hSw; (try dsimp only at hSw); go_simp; try (with_reducible rfl)
    (try simp only [Act.put, List.setIfInBounds_toArray, List.set_cons_zero, List.set_cons_succ])
    refine take_at (v := ?_) 9 (some 39) rfl (by kernel_rfl) (by kernel_rfl) (by kernel_rfl) (by kernel_rfl) (fun _ _ _ h => h) (Or.inl ⟨by rfl, ?_⟩) (by assumption) ?_
    rotate_left
    · intro w hSw; (try dsimp only at hSw); go_simp; try (with_reducible rfl)
    (try simp only [Act.put, List.setIfInBounds_toArray, List.set_cons_zero, List.set_cons_succ])
    refine wpAnyH_ready (rs := [10]) (by kernel_rfl) (by simp) ?_
    refine AllReadyH.cons rfl (fun K hK => ?_) AllReadyH.nil
    go_simp
    refine (refPlace_of R6d.out.r ((nl : Nat) : Int) d hd2.out hn64.out hl.out).mono ?_
    rintro e w7 ⟨⟨rv, rfl⟩, ar', cr', r7, o7, c7⟩
    have nbr : ¬ RS rb ar B := nB.out
    have b7 := B6d.out.kept c7 nbr
    have zr := r7.z
    rw [← HNL.out] at zr
    have y3 := b7.cells0.2.2.2.1
    simp only [reD] at y3
    have R7 := Lib.hid r7
    have B7 := Lib.hid b7
    have O7 := Lib.hid o7
    have C7 := Lib.hid ((C6d.out.mono (fun _ _ e => e.elim)).trans c7)
    have T7 : Hid (TRow w7 tb tcp L) := Lib.hid (Row.kept R6d.out.t c7 (fun k hk e => by
      rcases e with e | e
      · exact R6d.out.nb (e ▸ hk)
      · exact R6d.out.na k e hk))
    have LT7 : Hid (∀ k, OwnS tb k → k < W.heap.size) := Lib.hid (Row.lt R6d.out.t)
    have NB7 := Lib.hid R6d.out.nb
    have NA7 := Lib.hid R6d.out.na
    have SZ := Lib.hid (show w.heap.size ≤ W.heap.size from C6d.out.size)
    have SZ7 := Lib.hid c7.size
    have BW := Lib.hid sz6
    clear r7 b7 o7 c7 R6d B6d C6d sz6
    refine hK.out _ _ ⟨zr, y3⟩ (fun hHeld => ?_)
    clear hK K zr y3
    (try simp only [Act.put, List.setIfInBounds_toArray, List.set_cons_zero, List.set_cons_succ])
    refine wpAnyH_done (by kernel_rfl) ?_ _
    clear hHeld
    go_upto_region 8 with (fail)
    have R8 := Lib.hid (R7.out.kept (S := Nil) (Ch.refl _ _).drew (fun _ _ e => e))
    have B8 : Hid (IsTk w7.drew B 0 (reD u d)) := Lib.hid (B7.out.kept (S := Nil) (Ch.refl _ _).drew (fun e => e))
    have C8 : Hid (Ch (RS rb ar) w w7.drew) := Lib.hid C7.out.drew
    have T8 : Hid (TRow w7.drew tb tcp L) := Lib.hid (Row.kept T7.out (Ch.refl Nil _).drew (fun _ _ e => e))
    have SZ8 : Hid (W.heap.size ≤ w7.drew.heap.size) := SZ7
    clear R7 B7 C7 T7 SZ7
    have y := B8.out.cells0
    simp only [reD] at y
    refine wp_region_held_drew (S := fun w' => w'.cell? ⟨B, 0, none⟩ = some (.int .u64 (u.i : Nat)) ∧ w'.cell? ⟨B, 1, none⟩ = some (.int .i64 u.s) ∧ w'.cell? ⟨B, 2, none⟩ = some (.int .u64 (u.g : Nat)) ∧ w'.cell? ⟨B, 3, none⟩ = some (.int .u64 (d : Nat)) ∧ w'.cell? ⟨B, 4, none⟩ = some (.int .u64 (u.p : Nat))) (by kernel_rfl) y (fun hHeld => ?_)
    clear y
    generalize w7.drew = X at *
    have cX : Ch Nil X (X.alloc (.cells #[.int .u64 (u.i : Nat), .int .i64 u.s, .int .u64 (u.g : Nat), .int .u64 (d : Nat), .int .u64 (u.p : Nat)] 37)) := (Ch.refl _ _).alloc _
    have c1 := R8.out.z
    rw [← HNL.out] at c1
    have c2 := cX.keeps c1 (fun e => e)
    have S2 : (X.alloc (.cells #[.int .u64 (u.i : Nat), .int .i64 u.s, .int .u64 (u.g : Nat), .int .u64 (d : Nat), .int .u64 (u.p : Nat)] 37)).cell? ⟨B, 0, none⟩ = some (.int .u64 (u.i : Nat)) ∧ (X.alloc (.cells #[.int .u64 (u.i : Nat), .int .i64 u.s, .int .u64 (u.g : Nat), .int .u64 (d : Nat), .int .u64 (u.p : Nat)] 37)).cell? ⟨B, 1, none⟩ = some (.int .i64 u.s) ∧ (X.alloc (.cells #[.int .u64 (u.i : Nat), .int .i64 u.s, .int .u64 (u.g : Nat), .int .u64 (d : Nat), .int .u64 (u.p : Nat)] 37)).cell? ⟨B, 2, none⟩ = some (.int .u64 (u.g : Nat)) ∧ (X.alloc (.cells #[.int .u64 (u.i : Nat), .int .i64 u.s, .int .u64 (u.g : Nat), .int .u64 (d : Nat), .int .u64 (u.p : Nat)] 37)).cell? ⟨B, 3, none⟩ = some (.int .u64 (d : Nat)) ∧ (X.alloc (.cells #[.int .u64 (u.i : Nat), .int .i64 u.s, .int .u64 (u.g : Nat), .int .u64 (d : Nat), .int .u64 (u.p : Nat)] 37)).cell? ⟨B, 4, none⟩ = some (.int .u64 (u.p : Nat)) := ⟨cX.keeps hHeld.1 (fun e => e), cX.keeps hHeld.2.1 (fun e => e), cX.keeps hHeld.2.2.1 (fun e => e), cX.keeps hHeld.2.2.2.1 (fun e => e), cX.keeps hHeld.2.2.2.2 (fun e => e)⟩
    refine take_at (v := ?_) 0 (some 41) rfl (by kernel_rfl) (by kernel_rfl) (by kernel_rfl) (by kernel_rfl) (fun _ _ _ h => h) (Or.inl ⟨by rfl, ?_⟩) (by assumption) ?_
    rotate_left
    · intro w hSw; (try dsimp only at hSw); go_simp; try (with_reducible rfl)
    (try simp only [Act.put, List.setIfInBounds_toArray, List.set_cons_zero, List.set_cons_succ])
    refine take_at (v := ?_) 1 (some 42) rfl (by kernel_rfl) (by kernel_rfl) (by kernel_rfl) (by kernel_rfl) (fun _ _ _ h => h) (Or.inl ⟨by rfl, ?_⟩) (by assumption) ?_
    rotate_left
    · intro w hSw; (try dsimp only at hSw); go_simp; try (with_reducible rfl)
    (try simp only [Act.put, List.setIfInBounds_toArray, List.set_cons_zero, List.set_cons_succ])
    refine take_at (v := ?_) 2 (some 43) rfl (by kernel_rfl) (by kernel_rfl) (by kernel_rfl) (by kernel_rfl) (fun _ _ _ h => h) (Or.inl ⟨by rfl, ?_⟩) (by assumption) ?_
    rotate_left
    · intro w hSw; (try dsimp only at hSw); go_simp; try (with_reducible rfl)
    (try simp only [Act.put, List.setIfInBounds_toArray, List.set_cons_zero, List.set_cons_succ])
    refine take_at (v := ?_) 3 (some 44) rfl (by kernel_rfl) (by kernel_rfl) (by kernel_rfl) (by kernel_rfl) (fun _ _ _ h => h) (Or.inl ⟨by rfl, ?_⟩) (by assumption) ?_
    rotate_left
    · intro w hSw; (try dsimp only at hSw); go_simp; try (with_reducible rfl)
    (try simp only [Act.put, List.setIfInBounds_toArray, List.set_cons_zero, List.set_cons_succ])
    refine take_at (v := ?_) 5 (some 46) rfl (by kernel_rfl) (by kernel_rfl) (by kernel_rfl) (by kernel_rfl) (fun _ _ _ h => h) (Or.inl ⟨by rfl, ?_⟩) (by assumption) ?_
    rotate_left
    · intro w hSw; (try dsimp only at hSw); go_simp; try (with_reducible rfl)
    (try simp only [Act.put, List.setIfInBounds_toArray, List.set_cons_zero, List.set_cons_succ])
    refine wpAnyH_ready (rs := [4, 6]) (by kernel_rfl) (by simp) ?_
    refine AllReadyH.cons rfl (fun K hK => ?_) ?_
    go_simp
    refine hK.out _ _ hHeld (fun hh => ?_)
    clear hK K hh
    (try simp only [Act.put, List.setIfInBounds_toArray, List.set_cons_zero, List.set_cons_succ])
    refine wpAnyH_ready (rs := [6]) (by kernel_rfl) (by simp) ?_
    refine AllReadyH.cons rfl (fun K hK => ?_) AllReadyH.nil
    go_simp
    refine hK.out _ _ S2 (fun hh => ?_)
    clear hK K hh
    (try simp only [Act.put, List.setIfInBounds_toArray, List.set_cons_zero, List.set_cons_succ])
    refine ?tail1
    rotate_left
    refine AllReadyH.cons rfl (fun K hK => ?_) AllReadyH.nil
    go_simp
    refine hK.out _ _ S2 (fun hh => ?_)
    clear hK K hh
    (try simp only [Act.put, List.setIfInBounds_toArray, List.set_cons_zero, List.set_cons_succ])
    refine wpAnyH_ready (rs := [4]) (by kernel_rfl) (by simp) ?_
    refine AllReadyH.cons rfl (fun K hK => ?_) AllReadyH.nil
    go_simp
    refine hK.out _ _ S2 (fun hh => ?_)
    clear hK K hh
    (try simp only [Act.put, List.setIfInBounds_toArray, List.set_cons_zero, List.set_cons_succ])
    exact ?tail1
    have R5 : Hid (Row (X.alloc (.cells #[.int .u64 (u.i : Nat), .int .i64 u.s, .int .u64 (u.g : Nat), .int .u64 (d : Nat), .int .u64 (u.p : Nat)] 37)) 37 5 tb nl tcp (tc L)) := Lib.hid (by have := Row.kept T8.out cX (fun _ _ e => e); rw [← HNL.out] at this; exact this)
    have V1 : Hid (∀ i, i < nl * 5 → tc (L ++ [reD u d]) i = tc L i) := Lib.hid fun i hi => tc_left _ (by rw [← HNL.out]; exact hi)
    have V2 : Hid (∀ (j : Nat) (v : Value), (tks (reD u d))[j]? = some v → tc (L ++ [reD u d]) (nl * 5 + j) = v) := Lib.hid fun j v hv => by
      obtain ⟨hj, rfl⟩ := tks_get hv
      rw [HNL.out]; exact tc_snoc _ hj
    refine wpAnyH_ready (rs := [7]) (by kernel_rfl) (by simp) ?_
    refine AllReadyH.cons rfl (fun K hK => ?_) AllReadyH.nil
    refine step_row rfl _ _ _ rfl 37 (tkA tk0) 5 40 Tryd.underlying33 (by kernel_rfl) rfl (by omega) (by omega) rfl R5.out (by have := hL.out; have := HNL.out; omega) X.heap.size 1 (tks (reD u d)) 37 rfl rfl (heap_alloc_new X _) (by simp [tks, Value.oneCell']) (tc (L ++ [reD u d])) V1.out V2.out _ rfl ?_
    intro g6 cap6 w9 row6 ch6 at6 lt6
    have nbb : ¬ OwnS tb B := fun e => nT.out e
    have nrb : ¬ OwnS tb rb := NB7.out
    have S3 : w9.cell? ⟨B, 0, none⟩ = some (.int .u64 (u.i : Nat)) ∧ w9.cell? ⟨B, 1, none⟩ = some (.int .i64 u.s) ∧ w9.cell? ⟨B, 2, none⟩ = some (.int .u64 (u.g : Nat)) ∧ w9.cell? ⟨B, 3, none⟩ = some (.int .u64 (d : Nat)) ∧ w9.cell? ⟨B, 4, none⟩ = some (.int .u64 (u.p : Nat)) := ⟨ch6.keeps S2.1 nbb, ch6.keeps S2.2.1 nbb, ch6.keeps S2.2.2.1 nbb, ch6.keeps S2.2.2.2.1 nbb, ch6.keeps S2.2.2.2.2 nbb⟩
    have c3 := ch6.keeps c2 nrb
    have nar : ∀ k, RS rb ar' k → ¬ OwnS tb k := fun k hk e => by
      rcases hk with rfl | hk
      · exact nrb e
      · rcases O7.out k hk with h | h
        · exact NA7.out k h e
        · have := LT7.out k e; omega
    have r9 : RefW (some (.slice tb nl tcp)) w9 rb now (l ++ [⟨(nl : Nat), d, spotN d now⟩]) ar' cr' := by
      have := (R8.out.kept cX (fun _ _ e => e)).kept ch6 nar
      rw [← HNL.out] at this; exact this
    have z3 := r9.k.fz 2
    have CH : Hid (Ch (RS13 rb ar tb) w w9) := Lib.hid ((((C8.out.mono fun _ _ e => .inl e).then cX (fun _ _ e => e.elim))).then ch6 (fun _ _ e => .inr e))
    have hXs : W.heap.size ≤ X.heap.size := SZ8.out
    have AT : Hid (OwnS tb g6 ∨ X.heap.size ≤ g6) := Lib.hid (by rcases at6 with h | h; exact .inl h; exact .inr (by (try simp at h); omega))
    have ROW := Lib.hid row6
    have R9 := Lib.hid r9
    have NAR := Lib.hid nar
    have XS : Hid (∀ k, RS rb ar' k → k < X.heap.size) := Lib.hid fun k hk => R8.out.lt hk
    refine hK.out _ _ S3 (fun hh => ?_)
    clear hK K hh ch6 row6 at6 lt6 R5 S2 c2 c1 hHeld cX r9 nar
    (try simp only [Act.put, List.setIfInBounds_toArray, List.set_cons_zero, List.set_cons_succ])
    refine take_at (v := ?_) 8 (some 49) rfl (by kernel_rfl) (by kernel_rfl) (by kernel_rfl) (by kernel_rfl) (fun _ _ _ h => h) (Or.inl ⟨by rfl, ?_⟩) (by assumption) ?_
    rotate_left
    · intro w hSw; (try dsimp only at hSw); go_simp; try (with_reducible rfl)
    (try simp only [Act.put, List.setIfInBounds_toArray, List.set_cons_zero, List.set_cons_succ])
    refine take_at (v := ?_) 9 (some 50) rfl (by kernel_rfl) (by kernel_rfl) (by kernel_rfl) (by kernel_rfl) (fun _ _ _ h => h) (Or.inl ⟨by rfl, ?_⟩) (by assumption) ?_
    rotate_left
    · intro w hSw; (try dsimp only at hSw); go_simp; try (with_reducible rfl)
    (try simp only [Act.put, List.setIfInBounds_toArray, List.set_cons_zero, List.set_cons_succ])
    refine wpAnyH_ready (rs := [10]) (by kernel_rfl) (by simp) ?_
    refine AllReadyH.cons rfl (fun K hK => ?_) AllReadyH.nil
    go_simp
    have NRB : ¬ B = rb := fun e => nB.out (.inl e)
    have S4 : (w9.setCell ⟨rb, 2, none⟩ (.slice (some ⟨g6, 0, none⟩) (nl + 1) cap6)).cell? ⟨B, 0, none⟩ = some (.int .u64 (u.i : Nat)) ∧ (w9.setCell ⟨rb, 2, none⟩ (.slice (some ⟨g6, 0, none⟩) (nl + 1) cap6)).cell? ⟨B, 1, none⟩ = some (.int .i64 u.s) ∧ (w9.setCell ⟨rb, 2, none⟩ (.slice (some ⟨g6, 0, none⟩) (nl + 1) cap6)).cell? ⟨B, 2, none⟩ = some (.int .u64 (u.g : Nat)) ∧ (w9.setCell ⟨rb, 2, none⟩ (.slice (some ⟨g6, 0, none⟩) (nl + 1) cap6)).cell? ⟨B, 3, none⟩ = some (.int .u64 (d : Nat)) ∧ (w9.setCell ⟨rb, 2, none⟩ (.slice (some ⟨g6, 0, none⟩) (nl + 1) cap6)).cell? ⟨B, 4, none⟩ = some (.int .u64 (u.p : Nat)) := by
      have c : Ch (One rb) w9 (w9.setCell ⟨rb, 2, none⟩ (.slice (some ⟨g6, 0, none⟩) (nl + 1) cap6)) := (Ch.refl _ _).setB 2 _
      exact ⟨c.keeps S3.1 NRB, c.keeps S3.2.1 NRB, c.keeps S3.2.2.1 NRB, c.keeps S3.2.2.2.1 NRB, c.keeps S3.2.2.2.2 NRB⟩
    refine hK.out _ _ S4 (fun hh => ?_)
    clear hK K hh
    (try simp only [Act.put, List.setIfInBounds_toArray, List.set_cons_zero, List.set_cons_succ])
    refine wpAnyH_done (by kernel_rfl) ?_ _
    have C3 := Lib.hid c3
    have q3 := S4.2.2.2.1
    clear S3 S4 c3 z3
    go_wp2
    go_ret2
    have ch : Ch (One rb) w9 (w9.setCell ⟨rb, 2, none⟩ (.slice (some ⟨g6, 0, none⟩) (nl + 1) cap6)) := (Ch.refl _ _).setB 2 _
    have ngr : g6 ≠ rb := fun e => by
      subst e
      rcases AT.out with h | h
      · exact nrb h
      · have := XS.out _ (.inl rfl); omega
    refine ⟨some ⟨g6, 0, none⟩, cap6, ar', cr', rfl, ⟨⟨(cell_ne (by omega) _).trans R9.out.t, (cell_ne (by omega) _).trans R9.out.s, R9.out.k.set _ _, Row.kept R9.out.r ch (fun k hk e => by have e' : k = rb := e; exact R9.out.nb (e' ▸ hk)), R9.out.nb, ?_⟩, ?_, fun e => (by cases e; exact ngr rfl), fun k hk e => ?_⟩, fun k hk => ?_, fun k hk => ?_, CH.out.then ch (fun k _ e => .inl (.inl e))⟩
    · rw [List.length_append, ← HNL.out]; exact World.cell?_setCell_same _ _ _ C3.out
    · show Row _ _ _ _ _ _ _
      rw [List.length_append, ← HNL.out]; exact Row.kept ROW.out ch (fun k hk e => (by cases hk; exact ngr e))
    · cases e
      rcases AT.out with h | h
      · exact NAR.out _ (.inr hk) h
      · have := XS.out _ (.inr hk); simp only at this; omega
    · rcases O7.out k hk with h | h
      · exact .inl h
      · exact .inr (by have := SZ.out; omega)
    · cases hk
      rcases AT.out with h | h
      · exact .inl h
      · exact .inr (by have := SZ.out; have := SZ8.out; simp only; omega)
  · have hz : (now : Int) < (u.d : Int) := by omega
    have hde : Hid (u.d = d) := Lib.hid (by have := hdd.out; omega)
    clear hle
    have B6 : Hid (IsTk w5 B 0 (reD u d)) := Lib.hid (by have h : reD u d = u := (by rw [← hde.out]; rfl); rw [h]; exact BXd.out)
    have R6 := HRd
    have C6 := CAd
    clear HRd BXd CAd BKd x3 t0
    generalize w5 = w6 at *
    -- regions 7 .. 9, with a task v whose deadline is d, in block B
    go_upto_region 7 with (fail)
    have R6d := Lib.hid (R6.out.quiet (Ch.refl _ _).drew)
    have B6d : Hid (IsTk w6.drew B 0 (reD u d)) := Lib.hid (B6.out.kept (S := Nil) (Ch.refl _ _).drew (fun e => e))
    have C6d : Hid (Ch Nil w w6.drew) := Lib.hid C6.out.drew
    have sz6 : B < w6.drew.heap.size := B6d.out.lt
    have zr := R6d.out.r.z
    rw [← HNL.out] at zr
    have y3 := B6d.out.cells0.2.2.2.1
    simp only [reD] at y3
    clear R6 B6 C6
    refine wp_region_held_drew (S := fun w' => w'.cell? ⟨rb, 2, none⟩ = some (.slice tb nl tcp) ∧ w'.cell? ⟨B, 3, none⟩ = some (.int .u64 (d : Nat))) (by kernel_rfl) ⟨zr, y3⟩ (fun hHeld => ?_)
    clear zr y3
    generalize w6.drew = W at *
    refine take_at (v := ?_) 0 (some 30) rfl (by kernel_rfl) (by kernel_rfl) (by kernel_rfl) (by kernel_rfl) (fun _ _ _ h => h) (Or.inl ⟨by rfl, ?_⟩) (by assumption) ?_
    rotate_left
    · intro w hSw; (try dsimp only at hSw); go_simp; try (with_reducible rfl)
    (try simp only [Act.put, List.setIfInBounds_toArray, List.set_cons_zero, List.set_cons_succ])
    refine take_at (v := ?_) 1 (some 31) rfl (by kernel_rfl) (by kernel_rfl) (by kernel_rfl) (by kernel_rfl) (fun _ _ _ h => h) (Or.inl ⟨by rfl, ?_⟩) (by assumption) ?_
    rotate_left
    · intro w hSw; (try dsimp only at hSw); go_simp; try (with_reducible rfl)
    (try simp only [Act.put, List.setIfInBounds_toArray, List.set_cons_zero, List.set_cons_succ])
    refine take_at (v := ?_) 2 (some 32) rfl (by kernel_rfl) (by kernel_rfl) (by kernel_rfl) (by kernel_rfl) (fun _ _ _ h => h) (Or.inl ⟨by rfl, ?_⟩) (by assumption) ?_
    rotate_left
    · intro w hSw; (try dsimp only at hSw); go_simp; try (with_reducible rfl)
    (try simp only [Act.put, List.setIfInBounds_toArray, List.set_cons_zero, List.set_cons_succ])
    refine take_at (v := ?_) 3 (some 33) rfl (by kernel_rfl) (by kernel_rfl) (by kernel_rfl) (by kernel_rfl) (fun _ _ _ h => h) (Or.inl ⟨by rfl, ?_⟩) (by assumption) ?_
    rotate_left
    · intro w hSw; (try dsimp only at hSw); go_simp; try (with_reducible rfl)
    (try simp only [Act.put, List.setIfInBounds_toArray, List.set_cons_zero, List.set_cons_succ])
    refine take_at (v := ?_) 4 (some 34) rfl (by kernel_rfl) (by kernel_rfl) (by kernel_rfl) (by kernel_rfl) (fun _ _ _ h => h) (Or.inl ⟨by rfl, ?_⟩) (by assumption) ?_
    rotate_left
    · intro w hSw; (try dsimp only at hSw); go_simp; try (with_reducible rfl)
    (try simp only [Act.put, List.setIfInBounds_toArray, List.set_cons_zero, List.set_cons_succ])
    refine take_at (v := ?_) 5 (some 35) rfl (by kernel_rfl) (by kernel_rfl) (by kernel_rfl) (by kernel_rfl) (fun _ _ _ h => h) (Or.inl ⟨by rfl, ?_⟩) (by assumption) ?_
    rotate_left
    · intro w hSw; (try dsimp only at hSw); go_simp; try (with_reducible rfl)
    (try simp only [Act.put, List.setIfInBounds_toArray, List.set_cons_zero, List.set_cons_succ])
    refine take_at (v := ?_) 6 (some 36) rfl (by kernel_rfl) (by kernel_rfl) (by kernel_rfl) (by kernel_rfl) (fun _ _ _ h => h) (Or.inl ⟨by rfl, ?_⟩) (by assumption) ?_
    rotate_left
    · intro w hSw; (try dsimp only at hSw); go_simp; try (with_reducible rfl)
    (try simp only [Act.put, List.setIfInBounds_toArray, List.set_cons_zero, List.set_cons_succ])
    refine take_at (v := ?_) 7 (some 37) rfl (by kernel_rfl) (by kernel_rfl) (by kernel_rfl) (by kernel_rfl) (fun _ _ _ h => h) (Or.inl ⟨by rfl, ?_⟩) (by assumption) ?_
    rotate_left
    · intro w hSw; (try dsimp only at hSw); go_simp; try (with_reducible rfl)
    (try simp only [Act.put, List.setIfInBounds_toArray, List.set_cons_zero, List.set_cons_succ])
    refine take_at (v := ?_) 8 (some 38) rfl (by kernel_rfl) (by kernel_rfl) (by kernel_rfl) (by kernel_rfl) (fun _ _ _ h => h) (Or.inl ⟨by rfl, ?_⟩) (by assumption) ?_
    rotate_left
    · intro w hSw; (try dsimp only at hSw); go_simp; try (with_reducible rfl)
    (try simp only [Act.put, List.setIfInBounds_toArray, List.set_cons_zero, List.set_cons_succ])
    refine take_at (v := ?_) 9 (some 39) rfl (by kernel_rfl) (by kernel_rfl) (by kernel_rfl) (by kernel_rfl) (fun _ _ _ h => h) (Or.inl ⟨by rfl, ?_⟩) (by assumption) ?_
    rotate_left
    · intro w hSw; (try dsimp only at hSw); go_simp; try (with_reducible rfl)
    (try simp only [Act.put, List.setIfInBounds_toArray, List.set_cons_zero, List.set_cons_succ])
    refine wpAnyH_ready (rs := [10]) (by kernel_rfl) (by simp) ?_
    refine AllReadyH.cons rfl (fun K hK => ?_) AllReadyH.nil
    go_simp
    refine (refPlace_of R6d.out.r ((nl : Nat) : Int) d hd2.out hn64.out hl.out).mono ?_
    rintro e w7 ⟨⟨rv, rfl⟩, ar', cr', r7, o7, c7⟩
    have nbr : ¬ RS rb ar B := nB.out
    have b7 := B6d.out.kept c7 nbr
    have zr := r7.z
    rw [← HNL.out] at zr
    have y3 := b7.cells0.2.2.2.1
    simp only [reD] at y3
    have R7 := Lib.hid r7
    have B7 := Lib.hid b7
    have O7 := Lib.hid o7
    have C7 := Lib.hid ((C6d.out.mono (fun _ _ e => e.elim)).trans c7)
    have T7 : Hid (TRow w7 tb tcp L) := Lib.hid (Row.kept R6d.out.t c7 (fun k hk e => by
      rcases e with e | e
      · exact R6d.out.nb (e ▸ hk)
      · exact R6d.out.na k e hk))
    have LT7 : Hid (∀ k, OwnS tb k → k < W.heap.size) := Lib.hid (Row.lt R6d.out.t)
    have NB7 := Lib.hid R6d.out.nb
    have NA7 := Lib.hid R6d.out.na
    have SZ := Lib.hid (show w.heap.size ≤ W.heap.size from C6d.out.size)
    have SZ7 := Lib.hid c7.size
    have BW := Lib.hid sz6
    clear r7 b7 o7 c7 R6d B6d C6d sz6
    refine hK.out _ _ ⟨zr, y3⟩ (fun hHeld => ?_)
    clear hK K zr y3
    (try simp only [Act.put, List.setIfInBounds_toArray, List.set_cons_zero, List.set_cons_succ])
    refine wpAnyH_done (by kernel_rfl) ?_ _
    clear hHeld
    go_upto_region 8 with (fail)
    have R8 := Lib.hid (R7.out.kept (S := Nil) (Ch.refl _ _).drew (fun _ _ e => e))
    have B8 : Hid (IsTk w7.drew B 0 (reD u d)) := Lib.hid (B7.out.kept (S := Nil) (Ch.refl _ _).drew (fun e => e))
    have C8 : Hid (Ch (RS rb ar) w w7.drew) := Lib.hid C7.out.drew
    have T8 : Hid (TRow w7.drew tb tcp L) := Lib.hid (Row.kept T7.out (Ch.refl Nil _).drew (fun _ _ e => e))
    have SZ8 : Hid (W.heap.size ≤ w7.drew.heap.size) := SZ7
    clear R7 B7 C7 T7 SZ7
    have y := B8.out.cells0
    simp only [reD] at y
    refine wp_region_held_drew (S := fun w' => w'.cell? ⟨B, 0, none⟩ = some (.int .u64 (u.i : Nat)) ∧ w'.cell? ⟨B, 1, none⟩ = some (.int .i64 u.s) ∧ w'.cell? ⟨B, 2, none⟩ = some (.int .u64 (u.g : Nat)) ∧ w'.cell? ⟨B, 3, none⟩ = some (.int .u64 (d : Nat)) ∧ w'.cell? ⟨B, 4, none⟩ = some (.int .u64 (u.p : Nat))) (by kernel_rfl) y (fun hHeld => ?_)
    clear y
    generalize w7.drew = X at *
    have cX : Ch Nil X (X.alloc (.cells #[.int .u64 (u.i : Nat), .int .i64 u.s, .int .u64 (u.g : Nat), .int .u64 (d : Nat), .int .u64 (u.p : Nat)] 37)) := (Ch.refl _ _).alloc _
    have c1 := R8.out.z
    rw [← HNL.out] at c1
    have c2 := cX.keeps c1 (fun e => e)
    have S2 : (X.alloc (.cells #[.int .u64 (u.i : Nat), .int .i64 u.s, .int .u64 (u.g : Nat), .int .u64 (d : Nat), .int .u64 (u.p : Nat)] 37)).cell? ⟨B, 0, none⟩ = some (.int .u64 (u.i : Nat)) ∧ (X.alloc (.cells #[.int .u64 (u.i : Nat), .int .i64 u.s, .int .u64 (u.g : Nat), .int .u64 (d : Nat), .int .u64 (u.p : Nat)] 37)).cell? ⟨B, 1, none⟩ = some (.int .i64 u.s) ∧ (X.alloc (.cells #[.int .u64 (u.i : Nat), .int .i64 u.s, .int .u64 (u.g : Nat), .int .u64 (d : Nat), .int .u64 (u.p : Nat)] 37)).cell? ⟨B, 2, none⟩ = some (.int .u64 (u.g : Nat)) ∧ (X.alloc (.cells #[.int .u64 (u.i : Nat), .int .i64 u.s, .int .u64 (u.g : Nat), .int .u64 (d : Nat), .int .u64 (u.p : Nat)] 37)).cell? ⟨B, 3, none⟩ = some (.int .u64 (d : Nat)) ∧ (X.alloc (.cells #[.int .u64 (u.i : Nat), .int .i64 u.s, .int .u64 (u.g : Nat), .int .u64 (d : Nat), .int .u64 (u.p : Nat)] 37)).cell? ⟨B, 4, none⟩ = some (.int .u64 (u.p : Nat)) := ⟨cX.keeps hHeld.1 (fun e => e), cX.keeps hHeld.2.1 (fun e => e), cX.keeps hHeld.2.2.1 (fun e => e), cX.keeps hHeld.2.2.2.1 (fun e => e), cX.keeps hHeld.2.2.2.2 (fun e => e)⟩
    refine take_at (v := ?_) 0 (some 41) rfl (by kernel_rfl) (by kernel_rfl) (by kernel_rfl) (by kernel_rfl) (fun _ _ _ h => h) (Or.inl ⟨by rfl, ?_⟩) (by assumption) ?_
    rotate_left
    · intro w hSw; (try dsimp only at hSw); go_simp; try (with_reducible rfl)
    (try simp only [Act.put, List.setIfInBounds_toArray, List.set_cons_zero, List.set_cons_succ])
    refine take_at (v := ?_) 1 (some 42) rfl (by kernel_rfl) (by kernel_rfl) (by kernel_rfl) (by kernel_rfl) (fun _ _ _ h => h) (Or.inl ⟨by rfl, ?_⟩) (by assumption) ?_
    rotate_left
    · intro w hSw; (try dsimp only at hSw); go_simp; try (with_reducible rfl)
    (try simp only [Act.put, List.setIfInBounds_toArray, List.set_cons_zero, List.set_cons_succ])
    refine take_at (v := ?_) 2 (some 43) rfl (by kernel_rfl) (by kernel_rfl) (by kernel_rfl) (by kernel_rfl) (fun _ _ _ h => h) (Or.inl ⟨by rfl, ?_⟩) (by assumption) ?_
    rotate_left
    · intro w hSw; (try dsimp only at hSw); go_simp; try (with_reducible rfl)
    (try simp only [Act.put, List.setIfInBounds_toArray, List.set_cons_zero, List.set_cons_succ])
    refine take_at (v := ?_) 3 (some 44) rfl (by kernel_rfl) (by kernel_rfl) (by kernel_rfl) (by kernel_rfl) (fun _ _ _ h => h) (Or.inl ⟨by rfl, ?_⟩) (by assumption) ?_
    rotate_left
    · intro w hSw; (try dsimp only at hSw); go_simp; try (with_reducible rfl)
    (try simp only [Act.put, List.setIfInBounds_toArray, List.set_cons_zero, List.set_cons_succ])
    refine take_at (v := ?_) 5 (some 46) rfl (by kernel_rfl) (by kernel_rfl) (by kernel_rfl) (by kernel_rfl) (fun _ _ _ h => h) (Or.inl ⟨by rfl, ?_⟩) (by assumption) ?_
    rotate_left
    · intro w hSw; (try dsimp only at hSw); go_simp; try (with_reducible rfl)
    (try simp only [Act.put, List.setIfInBounds_toArray, List.set_cons_zero, List.set_cons_succ])
    refine wpAnyH_ready (rs := [4, 6]) (by kernel_rfl) (by simp) ?_
    refine AllReadyH.cons rfl (fun K hK => ?_) ?_
    go_simp
    refine hK.out _ _ hHeld (fun hh => ?_)
    clear hK K hh
    (try simp only [Act.put, List.setIfInBounds_toArray, List.set_cons_zero, List.set_cons_succ])
    refine wpAnyH_ready (rs := [6]) (by kernel_rfl) (by simp) ?_
    refine AllReadyH.cons rfl (fun K hK => ?_) AllReadyH.nil
    go_simp
    refine hK.out _ _ S2 (fun hh => ?_)
    clear hK K hh
    (try simp only [Act.put, List.setIfInBounds_toArray, List.set_cons_zero, List.set_cons_succ])
    refine ?tail2
    rotate_left
    refine AllReadyH.cons rfl (fun K hK => ?_) AllReadyH.nil
    go_simp
    refine hK.out _ _ S2 (fun hh => ?_)
    clear hK K hh
    (try simp only [Act.put, List.setIfInBounds_toArray, List.set_cons_zero, List.set_cons_succ])
    refine wpAnyH_ready (rs := [4]) (by kernel_rfl) (by simp) ?_
    refine AllReadyH.cons rfl (fun K hK => ?_) AllReadyH.nil
    go_simp
    refine hK.out _ _ S2 (fun hh => ?_)
    clear hK K hh
    (try simp only [Act.put, List.setIfInBounds_toArray, List.set_cons_zero, List.set_cons_succ])
    exact ?tail2
    have R5 : Hid (Row (X.alloc (.cells #[.int .u64 (u.i : Nat), .int .i64 u.s, .int .u64 (u.g : Nat), .int .u64 (d : Nat), .int .u64 (u.p : Nat)] 37)) 37 5 tb nl tcp (tc L)) := Lib.hid (by have := Row.kept T8.out cX (fun _ _ e => e); rw [← HNL.out] at this; exact this)
    have V1 : Hid (∀ i, i < nl * 5 → tc (L ++ [reD u d]) i = tc L i) := Lib.hid fun i hi => tc_left _ (by rw [← HNL.out]; exact hi)
    have V2 : Hid (∀ (j : Nat) (v : Value), (tks (reD u d))[j]? = some v → tc (L ++ [reD u d]) (nl * 5 + j) = v) := Lib.hid fun j v hv => by
      obtain ⟨hj, rfl⟩ := tks_get hv
      rw [HNL.out]; exact tc_snoc _ hj
    refine wpAnyH_ready (rs := [7]) (by kernel_rfl) (by simp) ?_
    refine AllReadyH.cons rfl (fun K hK => ?_) AllReadyH.nil
    refine step_row rfl _ _ _ rfl 37 (tkA tk0) 5 40 Tryd.underlying33 (by kernel_rfl) rfl (by omega) (by omega) rfl R5.out (by have := hL.out; have := HNL.out; omega) X.heap.size 1 (tks (reD u d)) 37 rfl rfl (heap_alloc_new X _) (by simp [tks, Value.oneCell']) (tc (L ++ [reD u d])) V1.out V2.out _ rfl ?_
    intro g6 cap6 w9 row6 ch6 at6 lt6
    have nbb : ¬ OwnS tb B := fun e => nT.out e
    have nrb : ¬ OwnS tb rb := NB7.out
    have S3 : w9.cell? ⟨B, 0, none⟩ = some (.int .u64 (u.i : Nat)) ∧ w9.cell? ⟨B, 1, none⟩ = some (.int .i64 u.s) ∧ w9.cell? ⟨B, 2, none⟩ = some (.int .u64 (u.g : Nat)) ∧ w9.cell? ⟨B, 3, none⟩ = some (.int .u64 (d : Nat)) ∧ w9.cell? ⟨B, 4, none⟩ = some (.int .u64 (u.p : Nat)) := ⟨ch6.keeps S2.1 nbb, ch6.keeps S2.2.1 nbb, ch6.keeps S2.2.2.1 nbb, ch6.keeps S2.2.2.2.1 nbb, ch6.keeps S2.2.2.2.2 nbb⟩
    have c3 := ch6.keeps c2 nrb
    have nar : ∀ k, RS rb ar' k → ¬ OwnS tb k := fun k hk e => by
      rcases hk with rfl | hk
      · exact nrb e
      · rcases O7.out k hk with h | h
        · exact NA7.out k h e
        · have := LT7.out k e; omega
    have r9 : RefW (some (.slice tb nl tcp)) w9 rb now (l ++ [⟨(nl : Nat), d, spotN d now⟩]) ar' cr' := by
      have := (R8.out.kept cX (fun _ _ e => e)).kept ch6 nar
      rw [← HNL.out] at this; exact this
    have z3 := r9.k.fz 2
    have CH : Hid (Ch (RS13 rb ar tb) w w9) := Lib.hid ((((C8.out.mono fun _ _ e => .inl e).then cX (fun _ _ e => e.elim))).then ch6 (fun _ _ e => .inr e))
    have hXs : W.heap.size ≤ X.heap.size := SZ8.out
    have AT : Hid (OwnS tb g6 ∨ X.heap.size ≤ g6) := Lib.hid (by rcases at6 with h | h; exact .inl h; exact .inr (by (try simp at h); omega))
    have ROW := Lib.hid row6
    have R9 := Lib.hid r9
    have NAR := Lib.hid nar
    have XS : Hid (∀ k, RS rb ar' k → k < X.heap.size) := Lib.hid fun k hk => R8.out.lt hk
    refine hK.out _ _ S3 (fun hh => ?_)
    clear hK K hh ch6 row6 at6 lt6 R5 S2 c2 c1 hHeld cX r9 nar
    (try simp only [Act.put, List.setIfInBounds_toArray, List.set_cons_zero, List.set_cons_succ])
    refine take_at (v := ?_) 8 (some 49) rfl (by kernel_rfl) (by kernel_rfl) (by kernel_rfl) (by kernel_rfl) (fun _ _ _ h => h) (Or.inl ⟨by rfl, ?_⟩) (by assumption) ?_
    rotate_left
    · intro w hSw; (try dsimp only at hSw); go_simp; try (with_reducible rfl)
    (try simp only [Act.put, List.setIfInBounds_toArray, List.set_cons_zero, List.set_cons_succ])
    refine take_at (v := ?_) 9 (some 50) rfl (by kernel_rfl) (by kernel_rfl) (by kernel_rfl) (by kernel_rfl) (fun _ _ _ h => h) (Or.inl ⟨by rfl, ?_⟩) (by assumption) ?_
    rotate_left
    · intro w hSw; (try dsimp only at hSw); go_simp; try (with_reducible rfl)
    (try simp only [Act.put, List.setIfInBounds_toArray, List.set_cons_zero, List.set_cons_succ])
    refine wpAnyH_ready (rs := [10]) (by kernel_rfl) (by simp) ?_
    refine AllReadyH.cons rfl (fun K hK => ?_) AllReadyH.nil
    go_simp
    have NRB : ¬ B = rb := fun e => nB.out (.inl e)
    have S4 : (w9.setCell ⟨rb, 2, none⟩ (.slice (some ⟨g6, 0, none⟩) (nl + 1) cap6)).cell? ⟨B, 0, none⟩ = some (.int .u64 (u.i : Nat)) ∧ (w9.setCell ⟨rb, 2, none⟩ (.slice (some ⟨g6, 0, none⟩) (nl + 1) cap6)).cell? ⟨B, 1, none⟩ = some (.int .i64 u.s) ∧ (w9.setCell ⟨rb, 2, none⟩ (.slice (some ⟨g6, 0, none⟩) (nl + 1) cap6)).cell? ⟨B, 2, none⟩ = some (.int .u64 (u.g : Nat)) ∧ (w9.setCell ⟨rb, 2, none⟩ (.slice (some ⟨g6, 0, none⟩) (nl + 1) cap6)).cell? ⟨B, 3, none⟩ = some (.int .u64 (d : Nat)) ∧ (w9.setCell ⟨rb, 2, none⟩ (.slice (some ⟨g6, 0, none⟩) (nl + 1) cap6)).cell? ⟨B, 4, none⟩ = some (.int .u64 (u.p : Nat)) := by
      have c : Ch (One rb) w9 (w9.setCell ⟨rb, 2, none⟩ (.slice (some ⟨g6, 0, none⟩) (nl + 1) cap6)) := (Ch.refl _ _).setB 2 _
      exact ⟨c.keeps S3.1 NRB, c.keeps S3.2.1 NRB, c.keeps S3.2.2.1 NRB, c.keeps S3.2.2.2.1 NRB, c.keeps S3.2.2.2.2 NRB⟩
    refine hK.out _ _ S4 (fun hh => ?_)
    clear hK K hh
    (try simp only [Act.put, List.setIfInBounds_toArray, List.set_cons_zero, List.set_cons_succ])
    refine wpAnyH_done (by kernel_rfl) ?_ _
    have C3 := Lib.hid c3
    have q3 := S4.2.2.2.1
    clear S3 S4 c3 z3
    go_wp2
    go_ret2
    have ch : Ch (One rb) w9 (w9.setCell ⟨rb, 2, none⟩ (.slice (some ⟨g6, 0, none⟩) (nl + 1) cap6)) := (Ch.refl _ _).setB 2 _
    have ngr : g6 ≠ rb := fun e => by
      subst e
      rcases AT.out with h | h
      · exact nrb h
      · have := XS.out _ (.inl rfl); omega
    refine ⟨some ⟨g6, 0, none⟩, cap6, ar', cr', rfl, ⟨⟨(cell_ne (by omega) _).trans R9.out.t, (cell_ne (by omega) _).trans R9.out.s, R9.out.k.set _ _, Row.kept R9.out.r ch (fun k hk e => by have e' : k = rb := e; exact R9.out.nb (e' ▸ hk)), R9.out.nb, ?_⟩, ?_, fun e => (by cases e; exact ngr rfl), fun k hk e => ?_⟩, fun k hk => ?_, fun k hk => ?_, CH.out.then ch (fun k _ e => .inl (.inl e))⟩
    · rw [List.length_append, ← HNL.out]; exact World.cell?_setCell_same _ _ _ C3.out
    · show Row _ _ _ _ _ _ _
      rw [List.length_append, ← HNL.out]; exact Row.kept ROW.out ch (fun k hk e => (by cases hk; exact ngr e))
    · cases e
      rcases AT.out with h | h
      · exact NAR.out _ (.inr hk) h
      · have := XS.out _ (.inr hk); simp only at this; omega
    · rcases O7.out k hk with h | h
      · exact .inl h
      · exact .inr (by have := SZ.out; omega)
    · cases hk
      rcases AT.out with h | h
      · exact .inl h
      · exact .inr (by have := SZ.out; have := SZ8.out; simp only; omega)

/-- between two rounds of the document's Turn -/
structure TuIn (W2 : World) (tl : List Tk) (k : Nat) (a : Option Addr) (cap : Nat) (wr : World) : Prop where
  t : TRow wr a cap (tl.take k)
  o : ∀ g, OwnS a g → W2.heap.size ≤ g
  c : Ch Nil W2 wr
set_option maxHeartbeats 8000000 in
set_option maxRecDepth 100000 in
theorem refTurn_of (H : R13 w rb now l L ar cr tb tcp) (hq : RQ (fL L) l Q now) (hQ : ∀ x, x ∈ Q → now < x.d) (hQ2 : ∀ x, x ∈ Q → x.d < 18446744073709551616) (hu : ∀ x, x ∈ Q → x.u.d = x.d) (hn : now + 1 < 18446744073709551616) (hl : l.length ≤ 50000) (hlq : Q.length ≤ 50000) :
    Calls Tryd.prog 14 #[.pointer (some ⟨rb, 0, none⟩)] w fun e w' => ∃ a cap l' ar' cr', e = .returned (.slice a ((dueQ Q (now + 1)).map (·.u)).length cap) ∧ TRow w' a cap ((dueQ Q (now + 1)).map (·.u)) ∧ (∀ k, OwnS a k → w.heap.size ≤ k ∧ ¬ RS13 rb ar' tb k) ∧ R13 w' rb (now + 1) l' L ar' cr' tb tcp ∧ RQ (fL L) l' (leftQ Q (now + 1)) (now + 1) ∧ (∀ k, OwnS ar' k → OwnS ar k ∨ w.heap.size ≤ k) ∧ Ch (RS rb ar) w w' := by
  have H0 := Lib.hid H
  have HU := Lib.hid hu
  have ADV := Lib.hid (refAdvance_of H.r hq hQ hQ2 hn hl)
  have LT0 := Lib.hid (fun k hk => H.lt (k := k) hk)
  have LTT := Lib.hid (Row.lt H.t)
  have hyl : (dueQ Q (now + 1)).length ≤ 50000 := by have : (dueQ Q (now + 1)).length ≤ Q.length := List.length_filter_le _ _; omega
  have DUE : Hid (∀ x, x ∈ dueQ Q (now + 1) → 0 < x.u.d) := Lib.hid fun x hx => by
    have h1 := (List.mem_filter.1 hx).1
    have := hu x h1; have := hQ x h1; omega
  clear H hq hQ hQ2 hu hl hlq
  go_enter Tryd.func14, Tryd.ntmps14
  go_wp2_with fail
  refine ADV.out.mono ?_
  rintro e w2 ⟨ao, co, F, l', ar', cr', rfl, rF, eF, r2, q2, -, o2, oo2, c2⟩
  clear ADV
  obtain ⟨tl, htl⟩ : ∃ tl, tl = (dueQ Q (now + 1)).map (·.u) := ⟨_, rfl⟩
  have hFl : F.length = tl.length := by have := congrArg List.length eF; rw [htl]; simpa using this
  have FT : Hid (∀ (k : Nat) (x : Dn), F[k]? = some x → tl[k]? = some (fL L x.u) ∧ 0 < (fL L x.u).d) := Lib.hid fun k x hx => by
    have h1 := congrArg (fun m => m[k]?) eF
    simp only [List.getElem?_map, hx, Option.map_some] at h1
    obtain ⟨y, hy, e⟩ := Option.map_eq_some_iff.1 h1.symm
    unfold kE kD at e
    simp only [Prod.mk.injEq] at e
    refine ⟨by rw [htl, List.getElem?_map, hy, Option.map_some, e.1], ?_⟩
    rw [← e.1]; exact DUE.out y (List.mem_of_getElem? hy)
  have htn : tl.length ≤ 50000 := by rw [htl, List.length_map]; exact hyl
  obtain ⟨n, hn2⟩ : ∃ n, n = tl.length := ⟨_, rfl⟩
  have HTL := Lib.hid htl
  rw [← hn2] at hFl htn
  clear htl
  have t2 : TRow w2 tb tcp L := Row.kept H0.out.t c2 (fun k hk e => by
    rcases e with e | e
    · exact H0.out.nb (e ▸ hk)
    · exact H0.out.na k e hk)
  have R2 : Hid (R13 w2 rb (now + 1) l' L ar' cr' tb tcp) := Lib.hid ⟨r2, t2, H0.out.nb, fun k hk e => by
    rcases o2 k hk with h | h
    · exact H0.out.na k h e
    · have := LTT.out k e; omega⟩
  rw [hFl] at rF ⊢
  have hoo : ∀ k, OwnS ao k → k < w2.heap.size := Row.lt rF
  have C2 := Lib.hid c2
  have Q2 := Lib.hid q2
  have O2 := Lib.hid o2
  have RF := Lib.hid rF
  have HFL := Lib.hid hFl
  have HN2 := Lib.hid hn2
  have OO := Lib.hid hoo
  have hnz : (n : Int) ≤ 50000 := by omega
  have sz2 : w.heap.size ≤ w2.heap.size := C2.out.size
  obtain ⟨nl, hnl⟩ : ∃ nl, nl = L.length := ⟨_, rfl⟩
  have HNL := Lib.hid hnl
  clear t2 r2 q2 o2 oo2 c2 rF hFl hn2 hoo hnl DUE eF hyl H0 HU
  go_wp2
  go_loopw [4, 5] (fun o i wr => ∃ (k : Nat) (a : Option Addr) (cap : Nat), k ≤ n ∧ i = .int .i64 k ∧ o = .slice a k cap ∧ Hid (TuIn w2 tl k a cap wr)) (fun _ i _ => n - (intOf i).toNat)
  case atStart => exact ⟨0, none, 0, Nat.zero_le _, rfl, rfl, Lib.hid ⟨Row.nil _ _ _ _, fun g hg => by simp [OwnS] at hg, Ch.refl _ _⟩⟩
  case round =>
    obtain ⟨k, a1, cap1, hk, rfl, rfl, HT⟩ := hrel
    by_cases hlt : k < n
    · have hkz : (k : Int) < (n : Int) := by omega
      have hkz0 : (0 : Int) ≤ (k : Int) := by omega
      obtain ⟨x, hx⟩ : ∃ x, F[k]? = some x := ⟨_, List.getElem?_eq_getElem (by rw [HFL.out]; exact hlt)⟩
      obtain ⟨hft, hfp⟩ := FT.out k x hx
      obtain ⟨j, hj, hjl, hjx⟩ := fL_at hfp
      obtain ⟨u, hud⟩ : ∃ u, u = fL L x.u := ⟨_, rfl⟩
      rw [← hud] at hft hjx
      have HFT := Lib.hid hft
      have HJX := Lib.hid hjx
      rw [← HNL.out] at hjl
      have hjz : (j : Int) < (nl : Int) := by omega
      have hjz0 : (0 : Int) ≤ (j : Int) := by omega
      have rFk := Row.kept RF.out HT.out.c (fun _ _ e => e)
      have R3 := Lib.hid (R2.out.quiet HT.out.c)
      obtain ⟨ga, rfl, -⟩ := Row.form rFk (by omega)
      have q1 := (RowD.cells rFk hlt hx).1
      rw [hj] at q1
      have hLp : 0 < L.length := by rw [← HNL.out]; omega
      obtain ⟨gt, rfl, -⟩ := Row.form R3.out.t (by omega)
      have hI := TRow.is R3.out.t hjx
      have zr := R3.out.r.z
      rw [← HNL.out] at zr
      have ltg : gt < w2.heap.size := by have := R2.out.lt (k := gt) (.inr rfl); exact this
      have lta : ga < w2.heap.size := OO.out ga rfl
      have ltr : rb < w2.heap.size := R2.out.lt (.inl (.inl rfl))
      clear hx hft hfp hud hjx rFk hj hLp
      go_upto_region 6 with (fail)
      have HTd : Hid (TuIn w2 tl k a1 cap1 wr.drew) := Lib.hid ⟨Row.kept HT.out.t (Ch.refl Nil _).drew (fun _ _ e => e), HT.out.o, HT.out.c.drew⟩
      have g1 : wr.drew.cell? ⟨rb, 2, none⟩ = some (.slice (some ⟨gt, 0, none⟩) nl tcp) := zr
      have g2 : wr.drew.cell? ⟨ga, k * 4, none⟩ = some (.int .i64 (j : Nat)) := q1
      have g3 : IsTk wr.drew gt (j * 5) u := hI
      clear HT R3 q1 hI zr
      refine wp_region_held_drew (S := fun w' => (w'.cell? ⟨rb, 2, none⟩ = some (.slice (some ⟨gt, 0, none⟩) nl tcp) ∧ w'.cell? ⟨ga, k * 4, none⟩ = some (.int .i64 (j : Nat))) ∧ (w'.cell? ⟨gt, j * 5, none⟩ = some (.int .u64 (u.i : Nat)) ∧ w'.cell? ⟨gt, j * 5 + 1, none⟩ = some (.int .i64 u.s) ∧ w'.cell? ⟨gt, j * 5 + 2, none⟩ = some (.int .u64 (u.g : Nat)) ∧ w'.cell? ⟨gt, j * 5 + 3, none⟩ = some (.int .u64 (u.d : Nat)) ∧ w'.cell? ⟨gt, j * 5 + 4, none⟩ = some (.int .u64 (u.p : Nat)))) (by kernel_rfl) ⟨⟨g1, g2⟩, g3.cells⟩ (fun hHeld => ?_)
      clear g1 g2 g3
      generalize wr.drew = X at *
      refine take_at (v := ?_) 0 (some 16) rfl (by kernel_rfl) (by kernel_rfl) (by kernel_rfl) (by kernel_rfl) (fun _ _ _ h => h) (Or.inl ⟨by rfl, ?_⟩) (by assumption) ?_
      rotate_left
      · intro w hSw; (try dsimp only at hSw); go_simp; try (with_reducible rfl)
      (try simp only [Act.put, List.setIfInBounds_toArray, List.set_cons_zero, List.set_cons_succ])
      refine take_at (v := ?_) 1 (some 17) rfl (by kernel_rfl) (by kernel_rfl) (by kernel_rfl) (by kernel_rfl) (fun _ _ _ h => h) (Or.inl ⟨by rfl, ?_⟩) (by assumption) ?_
      rotate_left
      · intro w hSw; (try dsimp only at hSw); go_simp; try (with_reducible rfl)
      (try simp only [Act.put, List.setIfInBounds_toArray, List.set_cons_zero, List.set_cons_succ])
      refine take_at (v := ?_) 2 (some 18) rfl (by kernel_rfl) (by kernel_rfl) (by kernel_rfl) (by kernel_rfl) (fun _ _ _ h => h) (Or.inl ⟨by rfl, ?_⟩) (by assumption) ?_
      rotate_left
      · intro w hSw; (try dsimp only at hSw); go_simp; try (with_reducible rfl)
      (try simp only [Act.put, List.setIfInBounds_toArray, List.set_cons_zero, List.set_cons_succ])
      refine take_at (v := ?_) 3 (some 19) rfl (by kernel_rfl) (by kernel_rfl) (by kernel_rfl) (by kernel_rfl) (fun _ _ _ h => h) (Or.inl ⟨by rfl, ?_⟩) (by assumption) ?_
      rotate_left
      · intro w hSw; (try dsimp only at hSw); go_simp; try (with_reducible rfl)
      (try simp only [Act.put, List.setIfInBounds_toArray, List.set_cons_zero, List.set_cons_succ])
      refine take_at (v := ?_) 4 (some 20) rfl (by kernel_rfl) (by kernel_rfl) (by kernel_rfl) (by kernel_rfl) (fun _ _ _ h => h) (Or.inl ⟨by rfl, ?_⟩) (by assumption) ?_
      rotate_left
      · intro w hSw; (try dsimp only at hSw); go_simp; try (with_reducible rfl)
      (try simp only [Act.put, List.setIfInBounds_toArray, List.set_cons_zero, List.set_cons_succ])
      refine take_at (v := ?_) 5 (some 21) rfl (by kernel_rfl) (by kernel_rfl) (by kernel_rfl) (by kernel_rfl) (fun _ _ _ h => h) (Or.inl ⟨by rfl, ?_⟩) (by assumption) ?_
      rotate_left
      · intro w hSw; (try dsimp only at hSw); go_simp; try (with_reducible rfl)
      (try simp only [Act.put, List.setIfInBounds_toArray, List.set_cons_zero, List.set_cons_succ])
      refine take_at (v := ?_) 6 (some 22) rfl (by kernel_rfl) (by kernel_rfl) (by kernel_rfl) (by kernel_rfl) (fun _ _ _ h => h) (Or.inl ⟨by rfl, ?_⟩) (by assumption) ?_
      rotate_left
      · intro w hSw; (try dsimp only at hSw); go_simp; try (with_reducible rfl)
      (try simp only [Act.put, List.setIfInBounds_toArray, List.set_cons_zero, List.set_cons_succ])
      refine take_at (v := ?_) 7 (some 23) rfl (by kernel_rfl) (by kernel_rfl) (by kernel_rfl) (by kernel_rfl) (fun _ _ _ h => h) (Or.inl ⟨by rfl, ?_⟩) (by assumption) ?_
      rotate_left
      · intro w hSw; (try dsimp only at hSw); go_simp; try (with_reducible rfl)
      (try simp only [Act.put, List.setIfInBounds_toArray, List.set_cons_zero, List.set_cons_succ])
      refine take_at (v := ?_) 8 (some 24) rfl (by kernel_rfl) (by kernel_rfl) (by kernel_rfl) (by kernel_rfl) (fun _ _ _ h => h) (Or.inl ⟨by rfl, ?_⟩) (by assumption) ?_
      rotate_left
      · intro w hSw; (try dsimp only at hSw); go_simp; try (with_reducible rfl)
      (try simp only [Act.put, List.setIfInBounds_toArray, List.set_cons_zero, List.set_cons_succ])
      refine take_at (v := ?_) 9 (some 25) rfl (by kernel_rfl) (by kernel_rfl) (by kernel_rfl) (by kernel_rfl) (fun _ _ _ h => h) (Or.inl ⟨by rfl, ?_⟩) (by assumption) ?_
      rotate_left
      · intro w hSw; (try dsimp only at hSw); go_simp; try (with_reducible rfl)
      (try simp only [Act.put, List.setIfInBounds_toArray, List.set_cons_zero, List.set_cons_succ])
      refine take_at (v := ?_) 10 (some 26) rfl (by kernel_rfl) (by kernel_rfl) (by kernel_rfl) (by kernel_rfl) (fun _ _ _ h => h) (Or.inl ⟨by rfl, ?_⟩) (by assumption) ?_
      rotate_left
      · intro w hSw; (try dsimp only at hSw); go_simp; try (with_reducible rfl)
      (try simp only [Act.put, List.setIfInBounds_toArray, List.set_cons_zero, List.set_cons_succ])
      refine take_at (v := ?_) 11 (some 27) rfl (by kernel_rfl) (by kernel_rfl) (by kernel_rfl) (by kernel_rfl) (fun _ _ _ h => h) (Or.inl ⟨by rfl, ?_⟩) (by assumption) ?_
      rotate_left
      · intro w hSw; (try dsimp only at hSw); go_simp; try (with_reducible rfl)
      (try simp only [Act.put, List.setIfInBounds_toArray, List.set_cons_zero, List.set_cons_succ])
      have cX : Ch Nil X (X.alloc (.cells #[.int .u64 (u.i : Nat), .int .i64 u.s, .int .u64 (u.g : Nat), .int .u64 (u.d : Nat), .int .u64 (u.p : Nat)] 37)) := (Ch.refl _ _).alloc _
      have keep : ∀ (S : Nat → Prop) (V V' : World), Ch S V V' → ¬ S rb → ¬ S ga → ¬ S gt → ((V.cell? ⟨rb, 2, none⟩ = some (.slice (some ⟨gt, 0, none⟩) nl tcp) ∧ V.cell? ⟨ga, k * 4, none⟩ = some (.int .i64 (j : Nat))) ∧ (V.cell? ⟨gt, j * 5, none⟩ = some (.int .u64 (u.i : Nat)) ∧ V.cell? ⟨gt, j * 5 + 1, none⟩ = some (.int .i64 u.s) ∧ V.cell? ⟨gt, j * 5 + 2, none⟩ = some (.int .u64 (u.g : Nat)) ∧ V.cell? ⟨gt, j * 5 + 3, none⟩ = some (.int .u64 (u.d : Nat)) ∧ V.cell? ⟨gt, j * 5 + 4, none⟩ = some (.int .u64 (u.p : Nat)))) → ((V'.cell? ⟨rb, 2, none⟩ = some (.slice (some ⟨gt, 0, none⟩) nl tcp) ∧ V'.cell? ⟨ga, k * 4, none⟩ = some (.int .i64 (j : Nat))) ∧ (V'.cell? ⟨gt, j * 5, none⟩ = some (.int .u64 (u.i : Nat)) ∧ V'.cell? ⟨gt, j * 5 + 1, none⟩ = some (.int .i64 u.s) ∧ V'.cell? ⟨gt, j * 5 + 2, none⟩ = some (.int .u64 (u.g : Nat)) ∧ V'.cell? ⟨gt, j * 5 + 3, none⟩ = some (.int .u64 (u.d : Nat)) ∧ V'.cell? ⟨gt, j * 5 + 4, none⟩ = some (.int .u64 (u.p : Nat)))) :=
        fun S V V' c n1 n2 n3 h => ⟨⟨c.keeps h.1.1 n1, c.keeps h.1.2 n2⟩, c.keeps h.2.1 n3, c.keeps h.2.2.1 n3, c.keeps h.2.2.2.1 n3, c.keeps h.2.2.2.2.1 n3, c.keeps h.2.2.2.2.2 n3⟩
      have S2 := keep _ _ _ cX (fun e => e) (fun e => e) (fun e => e) hHeld
      have KEEP := Lib.hid keep
      refine wpAnyH_ready (rs := [12]) (by kernel_rfl) (by simp) ?_
      refine AllReadyH.cons rfl (fun K hK => ?_) AllReadyH.nil
      go_simp
      refine hK.out _ _ S2 (fun hh => ?_)
      clear hK K hh keep
      (try simp only [Act.put, List.setIfInBounds_toArray, List.set_cons_zero, List.set_cons_succ])
      have V0 : (tl.take k).length = k := by rw [List.length_take]; have := HN2.out; omega
      have V3 : Hid (tl.take (k + 1) = tl.take k ++ [u]) := Lib.hid (by rw [List.take_add_one, HFT.out]; rfl)
      have R5 : Hid (Row (X.alloc (.cells #[.int .u64 (u.i : Nat), .int .i64 u.s, .int .u64 (u.g : Nat), .int .u64 (u.d : Nat), .int .u64 (u.p : Nat)] 37)) 37 5 a1 k cap1 (tc (tl.take k))) := Lib.hid (by have := Row.kept HTd.out.t cX (fun _ _ e => e); rw [V0] at this; exact this)
      have V1 : Hid (∀ i, i < k * 5 → tc (tl.take k ++ [u]) i = tc (tl.take k) i) := Lib.hid fun i hi => tc_left _ (by rw [V0]; exact hi)
      have V2 : Hid (∀ (j : Nat) (v : Value), (tks u)[j]? = some v → tc (tl.take k ++ [u]) (k * 5 + j) = v) := Lib.hid fun j v hv => by
        obtain ⟨hj, rfl⟩ := tks_get hv
        have := tc_snoc (L := tl.take k) u hj
        rw [V0] at this; exact this
      clear V0
      refine wpAnyH_ready (rs := [13]) (by kernel_rfl) (by simp) ?_
      refine AllReadyH.cons rfl (fun K hK => ?_) AllReadyH.nil
      refine step_row rfl _ _ _ rfl 37 (tkA tk0) 5 40 Tryd.underlying33 (by kernel_rfl) rfl (by omega) (by omega) rfl R5.out (by omega) X.heap.size 1 (tks u) 37 rfl rfl (heap_alloc_new X _) (by simp [tks, Value.oneCell']) (tc (tl.take k ++ [u])) V1.out V2.out _ rfl ?_
      intro g6 cap6 w9 row6 ch6 at6 lt6
      have o1 := HTd.out.o
      have S3 := KEEP.out _ _ _ ch6 (fun e => by have := o1 _ e; omega) (fun e => by have := o1 _ e; omega) (fun e => by have := o1 _ e; omega) S2
      have hXs : w2.heap.size ≤ X.heap.size := HTd.out.c.size
      have NX : Hid (TuIn w2 tl (k + 1) (some ⟨g6, 0, none⟩) cap6 w9) := Lib.hid ⟨by
          show Row _ _ _ _ _ _ _
          rw [V3.out, List.length_append, show (tl.take k).length = k by rw [List.length_take]; have := HN2.out; omega]; exact row6,
        fun g hg => by
          cases hg
          rcases at6 with h | h
          · exact o1 _ h
          · simp at h; simp only; omega,
        (HTd.out.c.trans cX).up ch6 o1⟩
      refine hK.out _ _ S3 (fun hHeld => ?_)
      clear hK K row6 ch6 at6 lt6 R5 S2 S3 cX HTd o1 hXs
      (try simp only [Act.put, List.setIfInBounds_toArray, List.set_cons_zero, List.set_cons_succ])
      refine take_at (v := ?_) 14 (some 4) rfl (by kernel_rfl) (by kernel_rfl) (by kernel_rfl) (by kernel_rfl) (fun _ _ _ h => h) (Or.inl ⟨by rfl, ?_⟩) (by assumption) ?_
      rotate_left
      · intro w hSw; (try dsimp only at hSw); go_simp; try (with_reducible rfl)
      (try simp only [Act.put, List.setIfInBounds_toArray, List.set_cons_zero, List.set_cons_succ])
      refine wpAnyH_done (by kernel_rfl) ?_ _
      clear hHeld
      go_wp2
      go_roundw
      case rel => exact ⟨k + 1, _, cap6, by omega, by go_num, rfl, NX.out⟩
      case measure => simp [intOf]; omega
    · obtain rfl : k = n := by omega
      have hT := HT.out.t
      rw [List.take_of_length_le (Nat.le_of_eq HN2.out.symm)] at hT
      have RT := Lib.hid hT
      have OT := Lib.hid HT.out.o
      have CT := Lib.hid HT.out.c
      clear hT HT
      go_wp2
      go_ret
      rw [← HTL.out, ← HN2.out]
      exact ⟨a1, cap1, l', ar', cr', rfl, RT.out, fun g hg => ⟨by have := OT.out g hg; omega, fun e => by have := OT.out g hg; have := R2.out.lt e; omega⟩, R2.out.quiet CT.out, Q2.out, O2.out, C2.out.then CT.out (fun _ _ e => e.elim)⟩
end
end Go.Proofs.YtldnmpiaofppgaaDoor
