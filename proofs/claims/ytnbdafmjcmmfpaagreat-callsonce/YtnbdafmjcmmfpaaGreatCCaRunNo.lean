import Derived.Test.YtnbdafmjcmmfpaaGreatK24
import Derived.Deep.RegionHeld
/-
  The statements' function 'run' at a call that no work is of.
-/
namespace Go.Proofs.YtnbdafmjcmmfpaaGreat
open Go.RowKit Verge
attribute [local go_sem] Oper.semAt_some
set_option linter.unusedVariables false
set_option linter.unusedSimpArgs false
set_option maxHeartbeats 8000000 in
set_option maxRecDepth 100000 in
theorem run_no {kd : Int} (hk : kd < 1 ∨ 5 < kd) (id d p : Nat) (f : Nat) (W : World) :
    Calls Tryz.prog 20 #[ptr f, .agg #[.int .i64 kd, .int .u64 (id : Nat), .int .u64 (d : Nat), .int .u64 (p : Nat)]] W fun e W' => e = .returned (.tuple #[.agg #[.int .i64 0, .bool false, .int .u64 0, .int .u64 0, .slice none 0 0], .int .i64 0, .bool false]) ∧ Ch Nil W W' := by
  obtain ⟨i1, i2, cA⟩ := runBox W kd id d p _ rfl
  have I1 := Lib.hid i1
  have I2 := Lib.hid i2
  have CA := Lib.hid cA
  have HK := Lib.hid hk
  clear i1 i2 cA hk
  go_enter Tryz.func20, Tryz.ntmps20
  go_upto_region 1 with (fail)
  generalize (W.alloc (Obj.cells #[.int .i64 kd, .int .u64 (id : Nat), .int .u64 (d : Nat), .int .u64 (p : Nat)] 38)).alloc (Obj.cells #[.int .i64 0, .bool false, .int .u64 0, .int .u64 0, .slice none 0 0] 51) = w1 at I1 I2 CA ⊢
  obtain ⟨b1, hb1⟩ : ∃ b1, b1 = W.heap.size := ⟨_, rfl⟩
  rw [← hb1] at I1 I2 ⊢
  obtain ⟨B, hB⟩ : ∃ B, B = b1 + 1 := ⟨_, rfl⟩
  rw [← hB] at I2 ⊢
  have HB := Lib.hid (show W.heap.size ≤ B from by omega)
  clear hb1 hB
  obtain ⟨y0, y1, y2, y3⟩ := I1.out.cells4
  go_wp2_with fail
  clear y0 y1 y2 y3
  refine (begin_no HK.out _ _).mono ?_
  rintro e w2 ⟨rfl, c2⟩
  have C2 := Lib.hid (CA.out.trans c2)
  have J2 := Lib.hid (I2.out.kept c2 (fun e => e))
  clear c2 I1 I2 CA
  go_upto_region 3 with (fail)
  go_loopw [9] (fun i wr => i = .int .i64 0 ∧ wr = w2) (fun i _ => 0)
  case atStart => exact ⟨rfl, rfl⟩
  case round =>
    obtain ⟨rfl, rfl⟩ := hrel
    go_wp2_with fail
    refine (answer_nil _).mono ?_
    rintro e w4 ⟨rfl, c4⟩
    have CV : Hid (Ch Nil w4 (w4.alloc (Obj.cells #[.int .i64 0, .bool false, .int .u64 0, .int .u64 0, .slice none 0 0] 51))) := Lib.hid ((Ch.refl _ _).alloc _)
    have NV : Hid (IsVs (w4.alloc (Obj.cells #[.int .i64 0, .bool false, .int .u64 0, .int .u64 0, .slice none 0 0] 51)) w4.heap.size anZ) := Lib.hid (IsVs.new w4 anZ 51)
    have J4 := Lib.hid (J2.out.kept (c4.trans CV.out) (fun e => e))
    have C4 := Lib.hid (C2.out.trans (c4.trans CV.out))
    have AB : Hid (w4.heap.size ≠ B) := Lib.hid (by have := J2.out.lt; have := c4.size; omega)
    clear c4 J2 C2
    go_upto_region 6 with (fail)
    generalize w4.alloc (Obj.cells #[.int .i64 0, .bool false, .int .u64 0, .int .u64 0, .slice none 0 0] 51) = w5 at NV CV J4 C4 ⊢
    obtain ⟨A, hA⟩ : ∃ A, A = w4.heap.size := ⟨_, rfl⟩
    rw [← hA] at NV AB ⊢
    clear hA CV
    have D1 : Ch Nil w5 w5.drew := (Ch.refl _ _).drew
    have N6 := Lib.hid (NV.out.kept D1 (fun e => e))
    have J6 := Lib.hid (J4.out.kept D1 (fun e => e))
    have C6 := Lib.hid (C4.out.trans D1)
    refine wp_region_held_drew (S := fun w' => w'.cell? ⟨A, 0, none⟩ = some (.int .i64 0) ∧ w'.cell? ⟨A, 1, none⟩ = some (.bool false) ∧ w'.cell? ⟨A, 2, none⟩ = some (.int .u64 0) ∧ w'.cell? ⟨A, 3, none⟩ = some (.int .u64 0) ∧ w'.cell? ⟨A, 4, none⟩ = some (.slice none 0 0)) (by kernel_rfl) N6.out.cells5 (fun hHeld => ?_)
    clear D1 NV J4 C4
    generalize w5.drew = w6 at *
    refine take_at (v := ?_) 0 (some 35) rfl (by kernel_rfl) (by kernel_rfl) (by kernel_rfl) (by kernel_rfl) (fun _ _ _ h => h) (Or.inl ⟨by rfl, ?_⟩) (by assumption) ?_
    rotate_left
    · intro w hSw; (try dsimp only at hSw); go_simp; try (with_reducible rfl)
    (try simp only [Act.put, List.setIfInBounds_toArray, List.set_cons_zero, List.set_cons_succ])
    refine take_at (v := ?_) 1 (some 36) rfl (by kernel_rfl) (by kernel_rfl) (by kernel_rfl) (by kernel_rfl) (fun _ _ _ h => h) (Or.inl ⟨by rfl, ?_⟩) (by assumption) ?_
    rotate_left
    · intro w hSw; (try dsimp only at hSw); go_simp; try (with_reducible rfl)
    (try simp only [Act.put, List.setIfInBounds_toArray, List.set_cons_zero, List.set_cons_succ])
    refine take_at (v := ?_) 2 (some 37) rfl (by kernel_rfl) (by kernel_rfl) (by kernel_rfl) (by kernel_rfl) (fun _ _ _ h => h) (Or.inl ⟨by rfl, ?_⟩) (by assumption) ?_
    rotate_left
    · intro w hSw; (try dsimp only at hSw); go_simp; try (with_reducible rfl)
    (try simp only [Act.put, List.setIfInBounds_toArray, List.set_cons_zero, List.set_cons_succ])
    refine take_at (v := ?_) 3 (some 38) rfl (by kernel_rfl) (by kernel_rfl) (by kernel_rfl) (by kernel_rfl) (fun _ _ _ h => h) (Or.inl ⟨by rfl, ?_⟩) (by assumption) ?_
    rotate_left
    · intro w hSw; (try dsimp only at hSw); go_simp; try (with_reducible rfl)
    (try simp only [Act.put, List.setIfInBounds_toArray, List.set_cons_zero, List.set_cons_succ])
    refine take_at (v := ?_) 4 (some 39) rfl (by kernel_rfl) (by kernel_rfl) (by kernel_rfl) (by kernel_rfl) (fun _ _ _ h => h) (Or.inl ⟨by rfl, ?_⟩) (by assumption) ?_
    rotate_left
    · intro w hSw; (try dsimp only at hSw); go_simp; try (with_reducible rfl)
    (try simp only [Act.put, List.setIfInBounds_toArray, List.set_cons_zero, List.set_cons_succ])
    refine take_at (v := undef) 5 (some 40) rfl (by kernel_rfl) (by kernel_rfl) (by kernel_rfl) (by kernel_rfl) (fun _ _ _ h => h) (Or.inr ⟨by rfl, rfl⟩) (by assumption) ?_
    (try simp only [Act.put, List.setIfInBounds_toArray, List.set_cons_zero, List.set_cons_succ])
    refine take_at (v := undef) 6 (some 41) rfl (by kernel_rfl) (by kernel_rfl) (by kernel_rfl) (by kernel_rfl) (fun _ _ _ h => h) (Or.inr ⟨by rfl, rfl⟩) (by assumption) ?_
    (try simp only [Act.put, List.setIfInBounds_toArray, List.set_cons_zero, List.set_cons_succ])
    refine take_at (v := ?_) 7 (some 42) rfl (by kernel_rfl) (by kernel_rfl) (by kernel_rfl) (by kernel_rfl) (fun _ _ _ h => h) (Or.inl ⟨by rfl, ?_⟩) (by assumption) ?_
    rotate_left
    · intro w hSw; (try dsimp only at hSw); go_simp; try (with_reducible rfl)
    (try simp only [Act.put, List.setIfInBounds_toArray, List.set_cons_zero, List.set_cons_succ])
    refine take_at (v := ?_) 8 (some 43) rfl (by kernel_rfl) (by kernel_rfl) (by kernel_rfl) (by kernel_rfl) (fun _ _ _ h => h) (Or.inl ⟨by rfl, ?_⟩) (by assumption) ?_
    rotate_left
    · intro w hSw; (try dsimp only at hSw); go_simp; try (with_reducible rfl)
    (try simp only [Act.put, List.setIfInBounds_toArray, List.set_cons_zero, List.set_cons_succ])
    refine take_at (v := undef) 9 (some 44) rfl (by kernel_rfl) (by kernel_rfl) (by kernel_rfl) (by kernel_rfl) (fun _ _ _ h => h) (Or.inr ⟨by rfl, rfl⟩) (by assumption) ?_
    (try simp only [Act.put, List.setIfInBounds_toArray, List.set_cons_zero, List.set_cons_succ])
    refine take_at (v := undef) 10 (some 45) rfl (by kernel_rfl) (by kernel_rfl) (by kernel_rfl) (by kernel_rfl) (fun _ _ _ h => h) (Or.inr ⟨by rfl, rfl⟩) (by assumption) ?_
    (try simp only [Act.put, List.setIfInBounds_toArray, List.set_cons_zero, List.set_cons_succ])
    refine take_at (v := ?_) 11 (some 46) rfl (by kernel_rfl) (by kernel_rfl) (by kernel_rfl) (by kernel_rfl) (fun _ _ _ h => h) (Or.inl ⟨by rfl, ?_⟩) (by assumption) ?_
    rotate_left
    · intro w hSw; (try dsimp only at hSw); go_simp; try (with_reducible rfl)
    (try simp only [Act.put, List.setIfInBounds_toArray, List.set_cons_zero, List.set_cons_succ])
    obtain ⟨z0, z1, z2, z3, z4⟩ := J6.out.cells5
    have f0 := J6.out.b.fz 0
    have f1 := J6.out.b.fz 1
    have f2 := J6.out.b.fz 2
    have f3 := J6.out.b.fz 3
    have f4 := J6.out.b.fz 4
    refine wpAnyH_ready (rs := [12]) (by kernel_rfl) (by simp) ?_
    refine AllReadyH.cons rfl (fun K hK => ?_) AllReadyH.nil
    go_simp
    have cB := (setVs_tch B anZ w6 0).ch
    have vB := J6.out.set (vs := anZ) rfl
    have hfin := C6.out.then cB (fun i hi e => by have e' : i = B := e; have := HB.out; omega)
    have hS := (N6.out.kept cB (fun e => AB.out e)).cells5
    change Ch Nil W (((((w6.setCell ⟨B, 0, none⟩ (.int .i64 0)).setCell ⟨B, 1, none⟩ (.bool false)).setCell ⟨B, 2, none⟩ (.int .u64 0)).setCell ⟨B, 3, none⟩ (.int .u64 0)).setCell ⟨B, 4, none⟩ (.slice none 0 0)) at hfin
    change IsVs (((((w6.setCell ⟨B, 0, none⟩ (.int .i64 0)).setCell ⟨B, 1, none⟩ (.bool false)).setCell ⟨B, 2, none⟩ (.int .u64 0)).setCell ⟨B, 3, none⟩ (.int .u64 0)).setCell ⟨B, 4, none⟩ (.slice none 0 0)) B _ at vB
    refine hK.out _ _ hS (fun hHeld2 => ?_)
    clear hK K hHeld hS cB z0 z1 z2 z3 z4 f0 f1 f2 f3 f4
    generalize ((((w6.setCell ⟨B, 0, none⟩ (.int .i64 0)).setCell ⟨B, 1, none⟩ (.bool false)).setCell ⟨B, 2, none⟩ (.int .u64 0)).setCell ⟨B, 3, none⟩ (.int .u64 0)).setCell ⟨B, 4, none⟩ (.slice none 0 0) = w8 at *
    have hHeld := hHeld2
    clear hHeld2
    (try simp only [Act.put, List.setIfInBounds_toArray, List.set_cons_zero, List.set_cons_succ])
    refine take_at (v := ?_) 13 (some 5) rfl (by kernel_rfl) (by kernel_rfl) (by kernel_rfl) (by kernel_rfl) (fun _ _ _ h => h) (Or.inl ⟨by rfl, ?_⟩) (by assumption) ?_
    rotate_left
    · intro w hSw; (try dsimp only at hSw); go_simp; try (with_reducible rfl)
    (try simp only [Act.put, List.setIfInBounds_toArray, List.set_cons_zero, List.set_cons_succ])
    refine take_at (v := ?_) 14 (some 6) rfl (by kernel_rfl) (by kernel_rfl) (by kernel_rfl) (by kernel_rfl) (fun _ _ _ h => h) (Or.inl ⟨by rfl, ?_⟩) (by assumption) ?_
    rotate_left
    · intro w hSw; (try dsimp only at hSw); go_simp; try (with_reducible rfl)
    (try simp only [Act.put, List.setIfInBounds_toArray, List.set_cons_zero, List.set_cons_succ])
    refine wpAnyH_done (by kernel_rfl) ?_ _
    (try go_wp2)
    (try simp only [Exit.inBlock, Exit.then])
    refine bodyPost_ret (v := .tuple #[.agg #[.int .i64 0, .bool false, .int .u64 0, .int .u64 0, .slice none 0 0], .int .i64 0, .bool false]) ?hr rfl ?hx
    case hx => exact ⟨rfl, hfin⟩
    case hr =>
      obtain ⟨d0, d1, d2, d3, d4⟩ := vB.cells5
      simp [results, Tryz.results20, go_sem, d0, d1, d2, d3, d4]
end Go.Proofs.YtnbdafmjcmmfpaaGreat
