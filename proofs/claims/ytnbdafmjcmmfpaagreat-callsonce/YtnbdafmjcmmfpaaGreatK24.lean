import Derived.Test.YtnbdafmjcmmfpaaGreatK23
import Derived.Test.YtnbdafmjcmmfpaaGreatK06
import Derived.Deep.QuietTactic
import Derived.BigQuiet
/-
  A work that runs alone: the statements' function 'run'.
-/
namespace Verge
set_option linter.unusedVariables false
open Go.Proofs.YtnbdafmjcmmfpaaGreat
/-- just so many steps to its end, alone -/
def Path (N : Nm) : Nat → Wd → Wk → Wd → Wk → Prop
  | 0, σ, k, σ', k' => σ' = σ ∧ k' = k ∧ k.sg = .over
  | m + 1, σ, k, σ', k' => k.sg ≠ .over ∧ σ.cnt ≤ 64 ∧ Win N σ k ∧ Path N m (stepC N σ k).1 (stepC N σ k).2 σ' k'
end Verge
namespace Go.Proofs.YtnbdafmjcmmfpaaGreat
open Go.RowKit Verge
attribute [local go_sem] Oper.semAt_some
set_option linter.unusedVariables false
set_option linter.unusedSimpArgs false
section
variable {E : Ee} {S S0 : Nat → Prop} {w0 W W' : World} {σ σ' : Wd} {n n' : Nat} {X X' : Mx} {k k' : Wk}
/-- where a run stands: m steps are left -/
structure Rn (E : Ee) (S0 : Nat → Prop) (w0 W : World) (n m : Nat) (kb : Nat) (σ' : Wd) (k' : Wk) : Prop where
  r : ∃ σ k X, X.kb = kb ∧ Rt E S0 w0 W σ n X k ∧ Pw E.N n k ∧ Path E.N m σ k σ' k'
  hN : E.N.n ≤ 64
theorem Rn.quiet {m kb : Nat} (h : Rn E S0 w0 W n m kb σ' k') (c : Ch Nil W W') : Rn E S0 w0 W' n m kb σ' k' := by
  obtain ⟨⟨σ, k, X, h1, h2, h3, h4⟩, hN⟩ := h
  exact ⟨⟨σ, k, X, h1, h2.quiet c, h3, h4⟩, hN⟩
theorem Rn.step {m kb : Nat} (h : Rn E S0 w0 W n (m + 1) kb σ' k') (hn : n ≤ 80000) :
    Calls Tryz.prog 12 #[ptr kb] W fun e W' => e = .returned (.bool true) ∧ Rn E S0 w0 W' (n + 2) m kb σ' k' := by
  obtain ⟨⟨σ, k, X, rfl, h2, h3, h4, h5, h6, h7⟩, hN⟩ := h
  refine (h2.step ⟨h3, hn, hN, h5, h6⟩ h4).mono ?_
  rintro e w' ⟨rfl, X', r', e1, -, -⟩
  exact ⟨rfl, ⟨_, _, X', e1, r', (pw_step h3 hN h5 (h2.b.bd.x _ (Nat.mod_lt _ h2.b.ly.m0)) (fun j hj => okW_lt64 (h2.b.bd.w j hj))).up (by omega), h7⟩, hN⟩
theorem Rn.over {kb : Nat} (h : Rn E S0 w0 W n 0 kb σ' k') : ∃ X, X.kb = kb ∧ Rt E S0 w0 W σ' n X k' ∧ k'.sg = .over := by
  obtain ⟨⟨σ, k, X, h1, h2, h3, rfl, rfl, h4⟩, hN⟩ := h
  exact ⟨X, h1, h2, h4⟩
theorem Rn.stop {kb : Nat} (h : Rn E S0 w0 W n 0 kb σ' k') :
    Calls Tryz.prog 12 #[ptr kb] W fun e W' => e = .returned (.bool false) ∧ Rn E S0 w0 W' n 0 kb σ' k' := by
  obtain ⟨⟨σ, k, X, rfl, h2, h3, e1, e2, h4⟩, hN⟩ := h
  refine (h2.stepNo h4).mono ?_
  rintro e w' ⟨rfl, r'⟩
  exact ⟨rfl, ⟨σ, k, X, rfl, r', h3, e1, e2, h4⟩, hN⟩
/-- run's two boxes: the call, the answer -/
theorem runBox (w : World) (kd : Int) (id d p : Nat) : ∀ W, W = (w.alloc (Obj.cells #[.int .i64 kd, .int .u64 (id : Nat), .int .u64 (d : Nat), .int .u64 (p : Nat)] 38)).alloc (Obj.cells #[.int .i64 0, .bool false, .int .u64 0, .int .u64 0, .slice none 0 0] 51) → IsVs W w.heap.size [.int .i64 kd, .int .u64 (id : Nat), .int .u64 (d : Nat), .int .u64 (p : Nat)] ∧ IsVs W (w.heap.size + 1) anZ ∧ Ch Nil w W :=
  fun W h => boxes2 w _ anZ _ _ W h
theorem Rn.ch {m kb : Nat} (h : Rn E S0 w0 W n m kb σ' k') : Ch S0 w0 W := by
  obtain ⟨⟨σ, k, X, -, h2, -⟩, -⟩ := h
  exact h2.b.c
/-- the same floor, seen from a world on -/
theorem Bf.re (h : Bf E S0 w0 W σ n) : ∃ S1 : Nat → Prop, (∀ j, S1 j → j < W.heap.size) ∧ (∀ j, S1 j → S0 j ∨ w0.heap.size ≤ j) ∧ ∀ W1, Ch Nil W W1 → Bf E S1 W1 W1 σ n := by
  obtain ⟨L, a, tc, h1, h2, h3⟩ := h.hd
  refine ⟨fun j => (E.lo ≤ j ∧ j < E.hi) ∨ OwnS a j, fun j hj => ?_, fun j hj => ?_, fun W1 c => ?_⟩
  · rcases hj with e | e
    · have := h.hw; omega
    · exact h1.f.lt (by simp [FS, e])
  · rcases hj with e | e
    · exact .inl (h.z j e.1 e.2)
    · exact h3 j e
  · have q := h.quiet c
    exact ⟨h.ly, ⟨L, a, tc, h1.quiet h.ly c, h2, fun j hj => .inl (.inr hj)⟩, h.bd, fun j x y => .inl ⟨x, y⟩, q.hw, Ch.refl _ _⟩
theorem Bf.back {S1 : Nat → Prop} {W1 W2 : World} (h : Bf E S0 w0 W σ n) (hs : ∀ j, S1 j → S0 j ∨ w0.heap.size ≤ j) (c : Ch Nil W W1) (h' : Bf E S1 W1 W2 σ' n') : Bf E S0 w0 W2 σ' n' := by
  obtain ⟨L, a, tc, h1, h2, h3⟩ := h'.hd
  have sz := h.c.size
  have sz1 := c.size
  refine ⟨h.ly, ⟨L, a, tc, h1, h2, fun j hj => ?_⟩, h'.bd, h.z, h'.hw, (h.c.then c (fun _ _ e => e.elim)).then h'.c (fun j hj e => ?_)⟩
  · rcases h3 j hj with e | e
    · exact hs j e
    · exact .inr (by omega)
  · rcases hs j e with q | q
    · exact q
    · omega
/-- a box that isn't the floor's is set -/
theorem Bf.box {S1 : Nat → Prop} {W1 W2 W3 : World} {B : Nat} (h : Bf E S0 w0 W σ n) (hs : ∀ j, S1 j → S0 j ∨ w0.heap.size ≤ j) (c : Ch Nil W W1) (h' : Bf E S1 W1 W2 σ' n') (hB : W.heap.size ≤ B ∧ B < W1.heap.size ∧ ¬ S1 B) (cB : Ch (One B) W2 W3) : Bf E S0 w0 W3 σ' n' := by
  have hb := h.back hs c h'
  obtain ⟨L, a, tc, h1, h2, h3⟩ := h'.hd
  have sz := h.c.size
  have hw := h.hw
  have hna : ¬ OwnS a B := fun e => by
    rcases h3 B e with q | q
    · exact hB.2.2 q
    · omega
  have np : ¬ Prt E B := fun e => by have := h.ly.prt e; omega
  refine ⟨h.ly, ⟨L, a, tc, h1.part h.ly cB (fun j e => .inr (.inl ⟨by have e' : j = B := e; omega, by rw [show j = B from e]; exact hna⟩)) (h1.s.kept cB (fun e => np (.inl (by have e' : E.F.sb = B := e; omega))) (fun e => np (.inr (.inl (by have e' : E.F.srb = B := e; omega))))) (fun i hi => (h1.ri i hi).kept cB (fun e => np (.inr (.inr ⟨i, hi, .inl (by have e' : E.rg i = B := e; omega)⟩))) (fun e => np (.inr (.inr ⟨i, hi, .inr (by have e' : E.rs i = B := e; omega)⟩)))) rfl rfl, h2, fun j hj => ?_⟩, h'.bd, h.z, Nat.le_trans h'.hw cB.size, hb.c.then cB (fun j hj e => by have e' : j = B := e; omega)⟩
  have sz1 := c.size
  rcases h3 j hj with e | e
  · exact hs j e
  · exact .inr (by omega)
set_option maxHeartbeats 8000000 in
set_option maxRecDepth 100000 in
theorem run_of {kd id d p m : Nat} (hk : 1 ≤ kd ∧ kd ≤ 5) (h : Bf E S0 w0 W σ n) (hn : n ≤ 70000) (hN : E.N.n ≤ 64) (h0 : 0 < E.N.n) (h1 : id < 18446744073709551616) (h2 : d < 18446744073709551616) (h3 : p < 18446744073709551616)
    (hp : Path E.N m σ (newW kd id d p) σ' k') (hm : m ≤ 499) :
    Calls Tryz.prog 20 #[ptr E.F.f, clV kd id d p] W fun e W' => e = .returned (.tuple #[anV k'.a, .int .i64 (m : Nat), .bool true]) ∧ Bf E S0 w0 W' σ' (n + 1 + 2 * m) := by
  obtain ⟨i1, i2, cA⟩ := runBox W kd id d p _ rfl
  have I1 := Lib.hid i1
  have I2 := Lib.hid i2
  have CA := Lib.hid cA
  obtain ⟨S1, s1, s2, s3⟩ := h.re
  have H0 := Lib.hid (s3 _ cA)
  have HH := Lib.hid (And.intro h (And.intro s1 s2))
  have PW := Lib.hid (pw_new (N := E.N) (m := n + 1) h0 hk h1 h2 h3)
  have HP := Lib.hid hp
  have HK := Lib.hid hk
  clear h i1 i2 cA hp h0 h1 h2 h3 hk s1 s2 s3
  go_enter Tryz.func20, Tryz.ntmps20
  go_upto_region 1 with (fail)
  generalize (W.alloc (Obj.cells #[.int .i64 (kd : Nat), .int .u64 (id : Nat), .int .u64 (d : Nat), .int .u64 (p : Nat)] 38)).alloc (Obj.cells #[.int .i64 0, .bool false, .int .u64 0, .int .u64 0, .slice none 0 0] 51) = w1 at I1 I2 H0 CA ⊢
  obtain ⟨b1, hb1⟩ : ∃ b1, b1 = W.heap.size := ⟨_, rfl⟩
  rw [← hb1] at I1 I2 ⊢
  obtain ⟨B, hB⟩ : ∃ B, B = b1 + 1 := ⟨_, rfl⟩
  rw [← hB] at I2 ⊢
  have HB := Lib.hid (show W.heap.size ≤ B ∧ B < w1.heap.size ∧ ¬ S1 B from ⟨by omega, I2.out.lt, fun e => by have := HH.out.2.1 B e; omega⟩)
  clear hb1 hB
  obtain ⟨y0, y1, y2, y3⟩ := I1.out.cells4
  go_wp2_with fail
  clear y0 y1 y2 y3
  refine (begin_any HK.out H0.out (by omega)).mono ?_
  rintro e w2 ⟨X, rfl, hr, -⟩
  have R0 : Hid (Rn E S1 w1 w2 (n + 1) m X.kb σ' k') := Lib.hid ⟨⟨σ, _, X, rfl, hr, PW.out, HP.out⟩, hN⟩
  clear hr PW HP H0 I1
  generalize X.kb = kb at R0 ⊢
  clear X
  go_upto_region 3 with (fail)
  go_loopw [9] (fun i wr => ∃ j : Nat, j ≤ m ∧ i = .int .i64 j ∧ Rn E S1 w1 wr (n + 1 + 2 * j) (m - j) kb σ' k') (fun i _ => m - (intOf i).toNat)
  case atStart => exact ⟨0, Nat.zero_le _, rfl, R0.out⟩
  case round =>
    obtain ⟨j, hj, rfl, hR⟩ := hrel
    have HR := Lib.hid hR
    clear hR R0
    by_cases hlt : j < m
    · have e1 : m - j = (m - j - 1) + 1 := by omega
      rw [e1] at HR
      have hjz : (j : Int) < 500 := by omega
      clear e1
      go_wp2_with fail
      refine (HR.out.step (by omega)).mono ?_
      rintro e w3 ⟨rfl, r3⟩
      have R3 := Lib.hid r3
      clear r3
      go_wp2
      go_roundw
      case rel =>
        refine ⟨j + 1, by omega, by go_num, ?_⟩
        have := R3.out
        rw [show m - j - 1 = m - (j + 1) by omega, show n + 1 + 2 * j + 2 = n + 1 + 2 * (j + 1) by omega] at this
        exact this
      case measure => simp [intOf]; omega
    · obtain rfl : j = m := by omega
      rw [Nat.sub_self] at HR
      clear hlt
      go_wp2_with fail
      refine (HR.out.stop).mono ?_
      rintro e w3 ⟨rfl, r3⟩
      obtain ⟨X, rfl, rt, ho⟩ := r3.over
      have RT := Lib.hid rt
      have HO := Lib.hid ho
      clear r3 rt ho HR
      go_wp2_with fail
      refine (RT.out.answer HO.out).mono ?_
      rintro e w4 ⟨rfl, rt, c4⟩
      have RT4 := Lib.hid rt
      clear rt c4 RT
      have NV := Lib.hid (IsVs.new w4 (anL k'.a) 51)
      have CV : Hid (Ch Nil w4 (w4.alloc (Obj.cells #[.int .i64 (k'.a.e : Nat), .bool k'.a.ok, .int .u64 (k'.a.id : Nat), .int .u64 (k'.a.g : Nat), .slice none 0 0] 51))) := Lib.hid ((Ch.refl _ _).alloc _)
      go_upto_region 6 with (fail)
      change Hid (IsVs (w4.alloc (Obj.cells #[.int .i64 (k'.a.e : Nat), .bool k'.a.ok, .int .u64 (k'.a.id : Nat), .int .u64 (k'.a.g : Nat), .slice none 0 0] 51)) _ _) at NV
      generalize w4.alloc (Obj.cells #[.int .i64 (k'.a.e : Nat), .bool k'.a.ok, .int .u64 (k'.a.id : Nat), .int .u64 (k'.a.g : Nat), .slice none 0 0] 51) = w5 at NV CV ⊢
      obtain ⟨A, hA⟩ : ∃ A, A = w4.heap.size := ⟨_, rfl⟩
      rw [← hA] at NV ⊢
      have AB : Hid (A ≠ B) := Lib.hid (by have := HB.out; have := RT4.out.b.c.size; omega)
      clear hA
      have D1 : Ch Nil w5 w5.drew := (Ch.refl _ _).drew
      have RT6 := Lib.hid (RT4.out.quiet (CV.out.trans D1))
      have N6 := Lib.hid (NV.out.kept D1 (fun e => e))
      refine wp_region_held_drew (S := fun w' => w'.cell? ⟨A, 0, none⟩ = some (.int .i64 (k'.a.e : Nat)) ∧ w'.cell? ⟨A, 1, none⟩ = some (.bool k'.a.ok) ∧ w'.cell? ⟨A, 2, none⟩ = some (.int .u64 (k'.a.id : Nat)) ∧ w'.cell? ⟨A, 3, none⟩ = some (.int .u64 (k'.a.g : Nat)) ∧ w'.cell? ⟨A, 4, none⟩ = some (.slice none 0 0)) (by kernel_rfl) N6.out.cells5 (fun hHeld => ?_)
      clear D1 RT4 NV CV
      generalize w5.drew = w6 at *
      refine take_at (v := ?_) 0 (some 35) rfl (by kernel_rfl) (by kernel_rfl) (by kernel_rfl) (by kernel_rfl) (fun _ _ _ h => h) (Or.inl ⟨by rfl, ?_⟩) (by assumption) ?_
      rotate_left
      · intro w hSw; (try dsimp only at hSw); go_simp; try (with_reducible rfl)
      (try simp only [Act.put, List.setIfInBounds_toArray, List.set_cons_zero, List.set_cons_succ])
      refine take_at (v := ?_) 1 (some 36) rfl (by kernel_rfl) (by kernel_rfl) (by kernel_rfl) (by kernel_rfl) (fun _ _ _ h => h) (Or.inl ⟨by rfl, ?_⟩) (by assumption) ?_
      rotate_left
      · intro w hSw; (try dsimp only at hSw); go_simp; try (with_reducible rfl)
      (try simp only [Act.put, List.setIfInBounds_toArray, List.set_cons_zero, List.set_cons_succ])
      refine take_at (v := ?_) 2 (some 37) rfl (by kernel_rfl) (by kernel_rfl) (by kernel_rfl) (by kernel_rfl) (fun _ _ _ h => h) (Or.inl ⟨by rfl, ?_⟩) (by assumption) ?_
      rotate_left
      · intro w hSw; (try dsimp only at hSw); go_simp; try (with_reducible rfl)
      (try simp only [Act.put, List.setIfInBounds_toArray, List.set_cons_zero, List.set_cons_succ])
      refine take_at (v := ?_) 3 (some 38) rfl (by kernel_rfl) (by kernel_rfl) (by kernel_rfl) (by kernel_rfl) (fun _ _ _ h => h) (Or.inl ⟨by rfl, ?_⟩) (by assumption) ?_
      rotate_left
      · intro w hSw; (try dsimp only at hSw); go_simp; try (with_reducible rfl)
      (try simp only [Act.put, List.setIfInBounds_toArray, List.set_cons_zero, List.set_cons_succ])
      refine take_at (v := ?_) 4 (some 39) rfl (by kernel_rfl) (by kernel_rfl) (by kernel_rfl) (by kernel_rfl) (fun _ _ _ h => h) (Or.inl ⟨by rfl, ?_⟩) (by assumption) ?_
      rotate_left
      · intro w hSw; (try dsimp only at hSw); go_simp; try (with_reducible rfl)
      (try simp only [Act.put, List.setIfInBounds_toArray, List.set_cons_zero, List.set_cons_succ])
      refine take_at (v := ?_) 5 (some 40) rfl (by kernel_rfl) (by kernel_rfl) (by kernel_rfl) (by kernel_rfl) (fun _ _ _ h => h) (Or.inl ⟨by rfl, ?_⟩) (by assumption) ?_
      rotate_left
      · intro w hSw; (try dsimp only at hSw); go_simp; try (with_reducible rfl)
      (try simp only [Act.put, List.setIfInBounds_toArray, List.set_cons_zero, List.set_cons_succ])
      refine take_at (v := ?_) 6 (some 41) rfl (by kernel_rfl) (by kernel_rfl) (by kernel_rfl) (by kernel_rfl) (fun _ _ _ h => h) (Or.inl ⟨by rfl, ?_⟩) (by assumption) ?_
      rotate_left
      · intro w hSw; (try dsimp only at hSw); go_simp; try (with_reducible rfl)
      (try simp only [Act.put, List.setIfInBounds_toArray, List.set_cons_zero, List.set_cons_succ])
      refine take_at (v := ?_) 7 (some 42) rfl (by kernel_rfl) (by kernel_rfl) (by kernel_rfl) (by kernel_rfl) (fun _ _ _ h => h) (Or.inl ⟨by rfl, ?_⟩) (by assumption) ?_
      rotate_left
      · intro w hSw; (try dsimp only at hSw); go_simp; try (with_reducible rfl)
      (try simp only [Act.put, List.setIfInBounds_toArray, List.set_cons_zero, List.set_cons_succ])
      refine take_at (v := ?_) 8 (some 43) rfl (by kernel_rfl) (by kernel_rfl) (by kernel_rfl) (by kernel_rfl) (fun _ _ _ h => h) (Or.inl ⟨by rfl, ?_⟩) (by assumption) ?_
      rotate_left
      · intro w hSw; (try dsimp only at hSw); go_simp; try (with_reducible rfl)
      (try simp only [Act.put, List.setIfInBounds_toArray, List.set_cons_zero, List.set_cons_succ])
      refine take_at (v := ?_) 9 (some 44) rfl (by kernel_rfl) (by kernel_rfl) (by kernel_rfl) (by kernel_rfl) (fun _ _ _ h => h) (Or.inl ⟨by rfl, ?_⟩) (by assumption) ?_
      rotate_left
      · intro w hSw; (try dsimp only at hSw); go_simp; try (with_reducible rfl)
      (try simp only [Act.put, List.setIfInBounds_toArray, List.set_cons_zero, List.set_cons_succ])
      refine wpAnyH_ready (rs := [10]) (by kernel_rfl) (by simp) ?_
      refine AllReadyH.cons rfl (fun K hK => ?_) AllReadyH.nil
      go_simp
      have DN := RT6.out.done
      rw [decide_eq_true HO.out] at DN
      refine DN.mono ?_
      clear DN
      rintro e w7 ⟨rfl, c7⟩
      have N7 := Lib.hid (N6.out.kept c7 (fun e => e))
      have RT7 := Lib.hid (RT6.out.quiet c7)
      refine hK.out _ _ N7.out.cells5 (fun hHeld2 => ?_)
      clear hK K hHeld c7 N6 RT6
      have hHeld := hHeld2
      clear hHeld2
      (try simp only [Act.put, List.setIfInBounds_toArray, List.set_cons_zero, List.set_cons_succ])
      refine take_at (v := ?_) 11 (some 46) rfl (by kernel_rfl) (by kernel_rfl) (by kernel_rfl) (by kernel_rfl) (fun _ _ _ h => h) (Or.inl ⟨by rfl, ?_⟩) (by assumption) ?_
      rotate_left
      · intro w hSw; (try dsimp only at hSw); go_simp; try (with_reducible rfl)
      (try simp only [Act.put, List.setIfInBounds_toArray, List.set_cons_zero, List.set_cons_succ])
      have IB := Lib.hid (I2.out.kept RT7.out.b.c HB.out.2.2)
      obtain ⟨z0, z1, z2, z3, z4⟩ := IB.out.cells5
      have f0 := IB.out.b.fz 0
      have f1 := IB.out.b.fz 1
      have f2 := IB.out.b.fz 2
      have f3 := IB.out.b.fz 3
      have f4 := IB.out.b.fz 4
      refine wpAnyH_ready (rs := [12]) (by kernel_rfl) (by simp) ?_
      refine AllReadyH.cons rfl (fun K hK => ?_) AllReadyH.nil
      go_simp
      have cB := (setVs_tch B (anL k'.a) w7 0).ch
      have vB := IB.out.set (vs := anL k'.a) rfl
      have hfin := HH.out.1.box HH.out.2.2 CA.out RT7.out.b.bf HB.out cB
      have hS := (N7.out.kept cB (fun e => AB.out e)).cells5
      change Bf E S0 w0 (((((w7.setCell ⟨B, 0, none⟩ (.int .i64 (k'.a.e : Nat))).setCell ⟨B, 1, none⟩ (.bool k'.a.ok)).setCell ⟨B, 2, none⟩ (.int .u64 (k'.a.id : Nat))).setCell ⟨B, 3, none⟩ (.int .u64 (k'.a.g : Nat))).setCell ⟨B, 4, none⟩ (.slice none 0 0)) σ' _ at hfin
      change IsVs (((((w7.setCell ⟨B, 0, none⟩ (.int .i64 (k'.a.e : Nat))).setCell ⟨B, 1, none⟩ (.bool k'.a.ok)).setCell ⟨B, 2, none⟩ (.int .u64 (k'.a.id : Nat))).setCell ⟨B, 3, none⟩ (.int .u64 (k'.a.g : Nat))).setCell ⟨B, 4, none⟩ (.slice none 0 0)) B _ at vB
      refine hK.out _ _ hS (fun hHeld2 => ?_)
      clear hK K hHeld hS cB z0 z1 z2 z3 z4 f0 f1 f2 f3 f4
      generalize ((((w7.setCell ⟨B, 0, none⟩ (.int .i64 (k'.a.e : Nat))).setCell ⟨B, 1, none⟩ (.bool k'.a.ok)).setCell ⟨B, 2, none⟩ (.int .u64 (k'.a.id : Nat))).setCell ⟨B, 3, none⟩ (.int .u64 (k'.a.g : Nat))).setCell ⟨B, 4, none⟩ (.slice none 0 0) = w8 at *
      have hHeld := hHeld2
      clear hHeld2
      (try simp only [Act.put, List.setIfInBounds_toArray, List.set_cons_zero, List.set_cons_succ])
      refine take_at (v := ?_) 13 (some 5) rfl (by kernel_rfl) (by kernel_rfl) (by kernel_rfl) (by kernel_rfl) (fun _ _ _ h => h) (Or.inl ⟨by rfl, ?_⟩) (by assumption) ?_
      rotate_left
      · intro w hSw; (try dsimp only at hSw); go_simp; try (with_reducible rfl)
      (try simp only [Act.put, List.setIfInBounds_toArray, List.set_cons_zero, List.set_cons_succ])
      refine take_at (v := ?_) 14 (some 6) rfl (by kernel_rfl) (by kernel_rfl) (by kernel_rfl) (by kernel_rfl) (fun _ _ _ h => h) (Or.inl ⟨by rfl, ?_⟩) (by assumption) ?_
      rotate_left
      · intro w hSw; (try dsimp only at hSw); go_simp; try (with_reducible rfl)
      (try simp only [Act.put, List.setIfInBounds_toArray, List.set_cons_zero, List.set_cons_succ])
      refine wpAnyH_done (by kernel_rfl) ?_ _
      (try go_wp2)
      (try simp only [Exit.inBlock, Exit.then])
      refine bodyPost_ret (v := .tuple #[anV k'.a, .int .i64 (j : Nat), .bool true]) ?hr rfl ?hx
      case hx => exact ⟨rfl, hfin⟩
      case hr =>
        obtain ⟨d0, d1, d2, d3, d4⟩ := vB.cells5
        simp [results, Tryz.results20, go_sem, d0, d1, d2, d3, d4]
end
end Go.Proofs.YtnbdafmjcmmfpaaGreat

/-
  A new floor, as the laws on works use it; the statements' function 'plain'.
-/
namespace Verge
/-- a floor of which nothing was asked -/
def nilW : Wd := ⟨0, zeroR, fun _ => ⟨0, 0, fun _ => false, fun _ => tk0⟩, 0, false⟩
end Verge
namespace Go.Proofs.YtnbdafmjcmmfpaaGreat
open Go.RowKit Verge
attribute [local go_sem] Oper.semAt_some
set_option linter.unusedVariables false
set_option linter.unusedSimpArgs false
theorem floorNew16 (n cp rg rm : Nat) (kk ll : Int) (hok : cfOk ⟨n, cp, rg, rm, kk, ll⟩) (w : World) :
    Calls Tryz.prog 9 #[.agg #[.int .i64 (n : Int), .int .i64 (cp : Int), .int .i64 (rg : Int), .int .i64 (rm : Int), .int .i64 kk, .int .i64 ll]] w fun e w' => ∃ E : Ee, e = .returned (.tuple #[ptr E.F.f, .int .i64 0]) ∧ E.N = ⟨cp, rg, n⟩ ∧ E.lo = w.heap.size ∧ Bf E (fun j => w.heap.size ≤ j) w w' nilW 0 := by
  have n1 : 1 ≤ n ∧ n ≤ 4 := by have h : 1 ≤ (n : Int) ∧ (n : Int) ≤ 4 := hok 0 (by omega); omega
  refine (floorNew_ok n cp rg rm kk ll hok w).mono ?_
  rintro e w' ⟨F, rfl, hF, hn, h⟩
  have hsd : ∀ i, ∃ p : Nat × Nat × Nat × Option Addr, i < F.n → w'.cell? ⟨F.sh i, 0, none⟩ = some (.pointer (some ⟨p.1, 0, none⟩)) ∧ w'.cell? ⟨F.sh i, 1, none⟩ = some (.pointer (some ⟨p.2.2.1, 0, none⟩)) ∧ w'.cell? ⟨F.sh i, 2, none⟩ = some (.pointer p.2.2.2) ∧ RT.IsRing w' p.1 p.2.1 F.c.r.toNat 0 0 (fun _ => false) (fun _ => tk0) ∧ F.lk i ≤ p.1 ∧ p.1 < F.sh i ∧ F.lk i ≤ p.2.1 ∧ p.2.1 < F.sh i := fun i => by
    by_cases hi : i < F.n
    · obtain ⟨r, rs, k, v, hx⟩ := (h.sd i hi).x
      exact ⟨(r, rs, k, v), fun _ => hx⟩
    · exact ⟨(0, 0, 0, none), fun e => absurd e hi⟩
  obtain ⟨f, hf⟩ := Classical.skolem.1 hsd
  have er : F.c.r.toNat = rg := by rw [hF]; rfl
  rw [er] at hf
  have hlt : ∀ i, i < n → F.sh i < w'.heap.size := fun i hi => lt_of_cell (hf i (by omega)).1
  have hg := h.r.lt F.g (by simp [OwnS])
  have fl : Fl w' F ⟨0, 0, false, 0, []⟩ none 0 := ⟨h.fl, h.pc, h.pi, h.pb, h.pn, Row.nil _ _ _ _, fun _ => ⟨rfl, rfl⟩, ⟨_, h.o⟩, fun k hk => by simp [OwnS] at hk⟩
  refine ⟨⟨⟨cp, rg, n⟩, w.heap.size, w'.heap.size, F, fun i => (f i).1, fun i => (f i).2.1⟩, rfl, rfl, rfl, ⟨h.o, by rw [hF, hn], hn, n1.1, n1.2, ⟨hg, fun i hi => hlt i hi⟩, fun i hi => ?_⟩, ⟨[], none, 0, ⟨fl, h.r, fun i hi => ?_, fun i hi => ?_, h.s, fun j hj => by simp [OwnS] at hj⟩, Nat.zero_le _, fun j hj => by simp [OwnS] at hj⟩, ⟨Nat.le_refl _, Nat.le_refl _, fun i hi => Nat.le_refl _, fun k hk => Nat.le_refl _, fun k hk => by show okW 0 = true; decide⟩, fun j h1 h2 => h1, Nat.le_refl _, h.c.mono fun _ _ e => e.elim⟩
  · obtain ⟨-, -, -, r1, q1, q2, q3, q4⟩ := hf i (by rw [hn]; exact hi)
    exact ⟨q1, q2, q3, q4, r1.ne⟩
  · obtain ⟨c0, c1, c2, -⟩ := hf i (by rw [hn]; exact hi)
    exact ⟨_, _, ⟨c0, c1, c2⟩⟩
  · exact (hf i (by rw [hn]; exact hi)).2.2.2.1
set_option maxHeartbeats 4000000 in
set_option maxRecDepth 100000 in
theorem plain16 (s r : Int) (w : World) :
    Calls Tryz.prog 10 #[.int .i64 s, .int .i64 r] w fun e w' => e = .returned (.agg #[.int .i64 2, .int .i64 s, .int .i64 r, .int .i64 4, .int .i64 1, .int .i64 8]) ∧ Ch Nil w w' := by
  have hfld := fld0
  have cA : Ch Nil w (w.alloc (Obj.cells #[.int .i64 0, .int .i64 0, .int .i64 0, .int .i64 0, .int .i64 0, .int .i64 0] 30)) := (Ch.refl _ _).alloc _
  have bx : IsVs (w.alloc (Obj.cells #[.int .i64 0, .int .i64 0, .int .i64 0, .int .i64 0, .int .i64 0, .int .i64 0] 30)) w.heap.size [.int .i64 0, .int .i64 0, .int .i64 0, .int .i64 0, .int .i64 0, .int .i64 0] := IsVs.new w [.int .i64 0, .int .i64 0, .int .i64 0, .int .i64 0, .int .i64 0, .int .i64 0] 30
  have CA := Lib.hid cA
  clear cA
  go_enter Tryz.func10, Tryz.ntmps10
  go_upto_region 1 with (fail)
  generalize w.alloc (Obj.cells #[.int .i64 0, .int .i64 0, .int .i64 0, .int .i64 0, .int .i64 0, .int .i64 0] 30) = W at CA bx ⊢
  obtain ⟨B, hB⟩ : ∃ B, B = w.heap.size := ⟨_, rfl⟩
  rw [← hB] at bx ⊢
  have HB := Lib.hid hB
  have BX := Lib.hid bx
  clear hB bx
  obtain ⟨c0, c1, c2, c3, c4, c5⟩ := BX.out.cells6
  have f0 := BX.out.b.fz 0
  have f1 := BX.out.b.fz 1
  have f2 := BX.out.b.fz 2
  have f3 := BX.out.b.fz 3
  have f4 := BX.out.b.fz 4
  have f5 := BX.out.b.fz 5
  go_wp2
  have hr : IsVs (setVs W B 0 [.int .i64 2, .int .i64 s, .int .i64 r, .int .i64 4, .int .i64 1, .int .i64 8]) B [.int .i64 2, .int .i64 s, .int .i64 r, .int .i64 4, .int .i64 1, .int .i64 8] := BX.out.set rfl
  have hc : Ch Nil w (setVs W B 0 [.int .i64 2, .int .i64 s, .int .i64 r, .int .i64 4, .int .i64 1, .int .i64 8]) := setVs_nil B _ CA.out (Nat.le_of_eq HB.out.symm)
  (try simp only [Exit.inBlock, Exit.then])
  refine bodyPost_ret (v := .agg #[.int .i64 2, .int .i64 s, .int .i64 r, .int .i64 4, .int .i64 1, .int .i64 8]) ?hr rfl ⟨rfl, hc⟩
  case hr =>
    change (results _ _).run _ (setVs W B 0 [.int .i64 2, .int .i64 s, .int .i64 r, .int .i64 4, .int .i64 1, .int .i64 8]) = .ok _ (setVs W B 0 [.int .i64 2, .int .i64 s, .int .i64 r, .int .i64 4, .int .i64 1, .int .i64 8])
    generalize setVs W B 0 [.int .i64 2, .int .i64 s, .int .i64 r, .int .i64 4, .int .i64 1, .int .i64 8] = W5 at hr ⊢
    obtain ⟨d0, d1, d2, d3, d4, d5⟩ := hr.cells6
    simp [results, Tryz.results10, go_sem, d0, d1, d2, d3, d4, d5]
end Go.Proofs.YtnbdafmjcmmfpaaGreat

/-
  Works, without Go: one that runs alone, to its end.
-/
namespace Verge
set_option linter.unusedVariables false
open Go.Proofs.YtnbdafmjcmmfpaaGreat

theorem busy_cases16 (x : Rec) : busy x = 0 ∨ busy x = 1 := by unfold busy; split <;> simp
/-- the first slot that is free -/
theorem first_free16 (R : Nat → Rec) (n : Nat) (h : used R n < n) : ∃ f, f < n ∧ busy (R f) = 0 ∧ ∀ j, j < f → busy (R j) = 1 := by
  induction n with
  | zero => omega
  | succ n ih =>
    rw [used] at h
    by_cases hu : used R n < n
    · obtain ⟨f, h1, h2, h3⟩ := ih hu
      exact ⟨f, by omega, h2, h3⟩
    · have hl := used_le R n
      refine ⟨n, by omega, by omega, fun j hj => ?_⟩
      rcases busy_cases16 (R j) with hb | hb
      · exfalso
        have u := used_up R j ⟨1, 0, 0⟩ n hj
        have b1 : busy ⟨1, 0, 0⟩ = 1 := busy_of1 rfl
        have := used_le (upR R j ⟨1, 0, 0⟩) n
        omega
      · exact hb
/-- so many steps, none of them the last -/
def Steps (N : Nm) : Nat → Wd → Wk → Wd → Wk → Prop
  | 0, σ, k, σ', k' => σ' = σ ∧ k' = k
  | m + 1, σ, k, σ', k' => k.sg ≠ .over ∧ σ.cnt ≤ 64 ∧ Win N σ k ∧ Steps N m (stepC N σ k).1 (stepC N σ k).2 σ' k'
section
variable {N : Nm} {σ σ1 σ2 σ' : Wd} {k k1 k2 k' : Wk} {m m' : Nat}
theorem Steps.trans (h : Steps N m σ k σ1 k1) (g : Steps N m' σ1 k1 σ2 k2) : Steps N (m + m') σ k σ2 k2 := by
  induction m generalizing σ k with
  | zero => obtain ⟨rfl, rfl⟩ := h; rw [Nat.zero_add]; exact g
  | succ m ih =>
    obtain ⟨h1, h2, h3, h4⟩ := h
    rw [Nat.succ_add]
    exact ⟨h1, h2, h3, ih h4⟩
theorem Steps.path (h : Steps N m σ k σ' k') (ho : k'.sg = .over) : Path N m σ k σ' k' := by
  induction m generalizing σ k with
  | zero => obtain ⟨rfl, rfl⟩ := h; exact ⟨rfl, rfl, ho⟩
  | succ m ih => exact ⟨h.1, h.2.1, h.2.2.1, ih h.2.2.2⟩
theorem Steps.one (h1 : k.sg ≠ .over) (h2 : σ.cnt ≤ 64) (h3 : Win N σ k) (he : stepC N σ k = (σ', k')) : Steps N 1 σ k σ' k' := by
  refine ⟨h1, h2, h3, ?_⟩
  rw [he]
  exact ⟨rfl, rfl⟩
/-- the last step; the two of one that leaves -/
theorem steps_fin (h : k.sg = .fin) (hc : σ.cnt ≤ 64) : Steps N 1 σ k σ { k with sg := .over } :=
  Steps.one (by rw [h]; simp) hc (by unfold Win; rw [h]; trivial) (by unfold stepC; rw [h])
theorem steps_leave (h : k.sg = .leave) (hc : σ.cnt ≤ 64) : Steps N 2 σ k { σ with i := σ.i - 1 } { k with sg := .over } :=
  Steps.trans (m := 1) (m' := 1) (k1 := { k with sg := .fin }) (σ1 := { σ with i := σ.i - 1 }) (Steps.one (by rw [h]; simp) hc (by unfold Win; rw [h]; trivial) (by unfold stepC; rw [h])) (steps_fin rfl hc)
end
/-- words -/
theorem nx_go {w ev : Nat} {per : Bool} (hok : okW w = true) (h1 : 1 ≤ ev ∧ ev ≤ 10) (hm : mayF ev (w % 8) (per && !lsW w) = true) (hg : w / 256 + 1 ≤ 4294967295) :
    nxW w ev per = (mkW (behF ev (w % 8)) (w / 256 + (if growsF ev (w % 8) = true then 1 else 0)) (lastF ev (lsW w)), 0) := by
  unfold nxW
  rw [if_neg (by rw [hok]; simp), if_neg (by omega), if_neg (by rw [hm]; simp), if_neg (by split <;> omega)]
theorem nx_no {w ev : Nat} {per : Bool} (hok : okW w = true) (h1 : 1 ≤ ev ∧ ev ≤ 10) (hm : mayF ev (w % 8) (per && !lsW w) = false) : nxW w ev per = (w, 7) := by
  unfold nxW
  rw [if_neg (by rw [hok]; simp), if_neg (by omega), if_pos hm]
theorem nxZ_at (w ev : Nat) (per : Bool) : nxZ w (ev : Nat) per = nxW w ev per := nxZ_nat w ev per
theorem nx_alloc {w : Nat} (per : Bool) (hok : okW w = true) (h0 : w % 8 = 0) (hg : w / 256 + 1 ≤ 4294967295) : nxW w 1 per = (mkW 1 (w / 256 + 1) false, 0) := by
  rw [nx_go hok (by omega) (by rw [h0]; rfl) hg, h0]; rfl
theorem nx_busy {w : Nat} (per : Bool) (hok : okW w = true) (h0 : w % 8 ≠ 0) : nxW w 1 per = (w, 7) :=
  nx_no hok (by omega) (by unfold mayF; rw [if_pos rfl]; simpa using h0)
/-- what holds of a floor that nobody works on -/
structure Qt (N : Nm) (m : Nat) (σ : Wd) : Prop where
  us : used σ.R N.n = σ.cnt
  wd : ∀ k, k < N.n → okW (σ.R k).wd = true ∧ (σ.R k).wd / 256 ≤ m ∧ ((σ.R k).wd % 8 = 0 ∨ (σ.R k).wd % 8 = 2)
  rg : ∀ i, (σ.g i).fi = 0 ∧ (σ.g i).nx ≤ N.r ∧ ∀ p, (σ.g i).nx ≤ p → (σ.g i).P p = false
theorem Qt.up {N : Nm} {m m' : Nat} {σ : Wd} (h : Qt N m σ) (hm : m ≤ m') : Qt N m' σ := ⟨h.us, fun k hk => ⟨(h.wd k hk).1, Nat.le_trans (h.wd k hk).2.1 hm, (h.wd k hk).2.2⟩, h.rg⟩
theorem Qt.new (N : Nm) : Qt N 0 nilW := ⟨used_zero _, fun k hk => ⟨by show okW 0 = true; decide, by show 0 / 256 ≤ 0; omega, .inl rfl⟩, fun i => ⟨rfl, Nat.zero_le _, fun _ _ => rfl⟩⟩
theorem upR_twice (R : Nat → Rec) (k : Nat) (x y : Rec) : upR (upR R k x) k y = upR R k y := by
  funext i; unfold upR; split <;> rfl
theorem Qt.le {N : Nm} {m : Nat} {σ : Wd} (h : Qt N m σ) : σ.cnt ≤ N.n := by rw [← h.us]; exact used_le _ _
section
variable {N : Nm} {σ : Wd} {m kd id d p : Nat}
def anNo (e : Nat) : An := ⟨e, false, 0, 0⟩
/-- a request that looks, one record behind the other -/
theorem steps_scan (hc : σ.cnt ≤ 64) (k : Wk) (hk : k.sg = .aTake) (f : Nat) (hf : f < N.n) (h1 : k.q.st = 2) (h2 : k.q.ss = 0) (hb : ∀ j, j < f → okW (σ.R j).wd = true ∧ (σ.R j).wd % 8 ≠ 0) (x : Nat) : k.q.slot + x = f →
    Steps N x σ k σ { k with q := { k.q with slot := f } } := by
  induction x generalizing k with
  | zero => intro e; refine ⟨rfl, ?_⟩; rw [show f = k.q.slot by omega]
  | succ x ih =>
    intro e
    have hj : k.q.slot < f := by omega
    have hn : (nxW (σ.R k.q.slot).wd 1 (k.q.pd != 0)).2 ≠ 0 := by rw [nx_busy _ (hb _ hj).1 (hb _ hj).2]; simp
    have es : stepM N.n σ.cnt σ.R k.q = (σ.cnt, σ.R, { k.q with slot := k.q.slot + 1 }) := by
      unfold stepM
      rw [if_neg (by omega), if_neg (by omega), if_neg (by omega), if_neg hn, Nat.mod_eq_of_lt (by omega)]
    have e1 : stepC N σ k = (σ, { k with q := { k.q with slot := k.q.slot + 1 } }) := by
      unfold stepC
      rw [hk]
      dsimp only
      rw [es]
      dsimp only
      rw [if_neg (by rw [h2]; simp), if_neg (by rw [h2]; simp)]
    have := ih { k with q := { k.q with slot := k.q.slot + 1 } } hk h1 h2 (by dsimp only; omega)
    exact ⟨by rw [hk]; simp, hc, by unfold Win; rw [hk]; trivial, by rw [e1]; exact this⟩
theorem setNx_same (σ : Wd) (h : Nat) : setNx σ h (σ.g h).nx = σ := by
  unfold setNx
  have : upG σ.g h { σ.g h with nx := (σ.g h).nx } = σ.g := by
    funext i
    by_cases e : i = h
    · subst e; rw [upG_same]
    · rw [upG_other _ _ e]
  rw [this]
/-- a ticket that works alone: there is no room; there is -/
theorem steps_aWaitF {k : Wk} (hc : σ.cnt ≤ 64) (hk : k.sg = .aWait) (ht : k.t = t0) (hf : (σ.g (k.h N)).fi + N.r ≤ (σ.g (k.h N)).nx) :
    Steps N 2 σ k σ { k with t := ⟨1, 1, (σ.g (k.h N)).nx, false⟩, sg := .aGive } := by
  have e1 : stepC N σ k = (σ, { k with t := ⟨1, 0, (σ.g (k.h N)).nx, false⟩ }) := by
    unfold stepC; rw [hk]; dsimp only; unfold tickW; rw [ht]; unfold t0; rw [tick_choose]; dsimp only
    rw [setNx_same, if_neg (by simp), if_neg (by simp)]
  refine Steps.trans (m := 1) (m' := 1) (Steps.one (by rw [hk]; simp) hc (by unfold Win; rw [hk]; trivial) e1) (Steps.one (by dsimp only; rw [hk]; simp) hc (by unfold Win; dsimp only; rw [hk]; trivial) ?_)
  unfold stepC; dsimp only; rw [hk]; dsimp only; unfold tickW Wk.h; dsimp only
  have tf := tick_full N.r (σ.g (k.h N)).nx (σ.g (k.h N)).fi (σ.g (k.h N)).P hf
  unfold Wk.h at tf
  rw [tf]
  dsimp only
  rw [if_pos rfl]
  exact Prod.ext (setNx_same _ _) rfl
theorem steps_aWaitY {k : Wk} (hc : σ.cnt ≤ 64) (hk : k.sg = .aWait) (ht : k.t = t0) (hf : ¬ (σ.g (k.h N)).fi + N.r ≤ (σ.g (k.h N)).nx) (h1 : ¬ (σ.g (k.h N)).nx < (σ.g (k.h N)).fi) (h2 : (σ.g (k.h N)).P (σ.g (k.h N)).nx = false) :
    Steps N 3 σ k (setNx σ (k.h N) ((σ.g (k.h N)).nx + 1)) { k with t := ⟨2, 2, (σ.g (k.h N)).nx, false⟩, sg := .aSubmit } := by
  have e1 : stepC N σ k = (σ, { k with t := ⟨1, 0, (σ.g (k.h N)).nx, false⟩ }) := by
    unfold stepC; rw [hk]; dsimp only; unfold tickW; rw [ht]; unfold t0; rw [tick_choose]; dsimp only
    rw [setNx_same, if_neg (by simp), if_neg (by simp)]
  have e2 : stepC N σ { k with t := ⟨1, 0, (σ.g (k.h N)).nx, false⟩ } = (σ, { k with t := ⟨2, 0, (σ.g (k.h N)).nx, false⟩ }) := by
    unfold stepC; dsimp only; rw [hk]; dsimp only; unfold tickW Wk.h; dsimp only
    have := tick_go N.r (σ.g (k.h N)).nx (σ.g (k.h N)).fi (σ.g (k.h N)).P hf h1 h2
    unfold Wk.h at this
    rw [this]
    dsimp only
    rw [if_neg (by simp), if_neg (by simp)]
    exact Prod.ext (setNx_same _ _) rfl
  refine Steps.trans (m := 1) (m' := 2) (Steps.one (by rw [hk]; simp) hc (by unfold Win; rw [hk]; trivial) e1) ?_
  refine Steps.trans (m := 1) (m' := 1) (Steps.one (by dsimp only; rw [hk]; simp) hc (by unfold Win; dsimp only; rw [hk]; trivial) e2) (Steps.one (by dsimp only; rw [hk]; simp) hc (by unfold Win; dsimp only; rw [hk]; trivial) ?_)
  unfold stepC; dsimp only; rw [hk]; dsimp only; unfold tickW Wk.h; dsimp only
  rw [tick_take]
  dsimp only
  rw [if_neg (by simp), if_pos rfl]
theorem steps_rWaitF {k : Wk} (hc : σ.cnt ≤ 64) (hk : k.sg = .rWait) (ht : k.t = t0) (hf : (σ.g (k.h N)).fi + N.r ≤ (σ.g (k.h N)).nx) :
    Steps N 2 σ k σ (refW { k with t := ⟨1, 1, (σ.g (k.h N)).nx, false⟩ } 2 .leave) := by
  have e1 : stepC N σ k = (σ, { k with t := ⟨1, 0, (σ.g (k.h N)).nx, false⟩ }) := by
    unfold stepC; rw [hk]; dsimp only; unfold tickW; rw [ht]; unfold t0; rw [tick_choose]; dsimp only
    rw [setNx_same, if_neg (by simp), if_neg (by simp)]
  refine Steps.trans (m := 1) (m' := 1) (Steps.one (by rw [hk]; simp) hc (by unfold Win; rw [hk]; trivial) e1) (Steps.one (by dsimp only; rw [hk]; simp) hc (by unfold Win; dsimp only; rw [hk]; trivial) ?_)
  unfold stepC; dsimp only; rw [hk]; dsimp only; unfold tickW Wk.h; dsimp only
  have tf := tick_full N.r (σ.g (k.h N)).nx (σ.g (k.h N)).fi (σ.g (k.h N)).P hf
  unfold Wk.h at tf
  rw [tf]
  dsimp only
  rw [if_pos rfl]
  exact Prod.ext (setNx_same _ _) rfl
theorem steps_rWaitY {k : Wk} (hc : σ.cnt ≤ 64) (hk : k.sg = .rWait) (ht : k.t = t0) (hf : ¬ (σ.g (k.h N)).fi + N.r ≤ (σ.g (k.h N)).nx) (h1 : ¬ (σ.g (k.h N)).nx < (σ.g (k.h N)).fi) (h2 : (σ.g (k.h N)).P (σ.g (k.h N)).nx = false) :
    Steps N 3 σ k (setNx σ (k.h N) ((σ.g (k.h N)).nx + 1)) { k with t := ⟨2, 2, (σ.g (k.h N)).nx, false⟩, sg := .rAgain } := by
  have e1 : stepC N σ k = (σ, { k with t := ⟨1, 0, (σ.g (k.h N)).nx, false⟩ }) := by
    unfold stepC; rw [hk]; dsimp only; unfold tickW; rw [ht]; unfold t0; rw [tick_choose]; dsimp only
    rw [setNx_same, if_neg (by simp), if_neg (by simp)]
  have e2 : stepC N σ { k with t := ⟨1, 0, (σ.g (k.h N)).nx, false⟩ } = (σ, { k with t := ⟨2, 0, (σ.g (k.h N)).nx, false⟩ }) := by
    unfold stepC; dsimp only; rw [hk]; dsimp only; unfold tickW Wk.h; dsimp only
    have := tick_go N.r (σ.g (k.h N)).nx (σ.g (k.h N)).fi (σ.g (k.h N)).P hf h1 h2
    unfold Wk.h at this
    rw [this]
    dsimp only
    rw [if_neg (by simp), if_neg (by simp)]
    exact Prod.ext (setNx_same _ _) rfl
  refine Steps.trans (m := 1) (m' := 2) (Steps.one (by rw [hk]; simp) hc (by unfold Win; rw [hk]; trivial) e1) ?_
  refine Steps.trans (m := 1) (m' := 1) (Steps.one (by dsimp only; rw [hk]; simp) hc (by unfold Win; dsimp only; rw [hk]; trivial) e2) (Steps.one (by dsimp only; rw [hk]; simp) hc (by unfold Win; dsimp only; rw [hk]; trivial) ?_)
  unfold stepC; dsimp only; rw [hk]; dsimp only; unfold tickW Wk.h; dsimp only
  rw [tick_take]
  dsimp only
  rw [if_neg (by simp), if_pos rfl]
/-- may a Schedule, or a Periodic, be? -/
def addOk (kd d p : Nat) : Prop := kd = 1 ∨ (kd = 2 ∧ p ≠ 0 ∧ d + p ≤ 18446744073709551615)
theorem path_bad (hc : σ.cnt ≤ 64) (hb : p = 0 ∨ 18446744073709551615 < d + p) : Path N 2 σ (newW 2 id d p) σ { newW 2 id d p with a := anNo 1, sg := .over } := by
  refine Steps.path (Steps.trans (m := 1) (m' := 1) (Steps.one (σ' := σ) (k' := { newW 2 id d p with a := anNo 1, sg := .fin }) (by show sgOf 2 ≠ _; decide) hc trivial ?_) (steps_fin rfl hc)) rfl
  show (if _ ∨ _ then _ else _) = _
  rw [if_pos (show (newW 2 id d p).per = 0 ∨ 18446744073709551615 < (newW 2 id d p).d + (newW 2 id d p).per from hb)]
  rfl
theorem steps_enter (hc : σ.cnt ≤ 64) (hb : addOk kd d p) : Steps N 2 σ (newW kd id d p) { σ with i := σ.i + 1 } { newW kd id d p with sg := .aAsk } := by
  refine Steps.trans (m := 1) (m' := 1) (k1 := { newW kd id d p with sg := .aEnter }) (σ1 := σ) ?_ (Steps.one (by simp) hc trivial rfl)
  rcases hb with rfl | ⟨rfl, h1, h2⟩
  · exact Steps.one (by show sgOf 1 ≠ _; decide) hc trivial rfl
  · refine Steps.one (by show sgOf 2 ≠ _; decide) hc trivial ?_
    show (if _ ∨ _ then _ else _) = _
    rw [if_neg (show ¬ ((newW 2 id d p).per = 0 ∨ 18446744073709551615 < (newW 2 id d p).d + (newW 2 id d p).per) from by rintro (e | e); exact h1 e; have e' : 18446744073709551615 < d + p := e; omega)]
theorem wd_i (σ : Wd) : ({ ({ σ with i := σ.i + 1 } : Wd) with i := ({ σ with i := σ.i + 1 } : Wd).i - 1 } : Wd) = σ := by
  show ({ σ with i := σ.i + 1 - 1 } : Wd) = σ
  rw [Nat.add_sub_cancel]
theorem path_add_closed (hc : σ.cnt ≤ 64) (hb : addOk kd d p) (hcl : σ.cl = true) : Path N 5 σ (newW kd id d p) σ { newW kd id d p with a := anNo 3, sg := .over } := by
  have h1 := steps_enter (N := N) (id := id) hc hb
  have h2 : Steps N 1 { σ with i := σ.i + 1 } { newW kd id d p with sg := .aAsk } { σ with i := σ.i + 1 } { newW kd id d p with a := anNo 3, sg := .leave } := Steps.one (by simp) hc trivial (by
    show (if _ = true then _ else _) = _
    rw [if_pos hcl]; rfl)
  have h3 := steps_leave (N := N) (σ := { σ with i := σ.i + 1 }) (k := { newW kd id d p with a := anNo 3, sg := .leave }) rfl hc
  have := Steps.path ((h1.trans h2).trans h3) rfl
  rwa [wd_i] at this
/-- what a Schedule's work is while it asks -/
def kTake (kd id d p : Nat) : Wk := { newW kd id d p with q := ⟨(newW kd id d p).per, 0, 0, 0, 0, 0⟩, sg := .aTake }
theorem steps_ask (hc : σ.cnt ≤ 64) (hb : addOk kd d p) (hcl : σ.cl = false) : Steps N 3 σ (newW kd id d p) { σ with i := σ.i + 1 } (kTake kd id d p) := by
  refine Steps.trans (m := 2) (m' := 1) (steps_enter (N := N) (id := id) hc hb) (Steps.one (by simp) hc trivial ?_)
  show (if _ = true then _ else _) = _
  rw [if_neg (show ¬ σ.cl = true from by rw [hcl]; simp)]
  rfl
theorem path_add_full (hc : σ.cnt ≤ 64) (hb : addOk kd d p) (hcl : σ.cl = false) (hf : σ.cnt = N.n) : Path N 6 σ (newW kd id d p) σ { kTake kd id d p with q := ⟨(newW kd id d p).per, 0, 1, σ.cnt, 0, 0⟩, a := anNo 2, sg := .over } := by
  have h1 := steps_ask (N := N) (id := id) hc hb hcl
  have h2 : Steps N 1 { σ with i := σ.i + 1 } (kTake kd id d p) { σ with i := σ.i + 1 } { kTake kd id d p with q := ⟨(newW kd id d p).per, 0, 1, σ.cnt, 0, 0⟩, a := anNo 2, sg := .leave } := by
    refine Steps.one (by simp [kTake]) hc trivial ?_
    have es : stepM N.n σ.cnt σ.R ⟨(newW kd id d p).per, 0, 0, 0, 0, 0⟩ = (σ.cnt, σ.R, ⟨(newW kd id d p).per, 0, 1, σ.cnt, 0, 0⟩) := by
      unfold stepM; rw [if_neg (by simp), if_pos rfl, if_pos hf]
    unfold kTake stepC
    dsimp only
    rw [es]
    dsimp only
    rw [if_pos rfl]
    rfl
  have h3 := steps_leave (N := N) (σ := { σ with i := σ.i + 1 }) (k := { kTake kd id d p with q := ⟨(newW kd id d p).per, 0, 1, σ.cnt, 0, 0⟩, a := anNo 2, sg := .leave }) rfl hc
  have := Steps.path ((h1.trans h2).trans h3) rfl
  rwa [wd_i] at this
/-- a request that holds a record -/
def idAt (R : Nat → Rec) (f : Nat) : Nat := ((R f).gv + 1) * 64 + f
def gnAt (R : Nat → Rec) (f : Nat) : Nat := (R f).wd / 256 + 1
def kHold (kd id d p cnt f : Nat) (R : Nat → Rec) : Wk := { newW kd id d p with q := ⟨(newW kd id d p).per, 2, 2, cnt, f, idAt R f⟩, aid := idAt R f, asl := f, t := t0, sg := .aWait }
def sHold (σ : Wd) (f per : Nat) : Wd := { σ with i := σ.i + 1, cnt := σ.cnt + 1, R := upR σ.R f ⟨mkW 1 (gnAt σ.R f) false, (σ.R f).gv + 1, per⟩ }
theorem steps_hold (hN : N.n ≤ 64) (hb : addOk kd d p) (hcl : σ.cl = false) (hlt : σ.cnt < N.n) {f : Nat} (hf : f < N.n) (h0 : okW (σ.R f).wd = true ∧ (σ.R f).wd % 8 = 0) (hg : gnAt σ.R f ≤ 4294967295) (hbz : ∀ j, j < f → okW (σ.R j).wd = true ∧ (σ.R j).wd % 8 ≠ 0) :
    Steps N (6 + f) σ (newW kd id d p) (sHold σ f (newW kd id d p).per) (kHold kd id d p σ.cnt f σ.R) := by
  have h1 := steps_ask (N := N) (σ := σ) (id := id) (by omega) hb hcl
  generalize hs : ({ σ with i := σ.i + 1 } : Wd) = s1 at h1
  have c1 : s1.cnt = σ.cnt := by rw [← hs]
  have r1 : s1.R = σ.R := by rw [← hs]
  have es1 : stepM N.n s1.cnt s1.R ⟨(newW kd id d p).per, 0, 0, 0, 0, 0⟩ = (s1.cnt, s1.R, ⟨(newW kd id d p).per, 1, 0, s1.cnt, 0, 0⟩) := by
    unfold stepM; rw [if_neg (by simp), if_pos rfl, if_neg (by omega)]
  have e1 : stepC N s1 (kTake kd id d p) = (s1, { kTake kd id d p with q := ⟨(newW kd id d p).per, 1, 0, s1.cnt, 0, 0⟩ }) := by
    unfold kTake stepC; dsimp only; rw [es1]; dsimp only; rw [if_neg (by simp), if_neg (by simp)]
  have es2 : stepM N.n s1.cnt s1.R ⟨(newW kd id d p).per, 1, 0, s1.cnt, 0, 0⟩ = (s1.cnt + 1, s1.R, ⟨(newW kd id d p).per, 2, 0, s1.cnt, 0, 0⟩) := by
    unfold stepM; rw [if_neg (by simp), if_neg (by simp), if_pos rfl, if_pos rfl]
  have e2 : stepC N s1 { kTake kd id d p with q := ⟨(newW kd id d p).per, 1, 0, s1.cnt, 0, 0⟩ } = ({ s1 with cnt := s1.cnt + 1 }, { kTake kd id d p with q := ⟨(newW kd id d p).per, 2, 0, s1.cnt, 0, 0⟩ }) := by
    unfold kTake stepC; dsimp only; rw [es2]; dsimp only; rw [if_neg (by simp), if_neg (by simp)]
  have q1 : Steps N 1 s1 (kTake kd id d p) s1 _ := Steps.one (by simp [kTake]) (by omega) trivial e1
  have q2 : Steps N 1 s1 { kTake kd id d p with q := ⟨(newW kd id d p).per, 1, 0, s1.cnt, 0, 0⟩ } _ _ := Steps.one (by simp [kTake]) (by omega) trivial e2
  have q3 := steps_scan (N := N) (σ := { s1 with cnt := s1.cnt + 1 }) (by show s1.cnt + 1 ≤ 64; omega) { kTake kd id d p with q := ⟨(newW kd id d p).per, 2, 0, s1.cnt, 0, 0⟩ } rfl f hf rfl rfl (by show ∀ j, j < f → okW (s1.R j).wd = true ∧ _; rw [r1]; exact hbz) f (Nat.zero_add f)
  have al := nx_alloc ((newW kd id d p).per != 0) h0.1 h0.2 hg
  have es4 : stepM N.n (s1.cnt + 1) s1.R ⟨(newW kd id d p).per, 2, 0, s1.cnt, f, 0⟩ = (s1.cnt + 1, upR s1.R f ⟨mkW 1 (gnAt σ.R f) false, (σ.R f).gv + 1, (newW kd id d p).per⟩, ⟨(newW kd id d p).per, 2, 2, s1.cnt, f, idAt σ.R f⟩) := by
    unfold stepM
    rw [if_neg (by simp), if_neg (by simp), if_neg (by simp), r1]
    dsimp only
    rw [al, if_pos rfl]
    rfl
  have q4 : Steps N 1 { s1 with cnt := s1.cnt + 1 } { kTake kd id d p with q := ⟨(newW kd id d p).per, 2, 0, s1.cnt, f, 0⟩ } (sHold σ f (newW kd id d p).per) (kHold kd id d p σ.cnt f σ.R) := by
    refine Steps.one (by simp [kTake]) (by show s1.cnt + 1 ≤ 64; omega) trivial ?_
    unfold kTake stepC
    dsimp only
    rw [es4]
    dsimp only
    rw [if_neg (by simp), if_pos rfl]
    refine Prod.ext ?_ ?_
    · unfold sHold
      dsimp only
      rw [← hs]
    · unfold kHold
      dsimp only
      have : idAt σ.R f % 64 = f := by unfold idAt; omega
      rw [this, c1]
  have := (((h1.trans q1).trans q2).trans q3).trans q4
  rwa [show 3 + 1 + 1 + f + 1 = 6 + f by omega] at this
end
end Verge

/-
  Works, without Go: what a call alone comes to, whichever.
-/
namespace Verge
set_option linter.unusedVariables false
open Go.Proofs.YtnbdafmjcmmfpaaGreat
theorem nx_mk {s g ev : Nat} {l per : Bool} (hs : s ≤ 6) (h1 : 1 ≤ ev ∧ ev ≤ 10) (hg : g + 1 ≤ 4294967295) (hm : mayF ev s (per && !l) = true) :
    nxW (mkW s g l) ev per = (mkW (behF ev s) (g + (if growsF ev s = true then 1 else 0)) (lastF ev l), 0) := by
  have h := nx_go (w := mkW s g l) (ev := ev) (per := per) (mkW_ok s g l hs (by omega)) h1 (by rw [mkW_st _ _ _ hs, mkW_ls _ _ _ hs]; exact hm) (by rw [mkW_gn _ _ _ hs]; exact hg)
  rw [mkW_st _ _ _ hs, mkW_gn _ _ _ hs, mkW_ls _ _ _ hs] at h
  exact h
theorem gn_mk {s g : Nat} {l : Bool} (hs : s ≤ 6) (hg : g ≤ 4294967295) : gnW (mkW s g l) = g := by
  unfold gnW; rw [if_pos (mkW_ok s g l hs hg), mkW_gn _ _ _ hs]
theorem hap_at {R : Nat → Rec} {s : Nat} {ev : Int} {v : Nat} (h : nxZ (R s).wd ev ((R s).pd != 0) = (v, 0)) : hapR R s ev = upR R s ⟨v, (R s).gv, (R s).pd⟩ ∧ hapW R s ev = v := by
  unfold hapR hapW
  rw [h]
  exact ⟨if_pos rfl, if_pos rfl⟩
section
variable {N : Nm} {σ : Wd} {m kd id d p : Nat}
theorem ring_eta (σ : Wd) (h : Nat) (x : Rg) (y : Nat) : upG (upG σ.g h { σ.g h with nx := y }) h x = upG σ.g h x := by
  funext i; unfold upG; split <;> rfl
/-- there is no place in the ring: the record is given back -/
theorem path_add_back (hN : N.n ≤ 64) (hb : addOk kd d p) (hcl : σ.cl = false) (hlt : σ.cnt < N.n) {f : Nat} (hf : f < N.n) (h0 : okW (σ.R f).wd = true ∧ (σ.R f).wd % 8 = 0) (hg : gnAt σ.R f + 1 ≤ 4294967295) (hbz : ∀ j, j < f → okW (σ.R j).wd = true ∧ (σ.R j).wd % 8 ≠ 0)
    (hr : (σ.g (f % N.m)).fi + N.r ≤ (σ.g (f % N.m)).nx) : ∃ k', Path N (12 + f) σ (newW kd id d p) { σ with R := upR σ.R f ⟨mkW 0 (gnAt σ.R f) false, (σ.R f).gv + 1, (newW kd id d p).per⟩ } k' ∧ k'.a = anNo 2 := by
  have h1 := steps_hold (N := N) (σ := σ) (id := id) hN hb hcl hlt hf h0 (by omega) hbz
  generalize hper : (newW kd id d p).per = per at h1 ⊢
  have hc : (sHold σ f per).cnt ≤ 64 := by show σ.cnt + 1 ≤ 64; omega
  have h2 := steps_aWaitF (N := N) (σ := sHold σ f per) (k := kHold kd id d p σ.cnt f σ.R) hc rfl rfl hr
  have hz : nxZ ((sHold σ f per).R f).wd 9 (((sHold σ f per).R f).pd != 0) = (mkW 0 (gnAt σ.R f) false, 0) := by
    unfold sHold
    dsimp only
    rw [upR_same]
    exact (nxZ_at _ 9 _).trans (nx_mk (by omega) (by omega) hg rfl)
  have hap := hap_at hz
  have eR : hapR (sHold σ f per).R f 9 = upR σ.R f ⟨mkW 0 (gnAt σ.R f) false, (σ.R f).gv + 1, per⟩ := by
    rw [hap.1]
    unfold sHold
    dsimp only
    rw [upR_twice, upR_same]
  generalize hk2 : ({ kHold kd id d p σ.cnt f σ.R with t := ⟨1, 1, ((sHold σ f per).g ((kHold kd id d p σ.cnt f σ.R).h N)).nx, false⟩, sg := .aGive } : Wk) = k2 at h2
  have ea : k2.asl = f := by rw [← hk2]; rfl
  have eg : k2.sg = .aGive := by rw [← hk2]
  have h3 : Steps N 1 (sHold σ f per) k2 { sHold σ f per with R := upR σ.R f ⟨mkW 0 (gnAt σ.R f) false, (σ.R f).gv + 1, per⟩ } (refW k2 2 .aDrop) := Steps.one (by rw [eg]; simp) hc (by unfold Win; rw [eg]; trivial) (by
    unfold stepC; rw [eg]; dsimp only; rw [ea, eR])
  have h4 : Steps N 1 { sHold σ f per with R := upR σ.R f ⟨mkW 0 (gnAt σ.R f) false, (σ.R f).gv + 1, per⟩ } (refW k2 2 .aDrop) { σ with i := σ.i + 1, R := upR σ.R f ⟨mkW 0 (gnAt σ.R f) false, (σ.R f).gv + 1, per⟩ } { refW k2 2 .aDrop with sg := .leave } := Steps.one (by simp [refW]) hc trivial (by
    refine Prod.ext ?_ rfl
    show ({ sHold σ f per with R := _, cnt := σ.cnt + 1 - 1 } : Wd) = _
    rw [Nat.add_sub_cancel]; rfl)
  have h5 := steps_leave (N := N) (σ := { σ with i := σ.i + 1, R := upR σ.R f ⟨mkW 0 (gnAt σ.R f) false, (σ.R f).gv + 1, per⟩ }) (k := { refW k2 2 .aDrop with sg := .leave }) rfl (by show σ.cnt ≤ 64; omega)
  have := Steps.path ((((h1.trans h2).trans h3).trans h4).trans h5) rfl
  rw [show 6 + f + 2 + 1 + 1 + 2 = 12 + f by omega] at this
  have e : ({ ({ σ with i := σ.i + 1, R := upR σ.R f ⟨mkW 0 (gnAt σ.R f) false, (σ.R f).gv + 1, per⟩ } : Wd) with i := σ.i + 1 - 1 } : Wd) = { σ with R := upR σ.R f ⟨mkW 0 (gnAt σ.R f) false, (σ.R f).gv + 1, per⟩ } := by rw [Nat.add_sub_cancel]
  rw [e] at this
  exact ⟨_, this, rfl⟩
/-- a timer is there -/
def addR (σ : Wd) (f per : Nat) : Nat → Rec := upR σ.R f ⟨mkW 2 (gnAt σ.R f) false, (σ.R f).gv + 1, per⟩
def putG (σ : Wd) (h : Nat) (u : Tk) : Nat → Rg := upG σ.g h ⟨(σ.g h).nx + 1, (σ.g h).fi, upd (σ.g h).P (σ.g h).nx true, upd (σ.g h).V (σ.g h).nx u⟩
theorem fill_set (σ : Wd) (h x : Nat) (u : Tk) : fillW (setNx σ h ((σ.g h).nx + 1)) h (σ.g h).nx u = { σ with g := putG σ h u } := by
  unfold fillW setNx putG
  dsimp only
  rw [upG_same]
  dsimp only
  rw [ring_eta]
theorem path_add_ok (hN : N.n ≤ 64) (hb : addOk kd d p) (hcl : σ.cl = false) (hlt : σ.cnt < N.n) {f : Nat} (hf : f < N.n) (h0 : okW (σ.R f).wd = true ∧ (σ.R f).wd % 8 = 0) (hg : gnAt σ.R f + 1 ≤ 4294967295) (hbz : ∀ j, j < f → okW (σ.R j).wd = true ∧ (σ.R j).wd % 8 ≠ 0)
    (hr : ¬ (σ.g (f % N.m)).fi + N.r ≤ (σ.g (f % N.m)).nx) (hx : ¬ (σ.g (f % N.m)).nx < (σ.g (f % N.m)).fi) (hP : (σ.g (f % N.m)).P (σ.g (f % N.m)).nx = false) :
    ∃ k', Path N (13 + f) σ (newW kd id d p) { σ with cnt := σ.cnt + 1, R := addR σ f (newW kd id d p).per, g := putG σ (f % N.m) ⟨idAt σ.R f, f, gnAt σ.R f, d, (newW kd id d p).per⟩ } k' ∧ k'.a = ⟨0, true, idAt σ.R f, gnAt σ.R f⟩ := by
  have h1 := steps_hold (N := N) (σ := σ) (id := id) hN hb hcl hlt hf h0 (by omega) hbz
  have hper : (newW kd id d p).per = (kHold kd id d p σ.cnt f σ.R).per := rfl
  generalize hper2 : (newW kd id d p).per = per at h1 hper ⊢
  have hc : (sHold σ f per).cnt ≤ 64 := by show σ.cnt + 1 ≤ 64; omega
  have h2 := steps_aWaitY (N := N) (σ := sHold σ f per) (k := kHold kd id d p σ.cnt f σ.R) hc rfl rfl hr hx hP
  have hz : nxZ ((sHold σ f per).R f).wd 2 (((sHold σ f per).R f).pd != 0) = (mkW 2 (gnAt σ.R f) false, 0) := by
    unfold sHold
    dsimp only
    rw [upR_same]
    exact (nxZ_at _ 2 _).trans (nx_mk (by omega) (by omega) hg rfl)
  have hap := hap_at hz
  have eR : hapR (sHold σ f per).R f 2 = addR σ f per := by
    rw [hap.1]
    unfold sHold addR
    dsimp only
    rw [upR_twice, upR_same]
  have eG : gnW (hapW (sHold σ f per).R f 2) = gnAt σ.R f := by rw [hap.2]; exact gn_mk (by omega) (by omega)
  generalize hk2 : ({ kHold kd id d p σ.cnt f σ.R with t := ⟨2, 2, ((sHold σ f per).g ((kHold kd id d p σ.cnt f σ.R).h N)).nx, false⟩, sg := .aSubmit } : Wk) = k2 at h2
  have ea : k2.asl = f := by rw [← hk2]; rfl
  have eg : k2.sg = .aSubmit := by rw [← hk2]
  have ei : k2.aid = idAt σ.R f := by rw [← hk2]; rfl
  have ed : k2.d = d := by rw [← hk2]; rfl
  have ep : k2.per = per := by rw [← hk2]; exact hper.symm
  have et : k2.t.pos = (σ.g (f % N.m)).nx := by rw [← hk2]; rfl
  have eh : (kHold kd id d p σ.cnt f σ.R).h N = f % N.m := rfl
  have eh2 : k2.h N = f % N.m := by unfold Wk.h; rw [ea]
  rw [eh] at h2
  generalize hs2 : setNx (sHold σ f per) (f % N.m) (((sHold σ f per).g (f % N.m)).nx + 1) = s2 at h2
  have r2 : s2.R = (sHold σ f per).R := by rw [← hs2]; rfl
  have c2 : s2.cnt = σ.cnt + 1 := by rw [← hs2]; rfl
  have h3 : Steps N 1 s2 k2 { s2 with R := addR σ f per } { k2 with sg := .aFill (gnAt σ.R f) } := Steps.one (by rw [eg]; simp) (by rw [c2]; omega) (by unfold Win; rw [eg]; trivial) (by
    unfold stepC; rw [eg]; dsimp only; rw [ea, r2, eR, eG])
  have g2 : s2.g (f % N.m) = { σ.g (f % N.m) with nx := (σ.g (f % N.m)).nx + 1 } := by rw [← hs2]; unfold setNx; dsimp only; rw [upG_same]; rfl
  have h4 : Steps N 1 { s2 with R := addR σ f per } { k2 with sg := .aFill (gnAt σ.R f) } { σ with i := σ.i + 1, cnt := σ.cnt + 1, R := addR σ f per, g := putG σ (f % N.m) ⟨idAt σ.R f, f, gnAt σ.R f, d, per⟩ } { k2 with t := filled k2.t, a := ⟨0, true, idAt σ.R f, gnAt σ.R f⟩, sg := .leave } := by
    refine Steps.one (by simp) (by show s2.cnt ≤ 64; rw [c2]; omega) ?_ ?_
    · show (s2.g (k2.h N)).fi ≤ k2.t.pos ∧ k2.t.pos < (s2.g (k2.h N)).fi + N.r
      rw [eh2, g2, et]
      dsimp only
      omega
    · show (fillW { s2 with R := addR σ f per } (k2.h N) k2.t.pos ⟨k2.aid, k2.asl, gnAt σ.R f, k2.d, k2.per⟩, { k2 with t := filled k2.t, a := ⟨0, true, k2.aid, gnAt σ.R f⟩, sg := .leave }) = _
      rw [eh2, et, ei, ea, ed, ep, ← hs2]
      refine Prod.ext ?_ rfl
      have := fill_set { σ with i := σ.i + 1, cnt := σ.cnt + 1, R := addR σ f per } (f % N.m) 0 ⟨idAt σ.R f, f, gnAt σ.R f, d, per⟩
      exact this
  have h5 := steps_leave (N := N) (σ := { σ with i := σ.i + 1, cnt := σ.cnt + 1, R := addR σ f per, g := putG σ (f % N.m) ⟨idAt σ.R f, f, gnAt σ.R f, d, per⟩ }) (k := { k2 with t := filled k2.t, a := ⟨0, true, idAt σ.R f, gnAt σ.R f⟩, sg := .leave }) rfl (by show σ.cnt + 1 ≤ 64; omega)
  have := Steps.path ((((h1.trans h2).trans h3).trans h4).trans h5) rfl
  rw [show 6 + f + 3 + 1 + 1 + 2 = 13 + f by omega] at this
  have e : ({ ({ σ with i := σ.i + 1, cnt := σ.cnt + 1, R := addR σ f per, g := putG σ (f % N.m) ⟨idAt σ.R f, f, gnAt σ.R f, d, per⟩ } : Wd) with i := σ.i + 1 - 1 } : Wd) = { σ with cnt := σ.cnt + 1, R := addR σ f per, g := putG σ (f % N.m) ⟨idAt σ.R f, f, gnAt σ.R f, d, per⟩ } := by rw [Nat.add_sub_cancel]
  rw [e] at this
  exact ⟨_, this, rfl⟩
/-- a Cancel, a Stop -/
theorem path_e_closed (hc : σ.cnt ≤ 64) (hk : 4 ≤ kd) (hcl : σ.cl = true) : ∃ k', Path N 2 σ (newW kd id d p) σ k' ∧ k'.a = anNo 3 := by
  have hs : (newW kd id d p).sg = .eBegin := by unfold newW sgOf; dsimp only; rw [if_neg (by omega), if_neg (by omega), if_neg (by omega)]
  have h1 : Steps N 1 σ (newW kd id d p) σ { newW kd id d p with a := anNo 3, sg := .fin } := Steps.one (by rw [hs]; simp) hc (by unfold Win; rw [hs]; trivial) (by
    unfold stepC; rw [hs]; dsimp only; rw [if_pos hcl]; rfl)
  exact ⟨_, Steps.path (h1.trans (steps_fin rfl hc)) rfl, rfl⟩
theorem steps_e (hc : σ.cnt ≤ 64) (hk : 4 ≤ kd) (hcl : σ.cl = false) : Steps N 1 σ (newW kd id d p) σ { newW kd id d p with sg := .eFind } := by
  have hs : (newW kd id d p).sg = .eBegin := by unfold newW sgOf; dsimp only; rw [if_neg (by omega), if_neg (by omega), if_neg (by omega)]
  exact Steps.one (by rw [hs]; simp) hc (by unfold Win; rw [hs]; trivial) (by unfold stepC; rw [hs]; dsimp only; rw [if_neg (by rw [hcl]; simp)])
theorem look_no {k on : Wk} {ev : Int} {gone : Sg} (h : wasW N σ.R k.id = false ∨ mayW σ.R k.id ev = false) : lookW N σ k ev gone on = refW k (if wasW N σ.R k.id = false then 1 else 0) gone := by
  unfold lookW
  by_cases e : wasW N σ.R k.id = false
  · rw [if_pos e, if_pos e]
  · rw [if_neg e, if_neg e, if_pos (h.resolve_left e)]
theorem look_on {k on : Wk} {ev : Int} {gone : Sg} (h1 : wasW N σ.R k.id = true) (h2 : mayW σ.R k.id ev = true) : lookW N σ k ev gone on = on := by
  unfold lookW; rw [if_neg (by rw [h1]; simp), if_neg (by rw [h2]; simp)]
theorem path_e_no (hc : σ.cnt ≤ 64) (hk : 4 ≤ kd) (hcl : σ.cl = false) (h : wasW N σ.R id = false ∨ mayW σ.R id (newW kd id d p).ev = false) : ∃ k', Path N 3 σ (newW kd id d p) σ k' ∧ k'.a = anNo (if wasW N σ.R id = false then 1 else 0) := by
  have h2 : Steps N 1 σ { newW kd id d p with sg := .eFind } σ (refW { newW kd id d p with sg := .eFind } (if wasW N σ.R id = false then 1 else 0) .fin) := Steps.one (by simp) hc trivial (by
    show (σ, lookW N σ _ _ _ _) = _
    rw [look_no h]; rfl)
  exact ⟨_, Steps.path (((steps_e hc hk hcl).trans h2).trans (steps_fin rfl hc)) rfl, rfl⟩
/-- a word that may be looked on -/
theorem may_of {R : Nat → Rec} {ev : Int} (h : mayW R id ev = true) : (nxZ (R (id % 64)).wd ev ((R (id % 64)).pd != 0)).2 = 0 ∧ id / 64 = (R (id % 64)).gv := by
  unfold mayW at h; rw [decide_eq_true_eq] at h; exact h
theorem steps_strike (hc : σ.cnt ≤ 64) (hk : 4 ≤ kd) (hcl : σ.cl = false) (h1 : wasW N σ.R id = true) (h2 : mayW σ.R id (newW kd id d p).ev = true) {v : Nat} (hv : nxZ (σ.R (id % 64)).wd (newW kd id d p).ev ((σ.R (id % 64)).pd != 0) = (v, 0)) :
    Steps N 3 σ (newW kd id d p) { σ with R := upR σ.R (id % 64) ⟨v, (σ.R (id % 64)).gv, (σ.R (id % 64)).pd⟩ } (onRet { newW kd id d p with sg := .eStrike (id % 64) (σ.R (id % 64)).wd } (gnW v) (if kd = 4 then .eRelease (id % 64) else .fin)) := by
  have g2 : Steps N 1 σ { newW kd id d p with sg := .eFind } σ { newW kd id d p with sg := .eStrike (id % 64) (σ.R (id % 64)).wd } := Steps.one (by simp) hc trivial (by
    show (σ, lookW N σ _ _ _ _) = _
    rw [look_on h1 h2]; rfl)
  have hap := hap_at hv
  have g3 : Steps N 1 σ { newW kd id d p with sg := .eStrike (id % 64) (σ.R (id % 64)).wd } { σ with R := upR σ.R (id % 64) ⟨v, (σ.R (id % 64)).gv, (σ.R (id % 64)).pd⟩ } (onRet { newW kd id d p with sg := .eStrike (id % 64) (σ.R (id % 64)).wd } (gnW v) (if kd = 4 then .eRelease (id % 64) else .fin)) := Steps.one (by simp) hc trivial (by
    show (if tryW σ.R (id % 64) (σ.R (id % 64)).wd (newW kd id d p).ev = true then _ else _) = _
    rw [if_pos (by unfold tryW; rw [decide_eq_true_eq]; exact ⟨(may_of h2).1, rfl⟩)]
    show (({ σ with R := hapR σ.R (id % 64) (newW kd id d p).ev } : Wd), onRet { newW kd id d p with sg := .eStrike (id % 64) (σ.R (id % 64)).wd } (gnW (hapW σ.R (id % 64) (newW kd id d p).ev)) (if kd = 4 then .eRelease (id % 64) else .fin)) = _
    rw [hap.1, hap.2])
  exact ((steps_e hc hk hcl).trans g2).trans g3
theorem path_stop (hc : σ.cnt ≤ 64) (hcl : σ.cl = false) (h1 : wasW N σ.R id = true) (h2 : mayW σ.R id 7 = true) {v : Nat} (hv : nxZ (σ.R (id % 64)).wd 7 ((σ.R (id % 64)).pd != 0) = (v, 0)) :
    ∃ k', Path N 4 σ (newW 5 id d p) { σ with R := upR σ.R (id % 64) ⟨v, (σ.R (id % 64)).gv, (σ.R (id % 64)).pd⟩ } k' ∧ k'.a = ⟨0, true, id, gnW v⟩ := by
  have g := steps_strike (N := N) (kd := 5) (d := d) (p := p) hc (by omega) hcl h1 h2 hv
  exact ⟨_, Steps.path (g.trans (steps_fin rfl hc)) rfl, rfl⟩
theorem path_cancel (hc : σ.cnt ≤ 64) (hcl : σ.cl = false) (h1 : wasW N σ.R id = true) (h2 : mayW σ.R id 6 = true) {v u : Nat} (hv : nxZ (σ.R (id % 64)).wd 6 ((σ.R (id % 64)).pd != 0) = (v, 0)) (hu : nxZ v 10 ((σ.R (id % 64)).pd != 0) = (u, 0)) :
    ∃ k', Path N 6 σ (newW 4 id d p) { σ with cnt := σ.cnt - 1, R := upR σ.R (id % 64) ⟨u, (σ.R (id % 64)).gv, (σ.R (id % 64)).pd⟩ } k' ∧ k'.a = ⟨0, true, id, gnW v⟩ := by
  have g := steps_strike (N := N) (kd := 4) (d := d) (p := p) hc (by omega) hcl h1 h2 hv
  generalize hk2 : onRet { newW 4 id d p with sg := .eStrike (id % 64) (σ.R (id % 64)).wd } (gnW v) (if 4 = 4 then .eRelease (id % 64) else .fin) = k2 at g
  have es : k2.sg = .eRelease (id % 64) := by rw [← hk2]; rfl
  have ea : k2.a = ⟨0, true, id, gnW v⟩ := by rw [← hk2]; rfl
  have hap := hap_at (R := upR σ.R (id % 64) ⟨v, (σ.R (id % 64)).gv, (σ.R (id % 64)).pd⟩) (s := id % 64) (ev := 10) (v := u) (by rw [upR_same]; exact hu)
  have g4 : Steps N 1 { σ with R := upR σ.R (id % 64) ⟨v, (σ.R (id % 64)).gv, (σ.R (id % 64)).pd⟩ } k2 { σ with R := upR σ.R (id % 64) ⟨u, (σ.R (id % 64)).gv, (σ.R (id % 64)).pd⟩ } { k2 with sg := .eDrop } := Steps.one (by rw [es]; simp) hc (by unfold Win; rw [es]; trivial) (by
    unfold stepC; rw [es]; dsimp only; rw [hap.1, upR_twice, upR_same])
  have g5 : Steps N 1 { σ with R := upR σ.R (id % 64) ⟨u, (σ.R (id % 64)).gv, (σ.R (id % 64)).pd⟩ } { k2 with sg := .eDrop } { σ with cnt := σ.cnt - 1, R := upR σ.R (id % 64) ⟨u, (σ.R (id % 64)).gv, (σ.R (id % 64)).pd⟩ } { k2 with sg := .fin } := Steps.one (by simp) hc trivial rfl
  exact ⟨_, Steps.path (((g.trans g4).trans g5).trans (steps_fin rfl (by show σ.cnt - 1 ≤ 64; omega))) rfl, ea⟩
/-- a Reset -/
theorem path_r_closed (hc : σ.cnt ≤ 64) (hcl : σ.cl = true) : ∃ k', Path N 4 σ (newW 3 id d p) σ k' ∧ k'.a = anNo 3 := by
  have h1 : Steps N 1 σ (newW 3 id d p) { σ with i := σ.i + 1 } { newW 3 id d p with sg := .rBegin } := Steps.one (by show sgOf 3 ≠ _; decide) hc trivial rfl
  have h2 : Steps N 1 { σ with i := σ.i + 1 } { newW 3 id d p with sg := .rBegin } { σ with i := σ.i + 1 } { newW 3 id d p with a := anNo 3, sg := .leave } := Steps.one (by simp) hc trivial (by
    show (if _ = true then _ else _) = _
    rw [if_pos hcl]; rfl)
  have := Steps.path ((h1.trans h2).trans (steps_leave rfl hc)) rfl
  rw [wd_i] at this
  exact ⟨_, this, rfl⟩
theorem steps_r (hc : σ.cnt ≤ 64) (hcl : σ.cl = false) : Steps N 2 σ (newW 3 id d p) { σ with i := σ.i + 1 } { newW 3 id d p with sg := .rFind } := by
  have h1 : Steps N 1 σ (newW 3 id d p) { σ with i := σ.i + 1 } { newW 3 id d p with sg := .rBegin } := Steps.one (by show sgOf 3 ≠ _; decide) hc trivial rfl
  exact h1.trans (Steps.one (by simp) hc trivial (by
    show (if _ = true then _ else _) = _
    rw [if_neg (show ¬ σ.cl = true from by rw [hcl]; simp)]))
theorem path_r_no (hc : σ.cnt ≤ 64) (hcl : σ.cl = false) (h : wasW N σ.R id = false ∨ mayW σ.R id 8 = false) : ∃ k', Path N 5 σ (newW 3 id d p) σ k' ∧ k'.a = anNo (if wasW N σ.R id = false then 1 else 0) := by
  have h2 : Steps N 1 { σ with i := σ.i + 1 } { newW 3 id d p with sg := .rFind } { σ with i := σ.i + 1 } (refW { newW 3 id d p with sg := .rFind } (if wasW N σ.R id = false then 1 else 0) .leave) := Steps.one (by simp) hc trivial (by
    show (({ σ with i := σ.i + 1 } : Wd), lookW N _ _ _ _ _) = _
    rw [look_no (σ := { σ with i := σ.i + 1 }) h]; rfl)
  have := Steps.path (((steps_r hc hcl).trans h2).trans (steps_leave rfl hc)) rfl
  rw [wd_i] at this
  exact ⟨_, this, rfl⟩
theorem steps_rw (hc : σ.cnt ≤ 64) (hcl : σ.cl = false) (h1 : wasW N σ.R id = true) (h2 : mayW σ.R id 8 = true) : Steps N 3 σ (newW 3 id d p) { σ with i := σ.i + 1 } { newW 3 id d p with asl := id % 64, t := t0, sg := .rWait } :=
  (steps_r hc hcl).trans (Steps.one (by simp) hc trivial (by
    show (({ σ with i := σ.i + 1 } : Wd), lookW N _ _ _ _ _) = _
    rw [look_on (σ := { σ with i := σ.i + 1 }) h1 h2]; rfl))
theorem path_r_full (hc : σ.cnt ≤ 64) (hcl : σ.cl = false) (h1 : wasW N σ.R id = true) (h2 : mayW σ.R id 8 = true) (hr : (σ.g (id % 64 % N.m)).fi + N.r ≤ (σ.g (id % 64 % N.m)).nx) : ∃ k', Path N 7 σ (newW 3 id d p) σ k' ∧ k'.a = anNo 2 := by
  have g := steps_rWaitF (N := N) (σ := { σ with i := σ.i + 1 }) (k := { newW 3 id d p with asl := id % 64, t := t0, sg := .rWait }) hc rfl rfl hr
  have := Steps.path (((steps_rw hc hcl h1 h2).trans g).trans (steps_leave rfl hc)) rfl
  rw [wd_i] at this
  exact ⟨_, this, rfl⟩
theorem path_r_ok (hc : σ.cnt ≤ 64) (hcl : σ.cl = false) (h1 : wasW N σ.R id = true) (h2 : mayW σ.R id 8 = true) {v : Nat} (hv : nxZ (σ.R (id % 64)).wd 8 ((σ.R (id % 64)).pd != 0) = (v, 0))
    (hr : ¬ (σ.g (id % 64 % N.m)).fi + N.r ≤ (σ.g (id % 64 % N.m)).nx) (hx : ¬ (σ.g (id % 64 % N.m)).nx < (σ.g (id % 64 % N.m)).fi) (hP : (σ.g (id % 64 % N.m)).P (σ.g (id % 64 % N.m)).nx = false) :
    ∃ k', Path N 11 σ (newW 3 id d p) { σ with R := upR σ.R (id % 64) ⟨v, (σ.R (id % 64)).gv, (σ.R (id % 64)).pd⟩, g := putG σ (id % 64 % N.m) ⟨id, (id % 64 : Nat), gnW v, d, (σ.R (id % 64)).pd⟩ } k' ∧ k'.a = ⟨0, true, id, gnW v⟩ := by
  have g := steps_rWaitY (N := N) (σ := { σ with i := σ.i + 1 }) (k := { newW 3 id d p with asl := id % 64, t := t0, sg := .rWait }) hc rfl rfl hr hx hP
  generalize hk2 : ({ ({ newW 3 id d p with asl := id % 64, t := t0, sg := .rWait } : Wk) with t := ⟨2, 2, (({ σ with i := σ.i + 1 } : Wd).g (({ newW 3 id d p with asl := id % 64, t := t0, sg := .rWait } : Wk).h N)).nx, false⟩, sg := .rAgain } : Wk) = k2 at g
  have es : k2.sg = .rAgain := by rw [← hk2]
  have ei : k2.id = id := by rw [← hk2]; rfl
  have ed : k2.d = d := by rw [← hk2]; rfl
  have et : k2.t.pos = (σ.g (id % 64 % N.m)).nx := by rw [← hk2]; rfl
  have eh2 : k2.h N = id % 64 % N.m := by rw [← hk2]; rfl
  have eh : ({ newW 3 id d p with asl := id % 64, t := t0, sg := .rWait } : Wk).h N = id % 64 % N.m := rfl
  rw [eh] at g
  generalize hs2 : setNx { σ with i := σ.i + 1 } (id % 64 % N.m) ((({ σ with i := σ.i + 1 } : Wd).g (id % 64 % N.m)).nx + 1) = s2 at g
  have r2 : s2.R = σ.R := by rw [← hs2]; rfl
  have c2 : s2.cnt = σ.cnt := by rw [← hs2]; rfl
  have g2 : s2.g (id % 64 % N.m) = { σ.g (id % 64 % N.m) with nx := (σ.g (id % 64 % N.m)).nx + 1 } := by rw [← hs2]; unfold setNx; dsimp only; rw [upG_same]
  have h4 : Steps N 1 s2 k2 s2 { k2 with sg := .rChange (id % 64) (σ.R (id % 64)).wd } := Steps.one (by rw [es]; simp) (by omega) (by unfold Win; rw [es]; trivial) (by
    unfold stepC; rw [es]; dsimp only; rw [look_on (by rw [r2, ei]; exact h1) (by rw [r2, ei]; exact h2), r2, ei])
  have hap := hap_at hv
  have h5 : Steps N 1 s2 { k2 with sg := .rChange (id % 64) (σ.R (id % 64)).wd } { s2 with R := upR σ.R (id % 64) ⟨v, (σ.R (id % 64)).gv, (σ.R (id % 64)).pd⟩ } (onRet { k2 with sg := .rChange (id % 64) (σ.R (id % 64)).wd } (gnW v) (.rFill (id % 64) (gnW v))) := Steps.one (by simp) (by omega) trivial (by
    show (if tryW s2.R (id % 64) (σ.R (id % 64)).wd 8 = true then _ else _) = _
    rw [r2, if_pos (by unfold tryW; rw [decide_eq_true_eq]; exact ⟨(may_of h2).1, rfl⟩)]
    rw [hap.1, hap.2])
  have h6 : Steps N 1 { s2 with R := upR σ.R (id % 64) ⟨v, (σ.R (id % 64)).gv, (σ.R (id % 64)).pd⟩ } (onRet { k2 with sg := .rChange (id % 64) (σ.R (id % 64)).wd } (gnW v) (.rFill (id % 64) (gnW v))) { σ with i := σ.i + 1, R := upR σ.R (id % 64) ⟨v, (σ.R (id % 64)).gv, (σ.R (id % 64)).pd⟩, g := putG σ (id % 64 % N.m) ⟨id, (id % 64 : Nat), gnW v, d, (σ.R (id % 64)).pd⟩ } { onRet { k2 with sg := .rChange (id % 64) (σ.R (id % 64)).wd } (gnW v) (.rFill (id % 64) (gnW v)) with t := filled k2.t, sg := .leave } := by
    refine Steps.one (by simp [onRet]) (by show s2.cnt ≤ 64; omega) ?_ ?_
    · show (s2.g (k2.h N)).fi ≤ k2.t.pos ∧ k2.t.pos < (s2.g (k2.h N)).fi + N.r
      rw [eh2, g2, et]
      dsimp only
      omega
    · show (fillW { s2 with R := upR σ.R (id % 64) ⟨v, (σ.R (id % 64)).gv, (σ.R (id % 64)).pd⟩ } (k2.h N) k2.t.pos ⟨k2.id, (id % 64 : Nat), gnW v, k2.d, (upR σ.R (id % 64) ⟨v, (σ.R (id % 64)).gv, (σ.R (id % 64)).pd⟩ (id % 64)).pd⟩, _) = _
      rw [eh2, et, ei, ed, upR_same, ← hs2]
      refine Prod.ext ?_ rfl
      exact fill_set { σ with i := σ.i + 1, R := upR σ.R (id % 64) ⟨v, (σ.R (id % 64)).gv, (σ.R (id % 64)).pd⟩ } (id % 64 % N.m) 0 ⟨id, (id % 64 : Nat), gnW v, d, (σ.R (id % 64)).pd⟩
  have h7 := steps_leave (N := N) (σ := { σ with i := σ.i + 1, R := upR σ.R (id % 64) ⟨v, (σ.R (id % 64)).gv, (σ.R (id % 64)).pd⟩, g := putG σ (id % 64 % N.m) ⟨id, (id % 64 : Nat), gnW v, d, (σ.R (id % 64)).pd⟩ }) (k := { onRet { k2 with sg := .rChange (id % 64) (σ.R (id % 64)).wd } (gnW v) (.rFill (id % 64) (gnW v)) with t := filled k2.t, sg := .leave }) rfl hc
  have := Steps.path (((((((steps_rw hc hcl h1 h2).trans g).trans h4).trans h5).trans h6).trans h7)) rfl
  have e : ({ ({ σ with i := σ.i + 1, R := upR σ.R (id % 64) ⟨v, (σ.R (id % 64)).gv, (σ.R (id % 64)).pd⟩, g := putG σ (id % 64 % N.m) ⟨id, (id % 64 : Nat), gnW v, d, (σ.R (id % 64)).pd⟩ } : Wd) with i := σ.i + 1 - 1 } : Wd) = { σ with R := upR σ.R (id % 64) ⟨v, (σ.R (id % 64)).gv, (σ.R (id % 64)).pd⟩, g := putG σ (id % 64 % N.m) ⟨id, (id % 64 : Nat), gnW v, d, (σ.R (id % 64)).pd⟩ } := by rw [Nat.add_sub_cancel]
  rw [e] at this
  exact ⟨_, this, by show (⟨0, true, k2.id, gnW v⟩ : An) = _; rw [ei]⟩
end
end Verge

/-
  The statements' function 'alive': the document's example.
-/
namespace Go.Proofs.YtnbdafmjcmmfpaaGreat
open Go.RowKit Verge
attribute [local go_sem] Oper.semAt_some
set_option linter.unusedVariables false
set_option linter.unusedSimpArgs false
theorem path_new {N : Nm} (kd id d p : Nat) (hN : N.n ≤ 64) (h0 : 0 < N.n) (hr : 0 < N.r) (hm : 0 < N.m) (hb : addOk kd d p) :
    ∃ k', Path N 13 nilW (newW kd id d p) { nilW with cnt := 1, R := addR nilW 0 (newW kd id d p).per, g := putG nilW 0 ⟨64, 0, 1, d, (newW kd id d p).per⟩ } k' ∧ k'.a = ⟨0, true, 64, 1⟩ := by
  have h := path_add_ok (N := N) (σ := nilW) (kd := kd) (id := id) (d := d) (p := p) hN hb rfl h0 (f := 0) h0 ⟨by decide, by decide⟩ (by decide) (fun j hj => by omega) (by rw [Nat.zero_mod]; show ¬ 0 + N.r ≤ 0; omega) (by rw [Nat.zero_mod]; show ¬ (0 : Nat) < 0; omega) rfl
  rw [Nat.zero_mod] at h
  exact h
set_option maxHeartbeats 4000000 in
theorem alive_any (w : World) : Calls Tryz.prog 8 #[] w fun e w' => e = .returned (.bool true) ∧ Ch Nil w w' := by
  obtain ⟨k', hp, ha⟩ := path_new (N := ⟨1, 1, 1⟩) 1 0 5 0 (by decide) (by decide) (by decide) (by decide) (.inl rfl)
  have HP := Lib.hid hp
  have HA := Lib.hid ha
  clear hp ha
  go_enter Tryz.func8, Tryz.ntmps8
  go_wp2_with fail
  refine (floorNew16 1 1 1 1 1 1 (by decide) w).mono ?_
  rintro e w1 ⟨E, rfl, hN, hlo, hb⟩
  have HB := Lib.hid hb
  have HN := Lib.hid hN
  clear hb hN hlo
  go_wp2_with fail
  have RO := run_of (E := E) (kd := 1) (id := 0) (d := 5) (p := 0) (m := 13) ⟨by omega, by omega⟩ HB.out (by omega) (by rw [HN.out]; decide) (by rw [HN.out]; decide) (by omega) (by omega) (by omega) (by rw [HN.out]; exact HP.out) (by omega)
  rw [HA.out] at RO
  refine RO.mono ?_
  clear RO
  rintro e w2 ⟨rfl, h2⟩
  have C2 := Lib.hid (show Ch Nil w w2 from h2.c.mono fun i hi e => by have e' : w.heap.size ≤ i := e; omega)
  clear h2
  have CN : Hid (Ch Nil w2 (w2.alloc (Obj.cells #[.int .i64 0, .bool true, .int .u64 64, .int .u64 1, .slice none 0 0] 51))) := Lib.hid ((Ch.refl _ _).alloc _)
  obtain ⟨z0, z1, z2, z3, z4⟩ := (IsVs.new w2 (anL ⟨0, true, 64, 1⟩) 51).cells5
  go_wp2
  go_ret
  exact ⟨rfl, C2.out.trans CN.out⟩
end Go.Proofs.YtnbdafmjcmmfpaaGreat
