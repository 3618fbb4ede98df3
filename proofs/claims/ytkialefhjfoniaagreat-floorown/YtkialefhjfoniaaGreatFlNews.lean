/-
  What a floor's New calls: a new ring, wheel, lock, shard, pipe, log.
-/
import Derived.Test.YtkialefhjfoniaaGreatRingCells
import Derived.Test.YtkialefhjfoniaaGreatLockMem
import Derived.Test.YtkialefhjfoniaaGreatFlMem
import Derived.Test.YtkialefhjfoniaaGreatHeld
import Derived.Conc.SmallLaws
import Derived.Laws.MakeOwn
import Derived.RegionTactic
import Derived.Deep.Cut
import Derived.Deep.CutRange
import Derived.Deep.CutBlock
import Derived.IntWalk
namespace Go.Proofs.YtkialefhjfoniaaGreat
open Go.RowKit Verge
attribute [local go_sem] Oper.semAt_some
set_option linter.unusedVariables false
set_option linter.unusedSimpArgs false

/-- a block of pointers that is being filled -/
structure Mk (w : World) (b lo n : Nat) (W : World) : Prop where
  c : ∀ i, lo ≤ i → i < n → ∃ x, W.cell? ⟨b, i, none⟩ = some (.pointer x)
  bk : Blk W b
  hi : w.heap.size ≤ b
  ch : Ch Nil w W
theorem Mk.kept {w W W' : World} {b lo n : Nat} (h : Mk w b lo n W) (c : Ch Nil W W') : Mk w b lo n W' :=
  ⟨fun i h1 h2 => by obtain ⟨x, hx⟩ := h.c i h1 h2; exact ⟨x, c.keeps hx (fun e => e)⟩, h.bk.kept c (fun e => e), h.hi, h.ch.trans c⟩
theorem Mk.set {w W : World} {b lo n : Nat} (h : Mk w b lo n W) (k : Nat) (p : Option Addr) : Mk w b lo n (W.setCell ⟨b, k, none⟩ (.pointer p)) := by
  refine ⟨fun i h1 h2 => ?_, h.bk.set _ _, h.hi, h.ch.then ((Ch.refl (One b) _).setB k _) (fun i hi e => by have := h.hi; have e' : i = b := e; omega)⟩
  obtain ⟨x, hx⟩ := h.c i h1 h2
  by_cases e : i = k
  · subst e; exact ⟨p, World.cell?_setCell_same _ _ _ hx⟩
  · exact ⟨x, (cell_ne (fun e' => e e'.symm) _).trans hx⟩
theorem nList (w : World) :
    Calls Tryz.prog 86 #[] w fun e w' => ∃ b, e = .returned (.pointer (some ⟨b, 0, none⟩)) ∧ Ch Nil w w' := by
  go_enter Tryz.func86, Tryz.ntmps86
  go_wp2
  go_ret
  exact ⟨_, rfl, (Ch.refl _ _).alloc _⟩
theorem zero_of14 {P : Program} {t : TypeId} {z : Value} (h : (P.info? t).map (fun i => i.zero) = some (some z)) (w : World) : (zeroValue t).run P w = .ok z w := by
  obtain ⟨i, hi, hz⟩ := Option.map_eq_some_iff.1 h
  simp [zeroValue, typeInfo, hi, hz]
/-- a level's zero: 64 nil pointers, the empty map -/
def lvZ : Array Value := (Array.replicate 64 (.pointer none)).push (.int .u64 0)
theorem lvZ_zero (w : World) : (zeroValue 201).run Tryz.prog w = .ok (.agg lvZ) w := zero_of14 (by kernel_rfl) w
theorem lvZ_at (i : Nat) (h : i < 64) : lvZ[i]? = some (.pointer none) := by
  unfold lvZ; rw [Array.getElem?_push, if_neg (by simp; omega), Array.getElem?_replicate, if_pos h]
set_option maxHeartbeats 1000000 in
set_option maxRecDepth 100000 in
theorem nLevel (w : World) :
    Calls Tryz.prog 87 #[] w fun e w' => ∃ b, e = .returned (.pointer (some ⟨b, 0, none⟩)) ∧ Ch Nil w w' := by
  have z1 := lvZ_zero
  go_enter Tryz.func87, Tryz.ntmps87
  go_wp2
  go_loopw [5] (fun i wr => ∃ (k : Nat), k ≤ 64 ∧ i = .int .i64 k ∧ Mk w w.heap.size 0 64 wr) (fun i _ => 64 - (intOf i).toNat)
  case atStart =>
    refine ⟨0, by omega, rfl, ⟨fun i _ hi => ⟨none, ?_⟩, Blk.new _ _ _, Nat.le_refl _, (Ch.refl _ _).alloc _⟩⟩
    rw [cell_fresh]; exact lvZ_at i hi
  case round =>
    obtain ⟨k, hk, rfl, hm⟩ := hrel
    have HM := Lib.hid hm
    clear hm
    by_cases hlt : k < 64
    · have hkz : (k : Int) < 64 := by omega
      have hkz0 : (0 : Int) ≤ (k : Int) := by omega
      go_upto_region 5 with (fail)
      have HMd : Hid (Mk w w.heap.size 0 64 wr.drew) := Lib.hid (HM.out.kept (Ch.refl _ _).drew)
      refine wp_region_held_drew (S := fun _ => True) (by kernel_rfl) trivial (fun hHeld => ?_)
      generalize wr.drew = W at *
      refine take_at (v := ?_) 0 (some 8) rfl (by kernel_rfl) (by kernel_rfl) (by kernel_rfl) (by kernel_rfl) (fun _ _ _ h => h) (Or.inl ⟨by rfl, ?_⟩) (by assumption) ?_
      rotate_left
      · intro w hSw; (try dsimp only at hSw); go_simp; try (with_reducible rfl)
      (try simp only [Act.put, List.setIfInBounds_toArray, List.set_cons_zero, List.set_cons_succ])
      refine take_at (v := ?_) 1 (some 9) rfl (by kernel_rfl) (by kernel_rfl) (by kernel_rfl) (by kernel_rfl) (fun _ _ _ h => h) (Or.inl ⟨by rfl, ?_⟩) (by assumption) ?_
      rotate_left
      · intro w hSw; (try dsimp only at hSw); go_simp; try (with_reducible rfl)
      (try simp only [Act.put, List.setIfInBounds_toArray, List.set_cons_zero, List.set_cons_succ])
      refine take_at (v := ?_) 3 (some 11) rfl (by kernel_rfl) (by kernel_rfl) (by kernel_rfl) (by kernel_rfl) (fun _ _ _ h => h) (Or.inl ⟨by rfl, ?_⟩) (by assumption) ?_
      rotate_left
      · intro w hSw; (try dsimp only at hSw); go_simp; try (with_reducible rfl)
      (try simp only [Act.put, List.setIfInBounds_toArray, List.set_cons_zero, List.set_cons_succ])
      refine take_at (v := ?_) 4 (some 12) rfl (by kernel_rfl) (by kernel_rfl) (by kernel_rfl) (by kernel_rfl) (fun _ _ _ h => h) (Or.inl ⟨by rfl, ?_⟩) (by assumption) ?_
      rotate_left
      · intro w hSw; (try dsimp only at hSw); go_simp; try (with_reducible rfl)
      (try simp only [Act.put, List.setIfInBounds_toArray, List.set_cons_zero, List.set_cons_succ])
      refine wpAnyH_ready (rs := [2]) (by kernel_rfl) (by simp) ?_
      refine AllReadyH.cons rfl (fun K hK => ?_) AllReadyH.nil
      go_simp
      refine (nList _).mono ?_
      rintro e w5 ⟨lb, rfl, c5⟩
      have M5 := HMd.out.kept c5
      obtain ⟨x, q1⟩ := M5.c k (by omega) hlt
      have q2 : w5.frozen? ⟨w.heap.size, k, none⟩ = false := M5.bk.fz k
      have NEXT := Lib.hid (M5.set k (some ⟨lb, 0, none⟩))
      clear c5 M5
      refine hK.out _ _ trivial (fun hHeld => ?_)
      clear hK K
      (try simp only [Act.put, List.setIfInBounds_toArray, List.set_cons_zero, List.set_cons_succ])
      refine take_at (v := ?_) 5 (some 13) rfl (by kernel_rfl) (by kernel_rfl) (by kernel_rfl) (by kernel_rfl) (fun _ _ _ h => h) (Or.inl ⟨by rfl, ?_⟩) (by assumption) ?_
      rotate_left
      · intro w hSw; (try dsimp only at hSw); go_simp; try (with_reducible rfl)
      (try simp only [Act.put, List.setIfInBounds_toArray, List.set_cons_zero, List.set_cons_succ])
      refine wpAnyH_ready (rs := [6]) (by kernel_rfl) (by simp) ?_
      refine AllReadyH.cons rfl (fun K hK => ?_) AllReadyH.nil
      go_simp
      refine hK.out _ _ trivial (fun hHeld => ?_)
      clear hK K
      refine wpAnyH_done (by kernel_rfl) ?_ _
      go_wp2
      go_roundw
      case rel => exact ⟨k + 1, by omega, by go_num, NEXT.out⟩
      case measure => simp [intOf]; omega
    · obtain rfl : k = 64 := by omega
      go_wp2
      go_ret
      exact ⟨_, rfl, HM.out.ch⟩
set_option maxHeartbeats 1000000 in
set_option maxRecDepth 100000 in
theorem nWheel (w : World) :
    Calls Tryz.prog 72 #[.int .u64 0] w fun e w' => ∃ b, e = .returned (.pointer (some ⟨b, 0, none⟩)) ∧ Ch Nil w w' := by
  go_enter Tryz.func72, Tryz.ntmps72
  go_wp2_with fail
  refine (nList _).mono ?_
  rintro e w1 ⟨lb, rfl, c1⟩
  have C1 := Lib.hid c1
  clear c1
  go_wp2
  go_loopw [9] (fun i wr => ∃ (k : Nat), k ≤ 4 ∧ i = .int .i64 k ∧ Mk w w1.heap.size 1 5 wr) (fun i _ => 4 - (intOf i).toNat)
  case atStart =>
    refine ⟨0, by omega, rfl, ⟨fun i h1 hi => ⟨none, ?_⟩, Blk.new _ _ _, C1.out.size, C1.out.alloc _⟩⟩
    rw [cell_fresh]
    have : i = 1 ∨ i = 2 ∨ i = 3 ∨ i = 4 := by omega
    rcases this with rfl | rfl | rfl | rfl <;> rfl
  case round =>
    obtain ⟨k, hk, rfl, hm⟩ := hrel
    have HM := Lib.hid hm
    clear hm
    by_cases hlt : k < 4
    · have hkz : (k : Int) < 4 := by omega
      have hkz0 : (0 : Int) ≤ (k : Int) := by omega
      go_upto_region 5 with (fail)
      have HMd : Hid (Mk w w1.heap.size 1 5 wr.drew) := Lib.hid (HM.out.kept (Ch.refl _ _).drew)
      refine wp_region_held_drew (S := fun _ => True) (by kernel_rfl) trivial (fun hHeld => ?_)
      generalize wr.drew = W at *
      refine take_at (v := ?_) 0 (some 12) rfl (by kernel_rfl) (by kernel_rfl) (by kernel_rfl) (by kernel_rfl) (fun _ _ _ h => h) (Or.inl ⟨by rfl, ?_⟩) (by assumption) ?_
      rotate_left
      · intro w hSw; (try dsimp only at hSw); go_simp; try (with_reducible rfl)
      (try simp only [Act.put, List.setIfInBounds_toArray, List.set_cons_zero, List.set_cons_succ])
      refine take_at (v := ?_) 1 (some 13) rfl (by kernel_rfl) (by kernel_rfl) (by kernel_rfl) (by kernel_rfl) (fun _ _ _ h => h) (Or.inl ⟨by rfl, ?_⟩) (by assumption) ?_
      rotate_left
      · intro w hSw; (try dsimp only at hSw); go_simp; try (with_reducible rfl)
      (try simp only [Act.put, List.setIfInBounds_toArray, List.set_cons_zero, List.set_cons_succ])
      refine take_at (v := ?_) 3 (some 15) rfl (by kernel_rfl) (by kernel_rfl) (by kernel_rfl) (by kernel_rfl) (fun _ _ _ h => h) (Or.inl ⟨by rfl, ?_⟩) (by assumption) ?_
      rotate_left
      · intro w hSw; (try dsimp only at hSw); go_simp; try (with_reducible rfl)
      (try simp only [Act.put, List.setIfInBounds_toArray, List.set_cons_zero, List.set_cons_succ])
      refine take_at (v := ?_) 4 (some 16) rfl (by kernel_rfl) (by kernel_rfl) (by kernel_rfl) (by kernel_rfl) (fun _ _ _ h => h) (Or.inl ⟨by rfl, ?_⟩) (by assumption) ?_
      rotate_left
      · intro w hSw; (try dsimp only at hSw); go_simp; try (with_reducible rfl)
      (try simp only [Act.put, List.setIfInBounds_toArray, List.set_cons_zero, List.set_cons_succ])
      refine wpAnyH_ready (rs := [2]) (by kernel_rfl) (by simp) ?_
      refine AllReadyH.cons rfl (fun K hK => ?_) AllReadyH.nil
      go_simp
      refine (nLevel _).mono ?_
      rintro e w5 ⟨lb, rfl, c5⟩
      have M5 := HMd.out.kept c5
      obtain ⟨x, q1⟩ := M5.c (1 + k) (by omega) (by omega)
      have q2 : w5.frozen? ⟨w1.heap.size, 1 + k, none⟩ = false := M5.bk.fz _
      have NEXT := Lib.hid (M5.set (1 + k) (some ⟨lb, 0, none⟩))
      clear c5 M5
      refine hK.out _ _ trivial (fun hHeld => ?_)
      clear hK K
      (try simp only [Act.put, List.setIfInBounds_toArray, List.set_cons_zero, List.set_cons_succ])
      refine take_at (v := ?_) 5 (some 17) rfl (by kernel_rfl) (by kernel_rfl) (by kernel_rfl) (by kernel_rfl) (fun _ _ _ h => h) (Or.inl ⟨by rfl, ?_⟩) (by assumption) ?_
      rotate_left
      · intro w hSw; (try dsimp only at hSw); go_simp; try (with_reducible rfl)
      (try simp only [Act.put, List.setIfInBounds_toArray, List.set_cons_zero, List.set_cons_succ])
      refine wpAnyH_ready (rs := [6]) (by kernel_rfl) (by simp) ?_
      refine AllReadyH.cons rfl (fun K hK => ?_) AllReadyH.nil
      go_simp
      refine hK.out _ _ trivial (fun hHeld => ?_)
      clear hK K
      refine wpAnyH_done (by kernel_rfl) ?_ _
      go_wp2
      go_roundw
      case rel => exact ⟨k + 1, by omega, by go_num, NEXT.out⟩
      case measure => simp [intOf]; omega
    · obtain rfl : k = 4 := by omega
      go_wp2
      go_ret
      exact ⟨_, rfl, HM.out.ch⟩
theorem made_at14 (z : Array Value) (m j : Nat) (hj : j < m) : (madeCells z m)[j]? = some (z[j % z.size]!) := by simp [madeCells, hj]
/-- a row of n seats that was just made -/
theorem made_seats (n : Nat) (w : World) (n1 : n ≤ 64) : ∃ M : Array Value, (Instr.makeSlice 165 (.int .i64 (n : Int)) (.int .i64 (n : Int))).run Tryz.prog w = .ok (.slice (some ⟨w.heap.size, 0, none⟩) n n) (w.alloc (.cells M 173)) ∧
    ∀ i, i < n → M[i * 10]? = some (.int .u64 0) ∧ M[i * 10 + 1]? = some (.bool false) ∧ M[i * 10 + 2]? = some (.int .i64 0) ∧ M[i * 10 + 3]? = some (.int .i64 0) ∧ M[i * 10 + 4]? = some (.int .i64 0) := by
  have h0 : (Tryz.prog.info? 173).map (fun i => (i.zero, i.size, decide (i.bytes ≤ 1000))) = some (some (.agg #[.int .u64 0, .bool false, .int .i64 0, .int .i64 0, .int .i64 0, .int .u64 0, .int .i64 0, .int .u64 0, .int .u64 0, .int .u64 0]), 10, true) := by kernel_rfl
  obtain ⟨inf, hi, he⟩ := Option.map_eq_some_iff.1 h0
  simp only [Prod.mk.injEq, decide_eq_true_eq] at he
  obtain ⟨hz, hsz, hby⟩ := he
  clear h0
  have hr := run_make (P := Tryz.prog) w 165 173 inf _ Tryz.underlying165 hi hz .i64 .i64 (n : Int) (n : Int) (by omega) (Int.le_refl _) (by
      have h1 : inf.bytes * n ≤ 1000 * 64 := Nat.mul_le_mul hby n1
      have h2 : ((inf.bytes * n : Nat) : Int) ≤ 281474976710656 := by omega
      rwa [Int.natCast_mul] at h2) (by omega)
  refine ⟨_, by simpa using hr, fun i hi' => ?_⟩
  rw [hsz]
  have g : ∀ c, c < 10 → (i * 10 + c) % 10 = c := fun c hc => by omega
  refine ⟨?_, ?_, ?_, ?_, ?_⟩
  · rw [made_at14 _ _ _ (by omega)]; show some (_[(i * 10 + 0) % 10]!) = _; rw [g 0 (by omega)]; rfl
  · rw [made_at14 _ _ _ (by omega)]; show some (_[(i * 10 + 1) % 10]!) = _; rw [g 1 (by omega)]; rfl
  · rw [made_at14 _ _ _ (by omega)]; show some (_[(i * 10 + 2) % 10]!) = _; rw [g 2 (by omega)]; rfl
  · rw [made_at14 _ _ _ (by omega)]; show some (_[(i * 10 + 3) % 10]!) = _; rw [g 3 (by omega)]; rfl
  · rw [made_at14 _ _ _ (by omega)]; show some (_[(i * 10 + 4) % 10]!) = _; rw [g 4 (by omega)]; rfl
/-- what the loop keeps: each seat has a mark -/
structure NewIn (w : World) (b sb n : Nat) (wr : World) : Prop where
  seats : wr.cell? ⟨b, 8, none⟩ = some (.slice (some ⟨sb, 0, none⟩) n n)
  m : ∀ p, p < n → ∃ v, IsM wr sb (p * 10) v false
  ne : b ≠ sb
  hi : w.heap.size ≤ sb
  ch : Ch Nil w wr
set_option maxHeartbeats 4000000 in
set_option maxRecDepth 100000 in
theorem nRing (n : Nat) (w : World) (n0 : 0 < n) (n1 : n ≤ 64) :
    Calls Tryz.prog 70 #[.int .i64 n] w fun e w' => ∃ b, e = .returned (.tuple #[.pointer (some ⟨b, 0, none⟩), .int .i64 0]) ∧ Ch Nil w w' := by
  have d1 : decide ((n : Int) < 1) = false := by rw [decide_eq_false_iff_not]; omega
  have d2 : decide (64 < (n : Int)) = false := by rw [decide_eq_false_iff_not]; omega
  obtain ⟨M, hM, hc⟩ := made_seats n w n1
  have HC := Lib.hid hc
  clear hc
  go_enter Tryz.func70, Tryz.ntmps70
  go_wp2
  clear hM
  have hN : NewIn w (w.heap.size + 1) w.heap.size n ((w.alloc (Obj.cells M 173)).alloc (Obj.cells #[.int .u64 0, .int .i64 0, .int .i64 0, .int .i64 0, .int .u64 0, .int .i64 0, .int .i64 0, .int .i64 0, .slice (some ⟨w.heap.size, 0, none⟩) n n] 167)) := by
    have cA : Ch Nil (w.alloc (Obj.cells M 173)) ((w.alloc (Obj.cells M 173)).alloc (Obj.cells #[.int .u64 0, .int .i64 0, .int .i64 0, .int .i64 0, .int .u64 0, .int .i64 0, .int .i64 0, .int .i64 0, .slice (some ⟨w.heap.size, 0, none⟩) n n] 167)) := (Ch.refl _ _).alloc _
    have eS : (w.alloc (Obj.cells M 173)).heap.size = w.heap.size + 1 := by simp
    refine ⟨?_, fun p hp => ⟨0, ?_⟩, by omega, Nat.le_refl _, ((Ch.refl _ _).alloc _).alloc _⟩
    · rw [← eS, cell_fresh]; rfl
    · have hs : IsM (w.alloc (Obj.cells M 173)) w.heap.size (p * 10) 0 false := by
        obtain ⟨a0, a1, a2, a3, a4⟩ := HC.out p hp
        refine ⟨0, 0, 0, ?_⟩
        exact ⟨(cell_fresh _ _ _ _).trans a0, (cell_fresh _ _ _ _).trans a1, (cell_fresh _ _ _ _).trans a2, (cell_fresh _ _ _ _).trans a3, (cell_fresh _ _ _ _).trans a4, frozen_fresh _ _ _ _, frozen_fresh _ _ _ _, frozen_fresh _ _ _ _⟩
      exact hs.kept cA (fun e => e)
  generalize (w.alloc (Obj.cells M 173)).alloc (Obj.cells #[.int .u64 0, .int .i64 0, .int .i64 0, .int .i64 0, .int .u64 0, .int .i64 0, .int .i64 0, .int .i64 0, .slice (some ⟨w.heap.size, 0, none⟩) n n] 167) = w2 at hN ⊢
  clear HC
  obtain ⟨b, hb⟩ : ∃ b, w.heap.size + 1 = b := ⟨_, rfl⟩
  rw [hb] at hN ⊢
  clear hb
  obtain ⟨sb, hsb⟩ : ∃ sb, w.heap.size = sb := ⟨_, rfl⟩
  rw [hsb] at hN ⊢
  clear hsb
  have hs2 := hN.seats
  have HN := Lib.hid hN
  clear hN
  go_loopw [21] (fun i wr => ∃ k : Nat, k ≤ n ∧ i = .int .i64 k ∧ NewIn w b sb n wr) (fun i _ => n - (intOf i).toNat)
  case atStart => exact ⟨0, Nat.zero_le _, rfl, HN.out⟩
  case round =>
    obtain ⟨k, hk, rfl, hR⟩ := hrel
    have HR := Lib.hid hR
    clear hR hs2 HN
    by_cases hlt : k < n
    · have hse := HR.out.seats
      have e1 : ((k : Int)).toNat = k := by omega
      obtain ⟨v, hv⟩ := HR.out.m k hlt
      have HV := Lib.hid hv
      clear hv
      go_wp2_with fail
      clear hse
      refine (storeM_at sb (k * 10) _ (k : Int) false false _ HV.out).mono ?_
      rintro e w3 ⟨rfl, m3, c3⟩
      have M3 := Lib.hid m3
      have C3 := Lib.hid c3
      clear m3 c3
      go_wp2
      go_roundw
      case rel =>
        have c := C3.out
        refine ⟨k + 1, by omega, by go_num, c.ch.keeps HR.out.seats HR.out.ne, ?_, HR.out.ne, HR.out.hi, ?_⟩
        · intro p hp
          by_cases e : p = k
          · subst e
            exact ⟨_, M3.out⟩
          · obtain ⟨u, hu⟩ := HR.out.m p hp
            exact ⟨u, hu.far c (by omega)⟩
        · exact HR.out.ch.then c.ch (fun i hi e => by have := HR.out.hi; have e' : i = sb := e; omega)
      case measure => simp [intOf]; omega
    · obtain rfl : k = n := by omega
      clear hlt
      go_wp2
      go_ret2
      exact ⟨_, rfl, HR.out.ch⟩
theorem nLock (w : World) :
    Calls Tryz.prog 71 #[] w fun e w' => ∃ b, e = .returned (.pointer (some ⟨b, 0, none⟩)) ∧ w.heap.size ≤ b ∧ IsK w' b 0 false 0 ∧ Ch Nil w w' := by
  go_enter Tryz.func71, Tryz.ntmps71
  go_wp2
  go_ret
  refine ⟨_, rfl, Nat.le_refl _, ⟨0, 0, 0, ?_⟩, (Ch.refl _ _).alloc _⟩
  constructor <;> simp [go_sem]
/-- a shard, as far as its floor wants to know: its block, its lock -/
structure IsSd (w : World) (s l : Nat) : Prop where
  bk : Blk w s
  lk : w.cell? ⟨s, 1, none⟩ = some (.pointer (some ⟨l, 0, none⟩))
  kk : IsK w l 0 false 0
  rv : ∃ r v, w.cell? ⟨s, 0, none⟩ = some (.pointer r) ∧ w.cell? ⟨s, 2, none⟩ = some (.pointer v)
theorem IsSd.kept {S : Nat → Prop} {w w' : World} {s l : Nat} (h : IsSd w s l) (c : Ch S w w') (h1 : ¬ S s) (h2 : ¬ S l) : IsSd w' s l := by
  obtain ⟨r, v, h3, h4⟩ := h.rv
  exact ⟨h.bk.kept c h1, c.keeps h.lk h1, h.kk.kept c h2, r, v, c.keeps h3 h1, c.keeps h4 h1⟩
set_option maxHeartbeats 2000000 in
theorem nShard (n : Nat) (w : World) (n0 : 0 < n) (n1 : n ≤ 64) :
    Calls Tryz.prog 40 #[.int .i64 n] w fun e w' => ∃ s l, e = .returned (.tuple #[.pointer (some ⟨s, 0, none⟩), .int .i64 0]) ∧ w.heap.size ≤ l ∧ l < s ∧ IsSd w' s l ∧ Ch Nil w w' := by
  go_enter Tryz.func40, Tryz.ntmps40
  go_wp2_with fail
  refine (nRing n _ n0 n1).mono ?_
  rintro e w1 ⟨r, rfl, c1⟩
  have C1 := Lib.hid c1
  have s1 := c1.size
  clear c1
  go_wp2_with fail
  refine (nLock _).mono ?_
  rintro e w2 ⟨l, rfl, hl, k2, c2⟩
  have K2 := Lib.hid k2
  have C2 := Lib.hid (C1.out.trans c2)
  clear k2 c2
  go_wp2_with fail
  refine (nWheel _).mono ?_
  rintro e w3 ⟨v, rfl, c3⟩
  have K3 := Lib.hid (K2.out.kept c3 (fun e => e))
  have C3 := Lib.hid (C2.out.trans c3)
  have l3 := K3.out.lt
  clear c3 K2 C2
  go_wp2
  go_ret2
  refine ⟨_, l, rfl, by omega, l3, ⟨Blk.new _ _ _, by rw [cell_fresh]; rfl, K3.out.kept (S := Nil) ((Ch.refl _ _).alloc _) (fun e => e), _, _, by rw [cell_fresh]; rfl, by rw [cell_fresh]; rfl⟩, C3.out.alloc _⟩
/-- a pipe whose spill is empty -/
structure IsP (w : World) (pb cb cap : Nat) (buf : Array Value) : Prop where
  v : IsVs w pb [.chan (some cb), .pointer none, .pointer none, .int .i64 0, .int .i64 0, .bool false]
  c : ∃ s r, w.heap[cb]? = some (.chan cap buf false s r false)
theorem IsP.clt {w : World} {pb cb cap : Nat} {buf : Array Value} (h : IsP w pb cb cap buf) : cb < w.heap.size := by
  obtain ⟨s, r, h2⟩ := h.c
  exact (Array.getElem?_eq_some_iff.1 h2).1
theorem IsP.kept {S : Nat → Prop} {w w' : World} {pb cb cap : Nat} {buf : Array Value} (h : IsP w pb cb cap buf) (c : Ch S w w') (h1 : ¬ S pb) (h2 : ¬ S cb) : IsP w' pb cb cap buf := by
  have hl := h.clt
  obtain ⟨s, r, h3⟩ := h.c
  exact ⟨h.v.kept c h1, s, r, (c.block cb hl h2).trans h3⟩
theorem make_chan14 (n : Nat) (hn : n ≤ 16) (w : World) : (Instr.makeChan 97 (.int .i64 n)).run Tryz.prog w = .ok (.chan (some w.heap.size)) (w.alloc (.chan n #[] false 0 0 false)) := by
  have h : (Tryz.prog.info? 52).map (·.bytes) = some 32 := by kernel_rfl
  obtain ⟨i, hi, hb⟩ := Option.map_eq_some_iff.1 h
  simpa using Go.Conc.run_makeChan (P := Tryz.prog) (w := w) Tryz.underlying97 hi .i64 n (by omega) (by rw [hb]; omega)
theorem nPipe (n : Nat) (h1 : 1 ≤ n) (h2 : n ≤ 16) (w : World) :
    Calls Tryz.prog 39 #[.int .i64 n] w fun e w' => ∃ pb cb, e = .returned (.tuple #[.pointer (some ⟨pb, 0, none⟩), .int .i64 0]) ∧ w.heap.size ≤ cb ∧ cb < pb ∧ IsP w' pb cb n #[] ∧ Ch Nil w w' := by
  have hmk := make_chan14 n h2
  have l1 : ¬ ((n : Int) < 1) := by omega
  have l2 : ¬ (16 < (n : Int)) := by omega
  go_enter Tryz.func39, Tryz.ntmps39
  go_wp2
  go_ret2
  have c1 : ((w.alloc (.chan n #[] false 0 0 false)).alloc (.cells #[.chan (some w.heap.size), .pointer none, .pointer none, .int .i64 0, .int .i64 0, .bool false] 102)).heap[w.heap.size]? = some (.chan n #[] false 0 0 false) := by
    rw [Below.heap_alloc _ _ _ (by simp)]
    exact heap_alloc_new w _
  have c2 := IsVs.new (w.alloc (.chan n #[] false 0 0 false)) [.chan (some w.heap.size), .pointer none, .pointer none, .int .i64 0, .int .i64 0, .bool false] 102
  rw [World.size_alloc] at c2
  exact ⟨_, rfl, _, Nat.le_refl _, by omega, ⟨c2, 0, 0, c1⟩, ((Ch.refl _ _).alloc _).alloc _⟩
theorem nLog (w : World) : Calls Tryz.prog 34 #[] w fun e w' => ∃ b, e = .returned (.pointer (some ⟨b, 0, none⟩)) ∧ w.heap.size ≤ b ∧ IsVs w' b [.slice none 0 0] ∧ Ch Nil w w' := by
  go_enter Tryz.func34, Tryz.ntmps34
  go_wp2
  go_ret
  exact ⟨_, rfl, Nat.le_refl _, IsVs.new _ _ _, (Ch.refl _ _).alloc _⟩
end Go.Proofs.YtkialefhjfoniaaGreat
