import Derived.Test.YtnbdafmjcmmfpaaGreatK03
import Derived.Test.YtnbdafmjcmmfpaaGreatK06
import Derived.Conc.SmallLaws
import Derived.Laws.MakeOwn
import Derived.RegionTactic
import Derived.Deep.Cut
import Derived.Deep.CutRange
import Derived.Deep.CutBlock
import Derived.IntWalk
import Derived.Test.YtnbdafmjcmmfpaaGreatK02
import Derived.Test.YtnbdafmjcmmfpaaGreatK01
import Derived.BigQuiet
import Derived.Deep.QuietTactic
/-
  What a floor's New calls: a new ring, wheel, lock, shard, pipe, log.
-/
namespace Go.Proofs.YtnbdafmjcmmfpaaGreat
open Go.RowKit Verge
attribute [local go_sem] Oper.semAt_some
set_option linter.unusedVariables false
set_option linter.unusedSimpArgs false

/-- a block of pointers that is being filled -/
structure Mk (w : World) (b lo n : Nat) (W : World) : Prop where
  c : ∀ i, lo ≤ i → i < n → ∃ x, W.cell? ⟨b, i, none⟩ = some (.pointer x)
  bk : Blk W b
  hi : w.heap.size ≤ b
  ch : Ch Nil w W
theorem Mk.kept {w W W' : World} {b lo n : Nat} (h : Mk w b lo n W) (c : Ch Nil W W') : Mk w b lo n W' :=
  ⟨fun i h1 h2 => by obtain ⟨x, hx⟩ := h.c i h1 h2; exact ⟨x, c.keeps hx (fun e => e)⟩, h.bk.kept c (fun e => e), h.hi, h.ch.trans c⟩
theorem Mk.set {w W : World} {b lo n : Nat} (h : Mk w b lo n W) (k : Nat) (p : Option Addr) : Mk w b lo n (W.setCell ⟨b, k, none⟩ (.pointer p)) := by
  refine ⟨fun i h1 h2 => ?_, h.bk.set _ _, h.hi, h.ch.then ((Ch.refl (One b) _).setB k _) (fun i hi e => by have := h.hi; have e' : i = b := e; omega)⟩
  obtain ⟨x, hx⟩ := h.c i h1 h2
  by_cases e : i = k
  · subst e; exact ⟨p, World.cell?_setCell_same _ _ _ hx⟩
  · exact ⟨x, (cell_ne (fun e' => e e'.symm) _).trans hx⟩
theorem nList (w : World) :
    Calls Tryz.prog 76 #[] w fun e w' => ∃ b, e = .returned (.pointer (some ⟨b, 0, none⟩)) ∧ Ch Nil w w' := by
  go_enter Tryz.func76, Tryz.ntmps76
  go_wp2
  go_ret
  exact ⟨_, rfl, (Ch.refl _ _).alloc _⟩
theorem zero_of14 {P : Program} {t : TypeId} {z : Value} (h : (P.info? t).map (fun i => i.zero) = some (some z)) (w : World) : (zeroValue t).run P w = .ok z w := by
  obtain ⟨i, hi, hz⟩ := Option.map_eq_some_iff.1 h
  simp [zeroValue, typeInfo, hi, hz]
/-- a level's zero: 64 nil pointers, the empty map -/
def lvZ : Array Value := (Array.replicate 64 (.pointer none)).push (.int .u64 0)
theorem lvZ_zero (w : World) : (zeroValue 202).run Tryz.prog w = .ok (.agg lvZ) w := zero_of14 (by kernel_rfl) w
theorem lvZ_at (i : Nat) (h : i < 64) : lvZ[i]? = some (.pointer none) := by
  unfold lvZ; rw [Array.getElem?_push, if_neg (by simp; omega), Array.getElem?_replicate, if_pos h]
set_option maxHeartbeats 1000000 in
set_option maxRecDepth 100000 in
theorem nLevel (w : World) :
    Calls Tryz.prog 77 #[] w fun e w' => ∃ b, e = .returned (.pointer (some ⟨b, 0, none⟩)) ∧ Ch Nil w w' := by
  have z1 := lvZ_zero
  go_enter Tryz.func77, Tryz.ntmps77
  go_wp2
  go_loopw [5] (fun i wr => ∃ (k : Nat), k ≤ 64 ∧ i = .int .i64 k ∧ Mk w w.heap.size 0 64 wr) (fun i _ => 64 - (intOf i).toNat)
  case atStart =>
    refine ⟨0, by omega, rfl, ⟨fun i _ hi => ⟨none, ?_⟩, Blk.new _ _ _, Nat.le_refl _, (Ch.refl _ _).alloc _⟩⟩
    rw [cell_fresh]; exact lvZ_at i hi
  case round =>
    obtain ⟨k, hk, rfl, hm⟩ := hrel
    have HM := Lib.hid hm
    clear hm
    by_cases hlt : k < 64
    · have hkz : (k : Int) < 64 := by omega
      have hkz0 : (0 : Int) ≤ (k : Int) := by omega
      go_upto_region 5 with (fail)
      have HMd : Hid (Mk w w.heap.size 0 64 wr.drew) := Lib.hid (HM.out.kept (Ch.refl _ _).drew)
      refine wp_region_held_drew (S := fun _ => True) (by kernel_rfl) trivial (fun hHeld => ?_)
      generalize wr.drew = W at *
      refine take_at (v := ?_) 0 (some 8) rfl (by kernel_rfl) (by kernel_rfl) (by kernel_rfl) (by kernel_rfl) (fun _ _ _ h => h) (Or.inl ⟨by rfl, ?_⟩) (by assumption) ?_
      rotate_left
      · intro w hSw; (try dsimp only at hSw); go_simp; try (with_reducible rfl)
      (try simp only [Act.put, List.setIfInBounds_toArray, List.set_cons_zero, List.set_cons_succ])
      refine take_at (v := ?_) 1 (some 9) rfl (by kernel_rfl) (by kernel_rfl) (by kernel_rfl) (by kernel_rfl) (fun _ _ _ h => h) (Or.inl ⟨by rfl, ?_⟩) (by assumption) ?_
      rotate_left
      · intro w hSw; (try dsimp only at hSw); go_simp; try (with_reducible rfl)
      (try simp only [Act.put, List.setIfInBounds_toArray, List.set_cons_zero, List.set_cons_succ])
      refine take_at (v := ?_) 3 (some 11) rfl (by kernel_rfl) (by kernel_rfl) (by kernel_rfl) (by kernel_rfl) (fun _ _ _ h => h) (Or.inl ⟨by rfl, ?_⟩) (by assumption) ?_
      rotate_left
      · intro w hSw; (try dsimp only at hSw); go_simp; try (with_reducible rfl)
      (try simp only [Act.put, List.setIfInBounds_toArray, List.set_cons_zero, List.set_cons_succ])
      refine take_at (v := ?_) 4 (some 12) rfl (by kernel_rfl) (by kernel_rfl) (by kernel_rfl) (by kernel_rfl) (fun _ _ _ h => h) (Or.inl ⟨by rfl, ?_⟩) (by assumption) ?_
      rotate_left
      · intro w hSw; (try dsimp only at hSw); go_simp; try (with_reducible rfl)
      (try simp only [Act.put, List.setIfInBounds_toArray, List.set_cons_zero, List.set_cons_succ])
      refine wpAnyH_ready (rs := [2]) (by kernel_rfl) (by simp) ?_
      refine AllReadyH.cons rfl (fun K hK => ?_) AllReadyH.nil
      go_simp
      refine (nList _).mono ?_
      rintro e w5 ⟨lb, rfl, c5⟩
      have M5 := HMd.out.kept c5
      obtain ⟨x, q1⟩ := M5.c k (by omega) hlt
      have q2 : w5.frozen? ⟨w.heap.size, k, none⟩ = false := M5.bk.fz k
      have NEXT := Lib.hid (M5.set k (some ⟨lb, 0, none⟩))
      clear c5 M5
      refine hK.out _ _ trivial (fun hHeld => ?_)
      clear hK K
      (try simp only [Act.put, List.setIfInBounds_toArray, List.set_cons_zero, List.set_cons_succ])
      refine take_at (v := ?_) 5 (some 13) rfl (by kernel_rfl) (by kernel_rfl) (by kernel_rfl) (by kernel_rfl) (fun _ _ _ h => h) (Or.inl ⟨by rfl, ?_⟩) (by assumption) ?_
      rotate_left
      · intro w hSw; (try dsimp only at hSw); go_simp; try (with_reducible rfl)
      (try simp only [Act.put, List.setIfInBounds_toArray, List.set_cons_zero, List.set_cons_succ])
      refine wpAnyH_ready (rs := [6]) (by kernel_rfl) (by simp) ?_
      refine AllReadyH.cons rfl (fun K hK => ?_) AllReadyH.nil
      go_simp
      refine hK.out _ _ trivial (fun hHeld => ?_)
      clear hK K
      refine wpAnyH_done (by kernel_rfl) ?_ _
      go_wp2
      go_roundw
      case rel => exact ⟨k + 1, by omega, by go_num, NEXT.out⟩
      case measure => simp [intOf]; omega
    · obtain rfl : k = 64 := by omega
      go_wp2
      go_ret
      exact ⟨_, rfl, HM.out.ch⟩
set_option maxHeartbeats 1000000 in
set_option maxRecDepth 100000 in
theorem nWheel (w : World) :
    Calls Tryz.prog 59 #[.int .u64 0] w fun e w' => ∃ b, e = .returned (.pointer (some ⟨b, 0, none⟩)) ∧ Ch Nil w w' := by
  go_enter Tryz.func59, Tryz.ntmps59
  go_wp2_with fail
  refine (nList _).mono ?_
  rintro e w1 ⟨lb, rfl, c1⟩
  have C1 := Lib.hid c1
  clear c1
  go_wp2
  go_loopw [9] (fun i wr => ∃ (k : Nat), k ≤ 4 ∧ i = .int .i64 k ∧ Mk w w1.heap.size 1 5 wr) (fun i _ => 4 - (intOf i).toNat)
  case atStart =>
    refine ⟨0, by omega, rfl, ⟨fun i h1 hi => ⟨none, ?_⟩, Blk.new _ _ _, C1.out.size, C1.out.alloc _⟩⟩
    rw [cell_fresh]
    have : i = 1 ∨ i = 2 ∨ i = 3 ∨ i = 4 := by omega
    rcases this with rfl | rfl | rfl | rfl <;> rfl
  case round =>
    obtain ⟨k, hk, rfl, hm⟩ := hrel
    have HM := Lib.hid hm
    clear hm
    by_cases hlt : k < 4
    · have hkz : (k : Int) < 4 := by omega
      have hkz0 : (0 : Int) ≤ (k : Int) := by omega
      go_upto_region 5 with (fail)
      have HMd : Hid (Mk w w1.heap.size 1 5 wr.drew) := Lib.hid (HM.out.kept (Ch.refl _ _).drew)
      refine wp_region_held_drew (S := fun _ => True) (by kernel_rfl) trivial (fun hHeld => ?_)
      generalize wr.drew = W at *
      refine take_at (v := ?_) 0 (some 12) rfl (by kernel_rfl) (by kernel_rfl) (by kernel_rfl) (by kernel_rfl) (fun _ _ _ h => h) (Or.inl ⟨by rfl, ?_⟩) (by assumption) ?_
      rotate_left
      · intro w hSw; (try dsimp only at hSw); go_simp; try (with_reducible rfl)
      (try simp only [Act.put, List.setIfInBounds_toArray, List.set_cons_zero, List.set_cons_succ])
      refine take_at (v := ?_) 1 (some 13) rfl (by kernel_rfl) (by kernel_rfl) (by kernel_rfl) (by kernel_rfl) (fun _ _ _ h => h) (Or.inl ⟨by rfl, ?_⟩) (by assumption) ?_
      rotate_left
      · intro w hSw; (try dsimp only at hSw); go_simp; try (with_reducible rfl)
      (try simp only [Act.put, List.setIfInBounds_toArray, List.set_cons_zero, List.set_cons_succ])
      refine take_at (v := ?_) 3 (some 15) rfl (by kernel_rfl) (by kernel_rfl) (by kernel_rfl) (by kernel_rfl) (fun _ _ _ h => h) (Or.inl ⟨by rfl, ?_⟩) (by assumption) ?_
      rotate_left
      · intro w hSw; (try dsimp only at hSw); go_simp; try (with_reducible rfl)
      (try simp only [Act.put, List.setIfInBounds_toArray, List.set_cons_zero, List.set_cons_succ])
      refine take_at (v := ?_) 4 (some 16) rfl (by kernel_rfl) (by kernel_rfl) (by kernel_rfl) (by kernel_rfl) (fun _ _ _ h => h) (Or.inl ⟨by rfl, ?_⟩) (by assumption) ?_
      rotate_left
      · intro w hSw; (try dsimp only at hSw); go_simp; try (with_reducible rfl)
      (try simp only [Act.put, List.setIfInBounds_toArray, List.set_cons_zero, List.set_cons_succ])
      refine wpAnyH_ready (rs := [2]) (by kernel_rfl) (by simp) ?_
      refine AllReadyH.cons rfl (fun K hK => ?_) AllReadyH.nil
      go_simp
      refine (nLevel _).mono ?_
      rintro e w5 ⟨lb, rfl, c5⟩
      have M5 := HMd.out.kept c5
      obtain ⟨x, q1⟩ := M5.c (1 + k) (by omega) (by omega)
      have q2 : w5.frozen? ⟨w1.heap.size, 1 + k, none⟩ = false := M5.bk.fz _
      have NEXT := Lib.hid (M5.set (1 + k) (some ⟨lb, 0, none⟩))
      clear c5 M5
      refine hK.out _ _ trivial (fun hHeld => ?_)
      clear hK K
      (try simp only [Act.put, List.setIfInBounds_toArray, List.set_cons_zero, List.set_cons_succ])
      refine take_at (v := ?_) 5 (some 17) rfl (by kernel_rfl) (by kernel_rfl) (by kernel_rfl) (by kernel_rfl) (fun _ _ _ h => h) (Or.inl ⟨by rfl, ?_⟩) (by assumption) ?_
      rotate_left
      · intro w hSw; (try dsimp only at hSw); go_simp; try (with_reducible rfl)
      (try simp only [Act.put, List.setIfInBounds_toArray, List.set_cons_zero, List.set_cons_succ])
      refine wpAnyH_ready (rs := [6]) (by kernel_rfl) (by simp) ?_
      refine AllReadyH.cons rfl (fun K hK => ?_) AllReadyH.nil
      go_simp
      refine hK.out _ _ trivial (fun hHeld => ?_)
      clear hK K
      refine wpAnyH_done (by kernel_rfl) ?_ _
      go_wp2
      go_roundw
      case rel => exact ⟨k + 1, by omega, by go_num, NEXT.out⟩
      case measure => simp [intOf]; omega
    · obtain rfl : k = 4 := by omega
      go_wp2
      go_ret
      exact ⟨_, rfl, HM.out.ch⟩
theorem made_at14 (z : Array Value) (m j : Nat) (hj : j < m) : (madeCells z m)[j]? = some (z[j % z.size]!) := by simp [madeCells, hj]
/-- a row of n seats that was just made -/
theorem made_seats (n : Nat) (w : World) (n1 : n ≤ 64) : ∃ M : Array Value, (Instr.makeSlice 162 (.int .i64 (n : Int)) (.int .i64 (n : Int))).run Tryz.prog w = .ok (.slice (some ⟨w.heap.size, 0, none⟩) n n) (w.alloc (.cells M 173)) ∧
    ∀ i, i < n → M[i * 10]? = some (.int .u64 0) ∧ M[i * 10 + 1]? = some (.bool false) ∧ M[i * 10 + 2]? = some (.int .i64 0) ∧ M[i * 10 + 3]? = some (.int .i64 0) ∧ M[i * 10 + 4]? = some (.int .i64 0) := by
  have h0 : (Tryz.prog.info? 173).map (fun i => (i.zero, i.size, decide (i.bytes ≤ 1000))) = some (some (.agg #[.int .u64 0, .bool false, .int .i64 0, .int .i64 0, .int .i64 0, .int .u64 0, .int .i64 0, .int .u64 0, .int .u64 0, .int .u64 0]), 10, true) := by kernel_rfl
  obtain ⟨inf, hi, he⟩ := Option.map_eq_some_iff.1 h0
  simp only [Prod.mk.injEq, decide_eq_true_eq] at he
  obtain ⟨hz, hsz, hby⟩ := he
  clear h0
  have hr := run_make (P := Tryz.prog) w 162 173 inf _ Tryz.underlying162 hi hz .i64 .i64 (n : Int) (n : Int) (by omega) (Int.le_refl _) (by
      have h1 : inf.bytes * n ≤ 1000 * 64 := Nat.mul_le_mul hby n1
      have h2 : ((inf.bytes * n : Nat) : Int) ≤ 281474976710656 := by omega
      rwa [Int.natCast_mul] at h2) (by omega)
  refine ⟨_, by simpa using hr, fun i hi' => ?_⟩
  rw [hsz]
  have g : ∀ c, c < 10 → (i * 10 + c) % 10 = c := fun c hc => by omega
  refine ⟨?_, ?_, ?_, ?_, ?_⟩
  · rw [made_at14 _ _ _ (by omega)]; show some (_[(i * 10 + 0) % 10]!) = _; rw [g 0 (by omega)]; rfl
  · rw [made_at14 _ _ _ (by omega)]; show some (_[(i * 10 + 1) % 10]!) = _; rw [g 1 (by omega)]; rfl
  · rw [made_at14 _ _ _ (by omega)]; show some (_[(i * 10 + 2) % 10]!) = _; rw [g 2 (by omega)]; rfl
  · rw [made_at14 _ _ _ (by omega)]; show some (_[(i * 10 + 3) % 10]!) = _; rw [g 3 (by omega)]; rfl
  · rw [made_at14 _ _ _ (by omega)]; show some (_[(i * 10 + 4) % 10]!) = _; rw [g 4 (by omega)]; rfl
/-- what the loop keeps: each seat has a mark -/
structure NewIn (w : World) (b sb n : Nat) (wr : World) : Prop where
  seats : wr.cell? ⟨b, 8, none⟩ = some (.slice (some ⟨sb, 0, none⟩) n n)
  m : ∀ p, p < n → ∃ v, IsM wr sb (p * 10) v false
  ne : b ≠ sb
  hi : w.heap.size ≤ sb
  ch : Ch Nil w wr
theorem nLock (w : World) :
    Calls Tryz.prog 58 #[] w fun e w' => ∃ b, e = .returned (.pointer (some ⟨b, 0, none⟩)) ∧ w.heap.size ≤ b ∧ IsK w' b 0 false 0 ∧ Ch Nil w w' := by
  go_enter Tryz.func58, Tryz.ntmps58
  go_wp2
  go_ret
  refine ⟨_, rfl, Nat.le_refl _, ⟨0, 0, 0, ?_⟩, (Ch.refl _ _).alloc _⟩
  constructor <;> simp [go_sem]
/-- a shard, as far as its floor wants to know: its block, its ring; all of it lies from l on -/
structure IsSd (w : World) (n s l : Nat) : Prop where
  bk : Blk w s
  ls : l < s
  x : ∃ r rs k v, w.cell? ⟨s, 0, none⟩ = some (.pointer (some ⟨r, 0, none⟩)) ∧ w.cell? ⟨s, 1, none⟩ = some (.pointer (some ⟨k, 0, none⟩)) ∧ w.cell? ⟨s, 2, none⟩ = some (.pointer v) ∧ RT.IsRing w r rs n 0 0 (fun _ => false) (fun _ => tk0) ∧ l ≤ r ∧ r < s ∧ l ≤ rs ∧ rs < s
theorem IsSd.kept {S : Nat → Prop} {w w' : World} {n s l : Nat} (h : IsSd w n s l) (c : Ch S w w') (hn : ∀ j, l ≤ j → j ≤ s → ¬ S j) : IsSd w' n s l := by
  obtain ⟨r, rs, k, v, h0, h1, h2, hr, r1, r2, r3, r4⟩ := h.x
  have hs := hn s (Nat.le_of_lt h.ls) (Nat.le_refl _)
  exact ⟨h.bk.kept c hs, h.ls, r, rs, k, v, c.keeps h0 hs, c.keeps h1 hs, c.keeps h2 hs, hr.kept c (hn r r1 (Nat.le_of_lt r2)) (hn rs r3 (Nat.le_of_lt r4)), r1, r2, r3, r4⟩
set_option maxHeartbeats 2000000 in
theorem nShard (n : Nat) (w : World) (n0 : 0 < n) (n1 : n ≤ 64) :
    Calls Tryz.prog 37 #[.int .i64 n] w fun e w' => ∃ s l, e = .returned (.tuple #[.pointer (some ⟨s, 0, none⟩), .int .i64 0]) ∧ w.heap.size ≤ l ∧ l < s ∧ IsSd w' n s l ∧ Ch Nil w w' := by
  go_enter Tryz.func37, Tryz.ntmps37
  go_wp2_with fail
  refine (RT.new_of n _ n0 n1).mono ?_
  rintro e w1 ⟨r, rs, rfl, hr, hrs, h1, c1⟩
  have C1 := Lib.hid c1
  have H1 := Lib.hid h1
  have HR := Lib.hid (And.intro hr hrs)
  have s1 := c1.size
  clear c1 h1 hr hrs
  go_wp2_with fail
  refine (nLock _).mono ?_
  rintro e w2 ⟨l, rfl, hl, k2, c2⟩
  have H2 := Lib.hid (H1.out.kept c2 (fun e => e) (fun e => e))
  have C2 := Lib.hid (C1.out.trans c2)
  clear k2 c2 H1
  go_wp2_with fail
  refine (nWheel _).mono ?_
  rintro e w3 ⟨v, rfl, c3⟩
  have H3 := Lib.hid (H2.out.kept c3 (fun e => e) (fun e => e))
  have C3 := Lib.hid (C2.out.trans c3)
  have l3 := H3.out.lt
  have l4 := H3.out.lt2
  clear c3 H2 C2
  go_wp2
  go_ret2
  have hr := HR.out
  refine ⟨_, w.heap.size, rfl, Nat.le_refl _, by omega, ⟨Blk.new _ _ _, by omega, r, rs, l, _, by rw [cell_fresh]; rfl, by rw [cell_fresh]; rfl, by rw [cell_fresh]; rfl, H3.out.kept (S := Nil) ((Ch.refl _ _).alloc _) (fun e => e) (fun e => e), hr.1, l3, hr.2, l4⟩, C3.out.alloc _⟩
/-- a pipe whose spill is empty -/
structure IsP (w : World) (pb cb cap : Nat) (buf : Array Value) : Prop where
  v : IsVs w pb [.chan (some cb), .pointer none, .pointer none, .int .i64 0, .int .i64 0, .bool false]
  c : ∃ s r, w.heap[cb]? = some (.chan cap buf false s r false)
theorem IsP.clt {w : World} {pb cb cap : Nat} {buf : Array Value} (h : IsP w pb cb cap buf) : cb < w.heap.size := by
  obtain ⟨s, r, h2⟩ := h.c
  exact (Array.getElem?_eq_some_iff.1 h2).1
theorem IsP.kept {S : Nat → Prop} {w w' : World} {pb cb cap : Nat} {buf : Array Value} (h : IsP w pb cb cap buf) (c : Ch S w w') (h1 : ¬ S pb) (h2 : ¬ S cb) : IsP w' pb cb cap buf := by
  have hl := h.clt
  obtain ⟨s, r, h3⟩ := h.c
  exact ⟨h.v.kept c h1, s, r, (c.block cb hl h2).trans h3⟩
theorem make_chan14 (n : Nat) (hn : n ≤ 16) (w : World) : (Instr.makeChan 137 (.int .i64 n)).run Tryz.prog w = .ok (.chan (some w.heap.size)) (w.alloc (.chan n #[] false 0 0 false)) := by
  have h : (Tryz.prog.info? 93).map (·.bytes) = some 32 := by kernel_rfl
  obtain ⟨i, hi, hb⟩ := Option.map_eq_some_iff.1 h
  simpa using Go.Conc.run_makeChan (P := Tryz.prog) (w := w) Tryz.underlying137 hi .i64 n (by omega) (by rw [hb]; omega)
theorem nPipe (n : Nat) (h1 : 1 ≤ n) (h2 : n ≤ 16) (w : World) :
    Calls Tryz.prog 36 #[.int .i64 n] w fun e w' => ∃ pb cb, e = .returned (.tuple #[.pointer (some ⟨pb, 0, none⟩), .int .i64 0]) ∧ w.heap.size ≤ cb ∧ cb < pb ∧ IsP w' pb cb n #[] ∧ Ch Nil w w' := by
  have hmk := make_chan14 n h2
  have l1 : ¬ ((n : Int) < 1) := by omega
  have l2 : ¬ (16 < (n : Int)) := by omega
  go_enter Tryz.func36, Tryz.ntmps36
  go_wp2
  go_ret2
  have c1 : ((w.alloc (.chan n #[] false 0 0 false)).alloc (.cells #[.chan (some w.heap.size), .pointer none, .pointer none, .int .i64 0, .int .i64 0, .bool false] 142)).heap[w.heap.size]? = some (.chan n #[] false 0 0 false) := by
    rw [Below.heap_alloc _ _ _ (by simp)]
    exact heap_alloc_new w _
  have c2 := IsVs.new (w.alloc (.chan n #[] false 0 0 false)) [.chan (some w.heap.size), .pointer none, .pointer none, .int .i64 0, .int .i64 0, .bool false] 142
  rw [World.size_alloc] at c2
  exact ⟨_, rfl, _, Nat.le_refl _, by omega, ⟨c2, 0, 0, c1⟩, ((Ch.refl _ _).alloc _).alloc _⟩
theorem nLog (w : World) : Calls Tryz.prog 31 #[] w fun e w' => ∃ b, e = .returned (.pointer (some ⟨b, 0, none⟩)) ∧ w.heap.size ≤ b ∧ IsVs w' b [.slice none 0 0] ∧ Ch Nil w w' := by
  go_enter Tryz.func31, Tryz.ntmps31
  go_wp2
  go_ret
  exact ⟨_, rfl, Nat.le_refl _, IsVs.new _ _ _, (Ch.refl _ _).alloc _⟩
end Go.Proofs.YtnbdafmjcmmfpaaGreat

/-
  What a slab and a request are in memory.
-/
namespace Go.Proofs.YtnbdafmjcmmfpaaGreat
open Go.RowKit Verge
set_option linter.unusedVariables false

/-- a cell of a number -/
def IsJ (w : World) (b o : Nat) (v : Int) : Prop := ∃ l t u, IsC w b o (.int .i64 v) l t u
theorem IsJ.lt {w : World} {b o : Nat} {v : Int} (h : IsJ w b o v) : b < w.heap.size := by obtain ⟨l, t, u, h⟩ := h; exact h.lt
theorem IsJ.kept {S : Nat → Prop} {w w' : World} {b o : Nat} {v : Int} (h : IsJ w b o v) (c : Ch S w w') (hn : ¬ S b) : IsJ w' b o v := by
  obtain ⟨l, t, u, h⟩ := h; exact ⟨l, t, u, h.keeps c hn⟩

structure IsRec (w : World) (rb o : Nat) (x : Rec) : Prop where
  c : IsU w rb o x.wd
  g : w.cell? ⟨rb, o + 4, none⟩ = some (.int .u64 (x.gv : Nat))
  p : w.cell? ⟨rb, o + 5, none⟩ = some (.int .u64 (x.pd : Nat))
  fg : w.frozen? ⟨rb, o + 4, none⟩ = false
  fp : w.frozen? ⟨rb, o + 5, none⟩ = false
theorem IsRec.kept {S : Nat → Prop} {w w' : World} {b o : Nat} {x : Rec} (h : IsRec w b o x) (c : Ch S w w') (hn : ¬ S b) : IsRec w' b o x := by
  have hl := h.c.lt
  exact ⟨h.c.kept c hn, c.keeps h.g hn, c.keeps h.p hn, (c.frozen (p := ⟨b, _, none⟩) hl hn).trans h.fg, (c.frozen (p := ⟨b, _, none⟩) hl hn).trans h.fp⟩
theorem IsRec.far {w w' : World} {b o o' k : Nat} {x : Rec} (h : IsRec w b o x) (c : Tch b o' k w w') (hn : o + 6 ≤ o' ∨ o' + k ≤ o) : IsRec w' b o x :=
  ⟨h.c.far c (by omega), (c.cell _ (by omega)).trans h.g, (c.cell _ (by omega)).trans h.p, (c.fz _).trans h.fg, (c.fz _).trans h.fp⟩
/-- the record's cell has turned -/
theorem IsRec.turn {w w' : World} {b o : Nat} {x : Rec} {v : Nat} (h : IsRec w b o x) (c : Tch b o 4 w w') (hu : IsU w' b o v) : IsRec w' b o ⟨v, x.gv, x.pd⟩ :=
  ⟨hu, (c.cell _ (by omega)).trans h.g, (c.cell _ (by omega)).trans h.p, (c.fz _).trans h.fg, (c.fz _).trans h.fp⟩
theorem IsRec.setG {w : World} {b o : Nat} {x : Rec} (h : IsRec w b o x) (v : Nat) : IsRec (w.setCell ⟨b, o + 4, none⟩ (.int .u64 (v : Nat))) b o ⟨x.wd, v, x.pd⟩ := by
  have c : Tch b (o + 4) 1 w (w.setCell ⟨b, o + 4, none⟩ (.int .u64 (v : Nat))) := (Tch.refl _ _ _ _).set _ (by omega) _
  exact ⟨h.c.far c (by omega), World.cell?_setCell_same _ _ _ h.g, (c.cell _ (by omega)).trans h.p, (c.fz _).trans h.fg, (c.fz _).trans h.fp⟩
theorem IsRec.setP {w : World} {b o : Nat} {x : Rec} (h : IsRec w b o x) (v : Nat) : IsRec (w.setCell ⟨b, o + 5, none⟩ (.int .u64 (v : Nat))) b o ⟨x.wd, x.gv, v⟩ := by
  have c : Tch b (o + 5) 1 w (w.setCell ⟨b, o + 5, none⟩ (.int .u64 (v : Nat))) := (Tch.refl _ _ _ _).set _ (by omega) _
  exact ⟨h.c.far c (by omega), (c.cell _ (by omega)).trans h.g, World.cell?_setCell_same _ _ _ h.p, (c.fz _).trans h.fg, (c.fz _).trans h.fp⟩

/-- a slab: its room, its count, its records -/
structure IsS (w : World) (b rb n cnt : Nat) (R : Nat → Rec) : Prop where
  cnt : IsJ w b 0 (cnt : Nat)
  recs : w.cell? ⟨b, 4, none⟩ = some (.slice (some ⟨rb, 0, none⟩) n n)
  rc : ∀ k, k < n → IsRec w rb (k * 6) (R k)
  ne : b ≠ rb
  n0 : 0 < n
  n1 : n ≤ 64
abbrev Two (b rb : Nat) : Nat → Prop := fun k => k = b ∨ k = rb
abbrev Tri (q b rb : Nat) : Nat → Prop := fun k => k = q ∨ k = b ∨ k = rb
theorem Ch_two1 {b rb : Nat} {w w' : World} (c : Ch (One b) w w') : Ch (Two b rb) w w' := c.mono fun _ _ e => .inl e
theorem Ch_two2 {b rb : Nat} {w w' : World} (c : Ch (One rb) w w') : Ch (Two b rb) w w' := c.mono fun _ _ e => .inr e
theorem Ch_tri {q b rb : Nat} {w w' : World} (c : Ch (Two b rb) w w') : Ch (Tri q b rb) w w' := c.mono fun _ _ e => .inr e
theorem Ch_tri1 {q b rb : Nat} {w w' : World} (c : Ch (One q) w w') : Ch (Tri q b rb) w w' := c.mono fun _ _ e => .inl e
theorem Ch_any {S : Nat → Prop} {w w' : World} (c : Ch Nil w w') : Ch S w w' := c.mono fun _ _ e => e.elim
section
variable {w w' : World} {b rb n cnt : Nat} {R : Nat → Rec}
theorem IsS.lt (h : IsS w b rb n cnt R) : b < w.heap.size := h.cnt.lt
theorem IsS.lt2 (h : IsS w b rb n cnt R) : rb < w.heap.size := (h.rc 0 h.n0).c.lt
theorem IsS.kept {S : Nat → Prop} (h : IsS w b rb n cnt R) (c : Ch S w w') (hb : ¬ S b) (hr : ¬ S rb) : IsS w' b rb n cnt R :=
  ⟨h.cnt.kept c hb, c.keeps h.recs hb, fun k hk => (h.rc k hk).kept c hr, h.ne, h.n0, h.n1⟩
theorem IsS.quiet (h : IsS w b rb n cnt R) (c : Ch Nil w w') : IsS w' b rb n cnt R := h.kept c (fun e => e) (fun e => e)
/-- the count's cell has turned -/
theorem IsS.count {c' : Nat} (h : IsS w b rb n cnt R) (c : Tch b 0 4 w w') (hj : IsJ w' b 0 (c' : Nat)) : IsS w' b rb n c' R :=
  ⟨hj, (c.cell 4 (by omega)).trans h.recs, fun k hk => (h.rc k hk).kept c.ch (fun e => h.ne e.symm), h.ne, h.n0, h.n1⟩
/-- a record has turned -/
theorem IsS.turn {k : Nat} {x : Rec} (h : IsS w b rb n cnt R) (hk : k < n) (c : Tch rb (k * 6) 6 w w') (hx : IsRec w' rb (k * 6) x) : IsS w' b rb n cnt (upR R k x) := by
  refine ⟨h.cnt.kept c.ch h.ne, c.ch.keeps h.recs h.ne, fun i hi => ?_, h.ne, h.n0, h.n1⟩
  by_cases e : i = k
  · subst e; rw [upR_same]; exact hx
  · rw [upR_other _ _ e]; exact (h.rc i hi).far c (by omega)
/-- a record has turned, and is what it was -/
theorem IsS.same {k : Nat} (h : IsS w b rb n cnt R) (hk : k < n) (c : Tch rb (k * 6) 6 w w') (hx : IsRec w' rb (k * 6) (R k)) : IsS w' b rb n cnt R := by
  refine ⟨h.cnt.kept c.ch h.ne, c.ch.keeps h.recs h.ne, fun i hi => ?_, h.ne, h.n0, h.n1⟩
  by_cases e : i = k
  · subst e; exact hx
  · exact (h.rc i hi).far c (by omega)
end

/-- a request of a slab in block b -/
structure IsQ (w : World) (q b : Nat) (r : Rq) : Prop where
  c0 : w.cell? ⟨q, 0, none⟩ = some (.pointer (some ⟨b, 0, none⟩))
  c1 : w.cell? ⟨q, 1, none⟩ = some (.int .u64 (r.pd : Nat))
  c2 : w.cell? ⟨q, 2, none⟩ = some (.int .i64 (r.st : Nat))
  c3 : w.cell? ⟨q, 3, none⟩ = some (.int .i64 (r.ss : Nat))
  c4 : w.cell? ⟨q, 4, none⟩ = some (.int .i64 (r.seen : Nat))
  c5 : w.cell? ⟨q, 5, none⟩ = some (.int .i64 (r.slot : Nat))
  c6 : w.cell? ⟨q, 6, none⟩ = some (.int .u64 (r.id : Nat))
  f2 : w.frozen? ⟨q, 2, none⟩ = false
  f3 : w.frozen? ⟨q, 3, none⟩ = false
  f4 : w.frozen? ⟨q, 4, none⟩ = false
  f5 : w.frozen? ⟨q, 5, none⟩ = false
  f6 : w.frozen? ⟨q, 6, none⟩ = false
section
variable {w w' : World} {q b : Nat} {r : Rq}
theorem IsQ.lt (h : IsQ w q b r) : q < w.heap.size := lt_of_cell h.c0
theorem IsQ.kept {S : Nat → Prop} (h : IsQ w q b r) (c : Ch S w w') (hn : ¬ S q) : IsQ w' q b r := by
  have hl := h.lt
  exact ⟨c.keeps h.c0 hn, c.keeps h.c1 hn, c.keeps h.c2 hn, c.keeps h.c3 hn, c.keeps h.c4 hn, c.keeps h.c5 hn, c.keeps h.c6 hn, (c.frozen (p := ⟨q, _, none⟩) hl hn).trans h.f2, (c.frozen (p := ⟨q, _, none⟩) hl hn).trans h.f3, (c.frozen (p := ⟨q, _, none⟩) hl hn).trans h.f4, (c.frozen (p := ⟨q, _, none⟩) hl hn).trans h.f5, (c.frozen (p := ⟨q, _, none⟩) hl hn).trans h.f6⟩
theorem IsQ.set_st (h : IsQ w q b r) (v : Nat) : IsQ (w.setCell ⟨q, 2, none⟩ (.int .i64 (v : Nat))) q b { r with st := v } :=
  ⟨(cell_ne (by omega) _).trans h.c0, (cell_ne (by omega) _).trans h.c1, World.cell?_setCell_same _ _ _ h.c2, (cell_ne (by omega) _).trans h.c3, (cell_ne (by omega) _).trans h.c4, (cell_ne (by omega) _).trans h.c5, (cell_ne (by omega) _).trans h.c6, (World.frozen?_setCell _ _ _ _).trans h.f2, (World.frozen?_setCell _ _ _ _).trans h.f3, (World.frozen?_setCell _ _ _ _).trans h.f4, (World.frozen?_setCell _ _ _ _).trans h.f5, (World.frozen?_setCell _ _ _ _).trans h.f6⟩
theorem IsQ.set_ss (h : IsQ w q b r) (v : Nat) : IsQ (w.setCell ⟨q, 3, none⟩ (.int .i64 (v : Nat))) q b { r with ss := v } :=
  ⟨(cell_ne (by omega) _).trans h.c0, (cell_ne (by omega) _).trans h.c1, (cell_ne (by omega) _).trans h.c2, World.cell?_setCell_same _ _ _ h.c3, (cell_ne (by omega) _).trans h.c4, (cell_ne (by omega) _).trans h.c5, (cell_ne (by omega) _).trans h.c6, (World.frozen?_setCell _ _ _ _).trans h.f2, (World.frozen?_setCell _ _ _ _).trans h.f3, (World.frozen?_setCell _ _ _ _).trans h.f4, (World.frozen?_setCell _ _ _ _).trans h.f5, (World.frozen?_setCell _ _ _ _).trans h.f6⟩
theorem IsQ.set_seen (h : IsQ w q b r) (v : Nat) : IsQ (w.setCell ⟨q, 4, none⟩ (.int .i64 (v : Nat))) q b { r with seen := v } :=
  ⟨(cell_ne (by omega) _).trans h.c0, (cell_ne (by omega) _).trans h.c1, (cell_ne (by omega) _).trans h.c2, (cell_ne (by omega) _).trans h.c3, World.cell?_setCell_same _ _ _ h.c4, (cell_ne (by omega) _).trans h.c5, (cell_ne (by omega) _).trans h.c6, (World.frozen?_setCell _ _ _ _).trans h.f2, (World.frozen?_setCell _ _ _ _).trans h.f3, (World.frozen?_setCell _ _ _ _).trans h.f4, (World.frozen?_setCell _ _ _ _).trans h.f5, (World.frozen?_setCell _ _ _ _).trans h.f6⟩
theorem IsQ.set_slot (h : IsQ w q b r) (v : Nat) : IsQ (w.setCell ⟨q, 5, none⟩ (.int .i64 (v : Nat))) q b { r with slot := v } :=
  ⟨(cell_ne (by omega) _).trans h.c0, (cell_ne (by omega) _).trans h.c1, (cell_ne (by omega) _).trans h.c2, (cell_ne (by omega) _).trans h.c3, (cell_ne (by omega) _).trans h.c4, World.cell?_setCell_same _ _ _ h.c5, (cell_ne (by omega) _).trans h.c6, (World.frozen?_setCell _ _ _ _).trans h.f2, (World.frozen?_setCell _ _ _ _).trans h.f3, (World.frozen?_setCell _ _ _ _).trans h.f4, (World.frozen?_setCell _ _ _ _).trans h.f5, (World.frozen?_setCell _ _ _ _).trans h.f6⟩
theorem IsQ.set_id (h : IsQ w q b r) (v : Nat) : IsQ (w.setCell ⟨q, 6, none⟩ (.int .u64 (v : Nat))) q b { r with id := v } :=
  ⟨(cell_ne (by omega) _).trans h.c0, (cell_ne (by omega) _).trans h.c1, (cell_ne (by omega) _).trans h.c2, (cell_ne (by omega) _).trans h.c3, (cell_ne (by omega) _).trans h.c4, (cell_ne (by omega) _).trans h.c5, World.cell?_setCell_same _ _ _ h.c6, (World.frozen?_setCell _ _ _ _).trans h.f2, (World.frozen?_setCell _ _ _ _).trans h.f3, (World.frozen?_setCell _ _ _ _).trans h.f4, (World.frozen?_setCell _ _ _ _).trans h.f5, (World.frozen?_setCell _ _ _ _).trans h.f6⟩
end
end Go.Proofs.YtnbdafmjcmmfpaaGreat

/-
  Contracts of package cell's functions as a floor uses them: its flag, its counts, its time; and the floor's functions over these.
-/
namespace Go.Proofs.YtnbdafmjcmmfpaaGreat
open Go.RowKit Verge
attribute [local go_sem] Oper.semAt_some
set_option linter.unusedVariables false
set_option linter.unusedSimpArgs false

/-- a cell of a bool -/
def IsB (w : World) (b : Nat) (v : Bool) : Prop := ∃ l t u, IsC w b 0 (.bool v) l t u
section
variable {S : Nat → Prop} {w w' : World} {b : Nat}
theorem IsB.lt {v : Bool} (h : IsB w b v) : b < w.heap.size := by obtain ⟨l, t, u, h⟩ := h; exact h.lt
theorem IsB.kept {v : Bool} (h : IsB w b v) (c : Ch S w w') (hn : ¬ S b) : IsB w' b v := by obtain ⟨l, t, u, h⟩ := h; exact ⟨l, t, u, h.keeps c hn⟩
theorem ofJ (v : Int) (w : World) :
    Calls Tryz.prog 33 #[.int .i64 v] w fun e w' => e = .returned (.pointer (some ⟨w.heap.size, 0, none⟩)) ∧ IsJ w' w.heap.size 0 v ∧ Ch Nil w w' ∧ w'.heap.size = w.heap.size + 1 := by
  go_enter Tryz.func33, Tryz.ntmps33
  go_wp2
  go_ret
  refine ⟨rfl, ⟨0, 0, 0, ?_⟩, (Ch.refl _ _).alloc _, by simp⟩
  constructor <;> simp [go_sem]
theorem floadJ (v : Int) (h : IsJ w b 0 v) :
    Calls Tryz.prog 48 #[.pointer (some ⟨b, 0, none⟩)] w fun e w' => e = .returned (.int .i64 v) ∧ IsJ w' b 0 v ∧ Tch b 0 4 w w' := by
  obtain ⟨l, t, u, h⟩ := h
  have H := Lib.hid h
  obtain ⟨hv, hl, ht, hu, fv, fl, ft, fu⟩ := h
  go_enter Tryz.func48, Tryz.ntmps48
  go_wp2
  go_ret
  exact ⟨rfl, ⟨_, _, _, H.out.setL _⟩, (Tch.refl _ _ _ _).set _ (by omega) _⟩
theorem floadJ_nil (w : World) :
    Calls Tryz.prog 48 #[.pointer none] w fun e w' => e = .returned (.int .i64 0) ∧ w = w' := by
  go_enter Tryz.func48, Tryz.ntmps48
  go_wp2
  go_ret
  exact ⟨rfl, rfl⟩
theorem fchangeJ (v x : Int) (h : IsJ w b 0 v) :
    Calls Tryz.prog 114 #[.pointer (some ⟨b, 0, none⟩), .int .i64 x, .bool true] w fun e w' => e = .returned (.bool true) ∧ IsJ w' b 0 x ∧ Tch b 0 4 w w' := by
  obtain ⟨l, t, u, h⟩ := h
  have H := Lib.hid h
  obtain ⟨hv, hl, ht, hu, fv, fl, ft, fu⟩ := h
  go_enter Tryz.func114, Tryz.ntmps114
  go_wp2
  go_ret
  exact ⟨rfl, ⟨_, _, _, ((H.out.setT _).setV _).setU _⟩, (((Tch.refl _ _ _ _).set _ (by omega) _).set _ (by omega) _).set _ (by omega) _⟩
theorem ofU (v : Int) (w : World) :
    Calls Tryz.prog 34 #[.int .u64 v] w fun e w' => e = .returned (.pointer (some ⟨w.heap.size, 0, none⟩)) ∧ IsU w' w.heap.size 0 v ∧ Ch Nil w w' ∧ w'.heap.size = w.heap.size + 1 := by
  go_enter Tryz.func34, Tryz.ntmps34
  go_wp2
  go_ret
  refine ⟨rfl, ⟨0, 0, 0, ?_⟩, (Ch.refl _ _).alloc _, by simp⟩
  constructor <;> simp [go_sem]
theorem floadU (v : Int) (h : IsU w b 0 v) :
    Calls Tryz.prog 67 #[.pointer (some ⟨b, 0, none⟩)] w fun e w' => e = .returned (.int .u64 v) ∧ IsU w' b 0 v ∧ Tch b 0 4 w w' := by
  obtain ⟨l, t, u, h⟩ := h
  have H := Lib.hid h
  obtain ⟨hv, hl, ht, hu, fv, fl, ft, fu⟩ := h
  go_enter Tryz.func67, Tryz.ntmps67
  go_wp2
  go_ret
  exact ⟨rfl, ⟨_, _, _, H.out.setL _⟩, (Tch.refl _ _ _ _).set _ (by omega) _⟩
theorem floadU_nil (w : World) :
    Calls Tryz.prog 67 #[.pointer none] w fun e w' => e = .returned (.int .u64 0) ∧ w = w' := by
  go_enter Tryz.func67, Tryz.ntmps67
  go_wp2
  go_ret
  exact ⟨rfl, rfl⟩
theorem fchangeU (v x : Int) (h : IsU w b 0 v) :
    Calls Tryz.prog 161 #[.pointer (some ⟨b, 0, none⟩), .int .u64 x, .bool true] w fun e w' => e = .returned (.bool true) ∧ IsU w' b 0 x ∧ Tch b 0 4 w w' := by
  obtain ⟨l, t, u, h⟩ := h
  have H := Lib.hid h
  obtain ⟨hv, hl, ht, hu, fv, fl, ft, fu⟩ := h
  go_enter Tryz.func161, Tryz.ntmps161
  go_wp2
  go_ret
  exact ⟨rfl, ⟨_, _, _, ((H.out.setT _).setV _).setU _⟩, (((Tch.refl _ _ _ _).set _ (by omega) _).set _ (by omega) _).set _ (by omega) _⟩
theorem ofB (v : Bool) (w : World) :
    Calls Tryz.prog 32 #[.bool v] w fun e w' => e = .returned (.pointer (some ⟨w.heap.size, 0, none⟩)) ∧ IsB w' w.heap.size v ∧ Ch Nil w w' ∧ w'.heap.size = w.heap.size + 1 := by
  go_enter Tryz.func32, Tryz.ntmps32
  go_wp2
  go_ret
  refine ⟨rfl, ⟨0, 0, 0, ?_⟩, (Ch.refl _ _).alloc _, by simp⟩
  constructor <;> simp [go_sem]
theorem floadB (v : Bool) (h : IsB w b v) :
    Calls Tryz.prog 93 #[.pointer (some ⟨b, 0, none⟩)] w fun e w' => e = .returned (.bool v) ∧ IsB w' b v ∧ Tch b 0 4 w w' := by
  obtain ⟨l, t, u, h⟩ := h
  have H := Lib.hid h
  obtain ⟨hv, hl, ht, hu, fv, fl, ft, fu⟩ := h
  go_enter Tryz.func93, Tryz.ntmps93
  go_wp2
  go_ret
  exact ⟨rfl, ⟨_, _, _, H.out.setL _⟩, (Tch.refl _ _ _ _).set _ (by omega) _⟩
theorem floadB_nil (w : World) :
    Calls Tryz.prog 93 #[.pointer none] w fun e w' => e = .returned (.bool false) ∧ w = w' := by
  go_enter Tryz.func93, Tryz.ntmps93
  go_wp2
  go_ret
  exact ⟨rfl, rfl⟩
theorem fchangeB (v x : Bool) (h : IsB w b v) :
    Calls Tryz.prog 71 #[.pointer (some ⟨b, 0, none⟩), .bool x, .bool true] w fun e w' => e = .returned (.bool true) ∧ IsB w' b x ∧ Tch b 0 4 w w' := by
  obtain ⟨l, t, u, h⟩ := h
  have H := Lib.hid h
  obtain ⟨hv, hl, ht, hu, fv, fl, ft, fu⟩ := h
  go_enter Tryz.func71, Tryz.ntmps71
  go_wp2
  go_ret
  exact ⟨rfl, ⟨_, _, _, ((H.out.setT _).setV _).setU _⟩, (((Tch.refl _ _ _ _).set _ (by omega) _).set _ (by omega) _).set _ (by omega) _⟩
theorem fchangeB_no (v x : Bool) (h : IsB w b v) :
    Calls Tryz.prog 71 #[.pointer (some ⟨b, 0, none⟩), .bool x, .bool false] w fun e w' => e = .returned (.bool false) ∧ IsB w' b v ∧ Tch b 0 4 w w' := by
  obtain ⟨l, t, u, h⟩ := h
  have H := Lib.hid h
  obtain ⟨hv, hl, ht, hu, fv, fl, ft, fu⟩ := h
  go_enter Tryz.func71, Tryz.ntmps71
  go_wp2
  go_ret
  exact ⟨rfl, ⟨_, _, _, H.out.setT _⟩, (Tch.refl _ _ _ _).set _ (by omega) _⟩
theorem catchB (w : World) :
    CallsD Tryz.prog 87 #[] .returning w fun e u' w' => e = .returned (.tuple #[]) ∧ u' = .returning ∧ w = w' := by
  refine callsD_of_wpS Tryz.func87 rfl fun c₀ cs hu => ?_
  apply wpS_region
  cases c₀
  simp_all [wpOpsS, go_sem, recoverD, Tryz.ntmps87, bodyPostS, results, Tryz.results87]
theorem sameB_ff (w : World) :
    Calls Tryz.prog 72 #[.bool false, .bool false] w fun e w' => e = .returned (.bool true) ∧ w = w' := by
  have hmf : ∀ (fn : Fn) (first cap : Array Value) (w : World), (Instr.makeFunc fn first cap).run Tryz.prog w = .ok (.func fn first cap) w := fun _ _ _ _ => rfl
  go_enter_defers Tryz.func72, Tryz.ntmps72
  go_wp2
  refine leaves_cons (f := 87) (args := #[]) (by simp) (by simp [go_sem]) ?_
  refine (catchB _).mono ?_
  rintro e u' w'' ⟨rfl, rfl, rfl⟩
  simp [Leaves, settle, results, Tryz.results72, go_sem]
theorem sameB_tf (w : World) :
    Calls Tryz.prog 72 #[.bool true, .bool false] w fun e w' => e = .returned (.bool false) ∧ w = w' := by
  have hmf : ∀ (fn : Fn) (first cap : Array Value) (w : World), (Instr.makeFunc fn first cap).run Tryz.prog w = .ok (.func fn first cap) w := fun _ _ _ _ => rfl
  go_enter_defers Tryz.func72, Tryz.ntmps72
  go_wp2
  refine leaves_cons (f := 87) (args := #[]) (by simp) (by simp [go_sem]) ?_
  refine (catchB _).mono ?_
  rintro e u' w'' ⟨rfl, rfl, rfl⟩
  simp [Leaves, settle, results, Tryz.results72, go_sem]
theorem shutB_first (h : IsB w b false) :
    Calls Tryz.prog 49 #[.pointer (some ⟨b, 0, none⟩), .bool false, .bool true] w fun e w' => e = .returned (.bool true) ∧ IsB w' b true ∧ Tch b 0 4 w w' := by
  have H := Lib.hid h
  obtain ⟨l, t, u, h⟩ := h
  have hv := h.v
  clear h
  go_enter Tryz.func49, Tryz.ntmps49
  go_wp2_with fail
  refine (sameB_ff _).mono ?_
  rintro e w1 ⟨rfl, rfl⟩
  go_wp2_with fail
  refine (fchangeB false true H.out).mono ?_
  rintro e w1 ⟨rfl, h1, c1⟩
  have H1 := Lib.hid h1
  clear h1
  go_wp2
  go_ret
  exact ⟨rfl, H1.out, c1⟩
theorem shutB_again (h : IsB w b true) :
    Calls Tryz.prog 49 #[.pointer (some ⟨b, 0, none⟩), .bool false, .bool true] w fun e w' => e = .returned (.bool false) ∧ IsB w' b true ∧ Tch b 0 4 w w' := by
  have H := Lib.hid h
  obtain ⟨l, t, u, h⟩ := h
  have hv := h.v
  clear h
  go_enter Tryz.func49, Tryz.ntmps49
  go_wp2_with fail
  refine (sameB_tf _).mono ?_
  rintro e w1 ⟨rfl, rfl⟩
  go_wp2_with fail
  refine (fchangeB_no true true H.out).mono ?_
  rintro e w1 ⟨rfl, h1, c1⟩
  have H1 := Lib.hid h1
  clear h1
  go_wp2
  go_ret
  exact ⟨rfl, H1.out, c1⟩
theorem shutB_nil (w : World) :
    Calls Tryz.prog 49 #[.pointer none, .bool false, .bool true] w fun e w' => e = .returned (.bool false) ∧ w = w' := by
  go_enter Tryz.func49, Tryz.ntmps49
  go_wp2
  go_ret
  exact ⟨rfl, rfl⟩
theorem fn_nilI (f : Fn) (a c : Array Value) (w : World) : (binOp .eql 204 (.func f a c) .nilFunc).run Tryz.prog w = .ok (.bool false) w := run_eql_fn _ w _ f a c _ Tryz.underlying204 rfl
theorem fn_nilU (f : Fn) (a c : Array Value) (w : World) : (binOp .eql 295 (.func f a c) .nilFunc).run Tryz.prog w = .ok (.bool false) w := run_eql_fn _ w _ f a c _ Tryz.underlying295 rfl
theorem more_of (v : Nat) (hv : v ≤ 1000000) (w : World) :
    Calls Tryz.prog 90 #[.int .i64 (v : Nat)] w fun e w' => e = .returned (.tuple #[.int .i64 ((v + 1 : Nat) : Int), .bool true]) ∧ w = w' := by
  have e1 : wrap64 ((v : Int) + 1) = ((v + 1 : Nat) : Int) := by unfold wrap64; omega
  go_enter Tryz.func90, Tryz.ntmps90
  go_wp2
  go_ret2
  refine ⟨?_, rfl⟩
  first | rfl | (simp; done) | (simp [e1]; done)
theorem less_of (v : Nat) (hv : v ≤ 1000000) (w : World) (b : Bool) (hb : Hid (decide (0 < v) = b)) :
    Calls Tryz.prog 115 #[.int .i64 (v : Nat)] w fun e w' => e = .returned (.tuple #[.int .i64 ((v : Int) - 1), .bool b]) ∧ w = w' := by
  have hb1 : decide ((0 : Int) < (v : Int)) = b := by rw [← hb.out]; simp
  have hb2 : decide (0 < v) = b := hb.out
  go_enter Tryz.func115, Tryz.ntmps115
  go_wp2
  go_ret2
  exact ⟨by first | rfl | (simp; done), rfl⟩
theorem turn_more (v : Nat) (hv : v ≤ 1000000) (h : IsJ w b 0 (v : Nat)) :
    Calls Tryz.prog 99 #[.pointer (some ⟨b, 0, none⟩), .func (.func 90) #[] #[]] w fun e w' => e = .returned (.tuple #[.int .i64 (v : Nat), .bool true]) ∧ IsJ w' b 0 ((v + 1 : Nat) : Int) ∧ Tch b 0 4 w w' := by
  have hfn := fn_nilI
  have H := Lib.hid h
  clear h
  go_enter Tryz.func99, Tryz.ntmps99
  go_wp2_with fail
  refine (floadJ _ H.out).mono ?_
  rintro e w1 ⟨rfl, h1, c1⟩
  have H1 := Lib.hid h1
  clear h1
  go_wp2_with fail
  refine (more_of v hv _).mono ?_
  rintro e w2 ⟨rfl, rfl⟩
  go_wp2_with fail
  refine (fchangeJ _ _ H1.out).mono ?_
  rintro e w3 ⟨rfl, h3, c3⟩
  have H3 := Lib.hid h3
  clear h3
  go_wp2
  go_ret2
  refine ⟨rfl, ?_, c1.trans c3⟩
  have := H3.out
  first | exact this | (rwa [show ((v : Int) - 1) = ((v - 1 : Nat) : Int) by have := H0.out; omega] at this)
theorem turn_less (v : Nat) (hv : v ≤ 1000000) (h0 : 0 < v) (h : IsJ w b 0 (v : Nat)) :
    Calls Tryz.prog 99 #[.pointer (some ⟨b, 0, none⟩), .func (.func 115) #[] #[]] w fun e w' => e = .returned (.tuple #[.int .i64 (v : Nat), .bool true]) ∧ IsJ w' b 0 ((v - 1 : Nat) : Int) ∧ Tch b 0 4 w w' := by
  have hfn := fn_nilI
  have H := Lib.hid h
  have H0 := Lib.hid h0
  clear h0
  clear h
  go_enter Tryz.func99, Tryz.ntmps99
  go_wp2_with fail
  refine (floadJ _ H.out).mono ?_
  rintro e w1 ⟨rfl, h1, c1⟩
  have H1 := Lib.hid h1
  clear h1
  go_wp2_with fail
  refine (less_of v hv _ true (Lib.hid (decide_eq_true H0.out))).mono ?_
  rintro e w2 ⟨rfl, rfl⟩
  go_wp2_with fail
  refine (fchangeJ _ _ H1.out).mono ?_
  rintro e w3 ⟨rfl, h3, c3⟩
  have H3 := Lib.hid h3
  clear h3
  go_wp2
  go_ret2
  refine ⟨rfl, ?_, c1.trans c3⟩
  have := H3.out
  first | exact this | (rwa [show ((v : Int) - 1) = ((v - 1 : Nat) : Int) by have := H0.out; omega] at this)
theorem turn_lessno (v : Nat) (hv : v ≤ 1000000) (h0 : v = 0) (h : IsJ w b 0 (v : Nat)) :
    Calls Tryz.prog 99 #[.pointer (some ⟨b, 0, none⟩), .func (.func 115) #[] #[]] w fun e w' => e = .returned (.tuple #[.int .i64 (v : Nat), .bool false]) ∧ IsJ w' b 0 (v : Int) ∧ Tch b 0 4 w w' := by
  have hfn := fn_nilI
  have H := Lib.hid h
  have H0 := Lib.hid h0
  clear h0
  clear h
  go_enter Tryz.func99, Tryz.ntmps99
  go_wp2_with fail
  refine (floadJ _ H.out).mono ?_
  rintro e w1 ⟨rfl, h1, c1⟩
  have H1 := Lib.hid h1
  clear h1
  go_wp2_with fail
  refine (less_of v hv _ false (Lib.hid (decide_eq_false (by have := H0.out; omega)))).mono ?_
  rintro e w2 ⟨rfl, rfl⟩
  go_wp2
  go_ret2
  exact ⟨rfl, H1.out, c1⟩
theorem turn_more_nil (w : World) :
    Calls Tryz.prog 99 #[.pointer none, .func (.func 90) #[] #[]] w fun e w' => e = .returned (.tuple #[.int .i64 0, .bool false]) ∧ w = w' := by
  have hfn := fn_nilI
  go_enter Tryz.func99, Tryz.ntmps99
  go_wp2_with fail
  refine (floadJ_nil _).mono ?_
  rintro e w1 ⟨rfl, rfl⟩
  go_wp2
  go_ret2
  exact ⟨rfl, rfl⟩
theorem turn_less_nil (w : World) :
    Calls Tryz.prog 99 #[.pointer none, .func (.func 115) #[] #[]] w fun e w' => e = .returned (.tuple #[.int .i64 0, .bool false]) ∧ w = w' := by
  have hfn := fn_nilI
  go_enter Tryz.func99, Tryz.ntmps99
  go_wp2_with fail
  refine (floadJ_nil _).mono ?_
  rintro e w1 ⟨rfl, rfl⟩
  go_wp2
  go_ret2
  exact ⟨rfl, rfl⟩
theorem count_more (v : Nat) (hv : v ≤ 1000000) (h : IsJ w b 0 (v : Nat)) :
    Calls Tryz.prog 89 #[.pointer (some ⟨b, 0, none⟩), .func (.func 90) #[] #[]] w fun e w' => e = .returned (.int .i64 0) ∧ IsJ w' b 0 ((v + 1 : Nat) : Int) ∧ Tch b 0 4 w w' := by
  have H := Lib.hid h
  clear h
  go_enter Tryz.func89, Tryz.ntmps89
  go_wp2_with fail
  refine (turn_more v hv H.out).mono ?_
  rintro e w1 ⟨rfl, h1, c1⟩
  have H1 := Lib.hid h1
  clear h1
  go_wp2
  go_ret
  exact ⟨rfl, H1.out, c1⟩
theorem count_less (v : Nat) (hv : v ≤ 1000000) (h : IsJ w b 0 (v : Nat)) (h0 : 0 < v) :
    Calls Tryz.prog 89 #[.pointer (some ⟨b, 0, none⟩), .func (.func 115) #[] #[]] w fun e w' => e = .returned (.int .i64 0) ∧ IsJ w' b 0 ((v - 1 : Nat) : Int) ∧ Tch b 0 4 w w' := by
  have H := Lib.hid h
  have H0 := Lib.hid h0
  clear h0
  clear h
  go_enter Tryz.func89, Tryz.ntmps89
  go_wp2_with fail
  refine (turn_less v hv H0.out H.out).mono ?_
  rintro e w1 ⟨rfl, h1, c1⟩
  have H1 := Lib.hid h1
  clear h1
  go_wp2
  go_ret
  exact ⟨rfl, H1.out, c1⟩
theorem count_lessno (v : Nat) (hv : v ≤ 1000000) (h : IsJ w b 0 (v : Nat)) (h0 : v = 0) :
    Calls Tryz.prog 89 #[.pointer (some ⟨b, 0, none⟩), .func (.func 115) #[] #[]] w fun e w' => e = .returned (.int .i64 6) ∧ IsJ w' b 0 (v : Int) ∧ Tch b 0 4 w w' := by
  have H := Lib.hid h
  have H0 := Lib.hid h0
  clear h0
  clear h
  go_enter Tryz.func89, Tryz.ntmps89
  go_wp2_with fail
  refine (turn_lessno v hv H0.out H.out).mono ?_
  rintro e w1 ⟨rfl, h1, c1⟩
  have H1 := Lib.hid h1
  clear h1
  go_wp2
  go_ret
  exact ⟨rfl, H1.out, c1⟩
theorem count_more_nil (w : World) :
    Calls Tryz.prog 89 #[.pointer none, .func (.func 90) #[] #[]] w fun e w' => e = .returned (.int .i64 6) ∧ w = w' := by
  go_enter Tryz.func89, Tryz.ntmps89
  go_wp2_with fail
  refine (turn_more_nil _).mono ?_
  rintro e w1 ⟨rfl, rfl⟩
  go_wp2
  go_ret
  exact ⟨rfl, rfl⟩
theorem count_less_nil (w : World) :
    Calls Tryz.prog 89 #[.pointer none, .func (.func 115) #[] #[]] w fun e w' => e = .returned (.int .i64 6) ∧ w = w' := by
  go_enter Tryz.func89, Tryz.ntmps89
  go_wp2_with fail
  refine (turn_less_nil _).mono ?_
  rintro e w1 ⟨rfl, rfl⟩
  go_wp2
  go_ret
  exact ⟨rfl, rfl⟩
end
end Go.Proofs.YtnbdafmjcmmfpaaGreat
