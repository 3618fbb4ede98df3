/-
  Contracts of package slab's functions that read: roomless, has, given, parts, number, Slot, Mine, Period, Word, Count, Id; of a nil slab; Begin, Drop, New.
-/
import Derived.Test.YtkialefhjfoniaaGreatSlabCells
import Derived.Laws.MakeOwn
namespace Go.Proofs.YtkialefhjfoniaaGreat
open Go.RowKit Verge
attribute [local go_sem] Oper.semAt_some
set_option linter.unusedVariables false
set_option linter.unusedSimpArgs false

theorem roomless_no (b rb n : Nat) (w : World) (hs : w.cell? ⟨b, 4, none⟩ = some (.slice (some ⟨rb, 0, none⟩) n n)) (n0 : 0 < n) :
    Calls Tryz.prog 49 #[.pointer (some ⟨b, 0, none⟩)] w fun e w' => e = .returned (.bool false) ∧ w = w' := by
  have hz : ((n : Int) == 0) = false := by rw [beq_eq_false_iff_ne]; omega
  go_enter Tryz.func49, Tryz.ntmps49
  go_wp2
  go_ret
  exact ⟨rfl, rfl⟩
theorem roomless_nil (w : World) :
    Calls Tryz.prog 49 #[.pointer none] w fun e w' => e = .returned (.bool true) ∧ w = w' := by
  go_enter Tryz.func49, Tryz.ntmps49
  go_wp2
  go_ret
  exact ⟨rfl, rfl⟩
theorem number_of (k g : Nat) (w : World) (hk : k < 64) (hg : g ≤ 1000000) :
    Calls Tryz.prog 81 #[.int .i64 k, .int .u64 g] w fun e w' => e = .returned (.int .u64 (g * 64 + k : Nat)) ∧ w = w' := by
  go_enter Tryz.func81, Tryz.ntmps81
  go_wp2
  go_ret
  refine ⟨?_, rfl⟩
  first | rfl | (refine ret_int ?_; first | rfl | omega)
theorem count_nil (w : World) :
    Calls Tryz.prog 29 #[.pointer none] w fun e w' => e = .returned (.int .i64 0) ∧ w = w' := by
  go_enter Tryz.func29, Tryz.ntmps29
  go_wp2_with fail
  refine (roomless_nil _).mono ?_
  rintro e w1 ⟨rfl, rfl⟩
  go_wp2
  go_ret
  exact ⟨rfl, rfl⟩
theorem count_of {b rb n cnt : Nat} {R : Nat → Rec} {w : World} (h : IsS w b rb n cnt R) :
    Calls Tryz.prog 29 #[.pointer (some ⟨b, 0, none⟩)] w fun e w' => e = .returned (.int .i64 (cnt : Nat)) ∧ IsS w' b rb n cnt R ∧ Ch (One b) w w' := by
  have hs := h.recs
  have n0 := h.n0
  have H := Lib.hid h
  clear h
  go_enter Tryz.func29, Tryz.ntmps29
  go_wp2_with fail
  refine (roomless_no b rb n _ hs n0).mono ?_
  rintro e w1 ⟨rfl, rfl⟩
  go_wp2_with fail
  refine (loadJ_at b 0 _ _ H.out.cnt).mono ?_
  rintro e w2 ⟨rfl, hu, c2⟩
  have NX := Lib.hid (H.out.count c2 hu)
  clear hu
  go_wp2
  go_ret
  exact ⟨rfl, NX.out, c2.ch⟩
/-- was a number given? -/
def givenId (n : Nat) (R : Nat → Rec) (id : Nat) : Prop := id % 64 < n ∧ 1 ≤ id / 64 ∧ id / 64 ≤ (R (id % 64)).gv
/-- is a number the slot's newest one? -/
def mineId (n : Nat) (R : Nat → Rec) (id : Nat) : Bool := decide (id / 64 ≠ 0 ∧ id / 64 = (if id % 64 < n then (R (id % 64)).gv else 0))
theorem begin_nil (p : Int) (w : World) :
    Calls Tryz.prog 14 #[.pointer none, .int .u64 p] w fun e w' => e = .returned (.pointer none) ∧ w = w' := by
  go_enter Tryz.func14, Tryz.ntmps14
  go_wp2_with fail
  refine (roomless_nil _).mono ?_
  rintro e w1 ⟨rfl, rfl⟩
  go_wp2
  go_ret
  exact ⟨rfl, rfl⟩
theorem isQ_new (w : World) (b pd : Nat) (T : TypeId) : IsQ (w.alloc (.cells #[.pointer (some ⟨b, 0, none⟩), .int .u64 (pd : Nat), .int .i64 0, .int .i64 0, .int .i64 0, .int .i64 0, .int .u64 0] T)) w.heap.size b ⟨pd, 0, 0, 0, 0, 0⟩ := by
  constructor <;> simp [go_sem]
theorem begin_of {b rb n cnt : Nat} {R : Nat → Rec} {w : World} (pd : Nat) (h : IsS w b rb n cnt R) :
    Calls Tryz.prog 14 #[.pointer (some ⟨b, 0, none⟩), .int .u64 (pd : Nat)] w fun e w' => ∃ q, e = .returned (.pointer (some ⟨q, 0, none⟩)) ∧ q = w.heap.size ∧ IsQ w' q b ⟨pd, 0, 0, 0, 0, 0⟩ ∧ IsS w' b rb n cnt R ∧ Ch Nil w w' ∧ w'.heap.size = w.heap.size + 1 := by
  have hs := h.recs
  have n0 := h.n0
  have H := Lib.hid h
  clear h
  go_enter Tryz.func14, Tryz.ntmps14
  go_wp2_with fail
  refine (roomless_no b rb n _ hs n0).mono ?_
  rintro e w1 ⟨rfl, rfl⟩
  go_wp2
  go_ret
  exact ⟨_, rfl, rfl, isQ_new _ _ _ _, H.out.quiet ((Ch.refl _ _).alloc _), (Ch.refl _ _).alloc _, by simp⟩

theorem new_out (n : Int) (w : World) (hn : Hid (n < 1 ∨ 64 < n)) :
    Calls Tryz.prog 38 #[.int .i64 n] w fun e w' => e = .returned (.tuple #[.pointer none, .int .i64 4]) ∧ w = w' := by
  by_cases h1 : n < 1
  · go_enter Tryz.func38, Tryz.ntmps38
    go_wp2
    go_ret2
    exact ⟨rfl, rfl⟩
  · have h2 : 64 < n := by have := hn.out; omega
    go_enter Tryz.func38, Tryz.ntmps38
    go_wp2
    go_ret2
    exact ⟨rfl, rfl⟩
theorem made_at (z : Array Value) (m j : Nat) (hj : j < m) : (madeCells z m)[j]? = some (z[j % z.size]!) := by simp [madeCells, hj]
theorem made_recs (n : Nat) (w : World) (n1 : n ≤ 64) : ∃ M : Array Value, (Instr.makeSlice 128 (.int .i64 (n : Int)) (.int .i64 (n : Int))).run Tryz.prog w = .ok (.slice (some ⟨w.heap.size, 0, none⟩) n n) (w.alloc (.cells M 151)) ∧
    ∀ i, i < n → M[i * 6]? = some (.int .u64 0) ∧ M[i * 6 + 1]? = some (.int .i64 0) ∧ M[i * 6 + 2]? = some (.int .i64 0) ∧ M[i * 6 + 3]? = some (.int .i64 0) ∧ M[i * 6 + 4]? = some (.int .u64 0) ∧ M[i * 6 + 5]? = some (.int .u64 0) := by
  have h0 : (Tryz.prog.info? 151).map (fun i => (i.zero, i.size, decide (i.bytes ≤ 1000))) = some (some (.agg #[.int .u64 0, .int .i64 0, .int .i64 0, .int .i64 0, .int .u64 0, .int .u64 0]), 6, true) := by kernel_rfl
  obtain ⟨inf, hi, he⟩ := Option.map_eq_some_iff.1 h0
  simp only [Prod.mk.injEq, decide_eq_true_eq] at he
  obtain ⟨hz, hsz, hby⟩ := he
  clear h0
  have hr := run_make (P := Tryz.prog) w 128 151 inf _ Tryz.underlying128 hi hz .i64 .i64 (n : Int) (n : Int) (by omega) (Int.le_refl _) (by
      have h1 : inf.bytes * n ≤ 1000 * 64 := Nat.mul_le_mul hby n1
      have h2 : ((inf.bytes * n : Nat) : Int) ≤ 281474976710656 := by omega
      rwa [Int.natCast_mul] at h2) (by omega)
  refine ⟨_, by simpa using hr, fun i hi' => ?_⟩
  rw [hsz]
  have g : ∀ c, c < 6 → (i * 6 + c) % 6 = c := fun c hc => by omega
  refine ⟨?_, ?_, ?_, ?_, ?_, ?_⟩
  · rw [made_at _ _ _ (by omega)]; show some (_[(i * 6 + 0) % 6]!) = _; rw [g 0 (by omega)]; rfl
  · rw [made_at _ _ _ (by omega)]; show some (_[(i * 6 + 1) % 6]!) = _; rw [g 1 (by omega)]; rfl
  · rw [made_at _ _ _ (by omega)]; show some (_[(i * 6 + 2) % 6]!) = _; rw [g 2 (by omega)]; rfl
  · rw [made_at _ _ _ (by omega)]; show some (_[(i * 6 + 3) % 6]!) = _; rw [g 3 (by omega)]; rfl
  · rw [made_at _ _ _ (by omega)]; show some (_[(i * 6 + 4) % 6]!) = _; rw [g 4 (by omega)]; rfl
  · rw [made_at _ _ _ (by omega)]; show some (_[(i * 6 + 5) % 6]!) = _; rw [g 5 (by omega)]; rfl
theorem made_cell (w : World) (M : Array Value) (T : TypeId) (j : Nat) : (w.alloc (.cells M T)).cell? ⟨w.heap.size, j, none⟩ = M[j]? := by
  simp [go_sem]
theorem made_frozen (w : World) (M : Array Value) (T : TypeId) (j : Nat) : (w.alloc (.cells M T)).frozen? ⟨w.heap.size, j, none⟩ = false := by
  simp [go_sem]
set_option maxHeartbeats 4000000 in
theorem new_in (n : Nat) (w : World) (n0 : 0 < n) (n1 : n ≤ 64) :
    Calls Tryz.prog 38 #[.int .i64 n] w fun e w' => e = .returned (.tuple #[.pointer (some ⟨w.heap.size + 1, 0, none⟩), .int .i64 0]) ∧ IsS w' (w.heap.size + 1) w.heap.size n 0 zeroR ∧ Ch Nil w w' := by
  have d1 : decide ((n : Int) < 1) = false := by rw [decide_eq_false_iff_not]; omega
  have d2 : decide (64 < (n : Int)) = false := by rw [decide_eq_false_iff_not]; omega
  obtain ⟨M, hM, hc⟩ := made_recs n w n1
  have HC := Lib.hid hc
  clear hc
  go_enter Tryz.func38, Tryz.ntmps38
  go_wp2
  go_ret2
  clear hM
  have cA : Ch Nil (w.alloc (Obj.cells M 151)) ((w.alloc (Obj.cells M 151)).alloc (Obj.cells #[.int .i64 0, .int .i64 0, .int .i64 0, .int .i64 0, .slice (some ⟨w.heap.size, 0, none⟩) n n] 130)) := (Ch.refl _ _).alloc _
  have eS : (w.alloc (Obj.cells M 151)).heap.size = w.heap.size + 1 := by simp
  refine ⟨by simp, ⟨⟨0, 0, 0, ?_⟩, ?_, ?_, by omega, n0, n1⟩, ((Ch.refl _ _).alloc _).alloc _⟩
  · rw [← eS]; constructor <;> simp [go_sem]
  · rw [← eS]; simp [go_sem]
  · intro p hp
    have hs : IsRec (w.alloc (Obj.cells M 151)) w.heap.size (p * 6) (zeroR p) := by
      obtain ⟨a0, a1, a2, a3, a4, a5⟩ := HC.out p hp
      refine ⟨⟨0, 0, 0, ?_⟩, (made_cell _ _ _ _).trans a4, (made_cell _ _ _ _).trans a5, made_frozen _ _ _ _, made_frozen _ _ _ _⟩
      exact ⟨(made_cell _ _ _ _).trans a0, (made_cell _ _ _ _).trans a1, (made_cell _ _ _ _).trans a2, (made_cell _ _ _ _).trans a3, made_frozen _ _ _ _, made_frozen _ _ _ _, made_frozen _ _ _ _, made_frozen _ _ _ _⟩
    exact hs.kept cA (fun e => e)
end Go.Proofs.YtkialefhjfoniaaGreat
