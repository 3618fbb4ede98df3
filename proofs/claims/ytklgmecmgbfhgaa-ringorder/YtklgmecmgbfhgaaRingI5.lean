/-
  Contracts of package ring's functions at int: a new ring.
-/
import Derived.Test.YtklgmecmgbfhgaaRingI4
import Derived.Laws.MakeOwn
namespace Go.Proofs.Ytklgmecmgbfhgaa.RI
open Go.RowKit Verge
attribute [local go_sem] Oper.semAt_some
set_option linter.unusedVariables false
set_option linter.unusedSimpArgs false

theorem new_out (n : Int) (w : World) (hn : Hid (n < 1 ∨ 64 < n)) :
    Calls Try.prog 9 #[.int .i64 n] w fun e w' => e = .returned (.tuple #[.pointer none, .int .i64 4]) ∧ w = w' := by
  by_cases h1 : n < 1
  · go_enter Try.func9, Try.ntmps9
    go_wp2
    go_ret2
    exact ⟨rfl, rfl⟩
  · have h2 : 64 < n := by have := hn.out; omega
    go_enter Try.func9, Try.ntmps9
    go_wp2
    go_ret2
    exact ⟨rfl, rfl⟩

theorem made_at (z : Array Value) (m j : Nat) (hj : j < m) : (madeCells z m)[j]? = some (z[j % z.size]!) := by simp [madeCells, hj]
/-- a row of n seats that was just made -/
theorem made_seats (n : Nat) (w : World) (n1 : n ≤ 64) : ∃ M : Array Value, (Instr.makeSlice 64 (.int .i64 (n : Int)) (.int .i64 (n : Int))).run Try.prog w = .ok (.slice (some ⟨w.heap.size, 0, none⟩) n n) (w.alloc (.cells M 75)) ∧
    ∀ i, i < n → M[i * 6]? = some (.int .u64 0) ∧ M[i * 6 + 1]? = some (.bool false) ∧ M[i * 6 + 2]? = some (.int .i64 0) ∧ M[i * 6 + 3]? = some (.int .i64 0) ∧ M[i * 6 + 4]? = some (.int .i64 0) ∧ M[i * 6 + 5]? = some (.int .i64 0) := by
  have h0 : (Try.prog.info? 75).map (fun i => (i.zero, i.size, decide (i.bytes ≤ 1000))) = some (some (.agg #[.int .u64 0, .bool false, .int .i64 0, .int .i64 0, .int .i64 0, .int .i64 0]), 6, true) := by kernel_rfl
  obtain ⟨inf, hi, he⟩ := Option.map_eq_some_iff.1 h0
  simp only [Prod.mk.injEq, decide_eq_true_eq] at he
  obtain ⟨hz, hsz, hby⟩ := he
  clear h0
  have hr := run_make (P := Try.prog) w 64 75 inf _ Try.underlying64 hi hz .i64 .i64 (n : Int) (n : Int) (by omega) (Int.le_refl _) (by
      have h1 : inf.bytes * n ≤ 1000 * 64 := Nat.mul_le_mul hby n1
      have h2 : ((inf.bytes * n : Nat) : Int) ≤ 281474976710656 := by omega
      rwa [Int.natCast_mul] at h2) (by omega)
  refine ⟨_, by simpa using hr, fun i hi' => ?_⟩
  rw [hsz]
  have g : ∀ c, c < 6 → (i * 6 + c) % 6 = c := fun c hc => by omega
  refine ⟨?_, ?_, ?_, ?_, ?_, ?_⟩
  · rw [made_at _ _ _ (by omega)]; show some (_[(i * 6 + 0) % 6]!) = _; rw [g 0 (by omega)]; rfl
  · rw [made_at _ _ _ (by omega)]; show some (_[(i * 6 + 1) % 6]!) = _; rw [g 1 (by omega)]; rfl
  · rw [made_at _ _ _ (by omega)]; show some (_[(i * 6 + 2) % 6]!) = _; rw [g 2 (by omega)]; rfl
  · rw [made_at _ _ _ (by omega)]; show some (_[(i * 6 + 3) % 6]!) = _; rw [g 3 (by omega)]; rfl
  · rw [made_at _ _ _ (by omega)]; show some (_[(i * 6 + 4) % 6]!) = _; rw [g 4 (by omega)]; rfl
  · rw [made_at _ _ _ (by omega)]; show some (_[(i * 6 + 5) % 6]!) = _; rw [g 5 (by omega)]; rfl

theorem made_cell (w : World) (M : Array Value) (T : TypeId) (j : Nat) : (w.alloc (.cells M T)).cell? ⟨w.heap.size, j, none⟩ = M[j]? := by
  simp [go_sem]
theorem made_frozen (w : World) (M : Array Value) (T : TypeId) (j : Nat) : (w.alloc (.cells M T)).frozen? ⟨w.heap.size, j, none⟩ = false := by
  simp [go_sem]
/-- what the loop keeps: k seats are marked -/
structure NewIn (w wr : World) (b sb n k : Nat) : Prop where
  next : IsU wr b 0 0
  first : IsU wr b 4 0
  seats : wr.cell? ⟨b, 8, none⟩ = some (.slice (some ⟨sb, 0, none⟩) n n)
  seat : ∀ p, p < n → IsSeat wr sb (p * 6) (if p < k then p else 0) false 0
  ch : Ch Nil w wr

set_option maxHeartbeats 4000000 in
set_option maxRecDepth 100000 in
theorem new_in (n : Nat) (w : World) (n0 : 0 < n) (n1 : n ≤ 64) :
    Calls Try.prog 9 #[.int .i64 n] w fun e w' => e = .returned (.tuple #[.pointer (some ⟨w.heap.size + 1, 0, none⟩), .int .i64 0]) ∧ IsRing w' (w.heap.size + 1) w.heap.size n 0 0 (fun _ => false) (fun _ => 0) ∧ Ch Nil w w' := by
  have d1 : decide ((n : Int) < 1) = false := by rw [decide_eq_false_iff_not]; omega
  have d2 : decide (64 < (n : Int)) = false := by rw [decide_eq_false_iff_not]; omega
  obtain ⟨M, hM, hc⟩ := made_seats n w n1
  have HC := Lib.hid hc
  clear hc
  go_enter Try.func9, Try.ntmps9
  go_wp2
  clear hM
  have hN : NewIn w ((w.alloc (Obj.cells M 75)).alloc (Obj.cells #[.int .u64 0, .int .i64 0, .int .i64 0, .int .i64 0, .int .u64 0, .int .i64 0, .int .i64 0, .int .i64 0, .slice (some ⟨w.heap.size, 0, none⟩) n n] 69)) (w.heap.size + 1) w.heap.size n 0 := by
    have cA : Ch Nil (w.alloc (Obj.cells M 75)) ((w.alloc (Obj.cells M 75)).alloc (Obj.cells #[.int .u64 0, .int .i64 0, .int .i64 0, .int .i64 0, .int .u64 0, .int .i64 0, .int .i64 0, .int .i64 0, .slice (some ⟨w.heap.size, 0, none⟩) n n] 69)) := (Ch.refl _ _).alloc _
    have eS : (w.alloc (Obj.cells M 75)).heap.size = w.heap.size + 1 := by simp
    refine ⟨⟨0, 0, 0, ?_⟩, ⟨0, 0, 0, ?_⟩, ?_, ?_, ((Ch.refl _ _).alloc _).alloc _⟩
    · rw [← eS]; constructor <;> simp [go_sem]
    · rw [← eS]; constructor <;> simp [go_sem]
    · rw [← eS]; simp [go_sem]
    · intro p hp
      have hs : IsSeat (w.alloc (Obj.cells M 75)) w.heap.size (p * 6) 0 false 0 := by
        obtain ⟨a0, a1, a2, a3, a4, a5⟩ := HC.out p hp
        refine ⟨⟨0, 0, 0, ?_⟩, ⟨_, (made_cell _ _ _ _).trans a5, fun _ => rfl⟩, made_frozen _ _ _ _⟩
        exact ⟨(made_cell _ _ _ _).trans a0, (made_cell _ _ _ _).trans a1, (made_cell _ _ _ _).trans a2, (made_cell _ _ _ _).trans a3, (made_cell _ _ _ _).trans a4, made_frozen _ _ _ _, made_frozen _ _ _ _, made_frozen _ _ _ _⟩
      simpa using hs.kept cA (fun e => e)
  generalize (w.alloc (Obj.cells M 75)).alloc (Obj.cells #[.int .u64 0, .int .i64 0, .int .i64 0, .int .i64 0, .int .u64 0, .int .i64 0, .int .i64 0, .int .i64 0, .slice (some ⟨w.heap.size, 0, none⟩) n n] 69) = w2 at hN ⊢
  clear HC
  have hbs : w.heap.size + 1 ≠ w.heap.size := by omega
  obtain ⟨b, hb⟩ : ∃ b, w.heap.size + 1 = b := ⟨_, rfl⟩
  have HB := Lib.hid hb
  rw [hb] at hN hbs ⊢
  clear hb
  obtain ⟨sb, hsb⟩ : ∃ sb, w.heap.size = sb := ⟨_, rfl⟩
  have HSB := Lib.hid hsb
  rw [hsb] at hN hbs ⊢
  clear hsb
  go_loopw [21] (fun i wr => ∃ k : Nat, k ≤ n ∧ i = .int .i64 k ∧ NewIn w wr b sb n k) (fun i _ => n - (intOf i).toNat)
  case atStart => exact ⟨0, Nat.zero_le _, rfl, hN⟩
  case round =>
    obtain ⟨k, hk, rfl, hR⟩ := hrel
    clear hN
    have HR := Lib.hid hR
    clear hR
    by_cases hlt : k < n
    · have hse := HR.out.seats
      have e1 : ((k : Int)).toNat = k := by omega
      go_wp2_with fail
      clear hse
      refine (storeM_at sb (k * 6) _ (k : Int) false false _ (HR.out.seat k hlt).m).mono ?_
      rintro e w3 ⟨rfl, m3, c3⟩
      have M3 := Lib.hid m3
      have C3 := Lib.hid c3
      clear m3 c3
      go_wp2
      go_roundw
      case rel =>
        have c := C3.out
        refine ⟨k + 1, by omega, by go_num, HR.out.next.kept c.ch hbs, HR.out.first.kept c.ch hbs, c.ch.keeps HR.out.seats hbs, ?_, ?_⟩
        · intro p hp
          by_cases e : p = k
          · subst e
            obtain ⟨z, hz, hv⟩ := (HR.out.seat p hp).z
            rw [if_pos (by omega)]
            exact ⟨M3.out, ⟨z, (c.cell _ (by omega)).trans hz, hv⟩, (c.fz _).trans (HR.out.seat p hp).f⟩
          · have := (HR.out.seat p hp).far c (by omega)
            by_cases hpk : p < k
            · rw [if_pos hpk] at this; rw [if_pos (by omega)]; exact this
            · rw [if_neg hpk] at this; rw [if_neg (by omega)]; exact this
        · exact HR.out.ch.then c.ch (fun i hi e => by change i = sb at e; have := HSB.out; omega)
      case measure => simp [intOf]; omega
    · obtain rfl : k = n := by omega
      clear hlt
      go_wp2
      go_ret2
      rw [HB.out, HSB.out]
      refine ⟨rfl, ⟨HR.out.next, HR.out.first, HR.out.seats, ?_, hbs, n0, n1⟩, HR.out.ch⟩
      intro p h1 h2
      have := HR.out.seat p (by omega)
      rw [if_pos (by omega)] at this
      rw [Nat.mod_eq_of_lt (by omega)]
      exact this
end Go.Proofs.Ytklgmecmgbfhgaa.RI
