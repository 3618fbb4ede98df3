/-
  Contracts of the document's answers of layer 6: Has (by division), All, From.
-/
import Derived.Test.YtcmpidlmfbelpaaDoorBitsAlive
import Derived.Test.YtcmpidlmfbelpaaDoorListInts
namespace Go.Proofs.YtcmpidlmfbelpaaDoor
open Go.RowKit Go.Shelf Verge
attribute [local go_sem] Oper.semAt_some
set_option linter.unusedVariables false
set_option linter.unusedSimpArgs false

theorem has_no' (m : Nat) (s : Int) (h : ¬ (0 ≤ s ∧ s < 64)) : hasN m s = false := by unfold hasN; simp [h]
theorem val_int {k : IntKind} {a b : Int} (h : a = b) : Value.int k a = Value.int k b := by rw [h]
theorem test_div (m k : Nat) : (m.testBit k) = (m / 2 ^ k % 2 == 1) := by
  rw [Nat.testBit_eq_decide_div_mod_eq]
  rw [Bool.eq_iff_iff]; simp
theorem half (m k : Nat) : m / 2 ^ k / 2 = m / 2 ^ (k + 1) := by rw [Nat.pow_succ, Nat.div_div_eq_div_mul]

set_option maxHeartbeats 1000000 in
theorem refHas_any (m : Nat) (s : Int) (hm : m < 18446744073709551616) (w : World) :
    Calls Tryd.prog 11 #[.int .u64 m, .int .i64 s] w fun e w' => e = .returned (.bool (hasN m s)) ∧ w = w' := by
  by_cases h : 0 ≤ s ∧ s < 64
  · obtain ⟨h0, h1⟩ := h
    obtain ⟨n, rfl⟩ := Int.eq_ofNat_of_zero_le h0
    have hh : hasN m n = (m / 2 ^ n % 2 == 1) := by
      unfold hasN; rw [Int.toNat_natCast, ← test_div]; simp; omega
    rw [hh]
    clear hh
    have d1 : decide ((n : Int) < 0) = false := by simp
    have d2 : decide (63 < (n : Int)) = false := by simp; omega
    go_enter Tryd.func11, Tryd.ntmps11
    go_wp2
    go_loop [0, 5] (fun v i => ∃ k : Nat, k ≤ n ∧ i = .int .i64 k ∧ v = .int .u64 (m / 2 ^ k : Nat)) (fun _ i => n - (intOf i).toNat)
    case atStart => exact ⟨0, by omega, rfl, by simp⟩
    case round =>
      obtain ⟨k, hk, rfl, rfl⟩ := hrel
      have HH := Lib.hid (half m k)
      by_cases hlt : k < n
      · have hyb : m / 2 ^ k < 18446744073709551616 := Nat.lt_of_le_of_lt (Nat.div_le_self _ _) hm
        generalize hy : m / 2 ^ k = y at *
        clear hy
        go_wp2
        go_round
        case rel => exact ⟨k + 1, by omega, by go_num, by rw [← HH.out]; exact val_int (by first | omega | (rw [IntKind.wrap_u64]; omega))⟩
        case measure => simp [intOf]; omega
      · obtain rfl : k = n := by omega
        clear HH
        have hyb : m / 2 ^ k < 18446744073709551616 := Nat.lt_of_le_of_lt (Nat.div_le_self _ _) hm
        obtain ⟨y, hy⟩ : ∃ y, m / 2 ^ k = y := ⟨_, rfl⟩
        have HY := Lib.hid hy
        rw [hy] at hyb ⊢
        clear hy
        go_wp2
        go_ret
        refine ⟨ret_bool ?_, rfl⟩
        rw [Bool.eq_iff_iff, beq_iff_eq, beq_iff_eq, HY.out]
        first | omega | (rw [IntKind.wrap_u64]; omega)
  · have hh := has_no' m s h
    rw [hh]
    by_cases h0 : s < 0
    · go_enter Tryd.func11, Tryd.ntmps11
      go_wp2
      go_ret
      exact ⟨rfl, rfl⟩
    · have h1 : 63 < s := by omega
      have h2 : 0 ≤ s := by omega
      clear h h0
      go_enter Tryd.func11, Tryd.ntmps11
      go_wp2
      go_ret
      exact ⟨rfl, rfl⟩

/-- how many slots lie below k -/
def pre (m k : Nat) : Nat := ((List.range k).filter m.testBit).length
theorem pre_le (m k : Nat) : pre m k ≤ k := by unfold pre; have := List.length_filter_le m.testBit (List.range k); simpa using this
theorem pre_all (m : Nat) : pre m 64 = (slots m).length := rfl
theorem pre_yes (m k : Nat) (h : m.testBit k = true) : pre m (k + 1) = pre m k + 1 := by
  unfold pre; rw [List.range_succ, List.filter_append]; simp [h]
theorem pre_no (m k : Nat) (h : m.testBit k = false) : pre m (k + 1) = pre m k := by
  unfold pre; rw [List.range_succ, List.filter_append]; simp [h]
theorem pre_at (m k : Nat) (hk : k < 64) (h : m.testBit k = true) : slotAt m (pre m k) = k := by
  unfold slotAt pre slots
  have e := List.range_add (n := k) (m := 64 - k)
  rw [show k + (64 - k) = 64 by omega] at e
  rw [e, List.filter_append]
  have e2 := List.range_add (n := 1) (m := 64 - k - 1)
  rw [show 1 + (64 - k - 1) = 64 - k by omega] at e2
  rw [e2, List.map_append, List.filter_append]
  rw [List.getD_eq_getElem?_getD, List.getElem?_append_right (Nat.le_refl _)]
  simp [h]
theorem has_test (m k : Nat) (hk : k < 64) : hasN m (k : Int) = m.testBit k := by
  unfold hasN; rw [Int.toNat_natCast]; simp; omega

set_option maxRecDepth 100000 in
set_option maxHeartbeats 1000000 in
theorem refAll_any (m : Nat) (hm : m < 18446744073709551616) (w : World) :
    Calls Tryd.prog 9 #[.int .u64 m] w fun e w' => ∃ a cap, e = .returned (.slice a (slots m).length cap) ∧ Row w' 3 1 a (slots m).length cap (slotV m) ∧ (∀ g, OwnS a g → w.heap.size ≤ g) ∧ Ch Nil w w' := by
  go_enter Tryd.func9, Tryd.ntmps9
  go_wp2
  go_loopw [3, 4] (fun l i wr => ∃ (k : Nat) (a : Option Addr) (cap : Nat), k ≤ 64 ∧ i = .int .i64 k ∧ l = .slice a (pre m k) cap ∧ Row wr 3 1 a (pre m k) cap (slotV m) ∧ (∀ g, OwnS a g → w.heap.size ≤ g) ∧ Ch Nil w wr) (fun _ i _ => 64 - (intOf i).toNat)
  case atStart => exact ⟨0, none, 0, by omega, rfl, rfl, Row.nil _ _ _ _, (fun g hg => by cases hg), Ch.refl _ _⟩
  case round =>
    obtain ⟨k, a, cap, hk, rfl, rfl, row, hg, hc⟩ := hrel
    have HR := Lib.hid row
    have HG := Lib.hid hg
    have HC := Lib.hid hc
    have hs := hc.size
    clear row hg hc
    by_cases hlt : k < 64
    · have hp := pre_le m k
      have E := Lib.hid (has_test m k hlt)
      cases ht : m.testBit k
      · have P := Lib.hid (pre_no m k ht)
        have HT := Lib.hid ht
        clear ht
        go_wp2_with fail
        refine (refHas_any m k hm _).mono ?_
        rw [E.out, HT.out]
        rintro e w2 ⟨rfl, rfl⟩
        go_wp2
        go_roundw
        case rel => exact ⟨k + 1, a, cap, by omega, by go_num, by rw [P.out], by rw [P.out]; exact HR.out, HG.out, HC.out⟩
        case measure => simp [intOf]; omega
      · have P := Lib.hid (pre_yes m k ht)
        have V := Lib.hid (pre_at m k hlt ht)
        have HT := Lib.hid ht
        clear ht
        generalize hq : pre m k = q at *
        clear hq
        go_wp2_with fail
        refine (refHas_any m k hm _).mono ?_
        rw [E.out, HT.out]
        rintro e w2 ⟨rfl, rfl⟩
        have hXc : Ch Nil wr (wr.alloc (.cells #[.int .i64 k] 3)) := (Ch.refl _ _).alloc _
        have R2 : Row (wr.alloc (.cells #[.int .i64 k] 3)) 3 1 a q cap (slotV m) := HR.out.kept hXc (fun _ _ e => e)
        have HX := Lib.hid hXc
        have HR2 := Lib.hid R2
        clear hXc R2
        go_wp2_with (at_builtin; refine append_row _ rfl _ _ _ rfl 3 (.int .i64 0) 1 8 Tryd.underlying25 (by kernel_rfl) rfl (by omega) (by omega) rfl HR2.out (by omega) wr.heap.size 1 [.int .i64 k] 3 rfl rfl (heap_alloc_new wr _) (by simp [Value.oneCell']) (slotV m) (fun _ _ => rfl) (by intro j u hu; obtain rfl : j = 0 := (by cases j; rfl; simp at hu); simp at hu; subst hu; simp only [Nat.mul_one, Nat.add_zero, slotV]; rw [V.out]) _ rfl ?_)
        intro g cap' w' row ch at_ lt
        have ROW := Lib.hid row
        have CH := Lib.hid ch
        have AT := Lib.hid at_
        clear row ch at_
        go_wp2
        go_roundw
        case rel =>
          refine ⟨k + 1, some ⟨g, 0, none⟩, cap', by omega, by go_num, by rw [P.out], by rw [P.out]; exact ROW.out, ?_, (HC.out.trans HX.out).then CH.out (fun i hi e => by have := HG.out i e; omega)⟩
          intro g' hg'
          cases hg'
          rcases AT.out with h | h
          · exact HG.out _ h
          · simp at h ⊢; omega
        case measure => simp [intOf]; omega
    · obtain rfl : k = 64 := by omega
      go_wp2
      go_ret
      exact ⟨a, cap, rfl, HR.out, HG.out, HC.out⟩

set_option maxRecDepth 100000 in
set_option maxHeartbeats 1000000 in
theorem refFrom_any (m : Nat) (s : Int) (hm : m < 18446744073709551616) (w : World) :
    Calls Tryd.prog 15 #[.int .u64 m, .int .i64 s] w fun e w' => e = .returned (.int .i64 (fromN m s)) ∧ Ch Nil w w' := by
  have hl := slots_le m
  go_enter Tryd.func15, Tryd.ntmps15
  go_wp2_with fail
  refine (refAll_any m hm _).mono ?_
  rintro e w1 ⟨a, cap, rfl, row, hg, hc⟩
  have HR := Lib.hid row
  have HC := Lib.hid hc
  have lc := row.len_cap
  clear row hg hc
  go_wp2
  go_loop [6] (fun i => ∃ k : Nat, k ≤ (slots m).length ∧ i = .int .i64 k ∧ (∀ j x, j < k → (slots m)[j]? = some x → (x : Int) < s)) (fun i => (slots m).length - (intOf i).toNat)
  case atStart => exact ⟨0, by omega, rfl, fun j x hj => by omega⟩
  case round =>
    obtain ⟨k, hk, rfl, hno⟩ := hrel
    have HN := Lib.hid hno
    clear hno
    by_cases hlt : k < (slots m).length
    · obtain ⟨g, rfl, -⟩ := HR.out.form (by omega)
      have q : w1.cell? ⟨g, k, none⟩ = some (.int .i64 (slotAt m k : Nat)) := HR.out.cell k (by omega)
      have G := Lib.hid (slotAt_get m k hlt)
      have hkz : (k : Int) < ((slots m).length : Int) := by omega
      have hkz0 : (0 : Int) ≤ (k : Int) := by omega
      by_cases hs : s ≤ (slotAt m k : Nat)
      · have F : Hid (fromN m s = (slotAt m k : Nat)) := by
          unfold fromN; rw [find_at _ _ k hlt HN.out (by exact hs)]; rfl
        have d : decide (s ≤ (slotAt m k : Int)) = true := by simpa using hs
        generalize (slots m).length = n at *
        go_wp2
        go_ret
        exact ⟨by rw [F.out]; rfl, HC.out⟩
      · have d : decide (s ≤ (slotAt m k : Int)) = false := by simpa using hs
        have NX : Hid (∀ j x, j < k + 1 → (slots m)[j]? = some x → (x : Int) < s) := fun j x hj hx => by
          by_cases e : j < k
          · exact HN.out j x e hx
          · obtain rfl : j = k := by omega
            rw [G.out] at hx; cases hx; omega
        generalize (slots m).length = n at *
        go_wp2
        go_round
        case rel => exact ⟨k + 1, by omega, by go_num, NX.out⟩
        case measure => simp [intOf]; omega
    · obtain rfl : k = (slots m).length := by omega
      have f : fromN m s = -1 := by unfold fromN; rw [find_none _ _ HN.out]
      have F := Lib.hid f
      clear f
      generalize (slots m).length = n at *
      go_wp2
      go_ret
      exact ⟨by rw [F.out]; rfl, HC.out⟩
end Go.Proofs.YtcmpidlmfbelpaaDoor
