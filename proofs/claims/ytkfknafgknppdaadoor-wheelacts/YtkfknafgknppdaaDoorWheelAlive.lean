/-
  The document's example, as the statements ask it; the numbers of due entries; the calls of no wheel.
-/
import Derived.Test.YtkfknafgknppdaaDoorWheelP6
import Derived.Test.YtkfknafgknppdaaDoorListInts
import Derived.Test.YtkfknafgknppdaaDoorRangeSome
namespace Go.Proofs.YtkfknafgknppdaaDoor
open Go.RowKit Go.Shelf Verge LP
attribute [local go_sem] Oper.semAt_some
set_option linter.unusedVariables false
set_option linter.unusedSimpArgs false
theorem RowI.lit (w : World) (v : Int) : RowI (w.alloc (.cells #[.int .i64 v] 3)) (some ⟨w.heap.size, 0, none⟩) 1 1 (fun _ => v) :=
  ⟨rfl, .inr ⟨_, _, _, rfl, Nat.zero_le _, World.alloc_heap_new w _, Nat.le_refl _, by simp [maxLen], rfl, rfl⟩⟩
/-- the values of entries, as numbers -/
abbrev uAt (ys : List Ent) : Nat → Int := fun i => (ys.getD i ⟨0, 0, 0⟩).u
theorem RowU.ints {w : World} {a : Option Addr} {n cap : Nat} {ys : List Ent} (h : RowU w a n cap ys) : RowI w a n cap (uAt ys) := h
/-- the example's entries that are there at a time -/
def exQ (b c k : Nat) : List Ent := [⟨b, 5, 1⟩, ⟨c, 70, 2⟩].filter fun x => decide (k < x.d)
theorem exQ_left (b c k : Nat) : leftQ (exQ b c k) (k + 1) = exQ b c (k + 1) := by
  unfold leftQ exQ
  rw [List.filter_filter]
  refine List.filter_congr fun x _ => ?_
  by_cases h : k + 1 < x.d
  · have h1 : x.d ≠ k + 1 := by omega
    have h2 : k < x.d := by omega
    simp [h, h1, h2]
  · by_cases h1 : k < x.d
    · have : x.d = k + 1 := by omega
      simp [this]
    · simp [h, h1]
theorem exQ_due (b c k : Nat) (hk : k < 64) : (dueQ (exQ b c k) (k + 1)).length + (if 5 ≤ k then 1 else 0) = (if 5 ≤ k + 1 then 1 else 0) := by
  unfold dueQ exQ
  rw [List.filter_filter]
  have h2 : ¬ (70 : Nat) = k + 1 := by omega
  by_cases h : k = 4
  · subst h; simp [List.filter_cons]
  · have h3 : ¬ (5 : Nat) = k + 1 := by omega
    simp only [List.filter_cons, List.filter_nil, h2, h3, decide_false, Bool.false_and]
    simp
    split <;> split <;> omega
theorem exQ_le (b c k : Nat) : (exQ b c k).length ≤ 2 := List.length_filter_le _ _

set_option maxHeartbeats 4000000 in
set_option maxRecDepth 100000 in
theorem alive_any (w : World) :
    Calls Tryd.prog 4 #[] w fun e w' => e = .returned (.bool true) ∧ Ch Nil w w' := by
  go_enter Tryd.func4, Tryd.ntmps4
  go_wp2_with fail
  refine (Drv.new (w0 := w) 0 (by decide) (Ch.refl _ _)).mono ?_
  rintro e w1 ⟨g, rfl, -, d1, -⟩
  have D1 := Lib.hid d1
  clear d1
  go_wp2_with fail
  refine (D1.out.insert 5 1 (by decide) (by decide) (by simp)).mono ?_
  rintro e w2 ⟨b, rfl, hb, d2, -⟩
  have D2 := Lib.hid d2
  clear d2 D1
  go_wp2_with fail
  refine (D2.out.insert 70 2 (by decide) (by decide) (by simp)).mono ?_
  rintro e w3 ⟨c, rfl, hc, d3, -⟩
  have D3 : Hid (Drv w w3 g 0 [⟨b, 5, 1⟩, ⟨c, 70, 2⟩] [⟨b, 5, 1⟩, ⟨c, 70, 2⟩]) := Lib.hid d3
  clear d3 D2
  go_wp2_with fail
  refine (D3.out.at_of (h := 0) (s := 5) (by omega) (by omega) (by simp)).mono ?_
  rintro e w4 ⟨a4, cap4, rfl, r4, -, c4⟩
  have e4 : rowsOf [⟨b, 5, 1⟩, ⟨c, 70, 2⟩] 0 (64 * 0 + 5) = [⟨b, 5, 1⟩] := by simp [rowsOf, spotN]
  rw [e4] at r4 ⊢
  have R4 : Hid (RowI (w4.alloc (.cells #[.int .i64 1] 3)) a4 1 cap4 (fun _ => 1)) := Lib.hid ((RowU.ints r4).congr (fun _ => 1) (fun i hi => by simp at hi; subst hi; rfl) |>.kept (S := Nil) ((Ch.refl _ _).alloc _) (fun _ _ e => e))
  have D4 := Lib.hid (D3.out.quiet (c4.alloc (.cells #[.int .i64 1] 3)))
  have L4 := Lib.hid (RowI.lit w4 1)
  clear r4 c4 e4 D3
  simp only [List.length_cons, List.length_nil, Nat.zero_add]
  go_wp2_with fail
  refine (ints_same R4.out L4.out (by omega)).mono ?_
  rintro e w5 ⟨rfl, c5⟩
  have D5 := Lib.hid (D4.out.quiet c5)
  clear c5 D4 R4 L4
  go_wp2_with fail
  refine (D5.out.at_of (h := 1) (s := 1) (by omega) (by omega) (by simp)).mono ?_
  rintro e w6 ⟨a6, cap6, rfl, r6, -, c6⟩
  have e6 : rowsOf [⟨b, 5, 1⟩, ⟨c, 70, 2⟩] 0 (64 * 1 + 1) = [⟨c, 70, 2⟩] := by simp [rowsOf, spotN]
  rw [e6] at r6 ⊢
  have R6 : Hid (RowI (w6.alloc (.cells #[.int .i64 2] 3)) a6 1 cap6 (fun _ => 2)) := Lib.hid ((RowU.ints r6).congr (fun _ => 2) (fun i hi => by simp at hi; subst hi; rfl) |>.kept (S := Nil) ((Ch.refl _ _).alloc _) (fun _ _ e => e))
  have D6 := Lib.hid (D5.out.quiet (c6.alloc (.cells #[.int .i64 2] 3)))
  have L6 := Lib.hid (RowI.lit w6 2)
  clear r6 c6 e6 D5
  simp only [List.length_cons, List.length_nil, Nat.zero_add]
  go_wp2_with fail
  refine (ints_same R6.out L6.out (by omega)).mono ?_
  rintro e w7 ⟨rfl, c7⟩
  have D7 : Hid (Drv w w7 g 0 (exQ b c 0) [⟨b, 5, 1⟩, ⟨c, 70, 2⟩]) := Lib.hid (D6.out.quiet c7)
  clear c7 D6 R6 L6
  go_wp2
  go_loopw [7, 6] (fun i n wr => ∃ k : Nat, k ≤ 64 ∧ i = .int .i64 k ∧ n = .int .i64 ((if 5 ≤ k then 1 else 0 : Nat) : Int) ∧ Drv w wr g k (exQ b c k) [⟨b, 5, 1⟩, ⟨c, 70, 2⟩]) (fun i _ _ => 64 - (intOf i).toNat)
  case atStart => exact ⟨0, by omega, rfl, rfl, D7.out⟩
  case round =>
    obtain ⟨k, hk, rfl, rfl, d8⟩ := hrel
    have D8 := Lib.hid d8
    clear d8
    by_cases hlt : k < 64
    · have hkz : (k : Int) < 64 := by omega
      obtain ⟨n, hn⟩ : ∃ n : Nat, n = if 5 ≤ k then 1 else 0 := ⟨_, rfl⟩
      have HN := Lib.hid hn
      have hn2 : n ≤ 1 := by rw [hn]; split <;> omega
      rw [← hn]
      clear hn
      go_wp2_with fail
      refine (D8.out.advance (by omega) (by have := exQ_le b c k; omega)).mono ?_
      rintro e w9 ⟨a9, cap9, rfl, -, -, d9, -⟩
      rw [exQ_left] at d9
      have hd := exQ_due b c k hlt
      have hdl : (dueQ (exQ b c k) (k + 1)).length ≤ 2 := Nat.le_trans (List.length_filter_le _ _) (exQ_le b c k)
      generalize (dueQ (exQ b c k) (k + 1)).length = m at *
      rw [← HN.out] at hd
      have D9 := Lib.hid d9
      have HD := Lib.hid hd
      clear d9 hd
      go_wp2
      go_roundw
      case rel => exact ⟨k + 1, by omega, by go_num, by rw [← HD.out]; go_num, D9.out⟩
      case measure => simp [intOf]; omega
    · obtain rfl : k = 64 := by omega
      rw [if_pos (by omega)]
      have D8' : Hid (Drv w wr g 64 [⟨c, 70, 2⟩] [⟨b, 5, 1⟩, ⟨c, 70, 2⟩]) := Lib.hid D8.out
      clear D8
      go_wp2_with fail
      refine (D8'.out.at_of (h := 0) (s := 6) (by omega) (by omega) (by simp)).mono ?_
      rintro e w9 ⟨a9, cap9, rfl, r9, -, c9⟩
      have e9 : rowsOf [⟨c, 70, 2⟩] 64 (64 * 0 + 6) = [⟨c, 70, 2⟩] := by simp [rowsOf, spotN]
      rw [e9] at r9 ⊢
      have R9 : Hid (RowI (w9.alloc (.cells #[.int .i64 2] 3)) a9 1 cap9 (fun _ => 2)) := Lib.hid ((RowU.ints r9).congr (fun _ => 2) (fun i hi => by simp at hi; subst hi; rfl) |>.kept (S := Nil) ((Ch.refl _ _).alloc _) (fun _ _ e => e))
      have D9 := Lib.hid (D8'.out.quiet (c9.alloc (.cells #[.int .i64 2] 3)))
      have L9 := Lib.hid (RowI.lit w9 2)
      clear r9 c9 e9 D8'
      simp only [List.length_cons, List.length_nil, Nat.zero_add]
      go_wp2_with fail
      refine (ints_same R9.out L9.out (by omega)).mono ?_
      rintro e wa ⟨rfl, ca⟩
      have DA := Lib.hid (D9.out.quiet ca)
      clear ca D9 R9 L9
      go_wp2_with fail
      refine DA.out.time.mono ?_
      rintro e wb ⟨rfl, rfl⟩
      go_wp2
      go_ret
      exact ⟨rfl, DA.out.c⟩

set_option maxRecDepth 100000 in
theorem rows_nil (n : Nat) (h1 : 1 ≤ n) (I : Nat → World → Prop) :
    TellsSome n Tryd.prog 50 (fun l => #[.pointer none] ++ #[.func (.yield l) #[] #[]]) 0 (fun k => .pointer none) I := by
  intro l J Jx W hJ hY h0
  have H0 := Lib.hid h0
  clear hJ hY h0
  refine callsIn_of_wp Tryd.func50 rfl trivial ?_ rfl
  simp only [Tryd.ntmps50, List.size_toArray, List.length_cons, List.length_nil, Nat.reduceAdd, Nat.reduceSub, Array.replicate_succ, Array.replicate_zero, List.push_toArray, List.append_toArray, List.nil_append, List.cons_append]
  gi_wp2
  refine bodyPost_ret (results_none rfl _ _ _) rfl ?_
  exact ⟨⟨_, rfl⟩, .inl H0.out⟩
/-- between two rounds of Next of no wheel -/
structure NxIn (w W : World) : Prop where
  a : ∃ x, W.cell? ⟨w.heap.size, 0, none⟩ = some (.int .u64 x)
  b : ∃ x, W.cell? ⟨w.heap.size + 1, 0, none⟩ = some (.int .i64 x)
  ka : Blk W w.heap.size
  kb : Blk W (w.heap.size + 1)
  c : Ch Nil w W
theorem NxIn.steady {w : World} {B : Nat} (hB : w.heap.size + 2 ≤ B) : Steady B (fun _ => NxIn w) := fun k W W' r h c hr nc => by
  obtain ⟨x, hx⟩ := h.a
  obtain ⟨y, hy⟩ := h.b
  exact ⟨⟨x, c.keeps hx (fun e => nc.cell hx e)⟩, ⟨y, c.keeps hy (fun e => nc.cell hy e)⟩, h.ka.kept c (NoCells.blk nc h.ka), h.kb.kept c (NoCells.blk nc h.kb), h.c.later c (by omega)⟩

set_option maxHeartbeats 1000000 in
set_option maxRecDepth 100000 in
theorem next_nil (w : World) :
    Calls Tryd.prog 32 #[.pointer none] w fun e w' => e = .returned (.tuple #[.int .u64 0, .int .i64 6]) ∧ Ch Nil w w' := by
  have hI0 : NxIn w ((w.alloc (.cells #[.int .u64 0] 22)).alloc (.cells #[.int .i64 0] 35)) := by
    have c1 : Ch Nil w (w.alloc (.cells #[.int .u64 0] 22)) := (Ch.refl _ _).alloc _
    have c2 : Ch Nil (w.alloc (.cells #[.int .u64 0] 22)) ((w.alloc (.cells #[.int .u64 0] 22)).alloc (.cells #[.int .i64 0] 35)) := (Ch.refl _ _).alloc _
    have hs : (w.alloc (.cells #[.int .u64 0] 22)).heap.size = w.heap.size + 1 := by simp
    refine ⟨⟨0, c2.keeps (by simp [cell_fresh]) (fun e => e)⟩, ⟨0, ?_⟩, (Blk.new w _ _).kept c2 (fun e => e), ?_, c1.trans c2⟩
    · rw [← hs]; simp [cell_fresh]
    · rw [← hs]; exact Blk.new _ _ _
  have HI0 := Lib.hid hI0
  have hsz : ((w.alloc (.cells #[.int .u64 0] 22)).alloc (.cells #[.int .i64 0] 35)).heap.size = w.heap.size + 2 := by simp
  clear hI0
  refine (callsIn_wide (n := 5)).1 ?_
  refine callsIn_of_wp_marks Tryd.func32 rfl trivial ?_ rfl
  simp only [Tryd.ntmps32, List.size_toArray, List.length_cons, List.length_nil, Nat.reduceAdd, Nat.reduceSub, Array.replicate_succ, Array.replicate_zero, List.push_toArray, List.append_toArray, List.nil_append, List.cons_append]
  gi_wp2
  generalize hW0 : ((w.alloc (.cells #[.int .u64 0] 22)).alloc (.cells #[.int .i64 0] 35)) = W0 at *
  clear hW0
  refine range_some (n := 5) (gf := 50) (ba := #[.pointer none]) rfl (enters_of Tryd.func50 (by kernel_rfl) rfl) 0 (fun k => .pointer none) rfl
    (fun _ => NxIn w) (fun c k W => False) (NxIn.steady (by omega)) (fun c k W W' r h => h.elim) HI0.out (rows_nil 4 (by omega) _) ?act1 ?assign ?body ?done ?stop
  case assign =>
    intro l k W K hK
    gi_wp2
    exact hK
  case body => intro l k W hW hk; omega
  case stop => intro D c k W hD hk; omega
  case done =>
    intro D W hD hW hK
    obtain ⟨x, c1⟩ := hW.a
    obtain ⟨y, c2⟩ := hW.b
    have f1 := hW.ka.fz 0
    have f2 := hW.kb.fz 0
    have HC := Lib.hid hW.c
    clear hW
    have ne1 : w.heap.size ≠ w.heap.size + 1 := by omega
    have ne2 : w.heap.size + 1 ≠ w.heap.size := by omega
    gi_wp2
    have ch1 : Ch (fun k => k = w.heap.size ∨ k = w.heap.size + 1) W ((W.setCell ⟨w.heap.size, 0, none⟩ (.int .u64 0)).setCell ⟨w.heap.size + 1, 0, none⟩ (.int .i64 6)) :=
      ((Ch.refl _ W).set (p := ⟨w.heap.size, 0, none⟩) (fun _ => .inl rfl) _).set (p := ⟨w.heap.size + 1, 0, none⟩) (fun _ => .inr rfl) _
    have hlt := lt_of_cell c1
    have hlt2 := lt_of_cell c2
    have hK2 : ((W.setCell ⟨w.heap.size, 0, none⟩ (.int .u64 0)).setCell ⟨w.heap.size + 1, 0, none⟩ (.int .i64 6)).heap[D]? = some (.deferred (some [])) := (ch1.block D (Array.getElem?_eq_some_iff.1 hK).1 (by intro e; omega)).trans hK
    refine ⟨by simp, .inl ⟨_, _, rfl, run_takeDeferred hK2, ?_⟩⟩
    have q1 : ((W.setCell ⟨w.heap.size, 0, none⟩ (.int .u64 0)).setCell ⟨w.heap.size + 1, 0, none⟩ (.int .i64 6)).cell? ⟨w.heap.size, 0, none⟩ = some (.int .u64 0) := by rw [cell_set, if_neg (by omega)]; exact World.cell?_setCell_same _ _ _ c1
    have q2 : ((W.setCell ⟨w.heap.size, 0, none⟩ (.int .u64 0)).setCell ⟨w.heap.size + 1, 0, none⟩ (.int .i64 6)).cell? ⟨w.heap.size + 1, 0, none⟩ = some (.int .i64 6) := World.cell?_setCell_same _ _ _ (show _ = some (Value.int .i64 y) from by rw [cell_set, if_neg (by omega)]; exact c2)
    have c3 := (Ch.put (W := (W.setCell ⟨w.heap.size, 0, none⟩ (.int .u64 0)).setCell ⟨w.heap.size + 1, 0, none⟩ (.int .i64 6)) D (.deferred none)).keeps q1 (by intro e; simp at e; omega)
    have c4 := (Ch.put (W := (W.setCell ⟨w.heap.size, 0, none⟩ (.int .u64 0)).setCell ⟨w.heap.size + 1, 0, none⟩ (.int .i64 6)) D (.deferred none)).keeps q2 (by intro e; simp at e; omega)
    refine ⟨.tuple #[.int .u64 0, .int .i64 6], by simp [results, Tryd.results32, go_sem, c3, c4], rfl, ?_⟩
    exact (HC.out.up ch1 (by rintro i (rfl | rfl) <;> omega)).later (Ch.put D (.deferred none)) (by omega)
theorem remove_nil (p : Value) (w : World) :
    Calls Tryd.prog 8 #[.pointer none, p] w fun e w' => e = .returned (.int .i64 6) ∧ w = w' := by
  go_enter Tryd.func8, Tryd.ntmps8
  go_wp2
  go_ret
  exact ⟨rfl, rfl⟩
end Go.Proofs.YtkfknafgknppdaaDoor
