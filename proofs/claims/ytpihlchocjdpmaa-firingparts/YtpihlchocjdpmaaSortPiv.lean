/-
  slices.order2Ordered, medianOrdered, medianAdjacentOrdered, choosePivotOrdered at uint64: a place within the range, and some hint.
-/
import Derived.Test.YtpihlchocjdpmaaSortMem
import Derived.Test.YtpihlchocjdpmaaListMem
import Derived.Deep.Cut
import Derived.Deep.CutRange
import Derived.Deep.CutBlock
namespace Go.Proofs.Ytpihlchocjdpmaa
open Go.RowKit Go.Sort Verge
set_option linter.unusedVariables false
set_option linter.unusedSimpArgs false
/-- the row, and the box of the count of exchanges -/
structure Pv (w0 : World) (g cap n : Nat) (d : Array Nat) (sb : Nat) (W : World) : Prop where
  u : UR w0 g cap n d W
  s : ∃ s : Int, W.cell? ⟨sb, 0, none⟩ = some (.int .i64 s)
  f : W.frozen? ⟨sb, 0, none⟩ = false
  lo : w0.heap.size ≤ sb
  ne : sb ≠ g
section
variable {w0 w w' : World} {g cap n sb : Nat} {d : Array Nat}
theorem Pv.nil (h : Pv w0 g cap n d sb w) (c : Ch Nil w w') : Pv w0 g cap n d sb w' := by
  obtain ⟨s, hs⟩ := h.s
  exact ⟨h.u.nil c, ⟨s, c.keeps hs (fun e => e)⟩, (c.frozen (p := ⟨sb, 0, none⟩) (lt_of_cell hs) (fun e => e)).trans h.f, h.lo, h.ne⟩
theorem Pv.set (h : Pv w0 g cap n d sb w) (v : Int) : Pv w0 g cap n d sb (w.setCell ⟨sb, 0, none⟩ (.int .i64 v)) := by
  obtain ⟨s, hs⟩ := h.s
  refine ⟨⟨h.u.row.kept (S := One sb) ((Ch.refl _ _).setB 0 _) (fun k e x => h.ne (by
    have h1 : k = sb := x
    have h2 : g = k := by simpa [OwnS] using e
    omega)), h.u.n, h.u.c.set (p := ⟨sb, 0, none⟩) (fun e => by have := h.lo; simp at e; omega) _⟩, ⟨v, World.cell?_setCell_same _ _ _ hs⟩, (World.frozen?_setCell _ _ _ _).trans h.f, h.lo, h.ne⟩

set_option maxRecDepth 100000 in
set_option maxHeartbeats 8000000 in
theorem order2_of (h : Pv w0 g cap n d sb w) (a b : Nat) (ha : a < n) (hb : b < n) (hn : n ≤ 1000000) :
    Calls Try.prog 56 #[.slice (some ⟨g, 0, none⟩) n cap, .int .i64 (a : Nat), .int .i64 (b : Nat), .pointer (some ⟨sb, 0, none⟩)] w fun e w' => ∃ x y : Nat, e = .returned (.tuple #[.int .i64 (x : Nat), .int .i64 (y : Nat)]) ∧ (x = a ∨ x = b) ∧ (y = a ∨ y = b) ∧ Pv w0 g cap n d sb w' := by
  have H := Lib.hid h
  have z1 : (a : Int) < (n : Int) := by omega
  have z2 : (b : Int) < (n : Int) := by omega
  obtain ⟨x, hx⟩ : ∃ x, x = d[b]! := ⟨_, rfl⟩
  have c1 : w.cell? ⟨g, b, none⟩ = some (.int .u64 (x : Nat)) := by rw [hx]; exact H.out.u.cell (b) (by omega)
  have f1 := H.out.u.fz (b)
  have HX := Lib.hid hx
  clear hx
  obtain ⟨y, hy⟩ : ∃ x, x = d[a]! := ⟨_, rfl⟩
  have c2 : w.cell? ⟨g, a, none⟩ = some (.int .u64 (y : Nat)) := by rw [hy]; exact H.out.u.cell (a) (by omega)
  have f2 := H.out.u.fz (a)
  have HY := Lib.hid hy
  clear hy
  obtain ⟨s, hs⟩ := h.s
  have hfs := h.f
  clear h HX HY
  go_enter Try.func56, Try.ntmps56
  go_wp2
  cases hl : ltN x y with
  | true =>
    go_quiet (first | (go_at_call 44; refine Calls.quiet_of_same (less_of _ _ _)))
    rw [hl]
    go_wp2
    go_ret2
    exact ⟨b, a, rfl, .inr rfl, .inl rfl, (H.out.nil ((Ch.refl _ _).drewN _)).set _⟩
  | false =>
    go_quiet (first | (go_at_call 44; refine Calls.quiet_of_same (less_of _ _ _)))
    rw [hl]
    go_wp2
    go_ret2
    exact ⟨a, b, rfl, .inl rfl, .inr rfl, H.out.nil ((Ch.refl _ _).drewN _)⟩

set_option maxRecDepth 100000 in
set_option maxHeartbeats 8000000 in
theorem median_of (h : Pv w0 g cap n d sb w) (a b c : Nat) (ha : a < n) (hb : b < n) (hc : c < n) (hn : n ≤ 1000000) :
    Calls Try.prog 54 #[.slice (some ⟨g, 0, none⟩) n cap, .int .i64 (a : Nat), .int .i64 (b : Nat), .int .i64 (c : Nat), .pointer (some ⟨sb, 0, none⟩)] w fun e w' => ∃ x : Nat, e = .returned (.int .i64 (x : Nat)) ∧ (x = a ∨ x = b ∨ x = c) ∧ Pv w0 g cap n d sb w' := by
  have H := Lib.hid h
  clear h
  go_enter Try.func54, Try.ntmps54
  go_wp2_with fail
  refine (order2_of H.out a b ha hb hn).mono ?_
  rintro e w1 ⟨x1, y1, rfl, hx1, hy1, p1⟩
  have P1 := Lib.hid p1
  clear p1
  go_wp2_with fail
  refine (order2_of P1.out y1 c (by omega) hc hn).mono ?_
  rintro e w2 ⟨x2, y2, rfl, hx2, hy2, p2⟩
  have P2 := Lib.hid p2
  clear p2 P1
  go_wp2_with fail
  refine (order2_of P2.out x1 x2 (by omega) (by omega) hn).mono ?_
  rintro e w3 ⟨x3, y3, rfl, hx3, hy3, p3⟩
  have P3 := Lib.hid p3
  clear p3 P2
  go_wp2
  go_ret
  exact ⟨y3, rfl, by omega, P3.out⟩

set_option maxRecDepth 100000 in
set_option maxHeartbeats 8000000 in
theorem adj_of (h : Pv w0 g cap n d sb w) (a : Nat) (h1 : 1 ≤ a) (ha : a + 1 < n) (hn : n ≤ 1000000) :
    Calls Try.prog 53 #[.slice (some ⟨g, 0, none⟩) n cap, .int .i64 (a : Nat), .pointer (some ⟨sb, 0, none⟩)] w fun e w' => ∃ x : Nat, e = .returned (.int .i64 (x : Nat)) ∧ (a ≤ x + 1 ∧ x ≤ a + 1) ∧ Pv w0 g cap n d sb w' := by
  have H := Lib.hid h
  clear h
  obtain ⟨m, hm⟩ : ∃ m, a = m + 1 := ⟨a - 1, by omega⟩
  have e1 : (a : Int) - 1 = (m : Int) := by omega
  obtain ⟨p, hp⟩ : ∃ p, p = a + 1 := ⟨_, rfl⟩
  have e2 : (a : Int) + 1 = (p : Int) := by omega
  have hwm := IntWalk.i64_in (m : Int) (by omega)
  have hwp := IntWalk.i64_in (p : Int) (by omega)
  have M := Lib.hid (median_of H.out m a p (by omega) (by omega) (by omega) hn)
  have HM := Lib.hid hm
  have HP := Lib.hid hp
  clear hm hp
  go_enter Try.func53, Try.ntmps53
  go_wp2_with fail
  refine M.out.mono ?_
  rintro e w1 ⟨x, rfl, hx, p1⟩
  have P1 := Lib.hid p1
  clear p1
  go_wp2
  go_ret
  exact ⟨x, rfl, by have := HM.out; have := HP.out; omega, P1.out⟩
end

set_option maxRecDepth 100000 in
set_option maxHeartbeats 8000000 in
theorem piv_of {w : World} {g cap n : Nat} {d : Array Nat} (h : UR w g cap n d w) (a b : Nat) (hab : a < b) (hb : b ≤ n) (hn : n ≤ 1000000) :
    Calls Try.prog 41 #[.slice (some ⟨g, 0, none⟩) n cap, .int .i64 (a : Nat), .int .i64 (b : Nat)] w fun e w' => ∃ (x : Nat) (hint : Int), e = .returned (.tuple #[.int .i64 (x : Nat), .int .i64 hint]) ∧ a ≤ x ∧ x < b ∧ UR w g cap n d w' := by
  obtain ⟨L, hL⟩ : ∃ L, b = a + L := ⟨b - a, by omega⟩
  obtain ⟨Q, hQ⟩ : ∃ Q, Q = L / 4 := ⟨_, rfl⟩
  obtain ⟨I, hI⟩ : ∃ I, I = a + Q := ⟨_, rfl⟩
  obtain ⟨J, hJ⟩ : ∃ J, J = a + Q * 2 := ⟨_, rfl⟩
  obtain ⟨K, hK⟩ : ∃ K, K = a + Q * 3 := ⟨_, rfl⟩
  have e0 : (b : Int) - (a : Int) = (L : Int) := by omega
  have e1 : (L : Int).tdiv 4 = (Q : Int) := by rw [Int.tdiv_eq_ediv_of_nonneg (by omega)]; omega
  have e2 : (L : Int) / 4 = (Q : Int) := by omega
  have e3 : (a : Int) + (Q : Int) = (I : Int) := by omega
  have e4 : (a : Int) + (Q : Int) * 2 = (J : Int) := by omega
  have e5 : (a : Int) + (Q : Int) * 3 = (K : Int) := by omega
  have l0 := IntWalk.i64_in (L : Int) (by omega)
  have l1 := IntWalk.i64_in (Q : Int) (by omega)
  have l2 := IntWalk.i64_in ((Q : Int) * 2) (by omega)
  have l3 := IntWalk.i64_in ((Q : Int) * 3) (by omega)
  have l4 := IntWalk.i64_in (I : Int) (by omega)
  have l5 := IntWalk.i64_in (J : Int) (by omega)
  have l6 := IntWalk.i64_in (K : Int) (by omega)
  have hgs : g < w.heap.size := h.row.lt g rfl
  have cA : Ch Nil w (w.alloc (.cells #[.int .i64 0] 3)) := (Ch.refl _ _).alloc _
  have P0 : Hid (Pv w g cap n d w.heap.size (w.alloc (.cells #[.int .i64 0] 3))) := Lib.hid ⟨h.nil cA, ⟨0, by simp [cell_fresh]⟩, by simp [go_sem], Nat.le_refl _, by omega⟩
  have HF := Lib.hid (show L = b - a ∧ Q = L / 4 ∧ I = a + Q ∧ J = a + Q * 2 ∧ K = a + Q * 3 from ⟨by omega, hQ, hI, hJ, hK⟩)
  clear hL hQ hI hJ hK cA h
  by_cases h8 : 8 ≤ L
  · have z8 : (8 : Int) ≤ (L : Int) := by omega
    by_cases h50 : 50 ≤ L
    · have z50 : (50 : Int) ≤ (L : Int) := by omega
      go_enter Try.func41, Try.ntmps41
      go_wp2_with fail
      refine (adj_of P0.out I (by have := HF.out; omega) (by have := HF.out; omega) hn).mono ?_
      rintro e w1 ⟨x1, rfl, hx1, p1⟩
      have P1 := Lib.hid p1
      clear p1
      go_wp2_with fail
      refine (adj_of P1.out J (by have := HF.out; omega) (by have := HF.out; omega) hn).mono ?_
      rintro e w2 ⟨x2, rfl, hx2, p2⟩
      have P2 := Lib.hid p2
      clear p2 P1
      go_wp2_with fail
      refine (adj_of P2.out K (by have := HF.out; omega) (by have := HF.out; omega) hn).mono ?_
      rintro e w3 ⟨x3, rfl, hx3, p3⟩
      have P3 := Lib.hid p3
      clear p3 P2
      go_wp2_with fail
      refine (median_of P3.out x1 x2 x3 (by have := HF.out; omega) (by have := HF.out; omega) (by have := HF.out; omega) hn).mono ?_
      rintro e w4 ⟨x, rfl, hx, p4⟩
      have P4 := Lib.hid p4
      have hax : a ≤ x := by have := HF.out; omega
      have hxb : x < b := by have := HF.out; omega
      obtain ⟨s, hs⟩ := p4.s
      clear p4 hx
      by_cases s0 : s = 0
      · subst s0
        go_wp2
        go_ret2
        first | exact ⟨x, 1, rfl, hax, hxb, P4.out.u⟩ | exact ⟨x, ⟨1, rfl⟩, hax, hxb, P4.out.u⟩ | exact ⟨x, ⟨1, rfl, hax, hxb⟩, P4.out.u⟩
      · have s0b : (s == 0) = false := beq_eq_false_iff_ne.2 s0
        by_cases s12 : s = 12
        · subst s12
          go_wp2
          go_ret2
          first | exact ⟨x, 2, rfl, hax, hxb, P4.out.u⟩ | exact ⟨x, ⟨2, rfl⟩, hax, hxb, P4.out.u⟩ | exact ⟨x, ⟨2, rfl, hax, hxb⟩, P4.out.u⟩
        · have s12b : (s == 12) = false := beq_eq_false_iff_ne.2 s12
          go_wp2
          go_ret2
          first | exact ⟨x, 0, rfl, hax, hxb, P4.out.u⟩ | exact ⟨x, ⟨0, rfl⟩, hax, hxb, P4.out.u⟩ | exact ⟨x, ⟨0, rfl, hax, hxb⟩, P4.out.u⟩
    · have z50 : ¬ (50 : Int) ≤ (L : Int) := by omega
      go_enter Try.func41, Try.ntmps41
      go_wp2_with fail
      refine (median_of P0.out I J K (by have := HF.out; omega) (by have := HF.out; omega) (by have := HF.out; omega) hn).mono ?_
      rintro e w4 ⟨x, rfl, hx, p4⟩
      have P4 := Lib.hid p4
      have hax : a ≤ x := by have := HF.out; omega
      have hxb : x < b := by have := HF.out; omega
      obtain ⟨s, hs⟩ := p4.s
      clear p4 hx
      by_cases s0 : s = 0
      · subst s0
        go_wp2
        go_ret2
        first | exact ⟨x, 1, rfl, hax, hxb, P4.out.u⟩ | exact ⟨x, ⟨1, rfl⟩, hax, hxb, P4.out.u⟩ | exact ⟨x, ⟨1, rfl, hax, hxb⟩, P4.out.u⟩
      · have s0b : (s == 0) = false := beq_eq_false_iff_ne.2 s0
        by_cases s12 : s = 12
        · subst s12
          go_wp2
          go_ret2
          first | exact ⟨x, 2, rfl, hax, hxb, P4.out.u⟩ | exact ⟨x, ⟨2, rfl⟩, hax, hxb, P4.out.u⟩ | exact ⟨x, ⟨2, rfl, hax, hxb⟩, P4.out.u⟩
        · have s12b : (s == 12) = false := beq_eq_false_iff_ne.2 s12
          go_wp2
          go_ret2
          first | exact ⟨x, 0, rfl, hax, hxb, P4.out.u⟩ | exact ⟨x, ⟨0, rfl⟩, hax, hxb, P4.out.u⟩ | exact ⟨x, ⟨0, rfl, hax, hxb⟩, P4.out.u⟩
  · have z8 : ¬ (8 : Int) ≤ (L : Int) := by omega
    have hax : a ≤ J := by have := HF.out; omega
    have hxb : J < b := by have := HF.out; omega
    go_enter Try.func41, Try.ntmps41
    go_wp2
    go_ret2
    first | exact ⟨J, 1, rfl, hax, hxb, P0.out.u⟩ | exact ⟨J, ⟨1, rfl⟩, hax, hxb, P0.out.u⟩ | exact ⟨J, ⟨1, rfl, hax, hxb⟩, P0.out.u⟩
end Go.Proofs.Ytpihlchocjdpmaa
