/-
  Contracts of package slab's functions that read: roomless, has, given, parts, number, Slot, Mine, Period, Word, Count, Id; of a nil slab; Begin, Drop, New.
-/
import Derived.Test.YtkialefhjfoniaaSlabCells
import Derived.Laws.MakeOwn
namespace Go.Proofs.Ytkialefhjfoniaa
open Go.RowKit Verge
attribute [local go_sem] Oper.semAt_some
set_option linter.unusedVariables false
set_option linter.unusedSimpArgs false

theorem roomless_no (b rb n : Nat) (w : World) (hs : w.cell? ⟨b, 4, none⟩ = some (.slice (some ⟨rb, 0, none⟩) n n)) (n0 : 0 < n) :
    Calls Try.prog 52 #[.pointer (some ⟨b, 0, none⟩)] w fun e w' => e = .returned (.bool false) ∧ w = w' := by
  have hz : ((n : Int) == 0) = false := by rw [beq_eq_false_iff_ne]; omega
  go_enter Try.func52, Try.ntmps52
  go_wp2
  go_ret
  exact ⟨rfl, rfl⟩
theorem roomless_nil (w : World) :
    Calls Try.prog 52 #[.pointer none] w fun e w' => e = .returned (.bool true) ∧ w = w' := by
  go_enter Try.func52, Try.ntmps52
  go_wp2
  go_ret
  exact ⟨rfl, rfl⟩
theorem has_nil (k : Int) (w : World) :
    Calls Try.prog 55 #[.pointer none, .int .i64 k] w fun e w' => e = .returned (.bool false) ∧ w = w' := by
  go_enter Try.func55, Try.ntmps55
  go_wp2
  go_ret
  exact ⟨rfl, rfl⟩
theorem has_any (b rb n : Nat) (k : Int) (w : World) (hs : w.cell? ⟨b, 4, none⟩ = some (.slice (some ⟨rb, 0, none⟩) n n)) :
    Calls Try.prog 55 #[.pointer (some ⟨b, 0, none⟩), .int .i64 k] w fun e w' => e = .returned (.bool (decide (0 ≤ k ∧ k < n))) ∧ w = w' := by
  by_cases h0 : 0 ≤ k
  · by_cases h1 : k < n
    · rw [decide_eq_true ⟨h0, h1⟩]
      go_enter Try.func55, Try.ntmps55
      go_wp2
      go_ret
      exact ⟨rfl, rfl⟩
    · rw [decide_eq_false (fun h => h1 h.2)]
      go_enter Try.func55, Try.ntmps55
      go_wp2
      go_ret
      exact ⟨rfl, rfl⟩
  · rw [decide_eq_false (fun h => h0 h.1)]
    go_enter Try.func55, Try.ntmps55
    go_wp2
    go_ret
    exact ⟨rfl, rfl⟩
theorem parts_of (id : Nat) (w : World) (hid : id < 18446744073709551616) :
    Calls Try.prog 102 #[.int .u64 id] w fun e w' => e = .returned (.tuple #[.int .i64 (id % 64 : Nat), .int .u64 (id / 64 : Nat)]) ∧ w = w' := by
  go_enter Try.func102, Try.ntmps102
  go_wp2
  go_ret2
  refine ⟨?_, rfl⟩
  first | rfl | (refine ret2 ?_ ?_ <;> first | rfl | (simp [wrap64]; done) | (simp [wrap64]; omega) | omega)
theorem number_of (k g : Nat) (w : World) (hk : k < 64) (hg : g ≤ 1000000) :
    Calls Try.prog 86 #[.int .i64 k, .int .u64 g] w fun e w' => e = .returned (.int .u64 (g * 64 + k : Nat)) ∧ w = w' := by
  go_enter Try.func86, Try.ntmps86
  go_wp2
  go_ret
  refine ⟨?_, rfl⟩
  first | rfl | (refine ret_int ?_; first | rfl | omega)
theorem given_nil (k : Int) (w : World) :
    Calls Try.prog 103 #[.pointer none, .int .i64 k] w fun e w' => e = .returned (.int .u64 0) ∧ w = w' := by
  go_enter Try.func103, Try.ntmps103
  go_wp2_with fail
  refine (has_nil k _).mono ?_
  rintro e w1 ⟨rfl, rfl⟩
  go_wp2
  go_ret
  exact ⟨rfl, rfl⟩
theorem given_any {b rb n cnt : Nat} {R : Nat → Rec} (k : Nat) {w : World} (h : IsS w b rb n cnt R) :
    Calls Try.prog 103 #[.pointer (some ⟨b, 0, none⟩), .int .i64 k] w fun e w' => e = .returned (.int .u64 (if k < n then (R k).gv else 0 : Nat)) ∧ w = w' := by
  have hs := h.recs
  by_cases hk : k < n
  · rw [if_pos hk]
    have hg := (h.rc k hk).g
    have n1 := h.n1
    have L : Hid (decide (0 ≤ (k : Int) ∧ (k : Int) < n) = true) := Lib.hid (decide_eq_true (by omega))
    clear h
    go_enter Try.func103, Try.ntmps103
    go_wp2_with fail
    refine (has_any b rb n k _ hs).mono ?_
    rintro e w1 ⟨rfl, rfl⟩
    rw [L.out]
    go_wp2
    go_ret
    exact ⟨rfl, rfl⟩
  · rw [if_neg hk]
    have L : Hid (decide (0 ≤ (k : Int) ∧ (k : Int) < n) = false) := Lib.hid (decide_eq_false (by omega))
    clear h
    go_enter Try.func103, Try.ntmps103
    go_wp2_with fail
    refine (has_any b rb n k _ hs).mono ?_
    rintro e w1 ⟨rfl, rfl⟩
    rw [L.out]
    go_wp2
    go_ret
    exact ⟨rfl, rfl⟩
theorem period_nil (k : Int) (w : World) :
    Calls Try.prog 71 #[.pointer none, .int .i64 k] w fun e w' => e = .returned (.int .u64 0) ∧ w = w' := by
  go_enter Try.func71, Try.ntmps71
  go_wp2_with fail
  refine (has_nil k _).mono ?_
  rintro e w1 ⟨rfl, rfl⟩
  go_wp2
  go_ret
  exact ⟨rfl, rfl⟩
theorem period_in {b rb n cnt : Nat} {R : Nat → Rec} (k : Nat) {w : World} (h : IsS w b rb n cnt R) (hk : k < n) :
    Calls Try.prog 71 #[.pointer (some ⟨b, 0, none⟩), .int .i64 k] w fun e w' => e = .returned (.int .u64 ((R k).pd : Nat)) ∧ w = w' := by
  have hs := h.recs
  have hg := (h.rc k hk).p
  have n1 := h.n1
  have L : Hid (decide (0 ≤ (k : Int) ∧ (k : Int) < n) = true) := Lib.hid (decide_eq_true (by omega))
  clear h
  go_enter Try.func71, Try.ntmps71
  go_wp2_with fail
  refine (has_any b rb n k _ hs).mono ?_
  rintro e w1 ⟨rfl, rfl⟩
  rw [L.out]
  go_wp2
  go_ret
  exact ⟨rfl, rfl⟩
theorem period_out {b rb n cnt : Nat} {R : Nat → Rec} (k : Int) {w : World} (h : IsS w b rb n cnt R) (hk : ¬ (0 ≤ k ∧ k < n)) :
    Calls Try.prog 71 #[.pointer (some ⟨b, 0, none⟩), .int .i64 k] w fun e w' => e = .returned (.int .u64 0) ∧ w = w' := by
  have hs := h.recs
  have L : Hid (decide (0 ≤ k ∧ k < n) = false) := Lib.hid (decide_eq_false hk)
  clear h hk
  go_enter Try.func71, Try.ntmps71
  go_wp2_with fail
  refine (has_any b rb n k _ hs).mono ?_
  rintro e w1 ⟨rfl, rfl⟩
  rw [L.out]
  go_wp2
  go_ret
  exact ⟨rfl, rfl⟩
theorem word_nil (k : Int) (w : World) :
    Calls Try.prog 21 #[.pointer none, .int .i64 k] w fun e w' => e = .returned (.tuple #[.int .u64 0, .int .i64 6]) ∧ w = w' := by
  go_enter Try.func21, Try.ntmps21
  go_wp2_with fail
  refine (roomless_nil _).mono ?_
  rintro e w1 ⟨rfl, rfl⟩
  go_wp2
  go_ret2
  exact ⟨rfl, rfl⟩
theorem word_out {b rb n cnt : Nat} {R : Nat → Rec} (k : Int) {w : World} (h : IsS w b rb n cnt R) (hk : ¬ (0 ≤ k ∧ k < n)) :
    Calls Try.prog 21 #[.pointer (some ⟨b, 0, none⟩), .int .i64 k] w fun e w' => e = .returned (.tuple #[.int .u64 0, .int .i64 4]) ∧ w = w' := by
  have hs := h.recs
  have n0 := h.n0
  have L : Hid (decide (0 ≤ k ∧ k < n) = false) := Lib.hid (decide_eq_false hk)
  clear h hk
  go_enter Try.func21, Try.ntmps21
  go_wp2_with fail
  refine (roomless_no b rb n _ hs n0).mono ?_
  rintro e w1 ⟨rfl, rfl⟩
  go_wp2_with fail
  refine (has_any b rb n k _ hs).mono ?_
  rintro e w1 ⟨rfl, rfl⟩
  rw [L.out]
  go_wp2
  go_ret2
  exact ⟨rfl, rfl⟩
theorem word_in {b rb n cnt : Nat} {R : Nat → Rec} (k : Nat) {w : World} (h : IsS w b rb n cnt R) (hk : k < n) :
    Calls Try.prog 21 #[.pointer (some ⟨b, 0, none⟩), .int .i64 k] w fun e w' => e = .returned (.tuple #[.int .u64 ((R k).wd : Nat), .int .i64 0]) ∧ IsS w' b rb n cnt R ∧ Ch (One rb) w w' := by
  have hs := h.recs
  have n0 := h.n0
  have n1 := h.n1
  have H := Lib.hid h
  have L : Hid (decide (0 ≤ (k : Int) ∧ (k : Int) < n) = true) := Lib.hid (decide_eq_true (by omega))
  have e1 : ((k : Int)).toNat = k := by omega
  clear h
  go_enter Try.func21, Try.ntmps21
  go_wp2_with fail
  refine (roomless_no b rb n _ hs n0).mono ?_
  rintro e w1 ⟨rfl, rfl⟩
  go_wp2_with fail
  refine (has_any b rb n k _ hs).mono ?_
  rintro e w1 ⟨rfl, rfl⟩
  rw [L.out]
  go_wp2_with fail
  refine (loadW_at rb (k * 6) _ _ (H.out.rc k hk).c).mono ?_
  rintro e w2 ⟨rfl, hu, c2⟩
  have NX := Lib.hid (H.out.same hk (c2.wide (Nat.le_refl _) (by omega)) ((H.out.rc k hk).turn c2 hu))
  clear hu
  go_wp2
  go_ret2
  exact ⟨rfl, NX.out, c2.ch⟩
theorem count_nil (w : World) :
    Calls Try.prog 18 #[.pointer none] w fun e w' => e = .returned (.int .i64 0) ∧ w = w' := by
  go_enter Try.func18, Try.ntmps18
  go_wp2_with fail
  refine (roomless_nil _).mono ?_
  rintro e w1 ⟨rfl, rfl⟩
  go_wp2
  go_ret
  exact ⟨rfl, rfl⟩
theorem count_of {b rb n cnt : Nat} {R : Nat → Rec} {w : World} (h : IsS w b rb n cnt R) :
    Calls Try.prog 18 #[.pointer (some ⟨b, 0, none⟩)] w fun e w' => e = .returned (.int .i64 (cnt : Nat)) ∧ IsS w' b rb n cnt R ∧ Ch (One b) w w' := by
  have hs := h.recs
  have n0 := h.n0
  have H := Lib.hid h
  clear h
  go_enter Try.func18, Try.ntmps18
  go_wp2_with fail
  refine (roomless_no b rb n _ hs n0).mono ?_
  rintro e w1 ⟨rfl, rfl⟩
  go_wp2_with fail
  refine (loadJ_at b 0 _ _ H.out.cnt).mono ?_
  rintro e w2 ⟨rfl, hu, c2⟩
  have NX := Lib.hid (H.out.count c2 hu)
  clear hu
  go_wp2
  go_ret
  exact ⟨rfl, NX.out, c2.ch⟩
theorem drop_nil (w : World) :
    Calls Try.prog 41 #[.pointer none] w fun e w' => e = .returned (.int .i64 6) ∧ w = w' := by
  go_enter Try.func41, Try.ntmps41
  go_wp2_with fail
  refine (roomless_nil _).mono ?_
  rintro e w1 ⟨rfl, rfl⟩
  go_wp2
  go_ret
  exact ⟨rfl, rfl⟩
theorem drop_of {b rb n cnt : Nat} {R : Nat → Rec} {w : World} (h : IsS w b rb n cnt R) (hc : cnt ≤ 1000000) :
    Calls Try.prog 41 #[.pointer (some ⟨b, 0, none⟩)] w fun e w' => e = .returned (.int .i64 (if 0 < cnt then 0 else 6)) ∧ IsS w' b rb n (cnt - 1) R ∧ Ch (One b) w w' := by
  have hs := h.recs
  have n0 := h.n0
  have H := Lib.hid h
  clear h
  by_cases h0 : 0 < cnt
  · rw [if_pos h0]
    have L := Lib.hid (decide_eq_true h0)
    go_enter Try.func41, Try.ntmps41
    go_wp2_with fail
    refine (roomless_no b rb n _ hs n0).mono ?_
    rintro e w1 ⟨rfl, rfl⟩
    go_wp2_with fail
    refine (turn_drop b cnt _ H.out.cnt hc).mono ?_
    rintro e w2 ⟨rfl, hu, c2⟩
    rw [L.out]
    have NX := Lib.hid (H.out.count c2 hu)
    clear hu
    go_wp2
    go_ret
    exact ⟨rfl, NX.out, c2.ch⟩
  · rw [if_neg h0]
    have L := Lib.hid (decide_eq_false h0)
    go_enter Try.func41, Try.ntmps41
    go_wp2_with fail
    refine (roomless_no b rb n _ hs n0).mono ?_
    rintro e w1 ⟨rfl, rfl⟩
    go_wp2_with fail
    refine (turn_drop b cnt _ H.out.cnt hc).mono ?_
    rintro e w2 ⟨rfl, hu, c2⟩
    rw [L.out]
    have NX := Lib.hid (H.out.count c2 hu)
    clear hu
    go_wp2
    go_ret
    exact ⟨rfl, NX.out, c2.ch⟩
theorem slot_nil (id : Nat) (w : World) :
    Calls Try.prog 96 #[.pointer none, .int .u64 id] w fun e w' => e = .returned (.tuple #[.int .i64 0, .int .i64 6]) ∧ w = w' := by
  go_enter Try.func96, Try.ntmps96
  go_wp2_with fail
  refine (roomless_nil _).mono ?_
  rintro e w1 ⟨rfl, rfl⟩
  go_wp2
  go_ret2
  exact ⟨rfl, rfl⟩
/-- was a number given? -/
def givenId (n : Nat) (R : Nat → Rec) (id : Nat) : Prop := id % 64 < n ∧ 1 ≤ id / 64 ∧ id / 64 ≤ (R (id % 64)).gv
theorem slot_yes {b rb n cnt : Nat} {R : Nat → Rec} (id : Nat) {w : World} (hid : id < 18446744073709551616) (h : IsS w b rb n cnt R) (hg : givenId n R id) :
    Calls Try.prog 96 #[.pointer (some ⟨b, 0, none⟩), .int .u64 id] w fun e w' => e = .returned (.tuple #[.int .i64 (id % 64 : Nat), .int .i64 0]) ∧ w = w' := by
  have hs := h.recs
  have n0 := h.n0
  have H := Lib.hid h
  obtain ⟨g0, g1, g2⟩ := hg
  obtain ⟨k, hk⟩ : ∃ k, k = id % 64 := ⟨_, rfl⟩
  obtain ⟨t, ht⟩ : ∃ t, t = id / 64 := ⟨_, rfl⟩
  have HK := Lib.hid hk
  have HT := Lib.hid ht
  rw [← hk] at g0 g2
  rw [← ht] at g1 g2
  have L : Hid ((if k < n then (R k).gv else 0) = (R k).gv) := Lib.hid (if_pos g0)
  obtain ⟨g, hgg⟩ : ∃ g, g = (R k).gv := ⟨_, rfl⟩
  rw [← hgg] at g2
  have G := Lib.hid hgg
  have z1 : ((t : Int) == 0) = false := by rw [beq_eq_false_iff_ne]; omega
  rw [← hk]
  clear h hk ht hgg
  go_enter Try.func96, Try.ntmps96
  go_wp2_with fail
  refine (roomless_no b rb n _ hs n0).mono ?_
  rintro e w1 ⟨rfl, rfl⟩
  go_wp2_with fail
  refine (parts_of id _ hid).mono ?_
  rintro e w1 ⟨rfl, rfl⟩
  rw [← HK.out, ← HT.out]
  go_wp2_with fail
  refine (given_any k H.out).mono ?_
  rintro e w1 ⟨rfl, rfl⟩
  rw [L.out, ← G.out]
  go_wp2
  go_ret2
  exact ⟨rfl, rfl⟩
theorem slot_no {b rb n cnt : Nat} {R : Nat → Rec} (id : Nat) {w : World} (hid : id < 18446744073709551616) (h : IsS w b rb n cnt R) (hg : ¬ givenId n R id) :
    Calls Try.prog 96 #[.pointer (some ⟨b, 0, none⟩), .int .u64 id] w fun e w' => e = .returned (.tuple #[.int .i64 0, .int .i64 1]) ∧ w = w' := by
  have hs := h.recs
  have n0 := h.n0
  have H := Lib.hid h
  obtain ⟨k, hk⟩ : ∃ k, k = id % 64 := ⟨_, rfl⟩
  obtain ⟨t, ht⟩ : ∃ t, t = id / 64 := ⟨_, rfl⟩
  have HK := Lib.hid hk
  have HT := Lib.hid ht
  unfold givenId at hg
  rw [← hk, ← ht] at hg
  clear h hk ht
  by_cases t0 : t = 0
  · have z1 : ((t : Int) == 0) = true := by rw [beq_iff_eq]; omega
    have z2 : (t : Int) = 0 := by omega
    clear hg
    go_enter Try.func96, Try.ntmps96
    go_wp2_with fail
    refine (roomless_no b rb n _ hs n0).mono ?_
    rintro e w1 ⟨rfl, rfl⟩
    go_wp2_with fail
    refine (parts_of id _ hid).mono ?_
    rintro e w1 ⟨rfl, rfl⟩
    rw [← HK.out, ← HT.out]
    go_wp2
    go_ret2
    exact ⟨rfl, rfl⟩
  · have z1 : ((t : Int) == 0) = false := by rw [beq_eq_false_iff_ne]; omega
    obtain ⟨g, hgg⟩ : ∃ g, g = (if k < n then (R k).gv else 0) := ⟨_, rfl⟩
    have G := Lib.hid hgg
    have hlt : g < t := by
      rw [hgg]
      by_cases hk : k < n
      · rw [if_pos hk]; omega
      · rw [if_neg hk]; omega
    clear hg hgg
    go_enter Try.func96, Try.ntmps96
    go_wp2_with fail
    refine (roomless_no b rb n _ hs n0).mono ?_
    rintro e w1 ⟨rfl, rfl⟩
    go_wp2_with fail
    refine (parts_of id _ hid).mono ?_
    rintro e w1 ⟨rfl, rfl⟩
    rw [← HK.out, ← HT.out]
    go_wp2_with fail
    refine (given_any k H.out).mono ?_
    rintro e w1 ⟨rfl, rfl⟩
    rw [← G.out]
    go_wp2
    go_ret2
    exact ⟨rfl, rfl⟩
/-- is a number the slot's newest one? -/
def mineId (n : Nat) (R : Nat → Rec) (id : Nat) : Bool := decide (id / 64 ≠ 0 ∧ id / 64 = (if id % 64 < n then (R (id % 64)).gv else 0))
theorem id_nil (w : World) :
    Calls Try.prog 38 #[.pointer none] w fun e w' => e = .returned (.tuple #[.int .u64 0, .int .i64 7]) ∧ w = w' := by
  go_enter Try.func38, Try.ntmps38
  go_wp2
  go_ret2
  exact ⟨rfl, rfl⟩
theorem id_of {q b : Nat} {r : Rq} {w : World} (h : IsQ w q b r) :
    Calls Try.prog 38 #[.pointer (some ⟨q, 0, none⟩)] w fun e w' => e = .returned (.tuple #[.int .u64 (if r.ss = 2 then r.id else 0 : Nat), .int .i64 (if r.ss = 2 then 0 else 7 : Nat)]) ∧ w = w' := by
  have h3 := h.c3
  have h6 := h.c6
  clear h
  by_cases e2 : r.ss = 2
  · rw [if_pos e2, if_pos e2]
    rw [e2] at h3
    clear e2
    go_enter Try.func38, Try.ntmps38
    go_wp2
    go_ret2
    exact ⟨rfl, rfl⟩
  · rw [if_neg e2, if_neg e2]
    obtain ⟨s, hs⟩ : ∃ s, s = r.ss := ⟨_, rfl⟩
    rw [← hs] at h3 e2
    have z1 : ((s : Int) != 2) = true := by rw [bne_iff_ne]; omega
    clear hs e2
    go_enter Try.func38, Try.ntmps38
    go_wp2
    go_ret2
    exact ⟨rfl, rfl⟩
theorem begin_nil (p : Int) (w : World) :
    Calls Try.prog 36 #[.pointer none, .int .u64 p] w fun e w' => e = .returned (.pointer none) ∧ w = w' := by
  go_enter Try.func36, Try.ntmps36
  go_wp2_with fail
  refine (roomless_nil _).mono ?_
  rintro e w1 ⟨rfl, rfl⟩
  go_wp2
  go_ret
  exact ⟨rfl, rfl⟩
theorem isQ_new (w : World) (b pd : Nat) (T : TypeId) : IsQ (w.alloc (.cells #[.pointer (some ⟨b, 0, none⟩), .int .u64 (pd : Nat), .int .i64 0, .int .i64 0, .int .i64 0, .int .i64 0, .int .u64 0] T)) w.heap.size b ⟨pd, 0, 0, 0, 0, 0⟩ := by
  constructor <;> simp [go_sem]
theorem begin_of {b rb n cnt : Nat} {R : Nat → Rec} {w : World} (pd : Nat) (h : IsS w b rb n cnt R) :
    Calls Try.prog 36 #[.pointer (some ⟨b, 0, none⟩), .int .u64 (pd : Nat)] w fun e w' => ∃ q, e = .returned (.pointer (some ⟨q, 0, none⟩)) ∧ q = w.heap.size ∧ IsQ w' q b ⟨pd, 0, 0, 0, 0, 0⟩ ∧ IsS w' b rb n cnt R ∧ Ch Nil w w' ∧ w'.heap.size = w.heap.size + 1 := by
  have hs := h.recs
  have n0 := h.n0
  have H := Lib.hid h
  clear h
  go_enter Try.func36, Try.ntmps36
  go_wp2_with fail
  refine (roomless_no b rb n _ hs n0).mono ?_
  rintro e w1 ⟨rfl, rfl⟩
  go_wp2
  go_ret
  exact ⟨_, rfl, rfl, isQ_new _ _ _ _, H.out.quiet ((Ch.refl _ _).alloc _), (Ch.refl _ _).alloc _, by simp⟩

theorem new_out (n : Int) (w : World) (hn : Hid (n < 1 ∨ 64 < n)) :
    Calls Try.prog 47 #[.int .i64 n] w fun e w' => e = .returned (.tuple #[.pointer none, .int .i64 4]) ∧ w = w' := by
  by_cases h1 : n < 1
  · go_enter Try.func47, Try.ntmps47
    go_wp2
    go_ret2
    exact ⟨rfl, rfl⟩
  · have h2 : 64 < n := by have := hn.out; omega
    go_enter Try.func47, Try.ntmps47
    go_wp2
    go_ret2
    exact ⟨rfl, rfl⟩
theorem made_at (z : Array Value) (m j : Nat) (hj : j < m) : (madeCells z m)[j]? = some (z[j % z.size]!) := by simp [madeCells, hj]
theorem made_recs (n : Nat) (w : World) (n1 : n ≤ 64) : ∃ M : Array Value, (Instr.makeSlice 113 (.int .i64 (n : Int)) (.int .i64 (n : Int))).run Try.prog w = .ok (.slice (some ⟨w.heap.size, 0, none⟩) n n) (w.alloc (.cells M 121)) ∧
    ∀ i, i < n → M[i * 6]? = some (.int .u64 0) ∧ M[i * 6 + 1]? = some (.int .i64 0) ∧ M[i * 6 + 2]? = some (.int .i64 0) ∧ M[i * 6 + 3]? = some (.int .i64 0) ∧ M[i * 6 + 4]? = some (.int .u64 0) ∧ M[i * 6 + 5]? = some (.int .u64 0) := by
  have h0 : (Try.prog.info? 121).map (fun i => (i.zero, i.size, decide (i.bytes ≤ 1000))) = some (some (.agg #[.int .u64 0, .int .i64 0, .int .i64 0, .int .i64 0, .int .u64 0, .int .u64 0]), 6, true) := by kernel_rfl
  obtain ⟨inf, hi, he⟩ := Option.map_eq_some_iff.1 h0
  simp only [Prod.mk.injEq, decide_eq_true_eq] at he
  obtain ⟨hz, hsz, hby⟩ := he
  clear h0
  have hr := run_make (P := Try.prog) w 113 121 inf _ Try.underlying113 hi hz .i64 .i64 (n : Int) (n : Int) (by omega) (Int.le_refl _) (by
      have h1 : inf.bytes * n ≤ 1000 * 64 := Nat.mul_le_mul hby n1
      have h2 : ((inf.bytes * n : Nat) : Int) ≤ 281474976710656 := by omega
      rwa [Int.natCast_mul] at h2) (by omega)
  refine ⟨_, by simpa using hr, fun i hi' => ?_⟩
  rw [hsz]
  have g : ∀ c, c < 6 → (i * 6 + c) % 6 = c := fun c hc => by omega
  refine ⟨?_, ?_, ?_, ?_, ?_, ?_⟩
  · rw [made_at _ _ _ (by omega)]; show some (_[(i * 6 + 0) % 6]!) = _; rw [g 0 (by omega)]; rfl
  · rw [made_at _ _ _ (by omega)]; show some (_[(i * 6 + 1) % 6]!) = _; rw [g 1 (by omega)]; rfl
  · rw [made_at _ _ _ (by omega)]; show some (_[(i * 6 + 2) % 6]!) = _; rw [g 2 (by omega)]; rfl
  · rw [made_at _ _ _ (by omega)]; show some (_[(i * 6 + 3) % 6]!) = _; rw [g 3 (by omega)]; rfl
  · rw [made_at _ _ _ (by omega)]; show some (_[(i * 6 + 4) % 6]!) = _; rw [g 4 (by omega)]; rfl
  · rw [made_at _ _ _ (by omega)]; show some (_[(i * 6 + 5) % 6]!) = _; rw [g 5 (by omega)]; rfl
theorem made_cell (w : World) (M : Array Value) (T : TypeId) (j : Nat) : (w.alloc (.cells M T)).cell? ⟨w.heap.size, j, none⟩ = M[j]? := by
  simp [go_sem]
theorem made_frozen (w : World) (M : Array Value) (T : TypeId) (j : Nat) : (w.alloc (.cells M T)).frozen? ⟨w.heap.size, j, none⟩ = false := by
  simp [go_sem]
set_option maxHeartbeats 4000000 in
theorem new_in (n : Nat) (w : World) (n0 : 0 < n) (n1 : n ≤ 64) :
    Calls Try.prog 47 #[.int .i64 n] w fun e w' => e = .returned (.tuple #[.pointer (some ⟨w.heap.size + 1, 0, none⟩), .int .i64 0]) ∧ IsS w' (w.heap.size + 1) w.heap.size n 0 zeroR ∧ Ch Nil w w' := by
  have d1 : decide ((n : Int) < 1) = false := by rw [decide_eq_false_iff_not]; omega
  have d2 : decide (64 < (n : Int)) = false := by rw [decide_eq_false_iff_not]; omega
  obtain ⟨M, hM, hc⟩ := made_recs n w n1
  have HC := Lib.hid hc
  clear hc
  go_enter Try.func47, Try.ntmps47
  go_wp2
  go_ret2
  clear hM
  have cA : Ch Nil (w.alloc (Obj.cells M 121)) ((w.alloc (Obj.cells M 121)).alloc (Obj.cells #[.int .i64 0, .int .i64 0, .int .i64 0, .int .i64 0, .slice (some ⟨w.heap.size, 0, none⟩) n n] 115)) := (Ch.refl _ _).alloc _
  have eS : (w.alloc (Obj.cells M 121)).heap.size = w.heap.size + 1 := by simp
  refine ⟨by simp, ⟨⟨0, 0, 0, ?_⟩, ?_, ?_, by omega, n0, n1⟩, ((Ch.refl _ _).alloc _).alloc _⟩
  · rw [← eS]; constructor <;> simp [go_sem]
  · rw [← eS]; simp [go_sem]
  · intro p hp
    have hs : IsRec (w.alloc (Obj.cells M 121)) w.heap.size (p * 6) (zeroR p) := by
      obtain ⟨a0, a1, a2, a3, a4, a5⟩ := HC.out p hp
      refine ⟨⟨0, 0, 0, ?_⟩, (made_cell _ _ _ _).trans a4, (made_cell _ _ _ _).trans a5, made_frozen _ _ _ _, made_frozen _ _ _ _⟩
      exact ⟨(made_cell _ _ _ _).trans a0, (made_cell _ _ _ _).trans a1, (made_cell _ _ _ _).trans a2, (made_cell _ _ _ _).trans a3, made_frozen _ _ _ _, made_frozen _ _ _ _, made_frozen _ _ _ _, made_frozen _ _ _ _⟩
    exact hs.kept cA (fun e => e)
end Go.Proofs.Ytkialefhjfoniaa
