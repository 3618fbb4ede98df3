import Derived.Test.YtnbdafmjcmmfpaaGreatK08
import Derived.Laws.MakeOwn
import Derived.Test.YtnbdafmjcmmfpaaGreatK06
import Derived.Test.YtnbdafmjcmmfpaaGreatK07
/-
  Contracts of package slab's functions that read: roomless, has, given, parts, number, Slot, Mine, Period, Word, Count, Id; of a nil slab; Begin, Drop, New.
-/
namespace Go.Proofs.YtnbdafmjcmmfpaaGreat
open Go.RowKit Verge
attribute [local go_sem] Oper.semAt_some
set_option linter.unusedVariables false
set_option linter.unusedSimpArgs false

theorem roomless_no (b rb n : Nat) (w : World) (hs : w.cell? ⟨b, 4, none⟩ = some (.slice (some ⟨rb, 0, none⟩) n n)) (n0 : 0 < n) :
    Calls Tryz.prog 47 #[.pointer (some ⟨b, 0, none⟩)] w fun e w' => e = .returned (.bool false) ∧ w = w' := by
  have hz : ((n : Int) == 0) = false := by rw [beq_eq_false_iff_ne]; omega
  go_enter Tryz.func47, Tryz.ntmps47
  go_wp2
  go_ret
  exact ⟨rfl, rfl⟩
theorem roomless_nil (w : World) :
    Calls Tryz.prog 47 #[.pointer none] w fun e w' => e = .returned (.bool true) ∧ w = w' := by
  go_enter Tryz.func47, Tryz.ntmps47
  go_wp2
  go_ret
  exact ⟨rfl, rfl⟩
theorem has_nil (k : Int) (w : World) :
    Calls Tryz.prog 50 #[.pointer none, .int .i64 k] w fun e w' => e = .returned (.bool false) ∧ w = w' := by
  go_enter Tryz.func50, Tryz.ntmps50
  go_wp2
  go_ret
  exact ⟨rfl, rfl⟩
theorem has_any (b rb n : Nat) (k : Int) (w : World) (hs : w.cell? ⟨b, 4, none⟩ = some (.slice (some ⟨rb, 0, none⟩) n n)) :
    Calls Tryz.prog 50 #[.pointer (some ⟨b, 0, none⟩), .int .i64 k] w fun e w' => e = .returned (.bool (decide (0 ≤ k ∧ k < n))) ∧ w = w' := by
  by_cases h0 : 0 ≤ k
  · by_cases h1 : k < n
    · rw [decide_eq_true ⟨h0, h1⟩]
      go_enter Tryz.func50, Tryz.ntmps50
      go_wp2
      go_ret
      exact ⟨rfl, rfl⟩
    · rw [decide_eq_false (fun h => h1 h.2)]
      go_enter Tryz.func50, Tryz.ntmps50
      go_wp2
      go_ret
      exact ⟨rfl, rfl⟩
  · rw [decide_eq_false (fun h => h0 h.1)]
    go_enter Tryz.func50, Tryz.ntmps50
    go_wp2
    go_ret
    exact ⟨rfl, rfl⟩
theorem parts_of (id : Nat) (w : World) (hid : id < 18446744073709551616) :
    Calls Tryz.prog 120 #[.int .u64 id] w fun e w' => e = .returned (.tuple #[.int .i64 (id % 64 : Nat), .int .u64 (id / 64 : Nat)]) ∧ w = w' := by
  go_enter Tryz.func120, Tryz.ntmps120
  go_wp2
  go_ret2
  refine ⟨?_, rfl⟩
  first | rfl | (refine ret2 ?_ ?_ <;> first | rfl | (simp [wrap64]; done) | (simp [wrap64]; omega) | omega)
theorem number_of (k g : Nat) (w : World) (hk : k < 64) (hg : g ≤ 1000000) :
    Calls Tryz.prog 149 #[.int .i64 k, .int .u64 g] w fun e w' => e = .returned (.int .u64 (g * 64 + k : Nat)) ∧ w = w' := by
  go_enter Tryz.func149, Tryz.ntmps149
  go_wp2
  go_ret
  refine ⟨?_, rfl⟩
  first | rfl | (refine ret_int ?_; first | rfl | omega)
theorem given_nil (k : Int) (w : World) :
    Calls Tryz.prog 121 #[.pointer none, .int .i64 k] w fun e w' => e = .returned (.int .u64 0) ∧ w = w' := by
  go_enter Tryz.func121, Tryz.ntmps121
  go_wp2_with fail
  refine (has_nil k _).mono ?_
  rintro e w1 ⟨rfl, rfl⟩
  go_wp2
  go_ret
  exact ⟨rfl, rfl⟩
theorem given_any {b rb n cnt : Nat} {R : Nat → Rec} (k : Nat) {w : World} (h : IsS w b rb n cnt R) :
    Calls Tryz.prog 121 #[.pointer (some ⟨b, 0, none⟩), .int .i64 k] w fun e w' => e = .returned (.int .u64 (if k < n then (R k).gv else 0 : Nat)) ∧ w = w' := by
  have hs := h.recs
  by_cases hk : k < n
  · rw [if_pos hk]
    have hg := (h.rc k hk).g
    have n1 := h.n1
    have L : Hid (decide (0 ≤ (k : Int) ∧ (k : Int) < n) = true) := Lib.hid (decide_eq_true (by omega))
    clear h
    go_enter Tryz.func121, Tryz.ntmps121
    go_wp2_with fail
    refine (has_any b rb n k _ hs).mono ?_
    rintro e w1 ⟨rfl, rfl⟩
    rw [L.out]
    go_wp2
    go_ret
    exact ⟨rfl, rfl⟩
  · rw [if_neg hk]
    have L : Hid (decide (0 ≤ (k : Int) ∧ (k : Int) < n) = false) := Lib.hid (decide_eq_false (by omega))
    clear h
    go_enter Tryz.func121, Tryz.ntmps121
    go_wp2_with fail
    refine (has_any b rb n k _ hs).mono ?_
    rintro e w1 ⟨rfl, rfl⟩
    rw [L.out]
    go_wp2
    go_ret
    exact ⟨rfl, rfl⟩
theorem period_nil (k : Int) (w : World) :
    Calls Tryz.prog 107 #[.pointer none, .int .i64 k] w fun e w' => e = .returned (.int .u64 0) ∧ w = w' := by
  go_enter Tryz.func107, Tryz.ntmps107
  go_wp2_with fail
  refine (has_nil k _).mono ?_
  rintro e w1 ⟨rfl, rfl⟩
  go_wp2
  go_ret
  exact ⟨rfl, rfl⟩
theorem period_in {b rb n cnt : Nat} {R : Nat → Rec} (k : Nat) {w : World} (h : IsS w b rb n cnt R) (hk : k < n) :
    Calls Tryz.prog 107 #[.pointer (some ⟨b, 0, none⟩), .int .i64 k] w fun e w' => e = .returned (.int .u64 ((R k).pd : Nat)) ∧ w = w' := by
  have hs := h.recs
  have hg := (h.rc k hk).p
  have n1 := h.n1
  have L : Hid (decide (0 ≤ (k : Int) ∧ (k : Int) < n) = true) := Lib.hid (decide_eq_true (by omega))
  clear h
  go_enter Tryz.func107, Tryz.ntmps107
  go_wp2_with fail
  refine (has_any b rb n k _ hs).mono ?_
  rintro e w1 ⟨rfl, rfl⟩
  rw [L.out]
  go_wp2
  go_ret
  exact ⟨rfl, rfl⟩
theorem period_out {b rb n cnt : Nat} {R : Nat → Rec} (k : Int) {w : World} (h : IsS w b rb n cnt R) (hk : ¬ (0 ≤ k ∧ k < n)) :
    Calls Tryz.prog 107 #[.pointer (some ⟨b, 0, none⟩), .int .i64 k] w fun e w' => e = .returned (.int .u64 0) ∧ w = w' := by
  have hs := h.recs
  have L : Hid (decide (0 ≤ k ∧ k < n) = false) := Lib.hid (decide_eq_false hk)
  clear h hk
  go_enter Tryz.func107, Tryz.ntmps107
  go_wp2_with fail
  refine (has_any b rb n k _ hs).mono ?_
  rintro e w1 ⟨rfl, rfl⟩
  rw [L.out]
  go_wp2
  go_ret
  exact ⟨rfl, rfl⟩
theorem word_nil (k : Int) (w : World) :
    Calls Tryz.prog 22 #[.pointer none, .int .i64 k] w fun e w' => e = .returned (.tuple #[.int .u64 0, .int .i64 6]) ∧ w = w' := by
  go_enter Tryz.func22, Tryz.ntmps22
  go_wp2_with fail
  refine (roomless_nil _).mono ?_
  rintro e w1 ⟨rfl, rfl⟩
  go_wp2
  go_ret2
  exact ⟨rfl, rfl⟩
theorem word_out {b rb n cnt : Nat} {R : Nat → Rec} (k : Int) {w : World} (h : IsS w b rb n cnt R) (hk : ¬ (0 ≤ k ∧ k < n)) :
    Calls Tryz.prog 22 #[.pointer (some ⟨b, 0, none⟩), .int .i64 k] w fun e w' => e = .returned (.tuple #[.int .u64 0, .int .i64 4]) ∧ w = w' := by
  have hs := h.recs
  have n0 := h.n0
  have L : Hid (decide (0 ≤ k ∧ k < n) = false) := Lib.hid (decide_eq_false hk)
  clear h hk
  go_enter Tryz.func22, Tryz.ntmps22
  go_wp2_with fail
  refine (roomless_no b rb n _ hs n0).mono ?_
  rintro e w1 ⟨rfl, rfl⟩
  go_wp2_with fail
  refine (has_any b rb n k _ hs).mono ?_
  rintro e w1 ⟨rfl, rfl⟩
  rw [L.out]
  go_wp2
  go_ret2
  exact ⟨rfl, rfl⟩
theorem word_in {b rb n cnt : Nat} {R : Nat → Rec} (k : Nat) {w : World} (h : IsS w b rb n cnt R) (hk : k < n) :
    Calls Tryz.prog 22 #[.pointer (some ⟨b, 0, none⟩), .int .i64 k] w fun e w' => e = .returned (.tuple #[.int .u64 ((R k).wd : Nat), .int .i64 0]) ∧ IsS w' b rb n cnt R ∧ Ch (One rb) w w' := by
  have hs := h.recs
  have n0 := h.n0
  have n1 := h.n1
  have H := Lib.hid h
  have L : Hid (decide (0 ≤ (k : Int) ∧ (k : Int) < n) = true) := Lib.hid (decide_eq_true (by omega))
  have e1 : ((k : Int)).toNat = k := by omega
  clear h
  go_enter Tryz.func22, Tryz.ntmps22
  go_wp2_with fail
  refine (roomless_no b rb n _ hs n0).mono ?_
  rintro e w1 ⟨rfl, rfl⟩
  go_wp2_with fail
  refine (has_any b rb n k _ hs).mono ?_
  rintro e w1 ⟨rfl, rfl⟩
  rw [L.out]
  go_wp2_with fail
  refine (loadW_at rb (k * 6) _ _ (H.out.rc k hk).c).mono ?_
  rintro e w2 ⟨rfl, hu, c2⟩
  have NX := Lib.hid (H.out.same hk (c2.wide (Nat.le_refl _) (by omega)) ((H.out.rc k hk).turn c2 hu))
  clear hu
  go_wp2
  go_ret2
  exact ⟨rfl, NX.out, c2.ch⟩
theorem count_nil (w : World) :
    Calls Tryz.prog 16 #[.pointer none] w fun e w' => e = .returned (.int .i64 0) ∧ w = w' := by
  go_enter Tryz.func16, Tryz.ntmps16
  go_wp2_with fail
  refine (roomless_nil _).mono ?_
  rintro e w1 ⟨rfl, rfl⟩
  go_wp2
  go_ret
  exact ⟨rfl, rfl⟩
theorem count_of {b rb n cnt : Nat} {R : Nat → Rec} {w : World} (h : IsS w b rb n cnt R) :
    Calls Tryz.prog 16 #[.pointer (some ⟨b, 0, none⟩)] w fun e w' => e = .returned (.int .i64 (cnt : Nat)) ∧ IsS w' b rb n cnt R ∧ Ch (One b) w w' := by
  have hs := h.recs
  have n0 := h.n0
  have H := Lib.hid h
  clear h
  go_enter Tryz.func16, Tryz.ntmps16
  go_wp2_with fail
  refine (roomless_no b rb n _ hs n0).mono ?_
  rintro e w1 ⟨rfl, rfl⟩
  go_wp2_with fail
  refine (loadJ_at b 0 _ _ H.out.cnt).mono ?_
  rintro e w2 ⟨rfl, hu, c2⟩
  have NX := Lib.hid (H.out.count c2 hu)
  clear hu
  go_wp2
  go_ret
  exact ⟨rfl, NX.out, c2.ch⟩
theorem drop_nil (w : World) :
    Calls Tryz.prog 146 #[.pointer none] w fun e w' => e = .returned (.int .i64 6) ∧ w = w' := by
  go_enter Tryz.func146, Tryz.ntmps146
  go_wp2_with fail
  refine (roomless_nil _).mono ?_
  rintro e w1 ⟨rfl, rfl⟩
  go_wp2
  go_ret
  exact ⟨rfl, rfl⟩
theorem drop_of {b rb n cnt : Nat} {R : Nat → Rec} {w : World} (h : IsS w b rb n cnt R) (hc : cnt ≤ 1000000) :
    Calls Tryz.prog 146 #[.pointer (some ⟨b, 0, none⟩)] w fun e w' => e = .returned (.int .i64 (if 0 < cnt then 0 else 6)) ∧ IsS w' b rb n (cnt - 1) R ∧ Ch (One b) w w' := by
  have hs := h.recs
  have n0 := h.n0
  have H := Lib.hid h
  clear h
  by_cases h0 : 0 < cnt
  · rw [if_pos h0]
    have L := Lib.hid (decide_eq_true h0)
    go_enter Tryz.func146, Tryz.ntmps146
    go_wp2_with fail
    refine (roomless_no b rb n _ hs n0).mono ?_
    rintro e w1 ⟨rfl, rfl⟩
    go_wp2_with fail
    refine (turn_drop b cnt _ H.out.cnt hc).mono ?_
    rintro e w2 ⟨rfl, hu, c2⟩
    rw [L.out]
    have NX := Lib.hid (H.out.count c2 hu)
    clear hu
    go_wp2
    go_ret
    exact ⟨rfl, NX.out, c2.ch⟩
  · rw [if_neg h0]
    have L := Lib.hid (decide_eq_false h0)
    go_enter Tryz.func146, Tryz.ntmps146
    go_wp2_with fail
    refine (roomless_no b rb n _ hs n0).mono ?_
    rintro e w1 ⟨rfl, rfl⟩
    go_wp2_with fail
    refine (turn_drop b cnt _ H.out.cnt hc).mono ?_
    rintro e w2 ⟨rfl, hu, c2⟩
    rw [L.out]
    have NX := Lib.hid (H.out.count c2 hu)
    clear hu
    go_wp2
    go_ret
    exact ⟨rfl, NX.out, c2.ch⟩
theorem slot_nil (id : Nat) (w : World) :
    Calls Tryz.prog 105 #[.pointer none, .int .u64 id] w fun e w' => e = .returned (.tuple #[.int .i64 0, .int .i64 6]) ∧ w = w' := by
  go_enter Tryz.func105, Tryz.ntmps105
  go_wp2_with fail
  refine (roomless_nil _).mono ?_
  rintro e w1 ⟨rfl, rfl⟩
  go_wp2
  go_ret2
  exact ⟨rfl, rfl⟩
/-- was a number given? -/
def givenId (n : Nat) (R : Nat → Rec) (id : Nat) : Prop := id % 64 < n ∧ 1 ≤ id / 64 ∧ id / 64 ≤ (R (id % 64)).gv
theorem slot_yes {b rb n cnt : Nat} {R : Nat → Rec} (id : Nat) {w : World} (hid : id < 18446744073709551616) (h : IsS w b rb n cnt R) (hg : givenId n R id) :
    Calls Tryz.prog 105 #[.pointer (some ⟨b, 0, none⟩), .int .u64 id] w fun e w' => e = .returned (.tuple #[.int .i64 (id % 64 : Nat), .int .i64 0]) ∧ w = w' := by
  have hs := h.recs
  have n0 := h.n0
  have H := Lib.hid h
  obtain ⟨g0, g1, g2⟩ := hg
  obtain ⟨k, hk⟩ : ∃ k, k = id % 64 := ⟨_, rfl⟩
  obtain ⟨t, ht⟩ : ∃ t, t = id / 64 := ⟨_, rfl⟩
  have HK := Lib.hid hk
  have HT := Lib.hid ht
  rw [← hk] at g0 g2
  rw [← ht] at g1 g2
  have L : Hid ((if k < n then (R k).gv else 0) = (R k).gv) := Lib.hid (if_pos g0)
  obtain ⟨g, hgg⟩ : ∃ g, g = (R k).gv := ⟨_, rfl⟩
  rw [← hgg] at g2
  have G := Lib.hid hgg
  have z1 : ((t : Int) == 0) = false := by rw [beq_eq_false_iff_ne]; omega
  rw [← hk]
  clear h hk ht hgg
  go_enter Tryz.func105, Tryz.ntmps105
  go_wp2_with fail
  refine (roomless_no b rb n _ hs n0).mono ?_
  rintro e w1 ⟨rfl, rfl⟩
  go_wp2_with fail
  refine (parts_of id _ hid).mono ?_
  rintro e w1 ⟨rfl, rfl⟩
  rw [← HK.out, ← HT.out]
  go_wp2_with fail
  refine (given_any k H.out).mono ?_
  rintro e w1 ⟨rfl, rfl⟩
  rw [L.out, ← G.out]
  go_wp2
  go_ret2
  exact ⟨rfl, rfl⟩
theorem slot_no {b rb n cnt : Nat} {R : Nat → Rec} (id : Nat) {w : World} (hid : id < 18446744073709551616) (h : IsS w b rb n cnt R) (hg : ¬ givenId n R id) :
    Calls Tryz.prog 105 #[.pointer (some ⟨b, 0, none⟩), .int .u64 id] w fun e w' => e = .returned (.tuple #[.int .i64 0, .int .i64 1]) ∧ w = w' := by
  have hs := h.recs
  have n0 := h.n0
  have H := Lib.hid h
  obtain ⟨k, hk⟩ : ∃ k, k = id % 64 := ⟨_, rfl⟩
  obtain ⟨t, ht⟩ : ∃ t, t = id / 64 := ⟨_, rfl⟩
  have HK := Lib.hid hk
  have HT := Lib.hid ht
  unfold givenId at hg
  rw [← hk, ← ht] at hg
  clear h hk ht
  by_cases t0 : t = 0
  · have z1 : ((t : Int) == 0) = true := by rw [beq_iff_eq]; omega
    have z2 : (t : Int) = 0 := by omega
    clear hg
    go_enter Tryz.func105, Tryz.ntmps105
    go_wp2_with fail
    refine (roomless_no b rb n _ hs n0).mono ?_
    rintro e w1 ⟨rfl, rfl⟩
    go_wp2_with fail
    refine (parts_of id _ hid).mono ?_
    rintro e w1 ⟨rfl, rfl⟩
    rw [← HK.out, ← HT.out]
    go_wp2
    go_ret2
    exact ⟨rfl, rfl⟩
  · have z1 : ((t : Int) == 0) = false := by rw [beq_eq_false_iff_ne]; omega
    obtain ⟨g, hgg⟩ : ∃ g, g = (if k < n then (R k).gv else 0) := ⟨_, rfl⟩
    have G := Lib.hid hgg
    have hlt : g < t := by
      rw [hgg]
      by_cases hk : k < n
      · rw [if_pos hk]; omega
      · rw [if_neg hk]; omega
    clear hg hgg
    go_enter Tryz.func105, Tryz.ntmps105
    go_wp2_with fail
    refine (roomless_no b rb n _ hs n0).mono ?_
    rintro e w1 ⟨rfl, rfl⟩
    go_wp2_with fail
    refine (parts_of id _ hid).mono ?_
    rintro e w1 ⟨rfl, rfl⟩
    rw [← HK.out, ← HT.out]
    go_wp2_with fail
    refine (given_any k H.out).mono ?_
    rintro e w1 ⟨rfl, rfl⟩
    rw [← G.out]
    go_wp2
    go_ret2
    exact ⟨rfl, rfl⟩
theorem mine_nil (id : Nat) (w : World) (hid : id < 18446744073709551616) :
    Calls Tryz.prog 108 #[.pointer none, .int .u64 id] w fun e w' => e = .returned (.bool false) ∧ w = w' := by
  obtain ⟨k, hk⟩ : ∃ k, k = id % 64 := ⟨_, rfl⟩
  obtain ⟨t, ht⟩ : ∃ t, t = id / 64 := ⟨_, rfl⟩
  have HK := Lib.hid hk
  have HT := Lib.hid ht
  clear hk ht
  by_cases t0 : t = 0
  · have z1 : ((t : Int) != 0) = false := by rw [bne_eq_false_iff_eq]; omega
    go_enter Tryz.func108, Tryz.ntmps108
    go_wp2_with fail
    refine (parts_of id _ hid).mono ?_
    rintro e w1 ⟨rfl, rfl⟩
    rw [← HK.out, ← HT.out]
    go_wp2
    go_ret
    exact ⟨rfl, rfl⟩
  · have z1 : ((t : Int) != 0) = true := by rw [bne_iff_ne]; omega
    have z2 : ((t : Int) == 0) = false := by rw [beq_eq_false_iff_ne]; omega
    go_enter Tryz.func108, Tryz.ntmps108
    go_wp2_with fail
    refine (parts_of id _ hid).mono ?_
    rintro e w1 ⟨rfl, rfl⟩
    rw [← HK.out, ← HT.out]
    go_wp2_with fail
    refine (given_nil _ _).mono ?_
    rintro e w1 ⟨rfl, rfl⟩
    go_wp2
    go_ret
    exact ⟨rfl, rfl⟩
/-- is a number the slot's newest one? -/
def mineId (n : Nat) (R : Nat → Rec) (id : Nat) : Bool := decide (id / 64 ≠ 0 ∧ id / 64 = (if id % 64 < n then (R (id % 64)).gv else 0))
theorem mine_of {b rb n cnt : Nat} {R : Nat → Rec} (id : Nat) {w : World} (hid : id < 18446744073709551616) (h : IsS w b rb n cnt R) :
    Calls Tryz.prog 108 #[.pointer (some ⟨b, 0, none⟩), .int .u64 id] w fun e w' => e = .returned (.bool (mineId n R id)) ∧ w = w' := by
  have H := Lib.hid h
  obtain ⟨k, hk⟩ : ∃ k, k = id % 64 := ⟨_, rfl⟩
  obtain ⟨t, ht⟩ : ∃ t, t = id / 64 := ⟨_, rfl⟩
  have HK := Lib.hid hk
  have HT := Lib.hid ht
  unfold mineId
  rw [← hk, ← ht]
  clear h hk ht
  by_cases t0 : t = 0
  · have z1 : ((t : Int) != 0) = false := by rw [bne_eq_false_iff_eq]; omega
    rw [decide_eq_false (fun h => h.1 t0)]
    go_enter Tryz.func108, Tryz.ntmps108
    go_wp2_with fail
    refine (parts_of id _ hid).mono ?_
    rintro e w1 ⟨rfl, rfl⟩
    rw [← HK.out, ← HT.out]
    go_wp2
    go_ret
    exact ⟨rfl, rfl⟩
  · have z1 : ((t : Int) != 0) = true := by rw [bne_iff_ne]; omega
    obtain ⟨g, hgg⟩ : ∃ g, g = (if k < n then (R k).gv else 0) := ⟨_, rfl⟩
    have G := Lib.hid hgg
    rw [← hgg]
    have z2 : Hid (((t : Int) == (g : Int)) = decide (t ≠ 0 ∧ t = g)) := Lib.hid (by
      rw [Bool.eq_iff_iff, beq_iff_eq, decide_eq_true_iff]
      omega)
    clear hgg
    rw [← z2.out]
    go_enter Tryz.func108, Tryz.ntmps108
    go_wp2_with fail
    refine (parts_of id _ hid).mono ?_
    rintro e w1 ⟨rfl, rfl⟩
    rw [← HK.out, ← HT.out]
    go_wp2_with fail
    refine (given_any k H.out).mono ?_
    rintro e w1 ⟨rfl, rfl⟩
    rw [← G.out]
    go_wp2
    go_ret
    exact ⟨rfl, rfl⟩
theorem id_nil (w : World) :
    Calls Tryz.prog 136 #[.pointer none] w fun e w' => e = .returned (.tuple #[.int .u64 0, .int .i64 7]) ∧ w = w' := by
  go_enter Tryz.func136, Tryz.ntmps136
  go_wp2
  go_ret2
  exact ⟨rfl, rfl⟩
theorem id_of {q b : Nat} {r : Rq} {w : World} (h : IsQ w q b r) :
    Calls Tryz.prog 136 #[.pointer (some ⟨q, 0, none⟩)] w fun e w' => e = .returned (.tuple #[.int .u64 (if r.ss = 2 then r.id else 0 : Nat), .int .i64 (if r.ss = 2 then 0 else 7 : Nat)]) ∧ w = w' := by
  have h3 := h.c3
  have h6 := h.c6
  clear h
  by_cases e2 : r.ss = 2
  · rw [if_pos e2, if_pos e2]
    rw [e2] at h3
    clear e2
    go_enter Tryz.func136, Tryz.ntmps136
    go_wp2
    go_ret2
    exact ⟨rfl, rfl⟩
  · rw [if_neg e2, if_neg e2]
    obtain ⟨s, hs⟩ : ∃ s, s = r.ss := ⟨_, rfl⟩
    rw [← hs] at h3 e2
    have z1 : ((s : Int) != 2) = true := by rw [bne_iff_ne]; omega
    clear hs e2
    go_enter Tryz.func136, Tryz.ntmps136
    go_wp2
    go_ret2
    exact ⟨rfl, rfl⟩
theorem begin_nil (p : Int) (w : World) :
    Calls Tryz.prog 97 #[.pointer none, .int .u64 p] w fun e w' => e = .returned (.pointer none) ∧ w = w' := by
  go_enter Tryz.func97, Tryz.ntmps97
  go_wp2_with fail
  refine (roomless_nil _).mono ?_
  rintro e w1 ⟨rfl, rfl⟩
  go_wp2
  go_ret
  exact ⟨rfl, rfl⟩
theorem isQ_new (w : World) (b pd : Nat) (T : TypeId) : IsQ (w.alloc (.cells #[.pointer (some ⟨b, 0, none⟩), .int .u64 (pd : Nat), .int .i64 0, .int .i64 0, .int .i64 0, .int .i64 0, .int .u64 0] T)) w.heap.size b ⟨pd, 0, 0, 0, 0, 0⟩ := by
  constructor <;> simp [go_sem]
theorem begin_of {b rb n cnt : Nat} {R : Nat → Rec} {w : World} (pd : Nat) (h : IsS w b rb n cnt R) :
    Calls Tryz.prog 97 #[.pointer (some ⟨b, 0, none⟩), .int .u64 (pd : Nat)] w fun e w' => ∃ q, e = .returned (.pointer (some ⟨q, 0, none⟩)) ∧ q = w.heap.size ∧ IsQ w' q b ⟨pd, 0, 0, 0, 0, 0⟩ ∧ IsS w' b rb n cnt R ∧ Ch Nil w w' ∧ w'.heap.size = w.heap.size + 1 := by
  have hs := h.recs
  have n0 := h.n0
  have H := Lib.hid h
  clear h
  go_enter Tryz.func97, Tryz.ntmps97
  go_wp2_with fail
  refine (roomless_no b rb n _ hs n0).mono ?_
  rintro e w1 ⟨rfl, rfl⟩
  go_wp2
  go_ret
  exact ⟨_, rfl, rfl, isQ_new _ _ _ _, H.out.quiet ((Ch.refl _ _).alloc _), (Ch.refl _ _).alloc _, by simp⟩

theorem new_out (n : Int) (w : World) (hn : Hid (n < 1 ∨ 64 < n)) :
    Calls Tryz.prog 35 #[.int .i64 n] w fun e w' => e = .returned (.tuple #[.pointer none, .int .i64 4]) ∧ w = w' := by
  by_cases h1 : n < 1
  · go_enter Tryz.func35, Tryz.ntmps35
    go_wp2
    go_ret2
    exact ⟨rfl, rfl⟩
  · have h2 : 64 < n := by have := hn.out; omega
    go_enter Tryz.func35, Tryz.ntmps35
    go_wp2
    go_ret2
    exact ⟨rfl, rfl⟩
theorem made_at (z : Array Value) (m j : Nat) (hj : j < m) : (madeCells z m)[j]? = some (z[j % z.size]!) := by simp [madeCells, hj]
theorem made_recs (n : Nat) (w : World) (n1 : n ≤ 64) : ∃ M : Array Value, (Instr.makeSlice 116 (.int .i64 (n : Int)) (.int .i64 (n : Int))).run Tryz.prog w = .ok (.slice (some ⟨w.heap.size, 0, none⟩) n n) (w.alloc (.cells M 124)) ∧
    ∀ i, i < n → M[i * 6]? = some (.int .u64 0) ∧ M[i * 6 + 1]? = some (.int .i64 0) ∧ M[i * 6 + 2]? = some (.int .i64 0) ∧ M[i * 6 + 3]? = some (.int .i64 0) ∧ M[i * 6 + 4]? = some (.int .u64 0) ∧ M[i * 6 + 5]? = some (.int .u64 0) := by
  have h0 : (Tryz.prog.info? 124).map (fun i => (i.zero, i.size, decide (i.bytes ≤ 1000))) = some (some (.agg #[.int .u64 0, .int .i64 0, .int .i64 0, .int .i64 0, .int .u64 0, .int .u64 0]), 6, true) := by kernel_rfl
  obtain ⟨inf, hi, he⟩ := Option.map_eq_some_iff.1 h0
  simp only [Prod.mk.injEq, decide_eq_true_eq] at he
  obtain ⟨hz, hsz, hby⟩ := he
  clear h0
  have hr := run_make (P := Tryz.prog) w 116 124 inf _ Tryz.underlying116 hi hz .i64 .i64 (n : Int) (n : Int) (by omega) (Int.le_refl _) (by
      have h1 : inf.bytes * n ≤ 1000 * 64 := Nat.mul_le_mul hby n1
      have h2 : ((inf.bytes * n : Nat) : Int) ≤ 281474976710656 := by omega
      rwa [Int.natCast_mul] at h2) (by omega)
  refine ⟨_, by simpa using hr, fun i hi' => ?_⟩
  rw [hsz]
  have g : ∀ c, c < 6 → (i * 6 + c) % 6 = c := fun c hc => by omega
  refine ⟨?_, ?_, ?_, ?_, ?_, ?_⟩
  · rw [made_at _ _ _ (by omega)]; show some (_[(i * 6 + 0) % 6]!) = _; rw [g 0 (by omega)]; rfl
  · rw [made_at _ _ _ (by omega)]; show some (_[(i * 6 + 1) % 6]!) = _; rw [g 1 (by omega)]; rfl
  · rw [made_at _ _ _ (by omega)]; show some (_[(i * 6 + 2) % 6]!) = _; rw [g 2 (by omega)]; rfl
  · rw [made_at _ _ _ (by omega)]; show some (_[(i * 6 + 3) % 6]!) = _; rw [g 3 (by omega)]; rfl
  · rw [made_at _ _ _ (by omega)]; show some (_[(i * 6 + 4) % 6]!) = _; rw [g 4 (by omega)]; rfl
  · rw [made_at _ _ _ (by omega)]; show some (_[(i * 6 + 5) % 6]!) = _; rw [g 5 (by omega)]; rfl
theorem made_cell (w : World) (M : Array Value) (T : TypeId) (j : Nat) : (w.alloc (.cells M T)).cell? ⟨w.heap.size, j, none⟩ = M[j]? := by
  simp [go_sem]
theorem made_frozen (w : World) (M : Array Value) (T : TypeId) (j : Nat) : (w.alloc (.cells M T)).frozen? ⟨w.heap.size, j, none⟩ = false := by
  simp [go_sem]
set_option maxHeartbeats 4000000 in
theorem new_in (n : Nat) (w : World) (n0 : 0 < n) (n1 : n ≤ 64) :
    Calls Tryz.prog 35 #[.int .i64 n] w fun e w' => e = .returned (.tuple #[.pointer (some ⟨w.heap.size + 1, 0, none⟩), .int .i64 0]) ∧ IsS w' (w.heap.size + 1) w.heap.size n 0 zeroR ∧ Ch Nil w w' := by
  have d1 : decide ((n : Int) < 1) = false := by rw [decide_eq_false_iff_not]; omega
  have d2 : decide (64 < (n : Int)) = false := by rw [decide_eq_false_iff_not]; omega
  obtain ⟨M, hM, hc⟩ := made_recs n w n1
  have HC := Lib.hid hc
  clear hc
  go_enter Tryz.func35, Tryz.ntmps35
  go_wp2
  go_ret2
  clear hM
  have cA : Ch Nil (w.alloc (Obj.cells M 124)) ((w.alloc (Obj.cells M 124)).alloc (Obj.cells #[.int .i64 0, .int .i64 0, .int .i64 0, .int .i64 0, .slice (some ⟨w.heap.size, 0, none⟩) n n] 118)) := (Ch.refl _ _).alloc _
  have eS : (w.alloc (Obj.cells M 124)).heap.size = w.heap.size + 1 := by simp
  refine ⟨by simp, ⟨⟨0, 0, 0, ?_⟩, ?_, ?_, by omega, n0, n1⟩, ((Ch.refl _ _).alloc _).alloc _⟩
  · rw [← eS]; constructor <;> simp [go_sem]
  · rw [← eS]; simp [go_sem]
  · intro p hp
    have hs : IsRec (w.alloc (Obj.cells M 124)) w.heap.size (p * 6) (zeroR p) := by
      obtain ⟨a0, a1, a2, a3, a4, a5⟩ := HC.out p hp
      refine ⟨⟨0, 0, 0, ?_⟩, (made_cell _ _ _ _).trans a4, (made_cell _ _ _ _).trans a5, made_frozen _ _ _ _, made_frozen _ _ _ _⟩
      exact ⟨(made_cell _ _ _ _).trans a0, (made_cell _ _ _ _).trans a1, (made_cell _ _ _ _).trans a2, (made_cell _ _ _ _).trans a3, made_frozen _ _ _ _, made_frozen _ _ _ _, made_frozen _ _ _ _, made_frozen _ _ _ _⟩
    exact hs.kept cA (fun e => e)
end Go.Proofs.YtnbdafmjcmmfpaaGreat

/-
  Contract of package floor's New: what a new floor is; none of a config that may not be.
-/
namespace Go.Proofs.YtnbdafmjcmmfpaaGreat
open Go.RowKit Verge
attribute [local go_sem] Oper.semAt_some
set_option linter.unusedVariables false
set_option linter.unusedSimpArgs false

set_option maxHeartbeats 2000000 in
theorem floorNew_bad (c : Cf) (hc : ¬ cfOk c) (w : World) :
    Calls Tryz.prog 9 #[.agg #[.int .i64 c.s, .int .i64 c.c, .int .i64 c.r, .int .i64 c.m, .int .i64 c.k, .int .i64 c.l]] w fun e w' => e = .returned (.tuple #[.pointer none, .int .i64 8]) ∧ Ch Nil w w' := by
  have cA : Ch Nil w (w.alloc (Obj.cells #[.int .i64 c.s, .int .i64 c.c, .int .i64 c.r, .int .i64 c.m, .int .i64 c.k, .int .i64 c.l] 30)) := (Ch.refl _ _).alloc _
  have bx : IsVs (w.alloc (Obj.cells #[.int .i64 c.s, .int .i64 c.c, .int .i64 c.r, .int .i64 c.m, .int .i64 c.k, .int .i64 c.l] 30)) w.heap.size (cfV c) := IsVs.new w (cfV c) 30
  have CA := Lib.hid cA
  have HC := Lib.hid hc
  clear cA hc
  go_enter Tryz.func9, Tryz.ntmps9
  go_upto_region 1 with (fail)
  generalize w.alloc (Obj.cells #[.int .i64 c.s, .int .i64 c.c, .int .i64 c.r, .int .i64 c.m, .int .i64 c.k, .int .i64 c.l] 30) = W at CA bx ⊢
  generalize w.heap.size = B at bx ⊢
  obtain ⟨c0, c1, c2, c3, c4, c5⟩ := bx.cells6
  clear bx
  go_wp2_with fail
  refine (check_of c 8 (Lib.hid (by rw [if_neg HC.out])) _).mono ?_
  rintro e w1 ⟨rfl, k1⟩
  have C1 := Lib.hid (CA.out.trans k1)
  clear k1 c0 c1 c2 c3 c4 c5
  go_wp2
  go_ret2
  exact ⟨rfl, C1.out⟩

set_option maxHeartbeats 8000000 in
set_option maxRecDepth 100000 in
theorem floorNew_ok (n cp rg rm : Nat) (kk ll : Int) (hok : cfOk ⟨n, cp, rg, rm, kk, ll⟩) (w : World) :
    Calls Tryz.prog 9 #[.agg #[.int .i64 (n : Int), .int .i64 (cp : Int), .int .i64 (rg : Int), .int .i64 (rm : Int), .int .i64 kk, .int .i64 ll]] w fun e w' => ∃ F : Fb, e = .returned (.tuple #[.pointer (some ⟨F.f, 0, none⟩), .int .i64 0]) ∧ F.c = ⟨n, cp, rg, rm, kk, ll⟩ ∧ F.n = n ∧ NewF w w' F cp rm := by
  have cA : Ch Nil w (w.alloc (Obj.cells #[.int .i64 (n : Int), .int .i64 (cp : Int), .int .i64 (rg : Int), .int .i64 (rm : Int), .int .i64 kk, .int .i64 ll] 30)) := (Ch.refl _ _).alloc _
  have bx : IsVs (w.alloc (Obj.cells #[.int .i64 (n : Int), .int .i64 (cp : Int), .int .i64 (rg : Int), .int .i64 (rm : Int), .int .i64 kk, .int .i64 ll] 30)) w.heap.size [.int .i64 (n : Int), .int .i64 (cp : Int), .int .i64 (rg : Int), .int .i64 (rm : Int), .int .i64 kk, .int .i64 ll] := IsVs.new w [.int .i64 (n : Int), .int .i64 (cp : Int), .int .i64 (rg : Int), .int .i64 (rm : Int), .int .i64 kk, .int .i64 ll] 30
  have CA := Lib.hid cA
  have HK := Lib.hid hok
  have n1 : 1 ≤ n ∧ n ≤ 4 := by have h : 1 ≤ (n : Int) ∧ (n : Int) ≤ 4 := hok 0 (by omega); omega
  have q1 : 0 < cp ∧ cp ≤ 64 := by have h : 1 ≤ (cp : Int) ∧ (cp : Int) ≤ 64 := hok 1 (by omega); omega
  have q2 : 0 < rg ∧ rg ≤ 64 := by have h : 1 ≤ (rg : Int) ∧ (rg : Int) ≤ 64 := hok 2 (by omega); omega
  have q3 : 1 ≤ rm ∧ rm ≤ 16 := by have h : 1 ≤ (rm : Int) ∧ (rm : Int) ≤ 16 := hok 3 (by omega); omega
  have Q1 := Lib.hid q1
  have Q2 := Lib.hid q2
  have Q3 := Lib.hid q3
  clear cA hok q1 q2 q3
  go_enter Tryz.func9, Tryz.ntmps9
  go_upto_region 1 with (fail)
  generalize w.alloc (Obj.cells #[.int .i64 (n : Int), .int .i64 (cp : Int), .int .i64 (rg : Int), .int .i64 (rm : Int), .int .i64 kk, .int .i64 ll] 30) = W at CA bx ⊢
  obtain ⟨B, hB⟩ : ∃ B, B = w.heap.size := ⟨_, rfl⟩
  rw [← hB] at bx ⊢
  have HB := Lib.hid hB
  clear hB
  have BX := Lib.hid bx
  obtain ⟨c0, c1, c2, c3, c4, c5⟩ := bx.cells6
  clear bx
  go_wp2_with fail
  refine (check_of ⟨n, cp, rg, rm, kk, ll⟩ 0 (Lib.hid (by rw [if_pos HK.out])) _).mono ?_
  rintro e w1 ⟨rfl, k1⟩
  have C1 := Lib.hid (CA.out.trans k1)
  have B1 := Lib.hid (BX.out.kept k1 (fun e => e))
  clear k1 c0 c1 c2 c3 c4 c5 BX CA
  go_upto_region 4 with (fail)
  have B1d := Lib.hid (B1.out.kept (show Ch Nil w1 w1.drew from (Ch.refl _ _).drew) (fun e => e))
  have C1d := Lib.hid (C1.out.trans (show Ch Nil w1 w1.drew from (Ch.refl _ _).drew))
  clear B1 C1
  refine wp_region_held_drew (S := fun w' => w'.cell? ⟨B, 0, none⟩ = some (.int .i64 (n : Int)) ∧ w'.cell? ⟨B, 1, none⟩ = some (.int .i64 (cp : Int)) ∧ w'.cell? ⟨B, 2, none⟩ = some (.int .i64 (rg : Int)) ∧ w'.cell? ⟨B, 3, none⟩ = some (.int .i64 (rm : Int)) ∧ w'.cell? ⟨B, 4, none⟩ = some (.int .i64 kk) ∧ w'.cell? ⟨B, 5, none⟩ = some (.int .i64 ll)) (by kernel_rfl) B1d.out.cells6 (fun hHeld => ?_)
  generalize w1.drew = V at *
  refine take_at (v := ?_) 0 (some 13) rfl (by kernel_rfl) (by kernel_rfl) (by kernel_rfl) (by kernel_rfl) (fun _ _ _ h => h) (Or.inl ⟨by rfl, ?_⟩) (by assumption) ?_
  rotate_left
  · intro w hSw; (try dsimp only at hSw); go_simp; try (with_reducible rfl)
  (try simp only [Act.put, List.setIfInBounds_toArray, List.set_cons_zero, List.set_cons_succ])
  refine wpAnyH_ready (rs := [1]) (by kernel_rfl) (by simp) ?_
  refine AllReadyH.cons rfl (fun K hK => ?_) AllReadyH.nil
  go_simp
  refine (nLog _).mono ?_
  rintro e w2 ⟨lb, rfl, hlb, g2, k2⟩
  have C2 := Lib.hid (C1d.out.trans k2)
  have B2 := Lib.hid (B1d.out.kept k2 (fun e => e))
  have G2 := Lib.hid g2
  have O2 := Lib.hid (show w.heap.size ≤ B ∧ B < lb ∧ lb < w2.heap.size from by have := C1d.out.size; have := HB.out; have := B1d.out.lt; have := g2.lt; omega)
  clear g2 k2 hlb C1d B1d
  refine hK.out _ _ B2.out.cells6 (fun hHeld => ?_)
  clear hK K
  (try simp only [Act.put, List.setIfInBounds_toArray, List.set_cons_zero, List.set_cons_succ])
  refine wpAnyH_ready (rs := [2]) (by kernel_rfl) (by simp) ?_
  refine AllReadyH.cons rfl (fun K hK => ?_) AllReadyH.nil
  go_simp
  refine (ofB _ _).mono ?_
  rintro e w3 ⟨rfl, g3, k3, z3⟩
  obtain ⟨cl, hcl⟩ : ∃ b, b = w2.heap.size := ⟨_, rfl⟩
  rw [← hcl] at g3 ⊢
  have C3 := Lib.hid (C2.out.trans k3)
  have B3 := Lib.hid (B2.out.kept k3 (fun e => e))
  have G3 := Lib.hid (And.intro (G2.out.kept k3 (fun e => e)) g3)
  have O3 := Lib.hid (show w.heap.size ≤ B ∧ B < lb ∧ lb < cl ∧ cl < w3.heap.size from by have := O2.out; have := g3.lt; omega)
  clear g3 k3 z3 C2 B2 G2 O2 hcl
  refine hK.out _ _ B3.out.cells6 (fun hHeld => ?_)
  clear hK K
  (try simp only [Act.put, List.setIfInBounds_toArray, List.set_cons_zero, List.set_cons_succ])
  refine wpAnyH_ready (rs := [3]) (by kernel_rfl) (by simp) ?_
  refine AllReadyH.cons rfl (fun K hK => ?_) AllReadyH.nil
  go_simp
  refine (ofJ _ _).mono ?_
  rintro e w4 ⟨rfl, g4, k4, z4⟩
  obtain ⟨ins, hins⟩ : ∃ b, b = w3.heap.size := ⟨_, rfl⟩
  rw [← hins] at g4 ⊢
  have C4 := Lib.hid (C3.out.trans k4)
  have B4 := Lib.hid (B3.out.kept k4 (fun e => e))
  have G4 := Lib.hid (And.intro (G3.out.1.kept k4 (fun e => e)) (And.intro (G3.out.2.kept k4 (fun e => e)) g4))
  have O4 := Lib.hid (show w.heap.size ≤ B ∧ B < lb ∧ lb < cl ∧ cl < ins ∧ ins < w4.heap.size from by have := O3.out; have := g4.lt; omega)
  clear g4 k4 z4 C3 B3 G3 O3 hins
  refine hK.out _ _ B4.out.cells6 (fun hHeld => ?_)
  clear hK K
  (try simp only [Act.put, List.setIfInBounds_toArray, List.set_cons_zero, List.set_cons_succ])
  refine wpAnyH_ready (rs := [4]) (by kernel_rfl) (by simp) ?_
  refine AllReadyH.cons rfl (fun K hK => ?_) AllReadyH.nil
  go_simp
  refine (ofJ _ _).mono ?_
  rintro e w5 ⟨rfl, g5, k5, z5⟩
  obtain ⟨bz, hbz⟩ : ∃ b, b = w4.heap.size := ⟨_, rfl⟩
  rw [← hbz] at g5 ⊢
  have C5 := Lib.hid (C4.out.trans k5)
  have B5 := Lib.hid (B4.out.kept k5 (fun e => e))
  have G5 := Lib.hid (And.intro (G4.out.1.kept k5 (fun e => e)) (And.intro (G4.out.2.1.kept k5 (fun e => e)) (And.intro (G4.out.2.2.kept k5 (fun e => e)) g5)))
  have O5 := Lib.hid (show w.heap.size ≤ B ∧ B < lb ∧ lb < cl ∧ cl < ins ∧ ins < bz ∧ bz < w5.heap.size from by have := O4.out; have := g5.lt; omega)
  clear g5 k5 z5 C4 B4 G4 O4 hbz
  refine hK.out _ _ B5.out.cells6 (fun hHeld => ?_)
  clear hK K
  (try simp only [Act.put, List.setIfInBounds_toArray, List.set_cons_zero, List.set_cons_succ])
  refine wpAnyH_ready (rs := [5]) (by kernel_rfl) (by simp) ?_
  refine AllReadyH.cons rfl (fun K hK => ?_) AllReadyH.nil
  go_simp
  refine (ofU _ _).mono ?_
  rintro e w6 ⟨rfl, g6, k6, z6⟩
  obtain ⟨nw, hnw⟩ : ∃ b, b = w5.heap.size := ⟨_, rfl⟩
  rw [← hnw] at g6 ⊢
  have C6 := Lib.hid (C5.out.trans k6)
  have B6 := Lib.hid (B5.out.kept k6 (fun e => e))
  have G6 := Lib.hid (And.intro (G5.out.1.kept k6 (fun e => e)) (And.intro (G5.out.2.1.kept k6 (fun e => e)) (And.intro (G5.out.2.2.1.kept k6 (fun e => e)) (And.intro (G5.out.2.2.2.kept k6 (fun e => e)) g6))))
  have O6 := Lib.hid (show w.heap.size ≤ B ∧ B < lb ∧ lb < cl ∧ cl < ins ∧ ins < bz ∧ bz < nw ∧ nw < w6.heap.size from by have := O5.out; have := g6.lt; omega)
  clear g6 k6 z6 C5 B5 G5 O5 hnw
  refine hK.out _ _ B6.out.cells6 (fun hHeld => ?_)
  clear hK K
  (try simp only [Act.put, List.setIfInBounds_toArray, List.set_cons_zero, List.set_cons_succ])
  refine take_at (v := ?_) 6 (some 19) rfl (by kernel_rfl) (by kernel_rfl) (by kernel_rfl) (by kernel_rfl) (fun _ _ _ h => h) (Or.inl ⟨by rfl, ?_⟩) (by assumption) ?_
  rotate_left
  · intro w hSw; (try dsimp only at hSw); go_simp; try (with_reducible rfl)
  (try simp only [Act.put, List.setIfInBounds_toArray, List.set_cons_zero, List.set_cons_succ])
  refine wpAnyH_ready (rs := [7]) (by kernel_rfl) (by simp) ?_
  refine AllReadyH.cons rfl (fun K hK => ?_) AllReadyH.nil
  go_simp
  have k7 : Ch Nil w6 (w6.alloc (Obj.cells #[.int .i64 (n : Int), .int .i64 (cp : Int), .int .i64 (rg : Int), .int .i64 (rm : Int), .int .i64 kk, .int .i64 ll, .pointer none, .slice none 0 0, .pointer none, .pointer (some ⟨lb, 0, none⟩), .pointer (some ⟨cl, 0, none⟩), .pointer (some ⟨ins, 0, none⟩), .pointer (some ⟨bz, 0, none⟩), .pointer (some ⟨nw, 0, none⟩), .slice none 0 0] 87)) := (Ch.refl _ _).alloc _
  have fl : IsVs (w6.alloc (Obj.cells #[.int .i64 (n : Int), .int .i64 (cp : Int), .int .i64 (rg : Int), .int .i64 (rm : Int), .int .i64 kk, .int .i64 ll, .pointer none, .slice none 0 0, .pointer none, .pointer (some ⟨lb, 0, none⟩), .pointer (some ⟨cl, 0, none⟩), .pointer (some ⟨ins, 0, none⟩), .pointer (some ⟨bz, 0, none⟩), .pointer (some ⟨nw, 0, none⟩), .slice none 0 0] 87)) w6.heap.size [.int .i64 (n : Int), .int .i64 (cp : Int), .int .i64 (rg : Int), .int .i64 (rm : Int), .int .i64 kk, .int .i64 ll, .pointer none, .slice none 0 0, .pointer none, .pointer (some ⟨lb, 0, none⟩), .pointer (some ⟨cl, 0, none⟩), .pointer (some ⟨ins, 0, none⟩), .pointer (some ⟨bz, 0, none⟩), .pointer (some ⟨nw, 0, none⟩), .slice none 0 0] := IsVs.new w6 [.int .i64 (n : Int), .int .i64 (cp : Int), .int .i64 (rg : Int), .int .i64 (rm : Int), .int .i64 kk, .int .i64 ll, .pointer none, .slice none 0 0, .pointer none, .pointer (some ⟨lb, 0, none⟩), .pointer (some ⟨cl, 0, none⟩), .pointer (some ⟨ins, 0, none⟩), .pointer (some ⟨bz, 0, none⟩), .pointer (some ⟨nw, 0, none⟩), .slice none 0 0] 87
  have C7 := Lib.hid (C6.out.trans k7)
  have B7 := Lib.hid (B6.out.kept k7 (fun e => e))
  have FL := Lib.hid fl
  have PT := Lib.hid (Prt0.mk (w0 := w) (B := B) (f := w6.heap.size) (W := w6.alloc (Obj.cells #[.int .i64 (n : Int), .int .i64 (cp : Int), .int .i64 (rg : Int), .int .i64 (rm : Int), .int .i64 kk, .int .i64 ll, .pointer none, .slice none 0 0, .pointer none, .pointer (some ⟨lb, 0, none⟩), .pointer (some ⟨cl, 0, none⟩), .pointer (some ⟨ins, 0, none⟩), .pointer (some ⟨bz, 0, none⟩), .pointer (some ⟨nw, 0, none⟩), .slice none 0 0] 87)) (G6.out.1.kept k7 (fun e => e)) (G6.out.2.1.kept k7 (fun e => e)) (G6.out.2.2.1.kept k7 (fun e => e)) (G6.out.2.2.2.1.kept k7 (fun e => e)) (G6.out.2.2.2.2.kept k7 (fun e => e)) O6.out.1 O6.out.2.1 O6.out.2.2.1 O6.out.2.2.2.1 O6.out.2.2.2.2.1 O6.out.2.2.2.2.2.1 O6.out.2.2.2.2.2.2 fl.lt C7.out)
  clear k7 fl C6 B6 G6 O6
  generalize w6.alloc (Obj.cells #[.int .i64 (n : Int), .int .i64 (cp : Int), .int .i64 (rg : Int), .int .i64 (rm : Int), .int .i64 kk, .int .i64 ll, .pointer none, .slice none 0 0, .pointer none, .pointer (some ⟨lb, 0, none⟩), .pointer (some ⟨cl, 0, none⟩), .pointer (some ⟨ins, 0, none⟩), .pointer (some ⟨bz, 0, none⟩), .pointer (some ⟨nw, 0, none⟩), .slice none 0 0] 87) = w7 at C7 B7 FL PT ⊢
  generalize w6.heap.size = f at FL PT ⊢
  refine hK.out _ _ B7.out.cells6 (fun hHeld => ?_)
  clear hK K
  (try simp only [Act.put, List.setIfInBounds_toArray, List.set_cons_zero, List.set_cons_succ])
  refine take_at (v := ?_) 8 (some 5) rfl (by kernel_rfl) (by kernel_rfl) (by kernel_rfl) (by kernel_rfl) (fun _ _ _ h => h) (Or.inl ⟨by rfl, ?_⟩) (by assumption) ?_
  rotate_left
  · intro w hSw; (try dsimp only at hSw); go_simp; try (with_reducible rfl)
  (try simp only [Act.put, List.setIfInBounds_toArray, List.set_cons_zero, List.set_cons_succ])
  refine wpAnyH_done (by kernel_rfl) ?_ _
  obtain ⟨c0, c1, c2, c3, c4, c5⟩ := B7.out.cells6
  go_wp2_with fail
  clear c0 c1 c2 c3 c4 c5
  refine (new_in cp _ Q1.out.1 Q1.out.2).mono ?_
  rintro e w8 ⟨rfl, s8, k8⟩
  have B8 := Lib.hid (B7.out.kept k8 (fun e => e))
  have S8 := Lib.hid (And.intro s8 (And.intro (show f < w7.heap.size from PT.out.flt) (show w7.heap.size + 1 < w8.heap.size from s8.lt)))
  have P8 := Lib.hid (PT.out.kept k8)
  have F8 := Lib.hid (FL.out.kept k8 (fun e => e))
  clear s8 k8 B7 PT FL C7
  generalize w7.heap.size = srb at S8 ⊢
  have f6 := F8.out.b.fz 6
  have a6 := F8.out.c 6 _ rfl
  go_upto_region 6 with (fail)
  clear f6 a6
  have F9 := Lib.hid (F8.out.setAt 6 (.pointer (some ⟨srb + 1, 0, none⟩)))
  have k9 : Ch (One f) w8 (w8.setCell ⟨f, 6, none⟩ (.pointer (some ⟨srb + 1, 0, none⟩))) := (Ch.refl _ _).setB 6 _
  have P9 := Lib.hid (P8.out.turn k9 (Nat.le_refl _))
  have Bf : B < f := by have := P8.out.o1; have := P8.out.o2; have := P8.out.o3; have := P8.out.o4; have := P8.out.o5; have := P8.out.o6; omega
  have B9 := Lib.hid (B8.out.kept k9 (fun e => by have e' : B = f := e; omega))
  have S9 := Lib.hid (And.intro (S8.out.1.kept k9 (fun e => by have := S8.out.2.1; have e' : srb + 1 = f := e; omega) (fun e => by have := S8.out.2.1; have e' : srb = f := e; omega)) (And.intro (show f < srb from S8.out.2.1) (show srb + 1 < (w8.setCell ⟨f, 6, none⟩ (.pointer (some ⟨srb + 1, 0, none⟩))).heap.size from by have := S8.out.2.2; simpa using this)))
  clear k9 B8 P8 F8 S8
  generalize w8.setCell ⟨f, 6, none⟩ (.pointer (some ⟨srb + 1, 0, none⟩)) = w9 at B9 P9 F9 S9 ⊢
  obtain ⟨c0, c1, c2, c3, c4, c5⟩ := B9.out.cells6
  go_wp2_with fail
  clear c0 c1 c2 c3 c4 c5
  refine (nPipe rm Q3.out.1 Q3.out.2 _).mono ?_
  rintro e w10 ⟨pb, cb, rfl, hcb, hpb, q10, k10⟩
  have BA := Lib.hid (B9.out.kept k10 (fun e => e))
  have PA := Lib.hid (P9.out.kept k10)
  have FA := Lib.hid (F9.out.kept k10 (fun e => e))
  have SA := Lib.hid (And.intro (S9.out.1.quiet k10) (And.intro S9.out.2.1 (show srb + 1 < cb from by have := S9.out.2.2; omega)))
  have QA := Lib.hid (And.intro q10 hpb)
  clear q10 hpb hcb k10 B9 P9 F9 S9
  have f8 := FA.out.b.fz 8
  have a8 := FA.out.c 8 _ rfl
  go_upto_region 7 with (fail)
  clear f8 a8
  have FB := Lib.hid (FA.out.setAt 8 (.pointer (some ⟨pb, 0, none⟩)))
  have k11 : Ch (One f) w10 (w10.setCell ⟨f, 8, none⟩ (.pointer (some ⟨pb, 0, none⟩))) := (Ch.refl _ _).setB 8 _
  have PB := Lib.hid (PA.out.turn k11 (Nat.le_refl _))
  have BB := Lib.hid (BA.out.kept k11 (fun e => by have e' : B = f := e; omega))
  have SB := Lib.hid (And.intro (SA.out.1.kept k11 (fun e => by have := SA.out.2.1; have e' : srb + 1 = f := e; omega) (fun e => by have := SA.out.2.1; have e' : srb = f := e; omega)) SA.out.2)
  have QB := Lib.hid (And.intro (QA.out.1.kept k11 (fun e => by have := SA.out.2; have := QA.out.2; have e' : pb = f := e; omega) (fun e => by have := SA.out.2; have e' : cb = f := e; omega)) QA.out.2)
  clear k11 BA PA FA SA QA Bf
  generalize w10.setCell ⟨f, 8, none⟩ (.pointer (some ⟨pb, 0, none⟩)) = w11 at BB PB FB SB QB ⊢
  have NL : Hid (NewL w B ⟨⟨n, cp, rg, rm, kk, ll⟩, f, srb + 1, 0, n, 0, pb, lb, cl, ins, bz, nw, srb, cb, fun _ => 0, fun _ => 0⟩ cp rm 0 none 0 w11) :=
    Lib.hid ⟨PB.out, BB.out, SB.out.1, QB.out.1, FB.out, Row.nil _ _ _ _, fun i hi => by omega, SB.out.2.1, Nat.lt_succ_self _, SB.out.2.2, QB.out.2, fun i hi => by omega, fun i j _ hj => by omega, fun g hg => by simp [OwnS] at hg⟩
  obtain ⟨c0, c1, c2, c3, c4, c5⟩ := BB.out.cells6
  clear BB PB FB SB QB
  go_upto_region 8 with (fail)
  clear c0 c1 c2 c3 c4 c5
  go_loopw [41] (fun i wr => ∃ (k : Nat) (sh lk : Nat → Nat) (a : Option Addr) (gc : Nat), k ≤ n ∧ i = .int .i64 k ∧ NewL w B ⟨⟨n, cp, rg, rm, kk, ll⟩, f, srb + 1, 0, n, 0, pb, lb, cl, ins, bz, nw, srb, cb, sh, lk⟩ cp rm k a gc wr) (fun i _ => n - (intOf i).toNat)
  case atStart => exact ⟨0, _, _, none, 0, by omega, rfl, NL.out⟩
  case round =>
    obtain ⟨k, sh, lk, a, gc, hk, rfl, hN⟩ := hrel
    have HN := Lib.hid hN
    clear hN NL
    by_cases hlt : k < n
    · have hkz : (k : Int) < (n : Int) := by omega
      obtain ⟨c0, c1, c2, c3, c4, c5⟩ := HN.out.bx.cells6
      go_wp2_with fail
      clear c0 c1 c2 c3 c4 c5
      refine (nShard rg _ Q2.out.1 Q2.out.2).mono ?_
      rintro e w3 ⟨s, l, rfl, hl, hs, sd, k3⟩
      have c7 : w3.cell? ⟨f, 7, none⟩ = some (.slice a k gc) := (HN.out.kept k3).fl.c 7 _ rfl
      have H3 := Lib.hid (HN.out.kept k3)
      have cX : Ch Nil w3 (w3.alloc (.cells #[.pointer (some ⟨s, 0, none⟩)] 42)) := (Ch.refl _ _).alloc _
      have HX := Lib.hid (And.intro (HN.out.kept (k3.trans cX)) (And.intro (k3.trans cX) (And.intro (sd.kept cX (fun _ _ _ e => e)) (And.intro (show wr.heap.size ≤ l ∧ l < s from ⟨hl, hs⟩) (show s < (w3.alloc (.cells #[.pointer (some ⟨s, 0, none⟩)] 42)).heap.size from (sd.bk.kept cX (fun e => e)).lt)))))
      have R3 := Lib.hid (HX.out.1.r)
      have FZ := Lib.hid (HX.out.1.fl.b)
      have hna : ¬ OwnS a f := fun e => by have h1 := (HN.out.og _ e).1; have h2 := HN.out.o7; have h3 := HN.out.o8; have h4 := HN.out.o9; have h5 := HN.out.oa; dsimp only at h1 h2 h3 h4 h5; omega
      clear sd k3 hl hs cX H3
      have hvs : Hid (shV ⟨⟨n, cp, rg, rm, kk, ll⟩, f, srb + 1, 0, n, 0, pb, lb, cl, ins, bz, nw, srb, cb, upd14 sh k s, upd14 lk k l⟩ k = .pointer (some ⟨s, 0, none⟩)) := Lib.hid (by simp [shV, upd14])
      have hvo : Hid (∀ i, i < k → shV ⟨⟨n, cp, rg, rm, kk, ll⟩, f, srb + 1, 0, n, 0, pb, lb, cl, ins, bz, nw, srb, cb, upd14 sh k s, upd14 lk k l⟩ i = shV ⟨⟨n, cp, rg, rm, kk, ll⟩, f, srb + 1, 0, n, 0, pb, lb, cl, ins, bz, nw, srb, cb, sh, lk⟩ i) := Lib.hid (fun i hi => by simp [shV, upd14, Nat.ne_of_lt hi])
      go_wp2_with (at_builtin; refine append_row _ rfl _ _ _ rfl 42 (.pointer none) 1 8 Tryz.underlying84 (by kernel_rfl) rfl (by omega) (by omega) rfl R3.out (by omega) w3.heap.size 1 [.pointer (some ⟨s, 0, none⟩)] 42 rfl rfl (heap_alloc_new w3 _) (by simp [Value.oneCell']) (shV ⟨⟨n, cp, rg, rm, kk, ll⟩, f, srb + 1, 0, n, 0, pb, lb, cl, ins, bz, nw, srb, cb, upd14 sh k s, upd14 lk k l⟩) (fun i hi => hvo.out i (by omega)) (by intro j u hu; obtain rfl : j = 0 := (by cases j; rfl; simp at hu); simp at hu; subst hu; simpa using hvs.out) _ rfl ?_)
      intro g cap' w' row ch at_ lt
      have d2 := ch.keeps (HX.out.1.fl.c 7 _ rfl) hna
      have e2 := (FZ.out.kept ch hna).fz 7
      have NEXT := Lib.hid (HN.out.more HX.out.2.1 (s := s) (l := l) (g := g) (gc' := cap') (W2 := w') HX.out.2.2.2.1.1 HX.out.2.2.2.1.2 HX.out.2.2.1 HX.out.2.2.2.2 row ch (at_.imp id (fun e => by rw [World.size_alloc]; omega)))
      clear row ch at_ lt HX R3 FZ HN
      go_wp2
      go_roundw
      case rel => exact ⟨k + 1, _, _, _, _, by omega, by go_num, NEXT.out⟩
      case measure => simp [intOf]; omega
    · obtain rfl : k = n := by omega
      have hp : 0 < k := by omega
      obtain ⟨g, rfl, -⟩ := HN.out.r.form hp
      go_wp2
      go_ret2
      refine ⟨⟨⟨k, cp, rg, rm, kk, ll⟩, f, srb + 1, g, k, gc, pb, lb, cl, ins, bz, nw, srb, cb, sh, lk⟩, rfl, rfl, rfl, ?_⟩
      exact (HN.out.setG g gc).made rfl rfl rfl
end Go.Proofs.YtnbdafmjcmmfpaaGreat
