/-
  Contracts of package cell's functions at numbers and at words, as a slab uses them.
-/
import Derived.Test.YtkialefhjfoniaaSlabMem
import Derived.Test.YtkialefhjfoniaaCellWalks1
import Derived.Test.YtkialefhjfoniaaWordWalks3
namespace Go.Proofs.Ytkialefhjfoniaa
open Go.RowKit Verge
attribute [local go_sem] Oper.semAt_some
set_option linter.unusedVariables false
set_option linter.unusedSimpArgs false

theorem retB {k : IntKind} {a b : Int} {x y : Bool} (h : a = b) (h' : x = y) : Ending.returned (.tuple #[.int k a, .bool x]) = .returned (.tuple #[.int k b, .bool y]) := by rw [h, h']
theorem loadJ_at (b o : Nat) (v : Int) (w : World) (h : IsJ w b o v) :
    Calls Try.prog 53 #[.pointer (some ⟨b, o, none⟩)] w fun e w' => e = .returned (.int .i64 v) ∧ IsJ w' b o v ∧ Tch b o 4 w w' := by
  obtain ⟨l, t, u, h⟩ := h
  refine (load_at b o v l t u w h).mono fun e w' ⟨he, hw⟩ => ?_
  subst hw
  exact ⟨he, ⟨_, _, _, h.setL _⟩, (Tch.refl _ _ _ _).set _ (by omega) _⟩
theorem swapJ_yes (b o : Nat) (v x : Int) (w : World) (h : IsJ w b o v) :
    Calls Try.prog 84 #[.pointer (some ⟨b, o, none⟩), .int .i64 v, .int .i64 x] w fun e w' => e = .returned (.bool true) ∧ IsJ w' b o x ∧ Tch b o 4 w w' := by
  obtain ⟨l, t, u, h⟩ := h
  refine (swap_yes b o v x l t u w h).mono fun e w' ⟨he, hw⟩ => ?_
  subst hw
  exact ⟨he, ⟨_, _, _, ((h.setT _).setV _).setU _⟩, (((Tch.refl _ _ _ _).set _ (by omega) _).set _ (by omega) _).set _ (by omega) _⟩
theorem swapJ_no (b o : Nat) (v old x : Int) (w : World) (h : IsJ w b o v) (hne : (v == old) = false) :
    Calls Try.prog 84 #[.pointer (some ⟨b, o, none⟩), .int .i64 old, .int .i64 x] w fun e w' => e = .returned (.bool false) ∧ IsJ w' b o v ∧ Tch b o 4 w w' := by
  obtain ⟨l, t, u, h⟩ := h
  refine (swap_no b o v old x l t u w h hne).mono fun e w' ⟨he, hw⟩ => ?_
  subst hw
  exact ⟨he, ⟨_, _, _, h.setT _⟩, (Tch.refl _ _ _ _).set _ (by omega) _⟩
theorem changeJ_yes (b o : Nat) (v x : Int) (w : World) (h : IsJ w b o v) :
    Calls Try.prog 95 #[.pointer (some ⟨b, o, none⟩), .int .i64 x, .bool true] w fun e w' => e = .returned (.bool true) ∧ IsJ w' b o x ∧ Tch b o 4 w w' := by
  obtain ⟨l, t, u, h⟩ := h
  refine (change_yes b o _ x l t u w h).mono fun e w' ⟨he, hw⟩ => ?_
  subst hw
  exact ⟨he, ⟨_, _, _, ((h.setT _).setV _).setU _⟩, (((Tch.refl _ _ _ _).set _ (by omega) _).set _ (by omega) _).set _ (by omega) _⟩

theorem drop1_any (v : Int) (w : World) :
    Calls Try.prog 76 #[.int .i64 v] w fun e w' => e = .returned (.tuple #[.int .i64 (wrap64 (v - 1)), .bool (decide (0 < v))]) ∧ w = w' := by
  go_enter Try.func76, Try.ntmps76
  go_wp2
  go_ret2
  exact ⟨rfl, rfl⟩

theorem fn_nilJ (f : Fn) (a c : Array Value) (w : World) : (binOp .eql 124 (.func f a c) .nilFunc).run Try.prog w = .ok (.bool false) w := run_eql_fn _ w _ f a c _ Try.underlying124 rfl
theorem fn_nilW (f : Fn) (a c : Array Value) (w : World) : (binOp .eql 140 (.func f a c) .nilFunc).run Try.prog w = .ok (.bool false) w := run_eql_fn _ w _ f a c _ Try.underlying140 rfl

theorem turn_drop (b : Nat) (v : Nat) (w : World) (h : IsJ w b 0 (v : Nat)) (hv : v ≤ 1000000) :
    Calls Try.prog 75 #[.pointer (some ⟨b, 0, none⟩), .func (.func 76) #[] #[]] w fun e w' => e = .returned (.tuple #[.int .i64 (v : Nat), .bool (decide (0 < v))]) ∧ IsJ w' b 0 ((v - 1 : Nat) : Nat) ∧ Tch b 0 4 w w' := by
  have H := Lib.hid h
  have hfn := fn_nilJ
  clear h
  by_cases h0 : 0 < v
  · have L : Hid (decide ((0 : Int) < (v : Nat)) = true) := Lib.hid (decide_eq_true (by omega))
    rw [decide_eq_true h0]
    go_enter Try.func75, Try.ntmps75
    go_wp2_with fail
    refine (loadJ_at b 0 _ _ H.out).mono ?_
    rintro e w1 ⟨rfl, hi, c1⟩
    have H1 := Lib.hid hi
    clear hi
    go_wp2_with fail
    refine (drop1_any _ _).mono ?_
    rintro e w2 ⟨rfl, rfl⟩
    rw [L.out]
    go_wp2_with fail
    refine (changeJ_yes b 0 _ _ _ H1.out).mono ?_
    rintro e w3 ⟨rfl, hi, c3⟩
    have H3 := Lib.hid hi
    clear hi
    go_wp2
    go_ret2
    have e1 : wrap64 ((v : Nat) - 1 : Int) = ((v - 1 : Nat) : Int) := by unfold wrap64; omega
    exact ⟨rfl, by rw [← e1]; exact H3.out, c1.trans c3⟩
  · have L : Hid (decide ((0 : Int) < (v : Nat)) = false) := Lib.hid (decide_eq_false (by omega))
    rw [decide_eq_false h0]
    go_enter Try.func75, Try.ntmps75
    go_wp2_with fail
    refine (loadJ_at b 0 _ _ H.out).mono ?_
    rintro e w1 ⟨rfl, hi, c1⟩
    have H1 := Lib.hid hi
    clear hi
    go_wp2_with fail
    refine (drop1_any _ _).mono ?_
    rintro e w2 ⟨rfl, rfl⟩
    rw [L.out]
    go_wp2
    go_ret2
    exact ⟨rfl, by rw [show v - 1 = v by omega]; exact H1.out, c1⟩

theorem loadW_at (b o : Nat) (v : Int) (w : World) (h : IsU w b o v) :
    Calls Try.prog 56 #[.pointer (some ⟨b, o, none⟩)] w fun e w' => e = .returned (.int .u64 v) ∧ IsU w' b o v ∧ Tch b o 4 w w' := by
  obtain ⟨l, t, u, h⟩ := h
  have H := Lib.hid h
  obtain ⟨hv, hl, ht, hu, fv, fl, ft, fu⟩ := h
  go_enter Try.func56, Try.ntmps56
  go_wp2
  go_ret
  exact ⟨rfl, ⟨_, _, _, H.out.setL _⟩, (Tch.refl _ _ _ _).set _ (by omega) _⟩
theorem changeW_yes (b o : Nat) (v x : Int) (w : World) (h : IsU w b o v) :
    Calls Try.prog 94 #[.pointer (some ⟨b, o, none⟩), .int .u64 x, .bool true] w fun e w' => e = .returned (.bool true) ∧ IsU w' b o x ∧ Tch b o 4 w w' := by
  obtain ⟨l, t, u, h⟩ := h
  have H := Lib.hid h
  obtain ⟨hv, hl, ht, hu, fv, fl, ft, fu⟩ := h
  go_enter Try.func94, Try.ntmps94
  go_wp2
  go_ret
  exact ⟨rfl, ⟨_, _, _, ((H.out.setT _).setV _).setU _⟩, (((Tch.refl _ _ _ _).set _ (by omega) _).set _ (by omega) _).set _ (by omega) _⟩

/-- the function of Try: the next word, whether the word is the old one -/
theorem try1_any (v x old : Int) (B1 B2 : Nat) (w : World) (h1 : w.cell? ⟨B1, 0, none⟩ = some (.int .u64 x)) (h2 : w.cell? ⟨B2, 0, none⟩ = some (.int .u64 old)) :
    Calls Try.prog 73 #[.int .u64 v, .pointer (some ⟨B1, 0, none⟩), .pointer (some ⟨B2, 0, none⟩)] w fun e w' => e = .returned (.tuple #[.int .u64 x, .bool (v == old)]) ∧ ∃ n, w' = w.drewN n := by
  go_enter Try.func73, Try.ntmps73
  go_wp2
  go_quiet (fail)
  go_wp2
  go_ret2
  exact ⟨rfl, _, rfl⟩
theorem turn_try (b o : Nat) (v x old : Int) (B1 B2 : Nat) (w : World) (h : IsU w b o v) (h1 : w.cell? ⟨B1, 0, none⟩ = some (.int .u64 x)) (h2 : w.cell? ⟨B2, 0, none⟩ = some (.int .u64 old)) (n1 : B1 ≠ b) (n2 : B2 ≠ b) :
    Calls Try.prog 72 #[.pointer (some ⟨b, o, none⟩), .func (.func 73) #[] #[.pointer (some ⟨B1, 0, none⟩), .pointer (some ⟨B2, 0, none⟩)]] w fun e w' =>
      e = .returned (.tuple #[.int .u64 v, .bool (v == old)]) ∧ IsU w' b o (if (v == old) = true then x else v) ∧ Tch b o 4 w w' := by
  have H := Lib.hid h
  have K1 := Lib.hid h1
  have K2 := Lib.hid h2
  have hfn := fn_nilW
  clear h h1 h2
  obtain ⟨so, hso⟩ : ∃ so, (v == old) = so := ⟨_, rfl⟩
  have L := Lib.hid hso
  rw [hso]
  clear hso
  cases so
  · rw [if_neg (by simp)]
    go_enter Try.func72, Try.ntmps72
    go_wp2_with fail
    refine (loadW_at b o _ _ H.out).mono ?_
    rintro e w1 ⟨rfl, hi, c1⟩
    have H1 := Lib.hid hi
    clear hi
    go_wp2_with fail
    refine (try1_any _ x old B1 B2 _ (c1.ch.keeps K1.out n1) (c1.ch.keeps K2.out n2)).mono ?_
    rintro e w2 ⟨rfl, n, rfl⟩
    rw [L.out]
    go_wp2
    go_ret2
    exact ⟨rfl, by obtain ⟨l, t, u, h⟩ := H1.out; exact ⟨l, t, u, h.drewN n⟩, c1.drewN n⟩
  · rw [if_pos rfl]
    go_enter Try.func72, Try.ntmps72
    go_wp2_with fail
    refine (loadW_at b o _ _ H.out).mono ?_
    rintro e w1 ⟨rfl, hi, c1⟩
    have H1 := Lib.hid hi
    clear hi
    go_wp2_with fail
    refine (try1_any _ x old B1 B2 _ (c1.ch.keeps K1.out n1) (c1.ch.keeps K2.out n2)).mono ?_
    rintro e w2 ⟨rfl, n, rfl⟩
    rw [L.out]
    go_wp2_with fail
    refine (changeW_yes b o v _ _ (by obtain ⟨l, t, u, h⟩ := H1.out; exact ⟨l, t, u, h.drewN n⟩)).mono ?_
    rintro e w3 ⟨rfl, hi, c3⟩
    have H3 := Lib.hid hi
    clear hi
    go_wp2
    go_ret2
    exact ⟨rfl, H3.out, (c1.drewN n).trans c3⟩

/-- the function of a request's look at a slot -/
theorem look1_any (v : Nat) (B q pd : Nat) (w : World) (hv : v < 18446744073709551616) (h1 : w.cell? ⟨B, 0, none⟩ = some (.pointer (some ⟨q, 0, none⟩))) (h2 : w.cell? ⟨q, 1, none⟩ = some (.int .u64 (pd : Nat))) :
    Calls Try.prog 85 #[.int .u64 v, .pointer (some ⟨B, 0, none⟩)] w fun e w' => e = .returned (.tuple #[.int .u64 ((nxZ v 1 (pd != 0)).1 : Nat), .bool (decide ((nxZ v 1 (pd != 0)).2 = 0))]) ∧ w = w' := by
  have e1 : ((pd : Int) != 0) = (pd != 0) := by rw [Bool.eq_iff_iff, bne_iff_ne, bne_iff_ne]; omega
  go_enter Try.func85, Try.ntmps85
  go_wp2_with fail
  (try rw [e1])
  refine (next_any v 1 _ hv _).mono ?_
  rintro e w1 ⟨rfl, rfl⟩
  go_wp2
  go_ret2
  refine ⟨retB rfl ?_, rfl⟩
  rw [Bool.eq_iff_iff, beq_iff_eq, decide_eq_true_iff]
  omega
end Go.Proofs.Ytkialefhjfoniaa
