/-
  Contracts of package ring's functions at int: a ticket's step, whichever it is.
-/
import Derived.Test.YtklgmecmgbfhgaaRingI2
import Derived.Test.YtklgmecmgbfhgaaRingPlain
namespace Go.Proofs.Ytklgmecmgbfhgaa.RI
open Go.RowKit
attribute [local go_sem] Oper.semAt_some
set_option linter.unusedVariables false
set_option linter.unusedSimpArgs false

theorem run_store_fn (P : Program) (w : World) (a : Addr) (m : Mode) (f : Fn) (xs cs : Array Value) : (store a (.func f xs cs) m).run P w = stored P w a (.func f xs cs) m := run_store P w a _ m rfl
attribute [local go_sem] run_store_fn
theorem step_nil (w : World) :
    Calls Try.prog 11 #[.pointer none] w fun e w' => e = .returned (.int .i64 1) ∧ w = w' := by
  go_enter Try.func11, Try.ntmps11
  go_wp2
  go_ret
  exact ⟨rfl, rfl⟩

theorem step_idle (t b sb n nx fi : Nat) (P : Nat → Bool) (V : Nat → Int) (st su : Int) (pos : Nat) (fl : Bool) (w : World) (h : IsRing w b sb n nx fi P V) (k : IsT w t b st su pos fl) (hs : su ≠ 0) :
    Calls Try.prog 11 #[.pointer (some ⟨t, 0, none⟩)] w fun e w' => e = .returned (.int .i64 su) ∧ w = w' := by
  have n0 := h.n0
  have hse := h.seats
  have d1 : (su == 0) = false := by rw [beq_eq_false_iff_ne]; exact hs
  obtain ⟨q0, q1, q2, q3, q4, qf⟩ := k
  clear h qf
  go_enter Try.func11, Try.ntmps11
  go_wp2_with fail
  refine (roomless_no b sb n _ hse n0).mono ?_
  rintro e w1 ⟨rfl, rfl⟩
  go_wp2
  go_ret
  exact ⟨rfl, rfl⟩


set_option maxHeartbeats 1600000 in
theorem step_choose (t b sb n nx fi : Nat) (P : Nat → Bool) (V : Nat → Int) (pos : Nat) (fl : Bool) (w : World) (h : IsRing w b sb n nx fi P V) (k : IsT w t b 0 0 pos fl) (hb : t ≠ b) (hs : t ≠ sb)  :
    Calls Try.prog 11 #[.pointer (some ⟨t, 0, none⟩)] w fun e w' => e = .returned (.int .i64 0) ∧ Stepped w t b sb n nx fi P V 1 0 nx fl w' := by
  have n0 := h.n0
  have hse := h.seats
  have H := Lib.hid h
  have K := Lib.hid k
  have hk := k.lt
  have hne : ¬ w.heap.size = t := by omega
  obtain ⟨q0, q1, q2, q3, q4, qf⟩ := k
  clear h qf
  go_enter Try.func11, Try.ntmps11
  go_wp2_with fail
  refine (roomless_no b sb n _ hse n0).mono ?_
  rintro e w1 ⟨rfl, rfl⟩
  clear hse
  go_wp2_with fail
  clear q0 q1 q2 q3 q4
  have cA : Ch Nil w (w.alloc (Obj.cells #[Value.func (Fn.func 28) #[] #[], Value.func (Fn.func 29) #[] #[], Value.func (Fn.func 30) #[] #[]] 81)) := (Ch.refl _ _).alloc _
  have HA := Lib.hid (H.out.kept cA (fun e => e) (fun e => e))
  have KA := Lib.hid (K.out.kept cA (fun e => e))
  generalize w.alloc (Obj.cells #[Value.func (Fn.func 28) #[] #[], Value.func (Fn.func 29) #[] #[], Value.func (Fn.func 30) #[] #[]] 81) = wa at cA HA KA ⊢
  refine (choose_at t b sb n nx fi P V 0 0 pos fl _ HA.out KA.out hb hs).mono ?_
  rintro e w2 ⟨rfl, h2, k2, c2⟩
  have H2 := Lib.hid h2
  have K2 := Lib.hid k2
  have q2 := k2.su
  clear h2 k2
  go_wp2
  go_ret
  exact ⟨rfl, H2.out, K2.out, (Ch_any cA).trans c2⟩

set_option maxHeartbeats 1600000 in
theorem step_look (t b sb n nx fi : Nat) (P : Nat → Bool) (V : Nat → Int) (pos : Nat) (fl : Bool) (w : World) (h : IsRing w b sb n nx fi P V) (k : IsT w t b 1 0 pos fl) (hb : t ≠ b) (hs : t ≠ sb) (hx : pos ≤ 1000000) (q : Nat) (hq : fi ≤ q ∧ q < fi + n) (hm : Hid (q % n = pos % n)) :
    Calls Try.prog 11 #[.pointer (some ⟨t, 0, none⟩)] w fun e w' => e = .returned (.int .i64 (lookT q pos (P q) 1 0).2) ∧ Stepped w t b sb n nx fi P V (lookT q pos (P q) 1 0).1 (lookT q pos (P q) 1 0).2 pos fl w' := by
  have n0 := h.n0
  have hse := h.seats
  have H := Lib.hid h
  have K := Lib.hid k
  have hk := k.lt
  have hne : ¬ w.heap.size = t := by omega
  obtain ⟨q0, q1, q2, q3, q4, qf⟩ := k
  clear h qf
  go_enter Try.func11, Try.ntmps11
  go_wp2_with fail
  refine (roomless_no b sb n _ hse n0).mono ?_
  rintro e w1 ⟨rfl, rfl⟩
  clear hse
  go_wp2_with fail
  clear q0 q1 q2 q3 q4
  have cA : Ch Nil w (w.alloc (Obj.cells #[Value.func (Fn.func 28) #[] #[], Value.func (Fn.func 29) #[] #[], Value.func (Fn.func 30) #[] #[]] 81)) := (Ch.refl _ _).alloc _
  have HA := Lib.hid (H.out.kept cA (fun e => e) (fun e => e))
  have KA := Lib.hid (K.out.kept cA (fun e => e))
  generalize w.alloc (Obj.cells #[Value.func (Fn.func 28) #[] #[], Value.func (Fn.func 29) #[] #[], Value.func (Fn.func 30) #[] #[]] 81) = wa at cA HA KA ⊢
  refine (look_at t b sb n nx fi P V 1 0 pos fl _ HA.out KA.out hb hs hx q hq hm.out).mono ?_
  rintro e w2 ⟨rfl, h2, k2, c2⟩
  have H2 := Lib.hid h2
  have K2 := Lib.hid k2
  have q2 := k2.su
  clear h2 k2
  go_wp2
  go_ret
  exact ⟨rfl, H2.out, K2.out, (Ch_any cA).trans c2⟩

set_option maxHeartbeats 1600000 in
theorem step_take (t b sb n nx fi : Nat) (P : Nat → Bool) (V : Nat → Int) (pos : Nat) (fl : Bool) (w : World) (h : IsRing w b sb n nx fi P V) (k : IsT w t b 2 0 pos fl) (hb : t ≠ b) (hs : t ≠ sb) (hx : pos ≤ 1000000) (heq : Hid (nx = pos)) :
    Calls Try.prog 11 #[.pointer (some ⟨t, 0, none⟩)] w fun e w' => e = .returned (.int .i64 2) ∧ Stepped w t b sb n (nx + 1) fi P V 2 2 pos fl w' := by
  have n0 := h.n0
  have hse := h.seats
  have H := Lib.hid h
  have K := Lib.hid k
  have hk := k.lt
  have hne : ¬ w.heap.size = t := by omega
  obtain ⟨q0, q1, q2, q3, q4, qf⟩ := k
  clear h qf
  go_enter Try.func11, Try.ntmps11
  go_wp2_with fail
  refine (roomless_no b sb n _ hse n0).mono ?_
  rintro e w1 ⟨rfl, rfl⟩
  clear hse
  go_wp2_with fail
  clear q0 q1 q2 q3 q4
  have cA : Ch Nil w (w.alloc (Obj.cells #[Value.func (Fn.func 28) #[] #[], Value.func (Fn.func 29) #[] #[], Value.func (Fn.func 30) #[] #[]] 81)) := (Ch.refl _ _).alloc _
  have HA := Lib.hid (H.out.kept cA (fun e => e) (fun e => e))
  have KA := Lib.hid (K.out.kept cA (fun e => e))
  generalize w.alloc (Obj.cells #[Value.func (Fn.func 28) #[] #[], Value.func (Fn.func 29) #[] #[], Value.func (Fn.func 30) #[] #[]] 81) = wa at cA HA KA ⊢
  refine (take_yes t b sb n nx fi P V 2 0 pos fl _ HA.out KA.out hb hs hx heq.out).mono ?_
  rintro e w2 ⟨rfl, h2, k2, c2⟩
  have H2 := Lib.hid h2
  have K2 := Lib.hid k2
  have q2 := k2.su
  clear h2 k2
  go_wp2
  go_ret
  exact ⟨rfl, H2.out, K2.out, (Ch_any cA).trans c2⟩

set_option maxHeartbeats 1600000 in
theorem step_miss (t b sb n nx fi : Nat) (P : Nat → Bool) (V : Nat → Int) (pos : Nat) (fl : Bool) (w : World) (h : IsRing w b sb n nx fi P V) (k : IsT w t b 2 0 pos fl) (hb : t ≠ b) (hs : t ≠ sb) (hx : pos ≤ 1000000) (heq : Hid (nx ≠ pos)) :
    Calls Try.prog 11 #[.pointer (some ⟨t, 0, none⟩)] w fun e w' => e = .returned (.int .i64 0) ∧ Stepped w t b sb n nx fi P V 0 0 pos fl w' := by
  have n0 := h.n0
  have hse := h.seats
  have H := Lib.hid h
  have K := Lib.hid k
  have hk := k.lt
  have hne : ¬ w.heap.size = t := by omega
  obtain ⟨q0, q1, q2, q3, q4, qf⟩ := k
  clear h qf
  go_enter Try.func11, Try.ntmps11
  go_wp2_with fail
  refine (roomless_no b sb n _ hse n0).mono ?_
  rintro e w1 ⟨rfl, rfl⟩
  clear hse
  go_wp2_with fail
  clear q0 q1 q2 q3 q4
  have cA : Ch Nil w (w.alloc (Obj.cells #[Value.func (Fn.func 28) #[] #[], Value.func (Fn.func 29) #[] #[], Value.func (Fn.func 30) #[] #[]] 81)) := (Ch.refl _ _).alloc _
  have HA := Lib.hid (H.out.kept cA (fun e => e) (fun e => e))
  have KA := Lib.hid (K.out.kept cA (fun e => e))
  generalize w.alloc (Obj.cells #[Value.func (Fn.func 28) #[] #[], Value.func (Fn.func 29) #[] #[], Value.func (Fn.func 30) #[] #[]] 81) = wa at cA HA KA ⊢
  refine (take_no t b sb n nx fi P V 2 0 pos fl _ HA.out KA.out hb hs hx heq.out).mono ?_
  rintro e w2 ⟨rfl, h2, k2, c2⟩
  have H2 := Lib.hid h2
  have K2 := Lib.hid k2
  have q2 := k2.su
  clear h2 k2
  go_wp2
  go_ret
  exact ⟨rfl, H2.out, K2.out, (Ch_any cA).trans c2⟩

open Verge
theorem step_any (t b sb n nx fi : Nat) (P : Nat → Bool) (V : Nat → Int) (s : TSt) (w : World) (h : IsRing w b sb n nx fi P V) (k : IsT w t b s.st s.su s.pos s.fl) (hb : t ≠ b) (hs : t ≠ sb) (hx : s.pos ≤ 1000000)
    (hst : s.st = 0 ∨ s.st = 1 ∨ s.st = 2) :
    Calls Try.prog 11 #[.pointer (some ⟨t, 0, none⟩)] w fun e w' => e = .returned (.int .i64 (tickStep n nx fi P s).2.su) ∧
      Stepped w t b sb n (tickStep n nx fi P s).1 fi P V (tickStep n nx fi P s).2.st (tickStep n nx fi P s).2.su (tickStep n nx fi P s).2.pos (tickStep n nx fi P s).2.fl w' := by
  obtain ⟨st, su, pos, fl⟩ := s
  dsimp only at k hx hst
  by_cases h0 : su = 0
  · subst h0
    rcases hst with rfl | rfl | rfl
    · exact step_choose t b sb n nx fi P V pos fl w h k hb hs
    · obtain ⟨q, hq1, hq2, hqm⟩ := mod_window n fi pos h.n0
      have e : ((tickStep n nx fi P ⟨1, 0, pos, fl⟩).2.st, (tickStep n nx fi P ⟨1, 0, pos, fl⟩).2.su) = lookT q pos (P q) 1 0 ∧ (tickStep n nx fi P ⟨1, 0, pos, fl⟩).2.pos = pos ∧ (tickStep n nx fi P ⟨1, 0, pos, fl⟩).2.fl = fl ∧ (tickStep n nx fi P ⟨1, 0, pos, fl⟩).1 = nx := by
        by_cases a1 : fi + n ≤ pos
        · have : q < pos := by omega
          simp [tickStep, lookT, a1, this]
        · by_cases a2 : pos < fi
          · have e1 : ¬ q < pos := by omega
            have e2 : ¬ q = pos := by omega
            simp [tickStep, lookT, a1, a2, e1, e2]
          · have : q = pos := by
              apply Classical.byContradiction
              intro hne
              exact mod_apart ⟨hq1, hq2⟩ (by omega : fi ≤ pos ∧ pos < fi + n) hne hqm
            subst this
            cases hP : P q <;> simp [tickStep, lookT, a1, a2, hP]
      obtain ⟨e1, e2, e3, e4⟩ := e
      rw [Prod.ext_iff] at e1
      dsimp only at e1
      rw [e1.1, e1.2, e2, e3, e4]
      exact step_look t b sb n nx fi P V pos fl w h k hb hs hx q ⟨hq1, hq2⟩ hqm
    · by_cases heq : nx = pos
      · have e : tickStep n nx fi P ⟨2, 0, pos, fl⟩ = (nx + 1, ⟨2, 2, pos, fl⟩) := by simp [tickStep, heq]
        rw [e]
        exact step_take t b sb n nx fi P V pos fl w h k hb hs hx heq
      · have e : tickStep n nx fi P ⟨2, 0, pos, fl⟩ = (nx, ⟨0, 0, pos, fl⟩) := by simp [tickStep, heq]
        rw [e]
        exact step_miss t b sb n nx fi P V pos fl w h k hb hs hx heq
  · have e : tickStep n nx fi P ⟨st, su, pos, fl⟩ = (nx, ⟨st, su, pos, fl⟩) := by simp [tickStep, h0]
    rw [e]
    exact (step_idle t b sb n nx fi P V st su pos fl w h k h0).mono fun e w' ⟨he, hw⟩ => by subst hw; exact ⟨he, h, k, Ch.refl _ _⟩
end Go.Proofs.Ytklgmecmgbfhgaa.RI
