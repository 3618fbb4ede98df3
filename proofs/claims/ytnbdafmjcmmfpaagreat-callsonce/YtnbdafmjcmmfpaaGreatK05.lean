import Derived.Test.YtnbdafmjcmmfpaaGreatK04
import Derived.Test.YtnbdafmjcmmfpaaGreatK01
import Derived.Laws.MakeOwn
/-
  Contracts of package ring's functions at verge/api.Task: a ticket's step, whichever it is.
-/
namespace Go.Proofs.YtnbdafmjcmmfpaaGreat.RT
open Go.RowKit Verge
attribute [local go_sem] Oper.semAt_some
set_option linter.unusedVariables false
set_option linter.unusedSimpArgs false

theorem run_store_fn (P : Program) (w : World) (a : Addr) (m : Mode) (f : Fn) (xs cs : Array Value) : (store a (.func f xs cs) m).run P w = stored P w a (.func f xs cs) m := run_store P w a _ m rfl
attribute [local go_sem] run_store_fn
theorem step_nil (w : World) :
    Calls Tryz.prog 118 #[.pointer none] w fun e w' => e = .returned (.int .i64 1) ∧ w = w' := by
  go_enter Tryz.func118, Tryz.ntmps118
  go_wp2
  go_ret
  exact ⟨rfl, rfl⟩

theorem step_idle (t b sb n nx fi : Nat) (P : Nat → Bool) (V : Nat → Tk) (st su : Int) (pos : Nat) (fl : Bool) (w : World) (h : IsRing w b sb n nx fi P V) (k : IsT w t b st su pos fl) (hs : su ≠ 0) :
    Calls Tryz.prog 118 #[.pointer (some ⟨t, 0, none⟩)] w fun e w' => e = .returned (.int .i64 su) ∧ w = w' := by
  have n0 := h.n0
  have hse := h.seats
  have d1 : (su == 0) = false := by rw [beq_eq_false_iff_ne]; exact hs
  obtain ⟨q0, q1, q2, q3, q4, qf⟩ := k
  clear h qf
  go_enter Tryz.func118, Tryz.ntmps118
  go_wp2_with fail
  refine (roomless_no b sb n _ hse n0).mono ?_
  rintro e w1 ⟨rfl, rfl⟩
  go_wp2
  go_ret
  exact ⟨rfl, rfl⟩


set_option maxHeartbeats 1600000 in
theorem step_choose (t b sb n nx fi : Nat) (P : Nat → Bool) (V : Nat → Tk) (pos : Nat) (fl : Bool) (w : World) (h : IsRing w b sb n nx fi P V) (k : IsT w t b 0 0 pos fl) (hb : t ≠ b) (hs : t ≠ sb)  :
    Calls Tryz.prog 118 #[.pointer (some ⟨t, 0, none⟩)] w fun e w' => e = .returned (.int .i64 0) ∧ Stepped w t b sb n nx fi P V 1 0 nx fl w' := by
  have n0 := h.n0
  have hse := h.seats
  have H := Lib.hid h
  have K := Lib.hid k
  have hk := k.lt
  have hne : ¬ w.heap.size = t := by omega
  obtain ⟨q0, q1, q2, q3, q4, qf⟩ := k
  clear h qf
  go_enter Tryz.func118, Tryz.ntmps118
  go_wp2_with fail
  refine (roomless_no b sb n _ hse n0).mono ?_
  rintro e w1 ⟨rfl, rfl⟩
  clear hse
  go_wp2_with fail
  clear q0 q1 q2 q3 q4
  have cA : Ch Nil w (w.alloc (Obj.cells #[Value.func (Fn.func 138) #[] #[], Value.func (Fn.func 139) #[] #[], Value.func (Fn.func 140) #[] #[]] 247)) := (Ch.refl _ _).alloc _
  have HA := Lib.hid (H.out.kept cA (fun e => e) (fun e => e))
  have KA := Lib.hid (K.out.kept cA (fun e => e))
  generalize w.alloc (Obj.cells #[Value.func (Fn.func 138) #[] #[], Value.func (Fn.func 139) #[] #[], Value.func (Fn.func 140) #[] #[]] 247) = wa at cA HA KA ⊢
  refine (choose_at t b sb n nx fi P V 0 0 pos fl _ HA.out KA.out hb hs).mono ?_
  rintro e w2 ⟨rfl, h2, k2, c2⟩
  have H2 := Lib.hid h2
  have K2 := Lib.hid k2
  have q2 := k2.su
  clear h2 k2
  go_wp2
  go_ret
  exact ⟨rfl, H2.out, K2.out, (Ch_any cA).trans c2⟩

set_option maxHeartbeats 1600000 in
theorem step_look (t b sb n nx fi : Nat) (P : Nat → Bool) (V : Nat → Tk) (pos : Nat) (fl : Bool) (w : World) (h : IsRing w b sb n nx fi P V) (k : IsT w t b 1 0 pos fl) (hb : t ≠ b) (hs : t ≠ sb) (hx : pos ≤ 1000000) (q : Nat) (hq : fi ≤ q ∧ q < fi + n) (hm : Hid (q % n = pos % n)) :
    Calls Tryz.prog 118 #[.pointer (some ⟨t, 0, none⟩)] w fun e w' => e = .returned (.int .i64 (lookT q pos (P q) 1 0).2) ∧ Stepped w t b sb n nx fi P V (lookT q pos (P q) 1 0).1 (lookT q pos (P q) 1 0).2 pos fl w' := by
  have n0 := h.n0
  have hse := h.seats
  have H := Lib.hid h
  have K := Lib.hid k
  have hk := k.lt
  have hne : ¬ w.heap.size = t := by omega
  obtain ⟨q0, q1, q2, q3, q4, qf⟩ := k
  clear h qf
  go_enter Tryz.func118, Tryz.ntmps118
  go_wp2_with fail
  refine (roomless_no b sb n _ hse n0).mono ?_
  rintro e w1 ⟨rfl, rfl⟩
  clear hse
  go_wp2_with fail
  clear q0 q1 q2 q3 q4
  have cA : Ch Nil w (w.alloc (Obj.cells #[Value.func (Fn.func 138) #[] #[], Value.func (Fn.func 139) #[] #[], Value.func (Fn.func 140) #[] #[]] 247)) := (Ch.refl _ _).alloc _
  have HA := Lib.hid (H.out.kept cA (fun e => e) (fun e => e))
  have KA := Lib.hid (K.out.kept cA (fun e => e))
  generalize w.alloc (Obj.cells #[Value.func (Fn.func 138) #[] #[], Value.func (Fn.func 139) #[] #[], Value.func (Fn.func 140) #[] #[]] 247) = wa at cA HA KA ⊢
  refine (look_at t b sb n nx fi P V 1 0 pos fl _ HA.out KA.out hb hs hx q hq hm.out).mono ?_
  rintro e w2 ⟨rfl, h2, k2, c2⟩
  have H2 := Lib.hid h2
  have K2 := Lib.hid k2
  have q2 := k2.su
  clear h2 k2
  go_wp2
  go_ret
  exact ⟨rfl, H2.out, K2.out, (Ch_any cA).trans c2⟩

set_option maxHeartbeats 1600000 in
theorem step_take (t b sb n nx fi : Nat) (P : Nat → Bool) (V : Nat → Tk) (pos : Nat) (fl : Bool) (w : World) (h : IsRing w b sb n nx fi P V) (k : IsT w t b 2 0 pos fl) (hb : t ≠ b) (hs : t ≠ sb) (hx : pos ≤ 1000000) (heq : Hid (nx = pos)) :
    Calls Tryz.prog 118 #[.pointer (some ⟨t, 0, none⟩)] w fun e w' => e = .returned (.int .i64 2) ∧ Stepped w t b sb n (nx + 1) fi P V 2 2 pos fl w' := by
  have n0 := h.n0
  have hse := h.seats
  have H := Lib.hid h
  have K := Lib.hid k
  have hk := k.lt
  have hne : ¬ w.heap.size = t := by omega
  obtain ⟨q0, q1, q2, q3, q4, qf⟩ := k
  clear h qf
  go_enter Tryz.func118, Tryz.ntmps118
  go_wp2_with fail
  refine (roomless_no b sb n _ hse n0).mono ?_
  rintro e w1 ⟨rfl, rfl⟩
  clear hse
  go_wp2_with fail
  clear q0 q1 q2 q3 q4
  have cA : Ch Nil w (w.alloc (Obj.cells #[Value.func (Fn.func 138) #[] #[], Value.func (Fn.func 139) #[] #[], Value.func (Fn.func 140) #[] #[]] 247)) := (Ch.refl _ _).alloc _
  have HA := Lib.hid (H.out.kept cA (fun e => e) (fun e => e))
  have KA := Lib.hid (K.out.kept cA (fun e => e))
  generalize w.alloc (Obj.cells #[Value.func (Fn.func 138) #[] #[], Value.func (Fn.func 139) #[] #[], Value.func (Fn.func 140) #[] #[]] 247) = wa at cA HA KA ⊢
  refine (take_yes t b sb n nx fi P V 2 0 pos fl _ HA.out KA.out hb hs hx heq.out).mono ?_
  rintro e w2 ⟨rfl, h2, k2, c2⟩
  have H2 := Lib.hid h2
  have K2 := Lib.hid k2
  have q2 := k2.su
  clear h2 k2
  go_wp2
  go_ret
  exact ⟨rfl, H2.out, K2.out, (Ch_any cA).trans c2⟩

set_option maxHeartbeats 1600000 in
theorem step_miss (t b sb n nx fi : Nat) (P : Nat → Bool) (V : Nat → Tk) (pos : Nat) (fl : Bool) (w : World) (h : IsRing w b sb n nx fi P V) (k : IsT w t b 2 0 pos fl) (hb : t ≠ b) (hs : t ≠ sb) (hx : pos ≤ 1000000) (heq : Hid (nx ≠ pos)) :
    Calls Tryz.prog 118 #[.pointer (some ⟨t, 0, none⟩)] w fun e w' => e = .returned (.int .i64 0) ∧ Stepped w t b sb n nx fi P V 0 0 pos fl w' := by
  have n0 := h.n0
  have hse := h.seats
  have H := Lib.hid h
  have K := Lib.hid k
  have hk := k.lt
  have hne : ¬ w.heap.size = t := by omega
  obtain ⟨q0, q1, q2, q3, q4, qf⟩ := k
  clear h qf
  go_enter Tryz.func118, Tryz.ntmps118
  go_wp2_with fail
  refine (roomless_no b sb n _ hse n0).mono ?_
  rintro e w1 ⟨rfl, rfl⟩
  clear hse
  go_wp2_with fail
  clear q0 q1 q2 q3 q4
  have cA : Ch Nil w (w.alloc (Obj.cells #[Value.func (Fn.func 138) #[] #[], Value.func (Fn.func 139) #[] #[], Value.func (Fn.func 140) #[] #[]] 247)) := (Ch.refl _ _).alloc _
  have HA := Lib.hid (H.out.kept cA (fun e => e) (fun e => e))
  have KA := Lib.hid (K.out.kept cA (fun e => e))
  generalize w.alloc (Obj.cells #[Value.func (Fn.func 138) #[] #[], Value.func (Fn.func 139) #[] #[], Value.func (Fn.func 140) #[] #[]] 247) = wa at cA HA KA ⊢
  refine (take_no t b sb n nx fi P V 2 0 pos fl _ HA.out KA.out hb hs hx heq.out).mono ?_
  rintro e w2 ⟨rfl, h2, k2, c2⟩
  have H2 := Lib.hid h2
  have K2 := Lib.hid k2
  have q2 := k2.su
  clear h2 k2
  go_wp2
  go_ret
  exact ⟨rfl, H2.out, K2.out, (Ch_any cA).trans c2⟩

open Verge
theorem step_any (t b sb n nx fi : Nat) (P : Nat → Bool) (V : Nat → Tk) (s : TSt) (w : World) (h : IsRing w b sb n nx fi P V) (k : IsT w t b s.st s.su s.pos s.fl) (hb : t ≠ b) (hs : t ≠ sb) (hx : s.pos ≤ 1000000)
    (hst : s.st = 0 ∨ s.st = 1 ∨ s.st = 2) :
    Calls Tryz.prog 118 #[.pointer (some ⟨t, 0, none⟩)] w fun e w' => e = .returned (.int .i64 (tickStep n nx fi P s).2.su) ∧
      Stepped w t b sb n (tickStep n nx fi P s).1 fi P V (tickStep n nx fi P s).2.st (tickStep n nx fi P s).2.su (tickStep n nx fi P s).2.pos (tickStep n nx fi P s).2.fl w' := by
  obtain ⟨st, su, pos, fl⟩ := s
  dsimp only at k hx hst
  by_cases h0 : su = 0
  · subst h0
    rcases hst with rfl | rfl | rfl
    · exact step_choose t b sb n nx fi P V pos fl w h k hb hs
    · obtain ⟨q, hq1, hq2, hqm⟩ := mod_window n fi pos h.n0
      have e : ((tickStep n nx fi P ⟨1, 0, pos, fl⟩).2.st, (tickStep n nx fi P ⟨1, 0, pos, fl⟩).2.su) = lookT q pos (P q) 1 0 ∧ (tickStep n nx fi P ⟨1, 0, pos, fl⟩).2.pos = pos ∧ (tickStep n nx fi P ⟨1, 0, pos, fl⟩).2.fl = fl ∧ (tickStep n nx fi P ⟨1, 0, pos, fl⟩).1 = nx := by
        by_cases a1 : fi + n ≤ pos
        · have : q < pos := by omega
          simp [tickStep, lookT, a1, this]
        · by_cases a2 : pos < fi
          · have e1 : ¬ q < pos := by omega
            have e2 : ¬ q = pos := by omega
            simp [tickStep, lookT, a1, a2, e1, e2]
          · have : q = pos := by
              apply Classical.byContradiction
              intro hne
              exact mod_apart ⟨hq1, hq2⟩ (by omega : fi ≤ pos ∧ pos < fi + n) hne hqm
            subst this
            cases hP : P q <;> simp [tickStep, lookT, a1, a2, hP]
      obtain ⟨e1, e2, e3, e4⟩ := e
      rw [Prod.ext_iff] at e1
      dsimp only at e1
      rw [e1.1, e1.2, e2, e3, e4]
      exact step_look t b sb n nx fi P V pos fl w h k hb hs hx q ⟨hq1, hq2⟩ hqm
    · by_cases heq : nx = pos
      · have e : tickStep n nx fi P ⟨2, 0, pos, fl⟩ = (nx + 1, ⟨2, 2, pos, fl⟩) := by simp [tickStep, heq]
        rw [e]
        exact step_take t b sb n nx fi P V pos fl w h k hb hs hx heq
      · have e : tickStep n nx fi P ⟨2, 0, pos, fl⟩ = (nx, ⟨0, 0, pos, fl⟩) := by simp [tickStep, heq]
        rw [e]
        exact step_miss t b sb n nx fi P V pos fl w h k hb hs hx heq
  · have e : tickStep n nx fi P ⟨st, su, pos, fl⟩ = (nx, ⟨st, su, pos, fl⟩) := by simp [tickStep, h0]
    rw [e]
    exact (step_idle t b sb n nx fi P V st su pos fl w h k h0).mono fun e w' ⟨he, hw⟩ => by subst hw; exact ⟨he, h, k, Ch.refl _ _⟩
end Go.Proofs.YtnbdafmjcmmfpaaGreat.RT

/-
  Contracts of package ring's functions at verge/api.Task: filling, popping, a new ring.
-/
namespace Go.Proofs.YtnbdafmjcmmfpaaGreat.RT
open Go.RowKit Verge
attribute [local go_sem] Oper.semAt_some
set_option linter.unusedVariables false
set_option linter.unusedSimpArgs false

set_option maxHeartbeats 4000000 in
set_option maxRecDepth 100000 in
theorem fill_ok (t b sb n nx fi : Nat) (P : Nat → Bool) (V : Nat → Tk) (st : Int) (pos : Nat) (v : Tk) (w : World) (h : IsRing w b sb n nx fi P V) (k : IsT w t b st 2 pos false) (hb : t ≠ b) (hs : t ≠ sb) (hx : pos ≤ 1000000)
    (hp : fi ≤ pos ∧ pos < fi + n) :
    Calls Tryz.prog 155 #[.pointer (some ⟨t, 0, none⟩), .agg #[.int .u64 (v.i : Nat), .int .i64 v.s, .int .u64 (v.g : Nat), .int .u64 (v.d : Nat), .int .u64 (v.p : Nat)]] w fun e w' => e = .returned (.int .i64 0) ∧ Stepped w t b sb n nx fi (upd P pos true) (upd V pos v) st 2 pos true w' := by
  obtain ⟨hp1, hp2⟩ := hp
  have cA : Ch Nil w (w.alloc (Obj.cells #[.int .u64 (v.i : Nat), .int .i64 v.s, .int .u64 (v.g : Nat), .int .u64 (v.d : Nat), .int .u64 (v.p : Nat)] 40)) := (Ch.refl _ _).alloc _
  have HA := Lib.hid (h.kept cA (fun e => e) (fun e => e))
  have KA := Lib.hid (k.kept cA (fun e => e))
  have BX := IsTk.new w 40 v
  have hBt : w.heap.size ≠ t := by have := k.lt; omega
  have hBb : w.heap.size ≠ b := by have := h.lt; omega
  have hBs : w.heap.size ≠ sb := by have := h.lt2; omega
  have CA := Lib.hid cA
  clear h k cA
  go_enter Tryz.func155, Tryz.ntmps155
  go_upto_region 1 with (fail)
  generalize w.alloc (Obj.cells #[.int .u64 (v.i : Nat), .int .i64 v.s, .int .u64 (v.g : Nat), .int .u64 (v.d : Nat), .int .u64 (v.p : Nat)] 40) = w0 at HA KA BX CA ⊢
  generalize w.heap.size = B at BX hBt hBb hBs ⊢
  obtain ⟨q0, q1, q2, q3, q4, qf⟩ := KA.out
  have f4 := qf 4
  have c1 : Ch (One t) w0 (w0.setCell ⟨t, 4, none⟩ (.bool true)) := (Ch.refl _ _).setB _ _
  have k1 := KA.out.setFl true
  have h1 := HA.out.kept c1 (fun e => hb e.symm) (fun e => hs e.symm)
  have b1 := BX.kept c1 hBt
  have C1 := Lib.hid c1
  have K1 := Lib.hid k1
  have H1 := Lib.hid h1
  have B1 := Lib.hid b1
  clear HA KA BX qf c1 k1 h1 b1
  go_wp2
  clear q0 q1 q2 q3 q4 f4
  generalize w0.setCell ⟨t, 4, none⟩ (.bool true) = w1 at C1 K1 H1 B1 ⊢
  have hS : (w1.drew.cell? ⟨t, 0, none⟩ = some (.pointer (some ⟨b, 0, none⟩)) ∧ w1.drew.cell? ⟨t, 3, none⟩ = some (.int .u64 pos)) ∧ Kp w1 Nil b sb n nx fi P V w1.drew := ⟨⟨K1.out.r, K1.out.pos⟩, H1.out.drew, (Ch.refl _ _).drew⟩
  refine wp_region_held_drew (S := fun w' => (w'.cell? ⟨t, 0, none⟩ = some (.pointer (some ⟨b, 0, none⟩)) ∧ w'.cell? ⟨t, 3, none⟩ = some (.int .u64 pos)) ∧ Kp w1 Nil b sb n nx fi P V w') (by kernel_rfl) hS (fun hHeld => ?_)
  clear hS
  generalize w1.drew = wd at hHeld ⊢
  refine take_at (v := ?_) 0 (some 24) rfl (by kernel_rfl) (by kernel_rfl) (by kernel_rfl) (by kernel_rfl) (fun _ _ _ h => h) (Or.inl ⟨by rfl, ?_⟩) (by assumption) ?_
  rotate_left
  · intro w hSw; (try dsimp only at hSw); go_simp; try (with_reducible rfl)
  (try simp only [Act.put, List.setIfInBounds_toArray, List.set_cons_zero, List.set_cons_succ])
  refine take_at (v := ?_) 1 (some 25) rfl (by kernel_rfl) (by kernel_rfl) (by kernel_rfl) (by kernel_rfl) (fun _ _ _ h => h) (Or.inl ⟨by rfl, ?_⟩) (by assumption) ?_
  rotate_left
  · intro w hSw; (try dsimp only at hSw); go_simp; try (with_reducible rfl)
  (try simp only [Act.put, List.setIfInBounds_toArray, List.set_cons_zero, List.set_cons_succ])
  refine take_at (v := ?_) 2 (some 26) rfl (by kernel_rfl) (by kernel_rfl) (by kernel_rfl) (by kernel_rfl) (fun _ _ _ h => h) (Or.inl ⟨by rfl, ?_⟩) (by assumption) ?_
  rotate_left
  · intro w hSw; (try dsimp only at hSw); go_simp; try (with_reducible rfl)
  (try simp only [Act.put, List.setIfInBounds_toArray, List.set_cons_zero, List.set_cons_succ])
  refine take_at (v := ?_) 3 (some 27) rfl (by kernel_rfl) (by kernel_rfl) (by kernel_rfl) (by kernel_rfl) (fun _ _ _ h => h) (Or.inl ⟨by rfl, ?_⟩) (by assumption) ?_
  rotate_left
  · intro w hSw; (try dsimp only at hSw); go_simp; try (with_reducible rfl)
  (try simp only [Act.put, List.setIfInBounds_toArray, List.set_cons_zero, List.set_cons_succ])
  refine take_at (v := ?_) 4 (some 28) rfl (by kernel_rfl) (by kernel_rfl) (by kernel_rfl) (by kernel_rfl) (fun _ _ _ h => h) (Or.inl ⟨by rfl, ?_⟩) (by assumption) ?_
  rotate_left
  · intro w hSw; (try dsimp only at hSw); go_simp; try (with_reducible rfl)
  (try simp only [Act.put, List.setIfInBounds_toArray, List.set_cons_zero, List.set_cons_succ])
  refine take_at (v := ?_) 5 (some 29) rfl (by kernel_rfl) (by kernel_rfl) (by kernel_rfl) (by kernel_rfl) (fun _ _ _ h => h) (Or.inl ⟨by rfl, ?_⟩) (by assumption) ?_
  rotate_left
  · intro w hSw; (try dsimp only at hSw); go_simp; try (with_reducible rfl)
  (try simp only [Act.put, List.setIfInBounds_toArray, List.set_cons_zero, List.set_cons_succ])
  refine take_at (v := ?_) 6 (some 30) rfl (by kernel_rfl) (by kernel_rfl) (by kernel_rfl) (by kernel_rfl) (fun _ _ _ h => h) (Or.inl ⟨by rfl, ?_⟩) (by assumption) ?_
  rotate_left
  · intro w hSw; (try dsimp only at hSw); go_simp; try (with_reducible rfl)
  (try simp only [Act.put, List.setIfInBounds_toArray, List.set_cons_zero, List.set_cons_succ])
  refine take_at (v := ?_) 7 (some 31) rfl (by kernel_rfl) (by kernel_rfl) (by kernel_rfl) (by kernel_rfl) (fun _ _ _ h => h) (Or.inl ⟨by rfl, ?_⟩) (by assumption) ?_
  rotate_left
  · intro w hSw; (try dsimp only at hSw); go_simp; try (with_reducible rfl)
  (try simp only [Act.put, List.setIfInBounds_toArray, List.set_cons_zero, List.set_cons_succ])
  refine wpAnyH_ready (rs := [8]) (by kernel_rfl) (by simp) ?_
  refine AllReadyH.cons rfl (fun K' hK => ?_) AllReadyH.nil
  go_simp
  refine (seat_of hHeld.2.1 pos hx).mono ?_
  rintro e w2 ⟨rfl, h2, c2⟩
  refine hK.out _ _ ⟨⟨c2.keeps hHeld.1.1 (fun e => e), c2.keeps hHeld.1.2 (fun e => e)⟩, h2, hHeld.2.2.trans c2⟩ (fun hHeld2 => ?_)
  clear hK K' hHeld h2 c2
  (try simp only [Act.put, List.setIfInBounds_toArray, List.set_cons_zero, List.set_cons_succ])
  refine take_at (v := ?_) 9 (some 5) rfl (by kernel_rfl) (by kernel_rfl) (by kernel_rfl) (by kernel_rfl) (fun _ _ _ h => h) (Or.inl ⟨by rfl, ?_⟩) (by assumption) ?_
  rotate_left
  · intro w hSw; (try dsimp only at hSw); go_simp; try (with_reducible rfl)
  (try simp only [Act.put, List.setIfInBounds_toArray, List.set_cons_zero, List.set_cons_succ])
  refine wpAnyH_done (by kernel_rfl) ?_ _
  have H2 := Lib.hid hHeld2.2.1
  have C2 := Lib.hid hHeld2.2.2
  have K2 := Lib.hid (K1.out.kept C2.out (fun e => e))
  obtain ⟨x0, x1, x2, x3, x4⟩ := (B1.out.kept C2.out (fun e => e)).cells0
  obtain ⟨z, hz, -⟩ := (H2.out.seat pos hp1 hp2).z
  have hzf := (H2.out.seat pos hp1 hp2).f
  have hzm := Lib.hid (H2.out.seat pos hp1 hp2).m
  have HZ := Lib.hid hz
  have HF := Lib.hid hzf
  clear hHeld2
  obtain ⟨o, ho⟩ : ∃ o, pos % n * 10 = o := ⟨_, rfl⟩
  have HO := Lib.hid ho
  rw [ho] at hz hzm HZ ⊢
  clear ho
  obtain ⟨z0, z1, z2, z3, z4⟩ := hz.cells
  have g0 := hzf (o + 5)
  have g1 := hzf (o + 5 + 1)
  have g2 := hzf (o + 5 + 2)
  have g3 := hzf (o + 5 + 3)
  have g4 := hzf (o + 5 + 4)
  clear hz hzf B1
  go_upto_region 6 with (fail)
  clear z0 z1 z2 z3 z4 g0 g1 g2 g3 g4 x0 x1 x2 x3 x4
  have c3 : Tch sb o 10 w2 (setTk w2 sb (o + 5) v) := (setTk_tch w2 sb (o + 5) v).wide (by omega) (by omega)
  have m3 : IsM (setTk w2 sb (o + 5) v) sb o pos (P pos) := hzm.out.far (setTk_tch w2 sb (o + 5) v) (by omega)
  have z3 : IsTk (setTk w2 sb (o + 5) v) sb (o + 5) v := setTk_is HZ.out
  have hw : setTk w2 sb (o + 5) v = setTk w2 sb (o + 5) v := rfl
  generalize hw3 : setTk w2 sb (o + 5) v = w3 at c3 m3 z3
  unfold setTk at hw3
  simp only [Nat.add_assoc, Nat.reduceAdd] at hw3 ⊢
  rw [hw3]
  clear hw3 hw
  have k3 : IsT w3 t b st 2 pos true := K2.out.kept c3.ch hs
  have C3 := Lib.hid c3
  have M3 := Lib.hid m3
  have Z3 := Lib.hid z3
  have K3 := Lib.hid k3
  have hS : w3.drew.cell? ⟨t, 3, none⟩ = some (.int .u64 pos) := k3.pos
  clear c3 m3 z3 k3
  refine wp_region_held_drew (S := fun w' => w'.cell? ⟨t, 3, none⟩ = some (.int .u64 pos)) (by kernel_rfl) hS (fun hHeld => ?_)
  clear hS
  have C3d := Lib.hid C3.out.drew
  have M3d : Hid (IsM w3.drew sb o pos (P pos)) := M3.out.kept (S := Nil) (Ch.refl _ _).drew (fun e => e)
  have Z3d : Hid (IsTk w3.drew sb (o + 5) v) := Z3.out
  have K3d : Hid (IsT w3.drew t b st 2 pos true) := K3.out.kept (S := Nil) (Ch.refl _ _).drew (fun e => e)
  clear C3 M3 Z3 K3
  generalize w3.drew = wd at hHeld C3d M3d Z3d K3d ⊢
  refine take_at (v := ?_) 0 (some 37) rfl (by kernel_rfl) (by kernel_rfl) (by kernel_rfl) (by kernel_rfl) (fun _ _ _ h => h) (Or.inl ⟨by rfl, ?_⟩) (by assumption) ?_
  rotate_left
  · intro w hSw; (try dsimp only at hSw); go_simp; try (with_reducible rfl)
  (try simp only [Act.put, List.setIfInBounds_toArray, List.set_cons_zero, List.set_cons_succ])
  refine take_at (v := ?_) 1 (some 38) rfl (by kernel_rfl) (by kernel_rfl) (by kernel_rfl) (by kernel_rfl) (fun _ _ _ h => h) (Or.inl ⟨by rfl, ?_⟩) (by assumption) ?_
  rotate_left
  · intro w hSw; (try dsimp only at hSw); go_simp; try (with_reducible rfl)
  (try simp only [Act.put, List.setIfInBounds_toArray, List.set_cons_zero, List.set_cons_succ])
  refine take_at (v := ?_) 2 (some 39) rfl (by kernel_rfl) (by kernel_rfl) (by kernel_rfl) (by kernel_rfl) (fun _ _ _ h => h) (Or.inl ⟨by rfl, ?_⟩) (by assumption) ?_
  rotate_left
  · intro w hSw; (try dsimp only at hSw); go_simp; try (with_reducible rfl)
  (try simp only [Act.put, List.setIfInBounds_toArray, List.set_cons_zero, List.set_cons_succ])
  refine take_at (v := ?_) 3 (some 40) rfl (by kernel_rfl) (by kernel_rfl) (by kernel_rfl) (by kernel_rfl) (fun _ _ _ h => h) (Or.inl ⟨by rfl, ?_⟩) (by assumption) ?_
  rotate_left
  · intro w hSw; (try dsimp only at hSw); go_simp; try (with_reducible rfl)
  (try simp only [Act.put, List.setIfInBounds_toArray, List.set_cons_zero, List.set_cons_succ])
  refine take_at (v := ?_) 4 (some 41) rfl (by kernel_rfl) (by kernel_rfl) (by kernel_rfl) (by kernel_rfl) (fun _ _ _ h => h) (Or.inl ⟨by rfl, ?_⟩) (by assumption) ?_
  rotate_left
  · intro w hSw; (try dsimp only at hSw); go_simp; try (with_reducible rfl)
  (try simp only [Act.put, List.setIfInBounds_toArray, List.set_cons_zero, List.set_cons_succ])
  refine take_at (v := ?_) 5 (some 42) rfl (by kernel_rfl) (by kernel_rfl) (by kernel_rfl) (by kernel_rfl) (fun _ _ _ h => h) (Or.inl ⟨by rfl, ?_⟩) (by assumption) ?_
  rotate_left
  · intro w hSw; (try dsimp only at hSw); go_simp; try (with_reducible rfl)
  (try simp only [Act.put, List.setIfInBounds_toArray, List.set_cons_zero, List.set_cons_succ])
  refine take_at (v := ?_) 6 (some 43) rfl (by kernel_rfl) (by kernel_rfl) (by kernel_rfl) (by kernel_rfl) (fun _ _ _ h => h) (Or.inl ⟨by rfl, ?_⟩) (by assumption) ?_
  rotate_left
  · intro w hSw; (try dsimp only at hSw); go_simp; try (with_reducible rfl)
  (try simp only [Act.put, List.setIfInBounds_toArray, List.set_cons_zero, List.set_cons_succ])
  refine take_at (v := ?_) 7 (some 44) rfl (by kernel_rfl) (by kernel_rfl) (by kernel_rfl) (by kernel_rfl) (fun _ _ _ h => h) (Or.inl ⟨by rfl, ?_⟩) (by assumption) ?_
  rotate_left
  · intro w hSw; (try dsimp only at hSw); go_simp; try (with_reducible rfl)
  (try simp only [Act.put, List.setIfInBounds_toArray, List.set_cons_zero, List.set_cons_succ])
  refine wpAnyH_ready (rs := [8]) (by kernel_rfl) (by simp) ?_
  refine AllReadyH.cons rfl (fun K' hK => ?_) AllReadyH.nil
  go_simp
  refine (storeM_at sb o pos pos (P pos) true _ M3d.out).mono ?_
  rintro e w4 ⟨rfl, m4, c4⟩
  have k4 : IsT w4 t b st 2 pos true := K3d.out.kept c4.ch hs
  refine hK.out _ _ k4.pos (fun _ => ?_)
  have M4 := Lib.hid m4
  have C4 := Lib.hid c4
  have K4 := Lib.hid k4
  clear hK K' hHeld m4 c4 k4
  (try simp only [Act.put, List.setIfInBounds_toArray, List.set_cons_zero, List.set_cons_succ])
  refine wpAnyH_done (by kernel_rfl) ?_ _
  go_wp2
  go_ret
  have ct : Tch sb o 10 w2 w4 := C3d.out.trans (C4.out.wide (Nat.le_refl _) (by omega))
  refine ⟨rfl, ⟨H2.out.next.kept ct.ch H2.out.ne, H2.out.first.kept ct.ch H2.out.ne, ct.ch.keeps H2.out.seats H2.out.ne, ?_, H2.out.ne, H2.out.n0, H2.out.n1⟩, K4.out, ?_⟩
  · refine seats_turn (p := pos) H2.out.seat ⟨hp1, hp2⟩ ct (by rw [HO.out]; omega) ?_ (fun q hq => upd_other _ _ _ _ hq) (fun q hq => upd_other _ _ _ _ hq)
    rw [upd_same, upd_same, HO.out]
    exact ⟨M4.out, ⟨v, Z3d.out.far C4.out (by omega), fun _ => rfl⟩, fun j => (ct.fz _).trans (HF.out j)⟩
  · exact (Ch_any CA.out).trans (((Ch_tri1 C1.out).trans (Ch_any C2.out)).trans (Ch_tri (Ch_two2 ct.ch)))
theorem ready_nil (w : World) :
    Calls Tryz.prog 66 #[.pointer none] w fun e w' => e = .returned (.bool false) ∧ w = w' := by
  go_enter Tryz.func66, Tryz.ntmps66
  go_wp2_with fail
  refine (roomless_nil _).mono ?_
  rintro e w1 ⟨rfl, rfl⟩
  go_wp2
  go_ret
  exact ⟨rfl, rfl⟩
theorem len_nil (w : World) :
    Calls Tryz.prog 52 #[.pointer none] w fun e w' => e = .returned (.int .i64 0) ∧ w = w' := by
  go_enter Tryz.func52, Tryz.ntmps52
  go_wp2_with fail
  refine (roomless_nil _).mono ?_
  rintro e w1 ⟨rfl, rfl⟩
  go_wp2
  go_ret
  exact ⟨rfl, rfl⟩
theorem begin_nil (w : World) :
    Calls Tryz.prog 117 #[.pointer none] w fun e w' => e = .returned (.pointer none) ∧ w = w' := by
  go_enter Tryz.func117, Tryz.ntmps117
  go_wp2_with fail
  refine (roomless_nil _).mono ?_
  rintro e w1 ⟨rfl, rfl⟩
  go_wp2
  go_ret
  exact ⟨rfl, rfl⟩

/-- the boxes of a task that Pop makes first: its result's, and the zero one -/
structure PopB (w W : World) (B1 B2 : Nat) : Prop where
  r1 : IsTk W B1 0 tk0
  k1 : Blk W B1
  r2 : IsTk W B2 0 tk0
  c : Ch Nil w W
  n1 : w.heap.size ≤ B1 ∧ B1 < W.heap.size
  n2 : w.heap.size ≤ B2 ∧ B2 < W.heap.size
  ne : B1 ≠ B2
theorem popB (w : World) : PopB w ((w.alloc (Obj.cells #[.int .u64 0, .int .i64 0, .int .u64 0, .int .u64 0, .int .u64 0] 40)).alloc (Obj.cells #[.int .u64 0, .int .i64 0, .int .u64 0, .int .u64 0, .int .u64 0] 40)) w.heap.size (w.heap.size + 1) := by
  have c1 : Ch Nil w (w.alloc (Obj.cells #[.int .u64 0, .int .i64 0, .int .u64 0, .int .u64 0, .int .u64 0] 40)) := (Ch.refl _ _).alloc _
  have R1 : IsTk (w.alloc (Obj.cells #[.int .u64 0, .int .i64 0, .int .u64 0, .int .u64 0, .int .u64 0] 40)) w.heap.size 0 tk0 := IsTk.new w 40 tk0
  have f1 := (Blk.new w #[.int .u64 0, .int .i64 0, .int .u64 0, .int .u64 0, .int .u64 0] 40)
  have sz : (w.alloc (Obj.cells #[.int .u64 0, .int .i64 0, .int .u64 0, .int .u64 0, .int .u64 0] 40)).heap.size = w.heap.size + 1 := by simp
  generalize w.alloc (Obj.cells #[.int .u64 0, .int .i64 0, .int .u64 0, .int .u64 0, .int .u64 0] 40) = w1 at *
  have c2 : Ch Nil w1 (w1.alloc (Obj.cells #[.int .u64 0, .int .i64 0, .int .u64 0, .int .u64 0, .int .u64 0] 40)) := (Ch.refl _ _).alloc _
  have R2 : IsTk (w1.alloc (Obj.cells #[.int .u64 0, .int .i64 0, .int .u64 0, .int .u64 0, .int .u64 0] 40)) w1.heap.size 0 tk0 := IsTk.new w1 40 tk0
  rw [sz] at R2
  exact ⟨R1.kept c2 (fun e => e), f1.kept c2 (fun e => e), R2, c1.trans c2, ⟨by omega, by simp; omega⟩, ⟨by omega, by simp; omega⟩, by omega⟩
theorem PopB.later {S : Nat → Prop} {w W W' : World} {B1 B2 : Nat} (h : PopB w W B1 B2) (c : Ch S W W') (hs : ∀ k, S k → k < w.heap.size) : IsTk W' B1 0 tk0 ∧ Blk W' B1 ∧ IsTk W' B2 0 tk0 :=
  ⟨h.r1.kept c (fun e => by have := hs _ e; have := h.n1; omega), h.k1.kept c (fun e => by have := hs _ e; have := h.n1; omega), h.r2.kept c (fun e => by have := hs _ e; have := h.n2; omega)⟩

set_option maxHeartbeats 4000000 in
theorem pop_nil (w : World) :
    Calls Tryz.prog 45 #[.pointer none] w fun e w' => e = .returned (.tuple #[tkA tk0, .int .i64 6]) ∧ Ch Nil w w' := by
  have PB := popB w
  go_enter Tryz.func45, Tryz.ntmps45
  go_upto_region 2 with (fail)
  generalize ((w.alloc (Obj.cells #[.int .u64 0, .int .i64 0, .int .u64 0, .int .u64 0, .int .u64 0] 40)).alloc (Obj.cells #[.int .u64 0, .int .i64 0, .int .u64 0, .int .u64 0, .int .u64 0] 40)) = W at PB ⊢
  generalize w.heap.size + 1 = B2 at PB ⊢
  obtain ⟨B1, hB1⟩ : ∃ B, B = w.heap.size := ⟨_, rfl⟩
  rw [← hB1] at PB ⊢
  have HB1 := Lib.hid hB1
  clear hB1
  obtain ⟨x0, x1, x2, x3, x4⟩ := PB.r1.cells0
  obtain ⟨y0, y1, y2, y3, y4⟩ := PB.r2.cells0
  have g0 := PB.k1.fz 0
  have g1 := PB.k1.fz 1
  have g2 := PB.k1.fz 2
  have g3 := PB.k1.fz 3
  have g4 := PB.k1.fz 4
  go_wp2_with fail
  refine (ready_nil _).mono ?_
  rintro e w1 ⟨rfl, rfl⟩
  go_wp2
  have hr := setTk_is (u := tk0) PB.r1
  have hc : Ch Nil w (setTk W B1 0 tk0) := PB.c.then (setTk_tch W B1 0 tk0).ch (fun i hi e => by have := HB1.out; have e' : i = B1 := e; omega)
  (try simp only [Exit.inBlock, Exit.then])
  refine bodyPost_ret (v := .tuple #[tkA tk0, .int .i64 6]) ?hr rfl ⟨rfl, hc⟩
  case hr =>
    change (results _ _).run _ (setTk W B1 0 tk0) = .ok _ (setTk W B1 0 tk0)
    generalize setTk W B1 0 tk0 = W5 at hr ⊢
    obtain ⟨c0, c1, c2, c3, c4⟩ := hr.cells0
    simp [results, Tryz.results45, go_sem, c0, c1, c2, c3, c4]

set_option maxHeartbeats 4000000 in
theorem pop_none (b sb n nx fi : Nat) (P : Nat → Bool) (V : Nat → Tk) (w : World) (h : IsRing w b sb n nx fi P V) (hx : fi ≤ 1000000) (hP : Hid (P fi = false)) :
    Calls Tryz.prog 45 #[.pointer (some ⟨b, 0, none⟩)] w fun e w' => e = .returned (.tuple #[tkA tk0, .int .i64 6]) ∧ IsRing w' b sb n nx fi P V ∧ Ch (Two b sb) w w' := by
  have PB := popB w
  have H0 := Lib.hid h
  have lb := h.lt
  have ls := h.lt2
  clear h
  go_enter Tryz.func45, Tryz.ntmps45
  go_upto_region 2 with (fail)
  generalize ((w.alloc (Obj.cells #[.int .u64 0, .int .i64 0, .int .u64 0, .int .u64 0, .int .u64 0] 40)).alloc (Obj.cells #[.int .u64 0, .int .i64 0, .int .u64 0, .int .u64 0, .int .u64 0] 40)) = W at PB ⊢
  generalize w.heap.size + 1 = B2 at PB ⊢
  obtain ⟨B1, hB1⟩ : ∃ B, B = w.heap.size := ⟨_, rfl⟩
  rw [← hB1] at PB ⊢
  have HB1 := Lib.hid hB1
  have H := Lib.hid (H0.out.kept PB.c (fun e => e) (fun e => e))
  clear hB1 H0
  go_wp2_with fail
  refine (ready_at b sb n nx fi P V _ H.out hx).mono ?_
  rw [hP.out]
  rintro e w1 ⟨rfl, h1, c1⟩
  have H1 := Lib.hid h1
  obtain ⟨r1, k1, r2⟩ := PB.later c1 (fun k e => by rcases e with rfl | rfl <;> assumption)
  have C1 := Lib.hid ((Ch_any PB.c).trans c1)
  obtain ⟨x0, x1, x2, x3, x4⟩ := r1.cells0
  obtain ⟨y0, y1, y2, y3, y4⟩ := r2.cells0
  have g0 := k1.fz 0
  have g1 := k1.fz 1
  have g2 := k1.fz 2
  have g3 := k1.fz 3
  have g4 := k1.fz 4
  clear h1 c1
  go_wp2
  have hr := setTk_is (u := tk0) r1
  have ct := (setTk_tch w1 B1 0 tk0).ch
  have hB : B1 ≠ b ∧ B1 ≠ sb := by have := HB1.out; omega
  have h2 := H1.out.kept ct (fun e => hB.1 e.symm) (fun e => hB.2 e.symm)
  have hc := C1.out.then ct (fun i hi e => by have := HB1.out; have e' : i = B1 := e; omega)
  (try simp only [Exit.inBlock, Exit.then])
  refine bodyPost_ret (v := .tuple #[tkA tk0, .int .i64 6]) ?hr rfl ⟨rfl, h2, hc⟩
  case hr =>
    change (results _ _).run _ (setTk w1 B1 0 tk0) = .ok _ (setTk w1 B1 0 tk0)
    generalize setTk w1 B1 0 tk0 = W5 at hr ⊢
    obtain ⟨c0, c1, c2, c3, c4⟩ := hr.cells0
    simp [results, Tryz.results45, go_sem, c0, c1, c2, c3, c4]

set_option maxHeartbeats 4000000 in
set_option maxRecDepth 100000 in
theorem pop_ok (b sb n nx fi : Nat) (P : Nat → Bool) (V : Nat → Tk) (w : World) (h : IsRing w b sb n nx fi P V) (hx : fi ≤ 900000) (hP : Hid (P fi = true)) (hN : Hid (P (fi + n) = false)) (v : Tk) (hv : Hid (V fi = v)) :
    Calls Tryz.prog 45 #[.pointer (some ⟨b, 0, none⟩)] w fun e w' => e = .returned (.tuple #[tkA v, .int .i64 0]) ∧ IsRing w' b sb n nx (fi + 1) P V ∧ Ch (Two b sb) w w' := by
  have PB := popB w
  have H0 := Lib.hid h
  have lb := h.lt
  have ls := h.lt2
  have n0 := h.n0
  have n1 := h.n1
  have hne := h.ne
  clear h
  go_enter Tryz.func45, Tryz.ntmps45
  go_upto_region 2 with (fail)
  generalize ((w.alloc (Obj.cells #[.int .u64 0, .int .i64 0, .int .u64 0, .int .u64 0, .int .u64 0] 40)).alloc (Obj.cells #[.int .u64 0, .int .i64 0, .int .u64 0, .int .u64 0, .int .u64 0] 40)) = W at PB ⊢
  generalize w.heap.size + 1 = B2 at PB ⊢
  obtain ⟨B1, hB1⟩ : ∃ B, B = w.heap.size := ⟨_, rfl⟩
  rw [← hB1] at PB ⊢
  have HB1 := Lib.hid hB1
  have H := Lib.hid (H0.out.kept PB.c (fun e => e) (fun e => e))
  clear hB1 H0
  go_wp2_with fail
  refine (ready_at b sb n nx fi P V _ H.out (by omega)).mono ?_
  rw [hP.out]
  rintro e w1 ⟨rfl, h1, c1⟩
  have H1 := Lib.hid h1
  clear h1
  go_wp2_with fail
  refine (first_load H1.out).mono ?_
  rintro e w2 ⟨rfl, h2, c2⟩
  have H2 := Lib.hid h2
  clear h2
  go_wp2_with fail
  refine (seat_of H2.out fi (by omega)).mono ?_
  rintro e w3 ⟨rfl, h3, c3⟩
  have c03 : Ch (Two b sb) W w3 := (c1.trans (Ch_two1 c2)).trans (Ch_any c3)
  have H3 := Lib.hid h3
  have D3 := Lib.hid ((Ch_any PB.c).trans c03)
  obtain ⟨r1, k1, r2⟩ := PB.later c03 (fun k e => by rcases e with rfl | rfl <;> assumption)
  have R1 := Lib.hid r1
  have K1 := Lib.hid k1
  have R2 := Lib.hid r2
  have hB1w : w.heap.size ≤ B1 := PB.n1.1
  have hB2w : w.heap.size ≤ B2 := PB.n2.1
  have hB12 := PB.ne
  have lB1 : B1 < w3.heap.size := r1.lt
  have lB2 : B2 < w3.heap.size := r2.lt
  clear h3 c1 c2 c3 c03 r1 k1 r2 PB H H1 H2
  obtain ⟨z, hz, hzv⟩ := (H3.out.seat fi (Nat.le_refl _) (by omega)).z
  obtain rfl : z = v := (hzv hP.out).trans hv.out
  have HZ := Lib.hid hz
  have HF := Lib.hid (H3.out.seat fi (Nat.le_refl _) (by omega)).f
  have hzm := Lib.hid (H3.out.seat fi (Nat.le_refl _) (by omega)).m
  obtain ⟨o, ho⟩ : ∃ o, fi % n * 10 = o := ⟨_, rfl⟩
  have HO := Lib.hid ho
  rw [ho] at hz hzm HZ ⊢
  clear ho hzv
  obtain ⟨z0, z1, z2, z3, z4⟩ := hz.cells
  clear hz
  go_upto_region 7 with (fail)
  clear z0 z1 z2 z3 z4
  have cB : Ch Nil w3 (w3.alloc (Obj.cells #[.int .u64 (z.i : Nat), .int .i64 z.s, .int .u64 (z.g : Nat), .int .u64 (z.d : Nat), .int .u64 (z.p : Nat)] 40)) := (Ch.refl _ _).alloc _
  have R3 := IsTk.new w3 40 z
  have hB31 : w3.heap.size ≠ B1 := by omega
  have hB32 : w3.heap.size ≠ B2 := by omega
  have hB3b : w3.heap.size ≠ b := by have := H3.out.lt; omega
  have hB3s : w3.heap.size ≠ sb := by have := H3.out.lt2; omega
  have H4 := Lib.hid (H3.out.kept cB (fun e => e) (fun e => e))
  have HZ4 := Lib.hid (HZ.out.kept cB (fun e => e))
  have HF4 : Hid (∀ j, (w3.alloc (Obj.cells #[.int .u64 (z.i : Nat), .int .i64 z.s, .int .u64 (z.g : Nat), .int .u64 (z.d : Nat), .int .u64 (z.p : Nat)] 40)).frozen? ⟨sb, j, none⟩ = false) := Lib.hid fun j => (cB.frozen (p := ⟨sb, j, none⟩) HZ.out.lt (fun e => e)).trans (HF.out j)
  have HM4 := Lib.hid (hzm.out.kept cB (fun e => e))
  have D4 := Lib.hid (D3.out.trans (Ch_any cB))
  have R14 := Lib.hid (R1.out.kept cB (fun e => e))
  have K14 := Lib.hid (K1.out.kept cB (fun e => e))
  have r24 := R2.out.kept cB (fun e => e)
  clear H3 HZ HF hzm D3 R1 K1 R2 cB
  generalize w3.alloc (Obj.cells #[.int .u64 (z.i : Nat), .int .i64 z.s, .int .u64 (z.g : Nat), .int .u64 (z.d : Nat), .int .u64 (z.p : Nat)] 40) = w4 at R3 H4 HZ4 HF4 HM4 D4 R14 K14 r24 ⊢
  generalize w3.heap.size = B3 at R3 hB31 hB32 hB3b hB3s ⊢
  have R34 := Lib.hid R3
  obtain ⟨z0, z1, z2, z3, z4⟩ := HZ4.out.cells
  obtain ⟨y0, y1, y2, y3, y4⟩ := r24.cells0
  have g0 := HF4.out (o + 5)
  have g1 := HF4.out (o + 5 + 1)
  have g2 := HF4.out (o + 5 + 2)
  have g3 := HF4.out (o + 5 + 3)
  have g4 := HF4.out (o + 5 + 4)
  clear R3 r24
  go_upto_region 8 with (fail)
  clear z0 z1 z2 z3 z4 y0 y1 y2 y3 y4 g0 g1 g2 g3 g4
  have c5 : Tch sb o 10 w4 (setTk w4 sb (o + 5) tk0) := (setTk_tch w4 sb (o + 5) tk0).wide (by omega) (by omega)
  have m5 : IsM (setTk w4 sb (o + 5) tk0) sb o fi (P fi) := HM4.out.far (setTk_tch w4 sb (o + 5) tk0) (by omega)
  have z5 : IsTk (setTk w4 sb (o + 5) tk0) sb (o + 5) tk0 := setTk_is HZ4.out
  generalize hw5 : setTk w4 sb (o + 5) tk0 = w5 at c5 m5 z5
  unfold setTk at hw5
  simp only [tk0, Nat.add_assoc, Nat.reduceAdd] at hw5 ⊢
  rw [hw5]
  clear hw5
  have hS : w5.drew.cell? ⟨b, 8, none⟩ = some (.slice (some ⟨sb, 0, none⟩) n n) := c5.ch.keeps H4.out.seats hne
  have C5 := Lib.hid c5.drew
  have M5 : Hid (IsM w5.drew sb o fi (P fi)) := m5.kept (S := Nil) (Ch.refl _ _).drew (fun e => e)
  have Z5 : Hid (IsTk w5.drew sb (o + 5) tk0) := z5
  clear c5 m5 z5
  have e1 : IntKind.u64.wrap (n : Int) = n := IntWalk.u64_in _ (by omega)
  have e2 : IntKind.u64.wrap ((fi : Int) + n) = (fi + n : Nat) := by rw [IntWalk.u64_in _ (by omega)]; omega
  refine wp_region_held_drew (S := fun w' => w'.cell? ⟨b, 8, none⟩ = some (.slice (some ⟨sb, 0, none⟩) n n)) (by kernel_rfl) hS (fun hHeld => ?_)
  clear hS
  generalize w5.drew = wd at hHeld C5 M5 Z5 ⊢
  refine take_at (v := ?_) 0 (some 27) rfl (by kernel_rfl) (by kernel_rfl) (by kernel_rfl) (by kernel_rfl) (fun _ _ _ h => h) (Or.inl ⟨by rfl, ?_⟩) (by assumption) ?_
  rotate_left
  · intro w hSw; (try dsimp only at hSw); go_simp; try (with_reducible rfl)
  (try simp only [Act.put, List.setIfInBounds_toArray, List.set_cons_zero, List.set_cons_succ])
  refine take_at (v := ?_) 1 (some 28) rfl (by kernel_rfl) (by kernel_rfl) (by kernel_rfl) (by kernel_rfl) (fun _ _ _ h => h) (Or.inl ⟨by rfl, ?_⟩) (by assumption) ?_
  rotate_left
  · intro w hSw; (try dsimp only at hSw); go_simp; try (with_reducible rfl)
  (try simp only [Act.put, List.setIfInBounds_toArray, List.set_cons_zero, List.set_cons_succ])
  refine take_at (v := ?_) 2 (some 29) rfl (by kernel_rfl) (by kernel_rfl) (by kernel_rfl) (by kernel_rfl) (fun _ _ _ h => h) (Or.inl ⟨by rfl, ?_⟩) (by assumption) ?_
  rotate_left
  · intro w hSw; (try dsimp only at hSw); go_simp; try (with_reducible rfl)
  (try simp only [Act.put, List.setIfInBounds_toArray, List.set_cons_zero, List.set_cons_succ])
  refine take_at (v := ?_) 3 (some 30) rfl (by kernel_rfl) (by kernel_rfl) (by kernel_rfl) (by kernel_rfl) (fun _ _ _ h => h) (Or.inl ⟨by rfl, ?_⟩) (by assumption) ?_
  rotate_left
  · intro w hSw; (try dsimp only at hSw); go_simp; try (with_reducible rfl)
  (try simp only [Act.put, List.setIfInBounds_toArray, List.set_cons_zero, List.set_cons_succ])
  refine take_at (v := ?_) 4 (some 31) rfl (by kernel_rfl) (by kernel_rfl) (by kernel_rfl) (by kernel_rfl) (fun _ _ _ h => h) (Or.inl ⟨by rfl, ?_⟩) (by assumption) ?_
  rotate_left
  · intro w hSw; (try dsimp only at hSw); go_simp; try (with_reducible rfl)
  (try simp only [Act.put, List.setIfInBounds_toArray, List.set_cons_zero, List.set_cons_succ])
  refine take_at (v := ?_) 5 (some 32) rfl (by kernel_rfl) (by kernel_rfl) (by kernel_rfl) (by kernel_rfl) (fun _ _ _ h => h) (Or.inl ⟨by rfl, ?_⟩) (by assumption) ?_
  rotate_left
  · intro w hSw; (try dsimp only at hSw); go_simp; try (with_reducible rfl)
  (try simp only [Act.put, List.setIfInBounds_toArray, List.set_cons_zero, List.set_cons_succ])
  refine take_at (v := ?_) 6 (some 33) rfl (by kernel_rfl) (by kernel_rfl) (by kernel_rfl) (by kernel_rfl) (fun _ _ _ h => h) (Or.inl ⟨by rfl, ?_⟩) (by assumption) ?_
  rotate_left
  · intro w hSw; (try dsimp only at hSw); go_simp; try (with_reducible rfl)
  (try simp only [Act.put, List.setIfInBounds_toArray, List.set_cons_zero, List.set_cons_succ])
  refine take_at (v := ?_) 7 (some 34) rfl (by kernel_rfl) (by kernel_rfl) (by kernel_rfl) (by kernel_rfl) (fun _ _ _ h => h) (Or.inl ⟨by rfl, ?_⟩) (by assumption) ?_
  rotate_left
  · intro w hSw; (try dsimp only at hSw); go_simp; try (with_reducible rfl)
  (try simp only [Act.put, List.setIfInBounds_toArray, List.set_cons_zero, List.set_cons_succ])
  refine take_at (v := ?_) 8 (some 35) rfl (by kernel_rfl) (by kernel_rfl) (by kernel_rfl) (by kernel_rfl) (fun _ _ _ h => h) (Or.inl ⟨by rfl, ?_⟩) (by assumption) ?_
  rotate_left
  · intro w hSw; (try dsimp only at hSw); go_simp; try (with_reducible rfl)
  (try simp only [Act.put, List.setIfInBounds_toArray, List.set_cons_zero, List.set_cons_succ])
  refine take_at (v := ?_) 9 (some 36) rfl (by kernel_rfl) (by kernel_rfl) (by kernel_rfl) (by kernel_rfl) (fun _ _ _ h => h) (Or.inl ⟨by rfl, ?_⟩) (by assumption) ?_
  rotate_left
  · intro w hSw; (try dsimp only at hSw); go_simp; try (with_reducible rfl)
  (try simp only [Act.put, List.setIfInBounds_toArray, List.set_cons_zero, List.set_cons_succ])
  refine take_at (v := ?_) 10 (some 37) rfl (by kernel_rfl) (by kernel_rfl) (by kernel_rfl) (by kernel_rfl) (fun _ _ _ h => h) (Or.inl ⟨by rfl, ?_⟩) (by assumption) ?_
  rotate_left
  · intro w hSw; (try dsimp only at hSw); go_simp; try (with_reducible rfl)
  (try simp only [Act.put, List.setIfInBounds_toArray, List.set_cons_zero, List.set_cons_succ])
  refine take_at (v := ?_) 11 (some 38) rfl (by kernel_rfl) (by kernel_rfl) (by kernel_rfl) (by kernel_rfl) (fun _ _ _ h => h) (Or.inl ⟨by rfl, ?_⟩) (by assumption) ?_
  rotate_left
  · intro w hSw; (try dsimp only at hSw); go_simp; try (with_reducible rfl)
  (try simp only [Act.put, List.setIfInBounds_toArray, List.set_cons_zero, List.set_cons_succ])
  clear e1 e2
  refine wpAnyH_ready (rs := [12]) (by kernel_rfl) (by simp) ?_
  refine AllReadyH.cons rfl (fun K' hK => ?_) AllReadyH.nil
  go_simp
  refine (storeM_at sb o fi (fi + n : Nat) (P fi) false _ M5.out).mono ?_
  rintro e w6 ⟨rfl, m6, c6⟩
  refine hK.out _ _ (c6.ch.keeps hHeld hne) (fun _ => ?_)
  have M6 := Lib.hid m6
  have ct : Tch sb o 10 w4 w6 := C5.out.trans (c6.wide (Nat.le_refl _) (by omega))
  have CT := Lib.hid ct
  have Z6 : Hid (IsTk w6 sb (o + 5) tk0) := Z5.out.far c6 (by omega)
  have F6 : Hid (IsU w6 b 4 fi) := H4.out.first.kept ct.ch hne
  clear hK K' hHeld m6 c6 ct
  (try simp only [Act.put, List.setIfInBounds_toArray, List.set_cons_zero, List.set_cons_succ])
  refine wpAnyH_done (by kernel_rfl) ?_ _
  go_wp2_with fail
  refine (storeU_at b 4 fi _ _ F6.out).mono ?_
  rintro e w7 ⟨rfl, u7, c7⟩
  have U7 := Lib.hid u7
  have C7 := Lib.hid c7
  have nB1 : B1 ≠ b ∧ B1 ≠ sb := by omega
  have r17 := (R14.out.kept CT.out.ch nB1.2).kept c7.ch nB1.1
  have k17 := (K14.out.kept CT.out.ch nB1.2).kept c7.ch nB1.1
  have r37 := (R34.out.kept CT.out.ch hB3s).kept c7.ch hB3b
  obtain ⟨x0, x1, x2, x3, x4⟩ := r17.cells0
  obtain ⟨y0, y1, y2, y3, y4⟩ := r37.cells0
  have g0 := k17.fz 0
  have g1 := k17.fz 1
  have g2 := k17.fz 2
  have g3 := k17.fz 3
  have g4 := k17.fz 4
  clear u7 c7
  go_wp2
  have hr := setTk_is (u := z) r17
  have cr := (setTk_tch w7 B1 0 z).ch
  have e3 : ((fi : Int) + 1) = ((fi + 1 : Nat) : Int) := by omega
  have em : (fi + n) % n = fi % n := by rw [Nat.add_mod_right]
  have h7 : IsRing w7 b sb n nx (fi + 1) P V := by
    refine ⟨(H4.out.next.kept CT.out.ch hne).far C7.out (by omega), ?_, (C7.out.cell 8 (by omega)).trans (CT.out.ch.keeps H4.out.seats hne), ?_, hne, n0, n1⟩
    · have := U7.out; rw [e3] at this; exact this
    · intro p h1 h2
      have hs5 : IsSeat w6 sb (p % n * 10) p (P p) (V p) := by
        by_cases e : p = fi + n
        · subst e
          rw [hN.out, em, HO.out]
          exact ⟨M6.out, ⟨_, Z6.out, fun e => by cases e⟩, fun j => (CT.out.fz _).trans (HF4.out j)⟩
        · have hm := mod_apart (n := n) (f := fi) (p := p) (q := fi) (by omega) (by omega) (by omega)
          have := HO.out
          exact (H4.out.seat p (by omega) (by omega)).far CT.out (by omega)
      exact hs5.kept C7.out.ch (fun e => hne e.symm)
  have h8 := h7.kept cr (fun e => nB1.1 e.symm) (fun e => nB1.2 e.symm)
  have d7 := (D4.out.trans (Ch_two2 CT.out.ch)).trans (Ch_two1 C7.out.ch)
  have d8 := d7.then cr (fun i hi e => by have e' : i = B1 := e; omega)
  (try simp only [Exit.inBlock, Exit.then])
  refine bodyPost_ret (v := .tuple #[tkA z, .int .i64 0]) ?hr rfl ⟨rfl, h8, d8⟩
  case hr =>
    change (results _ _).run _ (setTk w7 B1 0 z) = .ok _ (setTk w7 B1 0 z)
    generalize setTk w7 B1 0 z = W5 at hr ⊢
    obtain ⟨c0, c1, c2, c3, c4⟩ := hr.cells0
    simp [results, Tryz.results45, go_sem, c0, c1, c2, c3, c4]
end Go.Proofs.YtnbdafmjcmmfpaaGreat.RT

/-
  Contracts of package ring's functions at verge/api.Task: a new ring.
-/
namespace Go.Proofs.YtnbdafmjcmmfpaaGreat.RT
open Go.RowKit Verge
attribute [local go_sem] Oper.semAt_some
set_option linter.unusedVariables false
set_option linter.unusedSimpArgs false

theorem new_out (n : Int) (w : World) (hn : Hid (n < 1 ∨ 64 < n)) :
    Calls Tryz.prog 57 #[.int .i64 n] w fun e w' => e = .returned (.tuple #[.pointer none, .int .i64 4]) ∧ w = w' := by
  by_cases h1 : n < 1
  · go_enter Tryz.func57, Tryz.ntmps57
    go_wp2
    go_ret2
    exact ⟨rfl, rfl⟩
  · have h2 : 64 < n := by have := hn.out; omega
    go_enter Tryz.func57, Tryz.ntmps57
    go_wp2
    go_ret2
    exact ⟨rfl, rfl⟩

theorem made_at (z : Array Value) (m j : Nat) (hj : j < m) : (madeCells z m)[j]? = some (z[j % z.size]!) := by simp [madeCells, hj]
/-- a row of n seats that was just made -/
theorem made_seats (n : Nat) (w : World) (n1 : n ≤ 64) : ∃ M : Array Value, (Instr.makeSlice 162 (.int .i64 (n : Int)) (.int .i64 (n : Int))).run Tryz.prog w = .ok (.slice (some ⟨w.heap.size, 0, none⟩) n n) (w.alloc (.cells M 173)) ∧
    ∀ i, i < n → M[i * 10]? = some (.int .u64 0) ∧ M[i * 10 + 1]? = some (.bool false) ∧ M[i * 10 + 2]? = some (.int .i64 0) ∧ M[i * 10 + 3]? = some (.int .i64 0) ∧ M[i * 10 + 4]? = some (.int .i64 0) ∧ ∀ j, j < 5 → M[i * 10 + 5 + j]? = some (tkc tk0 j) := by
  have h0 : (Tryz.prog.info? 173).map (fun i => (i.zero, i.size, decide (i.bytes ≤ 1000))) = some (some (.agg #[.int .u64 0, .bool false, .int .i64 0, .int .i64 0, .int .i64 0, .int .u64 0, .int .i64 0, .int .u64 0, .int .u64 0, .int .u64 0]), 10, true) := by kernel_rfl
  obtain ⟨inf, hi, he⟩ := Option.map_eq_some_iff.1 h0
  simp only [Prod.mk.injEq, decide_eq_true_eq] at he
  obtain ⟨hz, hsz, hby⟩ := he
  clear h0
  have hr := run_make (P := Tryz.prog) w 162 173 inf _ Tryz.underlying162 hi hz .i64 .i64 (n : Int) (n : Int) (by omega) (Int.le_refl _) (by
      have h1 : inf.bytes * n ≤ 1000 * 64 := Nat.mul_le_mul hby n1
      have h2 : ((inf.bytes * n : Nat) : Int) ≤ 281474976710656 := by omega
      rwa [Int.natCast_mul] at h2) (by omega)
  refine ⟨_, by simpa using hr, fun i hi' => ?_⟩
  rw [hsz]
  have g : ∀ c, c < 10 → (i * 10 + c) % 10 = c := fun c hc => by omega
  refine ⟨?_, ?_, ?_, ?_, ?_, ?_⟩
  · rw [made_at _ _ _ (by omega)]; show some (_[(i * 10 + 0) % 10]!) = _; rw [g 0 (by omega)]; rfl
  · rw [made_at _ _ _ (by omega)]; show some (_[(i * 10 + 1) % 10]!) = _; rw [g 1 (by omega)]; rfl
  · rw [made_at _ _ _ (by omega)]; show some (_[(i * 10 + 2) % 10]!) = _; rw [g 2 (by omega)]; rfl
  · rw [made_at _ _ _ (by omega)]; show some (_[(i * 10 + 3) % 10]!) = _; rw [g 3 (by omega)]; rfl
  · rw [made_at _ _ _ (by omega)]; show some (_[(i * 10 + 4) % 10]!) = _; rw [g 4 (by omega)]; rfl
  · intro j hj
    rw [made_at _ _ _ (by omega)]; show some (_[(i * 10 + 5 + j) % 10]!) = _
    rw [show i * 10 + 5 + j = i * 10 + (5 + j) by omega, g (5 + j) (by omega)]
    rcases lt5 hj with rfl | rfl | rfl | rfl | rfl <;> rfl

theorem made_cell (w : World) (M : Array Value) (T : TypeId) (j : Nat) : (w.alloc (.cells M T)).cell? ⟨w.heap.size, j, none⟩ = M[j]? := by
  simp [go_sem]
theorem made_frozen (w : World) (M : Array Value) (T : TypeId) (j : Nat) : (w.alloc (.cells M T)).frozen? ⟨w.heap.size, j, none⟩ = false := by
  simp [go_sem]
/-- what the loop keeps: k seats are marked -/
structure NewIn (w wr : World) (b sb n k : Nat) : Prop where
  next : IsU wr b 0 0
  first : IsU wr b 4 0
  seats : wr.cell? ⟨b, 8, none⟩ = some (.slice (some ⟨sb, 0, none⟩) n n)
  seat : ∀ p, p < n → IsSeat wr sb (p * 10) (if p < k then p else 0) false tk0
  ch : Ch Nil w wr

set_option maxHeartbeats 4000000 in
set_option maxRecDepth 100000 in
theorem new_in (n : Nat) (w : World) (n0 : 0 < n) (n1 : n ≤ 64) :
    Calls Tryz.prog 57 #[.int .i64 n] w fun e w' => e = .returned (.tuple #[.pointer (some ⟨w.heap.size + 1, 0, none⟩), .int .i64 0]) ∧ IsRing w' (w.heap.size + 1) w.heap.size n 0 0 (fun _ => false) (fun _ => tk0) ∧ Ch Nil w w' := by
  have d1 : decide ((n : Int) < 1) = false := by rw [decide_eq_false_iff_not]; omega
  have d2 : decide (64 < (n : Int)) = false := by rw [decide_eq_false_iff_not]; omega
  obtain ⟨M, hM, hc⟩ := made_seats n w n1
  have HC := Lib.hid hc
  clear hc
  go_enter Tryz.func57, Tryz.ntmps57
  go_wp2
  clear hM
  have hN : NewIn w ((w.alloc (Obj.cells M 173)).alloc (Obj.cells #[.int .u64 0, .int .i64 0, .int .i64 0, .int .i64 0, .int .u64 0, .int .i64 0, .int .i64 0, .int .i64 0, .slice (some ⟨w.heap.size, 0, none⟩) n n] 164)) (w.heap.size + 1) w.heap.size n 0 := by
    have cA : Ch Nil (w.alloc (Obj.cells M 173)) ((w.alloc (Obj.cells M 173)).alloc (Obj.cells #[.int .u64 0, .int .i64 0, .int .i64 0, .int .i64 0, .int .u64 0, .int .i64 0, .int .i64 0, .int .i64 0, .slice (some ⟨w.heap.size, 0, none⟩) n n] 164)) := (Ch.refl _ _).alloc _
    have eS : (w.alloc (Obj.cells M 173)).heap.size = w.heap.size + 1 := by simp
    refine ⟨⟨0, 0, 0, ?_⟩, ⟨0, 0, 0, ?_⟩, ?_, ?_, ((Ch.refl _ _).alloc _).alloc _⟩
    · rw [← eS]; constructor <;> simp [go_sem]
    · rw [← eS]; constructor <;> simp [go_sem]
    · rw [← eS]; simp [go_sem]
    · intro p hp
      have hs : IsSeat (w.alloc (Obj.cells M 173)) w.heap.size (p * 10) 0 false tk0 := by
        obtain ⟨a0, a1, a2, a3, a4, a5⟩ := HC.out p hp
        refine ⟨⟨0, 0, 0, ?_⟩, ⟨_, fun j hj => (made_cell _ _ _ _).trans (a5 j hj), fun _ => rfl⟩, fun j => made_frozen _ _ _ _⟩
        exact ⟨(made_cell _ _ _ _).trans a0, (made_cell _ _ _ _).trans a1, (made_cell _ _ _ _).trans a2, (made_cell _ _ _ _).trans a3, (made_cell _ _ _ _).trans a4, made_frozen _ _ _ _, made_frozen _ _ _ _, made_frozen _ _ _ _⟩
      simpa using hs.kept cA (fun e => e)
  generalize (w.alloc (Obj.cells M 173)).alloc (Obj.cells #[.int .u64 0, .int .i64 0, .int .i64 0, .int .i64 0, .int .u64 0, .int .i64 0, .int .i64 0, .int .i64 0, .slice (some ⟨w.heap.size, 0, none⟩) n n] 164) = w2 at hN ⊢
  clear HC
  have hbs : w.heap.size + 1 ≠ w.heap.size := by omega
  obtain ⟨b, hb⟩ : ∃ b, w.heap.size + 1 = b := ⟨_, rfl⟩
  have HB := Lib.hid hb
  rw [hb] at hN hbs ⊢
  clear hb
  obtain ⟨sb, hsb⟩ : ∃ sb, w.heap.size = sb := ⟨_, rfl⟩
  have HSB := Lib.hid hsb
  rw [hsb] at hN hbs ⊢
  clear hsb
  go_loopw [21] (fun i wr => ∃ k : Nat, k ≤ n ∧ i = .int .i64 k ∧ NewIn w wr b sb n k) (fun i _ => n - (intOf i).toNat)
  case atStart => exact ⟨0, Nat.zero_le _, rfl, hN⟩
  case round =>
    obtain ⟨k, hk, rfl, hR⟩ := hrel
    clear hN
    have HR := Lib.hid hR
    clear hR
    by_cases hlt : k < n
    · have hse := HR.out.seats
      have e1 : ((k : Int)).toNat = k := by omega
      go_wp2_with fail
      clear hse
      refine (storeM_at sb (k * 10) _ (k : Int) false false _ (HR.out.seat k hlt).m).mono ?_
      rintro e w3 ⟨rfl, m3, c3⟩
      have M3 := Lib.hid m3
      have C3 := Lib.hid c3
      clear m3 c3
      go_wp2
      go_roundw
      case rel =>
        have c := C3.out
        refine ⟨k + 1, by omega, by go_num, HR.out.next.kept c.ch hbs, HR.out.first.kept c.ch hbs, c.ch.keeps HR.out.seats hbs, ?_, ?_⟩
        · intro p hp
          by_cases e : p = k
          · subst e
            obtain ⟨z, hz, hv⟩ := (HR.out.seat p hp).z
            rw [if_pos (by omega)]
            exact ⟨M3.out, ⟨z, hz.far c (by omega), hv⟩, fun j => (c.fz _).trans ((HR.out.seat p hp).f j)⟩
          · have := (HR.out.seat p hp).far c (by omega)
            by_cases hpk : p < k
            · rw [if_pos hpk] at this; rw [if_pos (by omega)]; exact this
            · rw [if_neg hpk] at this; rw [if_neg (by omega)]; exact this
        · exact HR.out.ch.then c.ch (fun i hi e => by change i = sb at e; have := HSB.out; omega)
      case measure => simp [intOf]; omega
    · obtain rfl : k = n := by omega
      clear hlt
      go_wp2
      go_ret2
      rw [HB.out, HSB.out]
      refine ⟨rfl, ⟨HR.out.next, HR.out.first, HR.out.seats, ?_, hbs, n0, n1⟩, HR.out.ch⟩
      intro p h1 h2
      have := HR.out.seat p (by omega)
      rw [if_pos (by omega)] at this
      rw [Nat.mod_eq_of_lt (by omega)]
      exact this
end Go.Proofs.YtnbdafmjcmmfpaaGreat.RT
