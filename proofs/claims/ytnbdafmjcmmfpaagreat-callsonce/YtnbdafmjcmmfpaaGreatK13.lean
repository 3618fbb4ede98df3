import Derived.Test.YtnbdafmjcmmfpaaGreatK12
/-
  Contracts of package slab: a request's step, whichever it is.
-/
namespace Go.Proofs.YtnbdafmjcmmfpaaGreat
open Go.RowKit Verge
attribute [local go_sem] Oper.semAt_some
set_option linter.unusedVariables false
set_option linter.unusedSimpArgs false
theorem run_store_fn (P : Program) (w : World) (a : Addr) (m : Mode) (f : Fn) (xs cs : Array Value) : (store a (.func f xs cs) m).run P w = stored P w a (.func f xs cs) m := run_store P w a _ m rfl
attribute [local go_sem] run_store_fn
theorem step_nil (w : World) :
    Calls Tryz.prog 112 #[.pointer none] w fun e w' => e = .returned (.int .i64 1) ∧ w = w' := by
  go_enter Tryz.func112, Tryz.ntmps112
  go_wp2
  go_ret
  exact ⟨rfl, rfl⟩
theorem step_idle {q b rb n cnt : Nat} {R : Nat → Rec} {r : Rq} {w : World} (h : SQ w q b rb n cnt R r) (hs : r.ss ≠ 0) :
    Calls Tryz.prog 112 #[.pointer (some ⟨q, 0, none⟩)] w fun e w' => e = .returned (.int .i64 (r.ss : Nat)) ∧ w = w' := by
  have n0 := h.s.n0
  have hse := h.s.recs
  have q0 := h.rq.c0
  have q3 := h.rq.c3
  obtain ⟨su, hsu⟩ : ∃ su, su = r.ss := ⟨_, rfl⟩
  rw [← hsu] at hs q3 ⊢
  have d1 : ((su : Int) == 0) = false := by rw [beq_eq_false_iff_ne]; omega
  clear h hsu hs
  go_enter Tryz.func112, Tryz.ntmps112
  go_wp2_with fail
  refine (roomless_no b rb n _ hse n0).mono ?_
  rintro e w1 ⟨rfl, rfl⟩
  go_wp2
  go_ret
  exact ⟨rfl, rfl⟩
set_option maxHeartbeats 1600000 in
theorem step_full {q b rb n cnt : Nat} {R : Nat → Rec} {r : Rq} {w : World} (h : SQ w q b rb n cnt R r) (h0 : r.ss = 0) (h1 : r.st = 0) (he : cnt = n) :
    Calls Tryz.prog 112 #[.pointer (some ⟨q, 0, none⟩)] w fun e w' => e = .returned (.int .i64 (1 : Nat)) ∧ SQ w' q b rb n cnt R { r with seen := cnt, ss := 1 } ∧ Ch (Tri q b rb) w w' := by
  have n0 := h.s.n0
  have hse := h.s.recs
  have q0 := h.rq.c0
  have q2 := h.rq.c2
  have q3 := h.rq.c3
  rw [h0] at q3
  rw [h1] at q2
  replace q2 : w.cell? ⟨q, 2, none⟩ = some (.int .i64 0) := q2
  replace q3 : w.cell? ⟨q, 3, none⟩ = some (.int .i64 0) := q3
  have H := Lib.hid h
  have H0 := Lib.hid h0
  have H1 := Lib.hid h1
  have HE := Lib.hid he
  clear he
  have hql := h.rq.lt
  have hqB : ¬ w.heap.size = q := by omega
  clear h h0 h1
  have cA : Ch Nil w (w.alloc (Obj.cells #[Value.func (Fn.func 133) #[] #[], Value.func (Fn.func 134) #[] #[], Value.func (Fn.func 135) #[] #[]] 241)) := (Ch.refl _ _).alloc _
  have HA := Lib.hid (H.out.quiet cA)
  have CA : Hid (Ch (Tri q b rb) w (w.alloc (Obj.cells #[Value.func (Fn.func 133) #[] #[], Value.func (Fn.func 134) #[] #[], Value.func (Fn.func 135) #[] #[]] 241))) := Lib.hid (Ch_any cA)
  clear cA
  go_enter Tryz.func112, Tryz.ntmps112
  go_wp2_with fail
  refine (roomless_no b rb n _ hse n0).mono ?_
  rintro e w1 ⟨rfl, rfl⟩
  clear hse
  go_wp2_with fail
  clear q0 q2 q3
  generalize w.alloc (Obj.cells #[Value.func (Fn.func 133) #[] #[], Value.func (Fn.func 134) #[] #[], Value.func (Fn.func 135) #[] #[]] 241) = wa at HA CA ⊢
  refine (lookCount_full HA.out HE.out).mono ?_
  rintro e w2 ⟨rfl, k2, c2⟩
  have K2 := Lib.hid k2
  have q3 := k2.rq.c3
  dsimp only at q3
  clear k2
  go_wp2
  go_ret
  exact ⟨rfl, K2.out, CA.out.trans c2⟩
set_option maxHeartbeats 1600000 in
theorem step_look {q b rb n cnt : Nat} {R : Nat → Rec} {r : Rq} {w : World} (h : SQ w q b rb n cnt R r) (h0 : r.ss = 0) (h1 : r.st = 0) (he : cnt ≠ n) :
    Calls Tryz.prog 112 #[.pointer (some ⟨q, 0, none⟩)] w fun e w' => e = .returned (.int .i64 (r.ss : Nat)) ∧ SQ w' q b rb n cnt R { r with seen := cnt, st := 1 } ∧ Ch (Tri q b rb) w w' := by
  have n0 := h.s.n0
  have hse := h.s.recs
  have q0 := h.rq.c0
  have q2 := h.rq.c2
  have q3 := h.rq.c3
  rw [h0] at q3
  rw [h1] at q2
  replace q2 : w.cell? ⟨q, 2, none⟩ = some (.int .i64 0) := q2
  replace q3 : w.cell? ⟨q, 3, none⟩ = some (.int .i64 0) := q3
  have H := Lib.hid h
  have H0 := Lib.hid h0
  have H1 := Lib.hid h1
  have HE := Lib.hid he
  clear he
  have hql := h.rq.lt
  have hqB : ¬ w.heap.size = q := by omega
  clear h h0 h1
  have cA : Ch Nil w (w.alloc (Obj.cells #[Value.func (Fn.func 133) #[] #[], Value.func (Fn.func 134) #[] #[], Value.func (Fn.func 135) #[] #[]] 241)) := (Ch.refl _ _).alloc _
  have HA := Lib.hid (H.out.quiet cA)
  have CA : Hid (Ch (Tri q b rb) w (w.alloc (Obj.cells #[Value.func (Fn.func 133) #[] #[], Value.func (Fn.func 134) #[] #[], Value.func (Fn.func 135) #[] #[]] 241))) := Lib.hid (Ch_any cA)
  clear cA
  go_enter Tryz.func112, Tryz.ntmps112
  go_wp2_with fail
  refine (roomless_no b rb n _ hse n0).mono ?_
  rintro e w1 ⟨rfl, rfl⟩
  clear hse
  go_wp2_with fail
  clear q0 q2 q3
  generalize w.alloc (Obj.cells #[Value.func (Fn.func 133) #[] #[], Value.func (Fn.func 134) #[] #[], Value.func (Fn.func 135) #[] #[]] 241) = wa at HA CA ⊢
  refine (lookCount_go HA.out HE.out).mono ?_
  rintro e w2 ⟨rfl, k2, c2⟩
  have K2 := Lib.hid k2
  have q3 := k2.rq.c3
  dsimp only at q3
  rw [H0.out] at q3
  replace q3 : w2.cell? ⟨q, 3, none⟩ = some (.int .i64 0) := q3
  clear k2
  go_wp2
  go_ret
  refine ⟨?_, K2.out, CA.out.trans c2⟩
  rw [H0.out]
  rfl
set_option maxHeartbeats 1600000 in
theorem step_claim {q b rb n cnt : Nat} {R : Nat → Rec} {r : Rq} {w : World} (h : SQ w q b rb n cnt R r) (h0 : r.ss = 0) (h1 : r.st = 1) (hs : r.seen ≤ 64) (he : cnt = r.seen) :
    Calls Tryz.prog 112 #[.pointer (some ⟨q, 0, none⟩)] w fun e w' => e = .returned (.int .i64 (r.ss : Nat)) ∧ SQ w' q b rb n (cnt + 1) R { r with st := 2 } ∧ Ch (Tri q b rb) w w' := by
  have n0 := h.s.n0
  have hse := h.s.recs
  have q0 := h.rq.c0
  have q2 := h.rq.c2
  have q3 := h.rq.c3
  rw [h0] at q3
  rw [h1] at q2
  replace q2 : w.cell? ⟨q, 2, none⟩ = some (.int .i64 1) := q2
  replace q3 : w.cell? ⟨q, 3, none⟩ = some (.int .i64 0) := q3
  have H := Lib.hid h
  have H0 := Lib.hid h0
  have H1 := Lib.hid h1
  have HE := Lib.hid he
  have HS := Lib.hid hs
  clear he hs
  have hql := h.rq.lt
  have hqB : ¬ w.heap.size = q := by omega
  clear h h0 h1
  have cA : Ch Nil w (w.alloc (Obj.cells #[Value.func (Fn.func 133) #[] #[], Value.func (Fn.func 134) #[] #[], Value.func (Fn.func 135) #[] #[]] 241)) := (Ch.refl _ _).alloc _
  have HA := Lib.hid (H.out.quiet cA)
  have CA : Hid (Ch (Tri q b rb) w (w.alloc (Obj.cells #[Value.func (Fn.func 133) #[] #[], Value.func (Fn.func 134) #[] #[], Value.func (Fn.func 135) #[] #[]] 241))) := Lib.hid (Ch_any cA)
  clear cA
  go_enter Tryz.func112, Tryz.ntmps112
  go_wp2_with fail
  refine (roomless_no b rb n _ hse n0).mono ?_
  rintro e w1 ⟨rfl, rfl⟩
  clear hse
  go_wp2_with fail
  clear q0 q2 q3
  generalize w.alloc (Obj.cells #[Value.func (Fn.func 133) #[] #[], Value.func (Fn.func 134) #[] #[], Value.func (Fn.func 135) #[] #[]] 241) = wa at HA CA ⊢
  refine (claim_yes HA.out HS.out HE.out).mono ?_
  rintro e w2 ⟨rfl, k2, c2⟩
  have K2 := Lib.hid k2
  have q3 := k2.rq.c3
  dsimp only at q3
  rw [H0.out] at q3
  replace q3 : w2.cell? ⟨q, 3, none⟩ = some (.int .i64 0) := q3
  clear k2
  go_wp2
  go_ret
  refine ⟨?_, K2.out, CA.out.trans c2⟩
  rw [H0.out]
  rfl
set_option maxHeartbeats 1600000 in
theorem step_miss {q b rb n cnt : Nat} {R : Nat → Rec} {r : Rq} {w : World} (h : SQ w q b rb n cnt R r) (h0 : r.ss = 0) (h1 : r.st = 1) (hs : r.seen ≤ 64) (he : cnt ≠ r.seen) :
    Calls Tryz.prog 112 #[.pointer (some ⟨q, 0, none⟩)] w fun e w' => e = .returned (.int .i64 (r.ss : Nat)) ∧ SQ w' q b rb n cnt R { r with st := 0 } ∧ Ch (Tri q b rb) w w' := by
  have n0 := h.s.n0
  have hse := h.s.recs
  have q0 := h.rq.c0
  have q2 := h.rq.c2
  have q3 := h.rq.c3
  rw [h0] at q3
  rw [h1] at q2
  replace q2 : w.cell? ⟨q, 2, none⟩ = some (.int .i64 1) := q2
  replace q3 : w.cell? ⟨q, 3, none⟩ = some (.int .i64 0) := q3
  have H := Lib.hid h
  have H0 := Lib.hid h0
  have H1 := Lib.hid h1
  have HE := Lib.hid he
  have HS := Lib.hid hs
  clear he hs
  have hql := h.rq.lt
  have hqB : ¬ w.heap.size = q := by omega
  clear h h0 h1
  have cA : Ch Nil w (w.alloc (Obj.cells #[Value.func (Fn.func 133) #[] #[], Value.func (Fn.func 134) #[] #[], Value.func (Fn.func 135) #[] #[]] 241)) := (Ch.refl _ _).alloc _
  have HA := Lib.hid (H.out.quiet cA)
  have CA : Hid (Ch (Tri q b rb) w (w.alloc (Obj.cells #[Value.func (Fn.func 133) #[] #[], Value.func (Fn.func 134) #[] #[], Value.func (Fn.func 135) #[] #[]] 241))) := Lib.hid (Ch_any cA)
  clear cA
  go_enter Tryz.func112, Tryz.ntmps112
  go_wp2_with fail
  refine (roomless_no b rb n _ hse n0).mono ?_
  rintro e w1 ⟨rfl, rfl⟩
  clear hse
  go_wp2_with fail
  clear q0 q2 q3
  generalize w.alloc (Obj.cells #[Value.func (Fn.func 133) #[] #[], Value.func (Fn.func 134) #[] #[], Value.func (Fn.func 135) #[] #[]] 241) = wa at HA CA ⊢
  refine (claim_no HA.out HS.out HE.out).mono ?_
  rintro e w2 ⟨rfl, k2, c2⟩
  have K2 := Lib.hid k2
  have q3 := k2.rq.c3
  dsimp only at q3
  rw [H0.out] at q3
  replace q3 : w2.cell? ⟨q, 3, none⟩ = some (.int .i64 0) := q3
  clear k2
  go_wp2
  go_ret
  refine ⟨?_, K2.out, CA.out.trans c2⟩
  rw [H0.out]
  rfl
set_option maxHeartbeats 1600000 in
theorem step_busy {q b rb n cnt : Nat} {R : Nat → Rec} {r : Rq} {w : World} (h : SQ w q b rb n cnt R r) (h0 : r.ss = 0) (h1 : r.st = 2) (hk : r.slot < n) (hw : (R r.slot).wd < 18446744073709551616) (he : ¬ (nxW (R r.slot).wd 1 (r.pd != 0)).2 = 0) :
    Calls Tryz.prog 112 #[.pointer (some ⟨q, 0, none⟩)] w fun e w' => e = .returned (.int .i64 (r.ss : Nat)) ∧ SQ w' q b rb n cnt R { r with slot := (r.slot + 1) % n } ∧ Ch (Tri q b rb) w w' := by
  have n0 := h.s.n0
  have hse := h.s.recs
  have q0 := h.rq.c0
  have q2 := h.rq.c2
  have q3 := h.rq.c3
  rw [h0] at q3
  rw [h1] at q2
  replace q2 : w.cell? ⟨q, 2, none⟩ = some (.int .i64 2) := q2
  replace q3 : w.cell? ⟨q, 3, none⟩ = some (.int .i64 0) := q3
  have H := Lib.hid h
  have H0 := Lib.hid h0
  have H1 := Lib.hid h1
  have HE := Lib.hid he
  have HS := Lib.hid hk
  have HW := Lib.hid hw
  clear he hk hw
  have hql := h.rq.lt
  have hqB : ¬ w.heap.size = q := by omega
  clear h h0 h1
  have cA : Ch Nil w (w.alloc (Obj.cells #[Value.func (Fn.func 133) #[] #[], Value.func (Fn.func 134) #[] #[], Value.func (Fn.func 135) #[] #[]] 241)) := (Ch.refl _ _).alloc _
  have HA := Lib.hid (H.out.quiet cA)
  have CA : Hid (Ch (Tri q b rb) w (w.alloc (Obj.cells #[Value.func (Fn.func 133) #[] #[], Value.func (Fn.func 134) #[] #[], Value.func (Fn.func 135) #[] #[]] 241))) := Lib.hid (Ch_any cA)
  clear cA
  go_enter Tryz.func112, Tryz.ntmps112
  go_wp2_with fail
  refine (roomless_no b rb n _ hse n0).mono ?_
  rintro e w1 ⟨rfl, rfl⟩
  clear hse
  go_wp2_with fail
  clear q0 q2 q3
  generalize w.alloc (Obj.cells #[Value.func (Fn.func 133) #[] #[], Value.func (Fn.func 134) #[] #[], Value.func (Fn.func 135) #[] #[]] 241) = wa at HA CA ⊢
  refine (lookSlot_no HA.out HS.out HW.out HE.out).mono ?_
  rintro e w2 ⟨rfl, k2, c2⟩
  have K2 := Lib.hid k2
  have q3 := k2.rq.c3
  dsimp only at q3
  rw [H0.out] at q3
  replace q3 : w2.cell? ⟨q, 3, none⟩ = some (.int .i64 0) := q3
  clear k2
  go_wp2
  go_ret
  refine ⟨?_, K2.out, CA.out.trans c2⟩
  rw [H0.out]
  rfl
set_option maxHeartbeats 1600000 in
theorem step_hold {q b rb n cnt : Nat} {R : Nat → Rec} {r : Rq} {w : World} (h : SQ w q b rb n cnt R r) (h0 : r.ss = 0) (h1 : r.st = 2) (hk : r.slot < n) (hw : (R r.slot).wd < 18446744073709551616) (he : (nxW (R r.slot).wd 1 (r.pd != 0)).2 = 0) (hg : (R r.slot).gv ≤ 900000) :
    Calls Tryz.prog 112 #[.pointer (some ⟨q, 0, none⟩)] w fun e w' => e = .returned (.int .i64 (2 : Nat)) ∧ SQ w' q b rb n cnt (upR R r.slot ⟨(nxW (R r.slot).wd 1 (r.pd != 0)).1, (R r.slot).gv + 1, r.pd⟩) { r with id := ((R r.slot).gv + 1) * 64 + r.slot, ss := 2 } ∧ Ch (Tri q b rb) w w' := by
  have n0 := h.s.n0
  have hse := h.s.recs
  have q0 := h.rq.c0
  have q2 := h.rq.c2
  have q3 := h.rq.c3
  rw [h0] at q3
  rw [h1] at q2
  replace q2 : w.cell? ⟨q, 2, none⟩ = some (.int .i64 2) := q2
  replace q3 : w.cell? ⟨q, 3, none⟩ = some (.int .i64 0) := q3
  have H := Lib.hid h
  have H0 := Lib.hid h0
  have H1 := Lib.hid h1
  have HE := Lib.hid he
  have HS := Lib.hid hk
  have HW := Lib.hid hw
  have HG := Lib.hid hg
  clear he hk hw hg
  have hql := h.rq.lt
  have hqB : ¬ w.heap.size = q := by omega
  clear h h0 h1
  have cA : Ch Nil w (w.alloc (Obj.cells #[Value.func (Fn.func 133) #[] #[], Value.func (Fn.func 134) #[] #[], Value.func (Fn.func 135) #[] #[]] 241)) := (Ch.refl _ _).alloc _
  have HA := Lib.hid (H.out.quiet cA)
  have CA : Hid (Ch (Tri q b rb) w (w.alloc (Obj.cells #[Value.func (Fn.func 133) #[] #[], Value.func (Fn.func 134) #[] #[], Value.func (Fn.func 135) #[] #[]] 241))) := Lib.hid (Ch_any cA)
  clear cA
  go_enter Tryz.func112, Tryz.ntmps112
  go_wp2_with fail
  refine (roomless_no b rb n _ hse n0).mono ?_
  rintro e w1 ⟨rfl, rfl⟩
  clear hse
  go_wp2_with fail
  clear q0 q2 q3
  generalize w.alloc (Obj.cells #[Value.func (Fn.func 133) #[] #[], Value.func (Fn.func 134) #[] #[], Value.func (Fn.func 135) #[] #[]] 241) = wa at HA CA ⊢
  refine (lookSlot_yes HA.out HS.out HW.out HE.out HG.out).mono ?_
  rintro e w2 ⟨rfl, k2, c2⟩
  have K2 := Lib.hid k2
  have q3 := k2.rq.c3
  dsimp only at q3
  clear k2
  go_wp2
  go_ret
  exact ⟨rfl, K2.out, CA.out.trans c2⟩
/-- a request's step -/
theorem step_any {q b rb n cnt : Nat} {R : Nat → Rec} {r : Rq} {w : World} (h : SQ w q b rb n cnt R r) (hst : r.st ≤ 2) (hs : r.seen ≤ 64) (hk : r.slot < n) (hw : ∀ k, k < n → (R k).wd < 18446744073709551616) (hg : ∀ k, k < n → (R k).gv ≤ 900000) :
    Calls Tryz.prog 112 #[.pointer (some ⟨q, 0, none⟩)] w fun e w' => e = .returned (.int .i64 ((stepM n cnt R r).2.2.ss : Nat)) ∧ SQ w' q b rb n (stepM n cnt R r).1 (stepM n cnt R r).2.1 (stepM n cnt R r).2.2 ∧ Ch (Tri q b rb) w w' := by
  unfold stepM
  by_cases a0 : r.ss ≠ 0
  · rw [if_pos a0]
    exact (step_idle h a0).mono fun e w' ⟨he, hw⟩ => by subst hw; exact ⟨he, h, Ch.refl _ _⟩
  · rw [if_neg a0]
    have a0 : r.ss = 0 := by omega
    by_cases a1 : r.st = 0
    · rw [if_pos a1]
      by_cases a2 : cnt = n
      · rw [if_pos a2]; have X := step_full h a0 a1 a2; exact X
      · rw [if_neg a2]; have X := step_look h a0 a1 a2; exact X
    · rw [if_neg a1]
      by_cases a2 : r.st = 1
      · rw [if_pos a2]
        by_cases a3 : cnt = r.seen
        · rw [if_pos a3]; have X := step_claim h a0 a2 hs a3; exact X
        · rw [if_neg a3]; have X := step_miss h a0 a2 hs a3; exact X
      · rw [if_neg a2]
        by_cases a3 : (nxW (R r.slot).wd 1 (r.pd != 0)).2 = 0
        · rw [if_pos a3]; have X := step_hold h a0 (by omega) hk (hw _ hk) a3 (hg _ hk); exact X
        · rw [if_neg a3]; have X := step_busy h a0 (by omega) hk (hw _ hk) a3; exact X
end Go.Proofs.YtnbdafmjcmmfpaaGreat
