/-
  The statements' example (alive) of package slab; objects side by side.
-/
import Derived.Test.YtjhmmfdmoalfmaaSlabTry
namespace Go.Proofs.Ytjhmmfdmoalfmaa
open Go.RowKit Verge
attribute [local go_sem] Oper.semAt_some
set_option linter.unusedVariables false
set_option linter.unusedSimpArgs false

section
variable {w w' : World} {q q2 b rb n cnt cnt' : Nat} {R R' : Nat → Rec} {r r' : Rq}
/-- another request, when one has stepped -/
theorem SQ.other (h : SQ w q2 b rb n cnt R r) (k : IsS w' b rb n cnt' R') (c : Ch (Tri q b rb) w w') (hq : q2 ≠ q) : SQ w' q2 b rb n cnt' R' r :=
  ⟨k, h.rq.kept c (fun e => by rcases e with e | e | e; exact hq e; exact h.nb e; exact h.nr e), h.nb, h.nr⟩
/-- a request, when the slab has turned -/
theorem SQ.slab1 (h : SQ w q b rb n cnt R r) (hs : IsS w' b rb n cnt' R') (c : Ch (One rb) w w') : SQ w' q b rb n cnt' R' r := h.slab hs (Ch_two2 c)
theorem SQ.slab0 (h : SQ w q b rb n cnt R r) (hs : IsS w' b rb n cnt' R') (c : Ch (One b) w w') : SQ w' q b rb n cnt' R' r := h.slab hs (Ch_two1 c)
end
theorem new_of (n : Nat) (w : World) (n0 : 0 < n) (n1 : n ≤ 64) :
    Calls Try.prog 10 #[.int .i64 n] w fun e w' => ∃ b rb, e = .returned (.tuple #[.pointer (some ⟨b, 0, none⟩), .int .i64 0]) ∧ w.heap.size ≤ b ∧ w.heap.size ≤ rb ∧ IsS w' b rb n 0 zeroR ∧ Ch Nil w w' :=
  (new_in n w n0 n1).mono fun e w' ⟨he, h, c⟩ => ⟨_, _, he, by omega, by omega, h, c⟩
/-- a request that has just begun -/
theorem begin_sq {b rb n cnt : Nat} {R : Nat → Rec} {w : World} (pd : Nat) (h : IsS w b rb n cnt R) :
    Calls Try.prog 12 #[.pointer (some ⟨b, 0, none⟩), .int .u64 (pd : Nat)] w fun e w' => ∃ q, e = .returned (.pointer (some ⟨q, 0, none⟩)) ∧ w.heap.size ≤ q ∧ SQ w' q b rb n cnt R ⟨pd, 0, 0, 0, 0, 0⟩ ∧ Ch Nil w w' ∧ q < w'.heap.size :=
  (begin_of pd h).mono fun e w' ⟨q, he, hq, k, s, c, z⟩ => ⟨q, he, by omega, ⟨s, k, by have := h.lt; omega, by have := h.lt2; omega⟩, c, by omega⟩
def R64 : Nat → Rec := upR zeroR 0 ⟨257, 1, 0⟩
def R65 : Nat → Rec := upR R64 0 ⟨256, 1, 0⟩
theorem al1 {w : World} {q b rb : Nat} (h : SQ w q b rb 1 0 zeroR ⟨0, 0, 0, 0, 0, 0⟩) :
    Calls Try.prog 14 #[.pointer (some ⟨q, 0, none⟩)] w fun e w' => e = .returned (.int .i64 0) ∧ SQ w' q b rb 1 0 zeroR ⟨0, 1, 0, 0, 0, 0⟩ ∧ Ch (Tri q b rb) w w' := by
  have X := step_look h rfl rfl (by decide); exact X
theorem al2 {w : World} {q b rb : Nat} (h : SQ w q b rb 1 0 zeroR ⟨0, 1, 0, 0, 0, 0⟩) :
    Calls Try.prog 14 #[.pointer (some ⟨q, 0, none⟩)] w fun e w' => e = .returned (.int .i64 0) ∧ SQ w' q b rb 1 1 zeroR ⟨0, 2, 0, 0, 0, 0⟩ ∧ Ch (Tri q b rb) w w' := by
  have X := step_claim h rfl rfl (by decide) rfl; exact X
theorem al3 {w : World} {q b rb : Nat} (h : SQ w q b rb 1 1 zeroR ⟨0, 2, 0, 0, 0, 0⟩) :
    Calls Try.prog 14 #[.pointer (some ⟨q, 0, none⟩)] w fun e w' => e = .returned (.int .i64 2) ∧ SQ w' q b rb 1 1 R64 ⟨0, 2, 2, 0, 0, 64⟩ ∧ Ch (Tri q b rb) w w' := by
  have e1 : nxW (zeroR 0).wd 1 ((0 : Nat) != 0) = (257, 0) := by decide
  have h6 := step_hold h rfl rfl (by decide) (by decide) (by show (nxW (zeroR 0).wd 1 ((0 : Nat) != 0)).2 = 0; rw [e1]) (by decide)
  dsimp only at h6
  rw [e1] at h6
  exact h6
theorem al4 {w : World} {q b rb : Nat} (h : SQ w q b rb 1 1 R64 ⟨0, 0, 0, 0, 0, 0⟩) :
    Calls Try.prog 14 #[.pointer (some ⟨q, 0, none⟩)] w fun e w' => e = .returned (.int .i64 1) ∧ SQ w' q b rb 1 1 R64 ⟨0, 0, 1, 1, 0, 0⟩ ∧ Ch (Tri q b rb) w w' := by
  have X := step_full h rfl rfl rfl; exact X
theorem al5 {w : World} {b rb : Nat} (h : IsS w b rb 1 1 R64) :
    Calls Try.prog 16 #[.pointer (some ⟨b, 0, none⟩), .int .i64 0, .int .u64 257, .int .i64 9] w fun e w' => e = .returned (.tuple #[.int .u64 256, .int .i64 0]) ∧ IsS w' b rb 1 1 R65 ∧ Ch (One rb) w w' := by
  have e2 : nxZ 257 9 ((R64 0).pd != 0) = (256, 0) := by decide
  have h9 := try_go 0 257 9 h (by decide) (by decide) (by rw [e2]) rfl
  rw [e2] at h9
  exact h9
theorem al6 (w : World) : Calls Try.prog 24 #[.int .u64 256] w fun e w' => e = .returned (.int .i64 0) ∧ w = w' := by
  have h := state_any 256 (by decide) w
  rwa [show okW 256 = true from by decide, if_pos rfl] at h
theorem al7 {w : World} {b rb : Nat} (h : IsS w b rb 1 1 R65) :
    Calls Try.prog 18 #[.pointer (some ⟨b, 0, none⟩)] w fun e w' => e = .returned (.int .i64 0) ∧ IsS w' b rb 1 0 R65 ∧ Ch (One b) w w' := drop_of h (by decide)
theorem al8 {w : World} {q b rb : Nat} (h : SQ w q b rb 1 1 R64 ⟨0, 2, 2, 0, 0, 64⟩) :
    Calls Try.prog 15 #[.pointer (some ⟨q, 0, none⟩)] w fun e w' => e = .returned (.tuple #[.int .u64 64, .int .i64 0]) ∧ w = w' := id_of h.rq
theorem al9 {w : World} {b rb : Nat} (h : IsS w b rb 1 1 R64) :
    Calls Try.prog 23 #[.pointer (some ⟨b, 0, none⟩), .int .i64 0] w fun e w' => e = .returned (.tuple #[.int .u64 257, .int .i64 0]) ∧ IsS w' b rb 1 1 R64 ∧ Ch (One rb) w w' := word_in 0 h (by decide)
set_option maxRecDepth 100000 in
set_option maxHeartbeats 4000000 in
theorem alive_any (w : World) :
    Calls Try.prog 9 #[] w fun e w' => e = .returned (.bool true) ∧ Ch Nil w w' := by
  go_enter Try.func9, Try.ntmps9
  go_wp2_with fail
  refine (new_of 1 _ (by decide) (by decide)).mono ?_
  rintro e w1 ⟨b, rb, rfl, hb, hr, s1, c1⟩
  have S1 := Lib.hid s1
  clear s1
  go_wp2_with fail
  refine (begin_sq 0 S1.out).mono ?_
  rintro e w2 ⟨q, rfl, hq, k2, c2, z2⟩
  have K2 := Lib.hid k2
  have HQ : Hid (w.heap.size ≤ q) := Lib.hid (by have := c1.size; omega)
  clear k2 S1
  go_wp2_with fail
  refine (begin_sq 0 K2.out.s).mono ?_
  rintro e w3 ⟨p, rfl, hp, k3, c3, z3⟩
  have P3 := Lib.hid k3
  have K3 := Lib.hid (K2.out.quiet c3)
  have HP : Hid (w.heap.size ≤ p) := Lib.hid (by have := c1.size; have := c2.size; omega)
  have PQ : Hid (p ≠ q) := Lib.hid (by omega)
  have C3 : Hid (Ch Nil w w3) := Lib.hid ((c1.trans c2).trans c3)
  clear k3 K2 hq hp z2 z3 c1 c2 c3
  have HB := Lib.hid hb
  have HR := Lib.hid hr
  clear hb hr
  have up : Hid (∀ i, i < w.heap.size → Tri q b rb i → False) := Lib.hid (fun i hi e => by have := HQ.out; have := HB.out; have := HR.out; rcases e with e | e | e <;> omega)
  have up2 : Hid (∀ i, i < w.heap.size → Tri p b rb i → False) := Lib.hid (fun i hi e => by have := HP.out; have := HB.out; have := HR.out; rcases e with e | e | e <;> omega)
  go_wp2_with fail
  refine (al1 K3.out).mono ?_
  rintro e w4 ⟨rfl, k4, c4⟩
  have K4 := Lib.hid k4
  have P4 := Lib.hid (P3.out.other k4.s c4 PQ.out)
  have C4 := Lib.hid (C3.out.then c4 up.out)
  clear k4 c4 K3 P3 C3
  go_wp2_with fail
  refine (al2 K4.out).mono ?_
  rintro e w5 ⟨rfl, k5, c5⟩
  have K5 := Lib.hid k5
  have P5 := Lib.hid (P4.out.other k5.s c5 PQ.out)
  have C5 := Lib.hid (C4.out.then c5 up.out)
  clear k5 c5 K4 P4 C4
  go_wp2_with fail
  refine (al3 K5.out).mono ?_
  rintro e w6 ⟨rfl, k6, c6⟩
  have K6 := Lib.hid k6
  have P6 := Lib.hid (P5.out.other k6.s c6 PQ.out)
  have C6 := Lib.hid (C5.out.then c6 up.out)
  clear k6 c6 K5 P5 C5
  go_wp2_with fail
  refine (al4 P6.out).mono ?_
  rintro e w7 ⟨rfl, k7, c7⟩
  have K7 := Lib.hid (K6.out.other k7.s c7 PQ.out.symm)
  have C7 := Lib.hid (C6.out.then c7 up2.out)
  clear k7 c7 K6 P6 C6
  go_wp2_with fail
  refine (al8 K7.out).mono ?_
  rintro e w8 ⟨rfl, rfl⟩
  go_wp2_with fail
  refine (al9 K7.out.s).mono ?_
  rintro e w8 ⟨rfl, s8, c8⟩
  have S8 := Lib.hid s8
  have C8 := Lib.hid (C7.out.then c8 (fun i hi e => up.out i hi (.inr (.inr e))))
  clear s8 c8 K7 C7
  go_wp2_with fail
  refine (al5 S8.out).mono ?_
  rintro e w9 ⟨rfl, s9, c9⟩
  have S9 := Lib.hid s9
  have C9 := Lib.hid (C8.out.then c9 (fun i hi e => up.out i hi (.inr (.inr e))))
  clear s9 c9 S8 C8
  go_wp2_with fail
  refine (al6 _).mono ?_
  rintro e w10 ⟨rfl, rfl⟩
  go_wp2_with fail
  refine (al7 S9.out).mono ?_
  rintro e w10 ⟨rfl, s10, c10⟩
  have S10 := Lib.hid s10
  have C10 := Lib.hid (C9.out.then c10 (fun i hi e => up.out i hi (.inr (.inl e))))
  clear s10 c10 S9 C9
  go_wp2_with fail
  refine (count_of S10.out).mono ?_
  rintro e w11 ⟨rfl, s11, c11⟩
  have C11 := Lib.hid (C10.out.then c11 (fun i hi e => up.out i hi (.inr (.inl e))))
  clear s11 c11 S10 C10
  go_wp2
  go_ret
  exact ⟨rfl, C11.out⟩
end Go.Proofs.Ytjhmmfdmoalfmaa
