/-
  The statements' example (alive) of package slab; objects side by side.
-/
import Derived.Test.YtkialefhjfoniaaSlabTry
namespace Go.Proofs.Ytkialefhjfoniaa
open Go.RowKit Verge
attribute [local go_sem] Oper.semAt_some
set_option linter.unusedVariables false
set_option linter.unusedSimpArgs false

section
variable {w w' : World} {q q2 b rb n cnt cnt' : Nat} {R R' : Nat → Rec} {r r' : Rq}
/-- another request, when one has stepped -/
theorem SQ.other (h : SQ w q2 b rb n cnt R r) (k : IsS w' b rb n cnt' R') (c : Ch (Tri q b rb) w w') (hq : q2 ≠ q) : SQ w' q2 b rb n cnt' R' r :=
  ⟨k, h.rq.kept c (fun e => by rcases e with e | e | e; exact hq e; exact h.nb e; exact h.nr e), h.nb, h.nr⟩
/-- a request, when the slab has turned -/
theorem SQ.slab1 (h : SQ w q b rb n cnt R r) (hs : IsS w' b rb n cnt' R') (c : Ch (One rb) w w') : SQ w' q b rb n cnt' R' r := h.slab hs (Ch_two2 c)
theorem SQ.slab0 (h : SQ w q b rb n cnt R r) (hs : IsS w' b rb n cnt' R') (c : Ch (One b) w w') : SQ w' q b rb n cnt' R' r := h.slab hs (Ch_two1 c)
end
theorem new_of (n : Nat) (w : World) (n0 : 0 < n) (n1 : n ≤ 64) :
    Calls Try.prog 47 #[.int .i64 n] w fun e w' => ∃ b rb, e = .returned (.tuple #[.pointer (some ⟨b, 0, none⟩), .int .i64 0]) ∧ w.heap.size ≤ b ∧ w.heap.size ≤ rb ∧ IsS w' b rb n 0 zeroR ∧ Ch Nil w w' :=
  (new_in n w n0 n1).mono fun e w' ⟨he, h, c⟩ => ⟨_, _, he, by omega, by omega, h, c⟩
/-- a request that has just begun -/
theorem begin_sq {b rb n cnt : Nat} {R : Nat → Rec} {w : World} (pd : Nat) (h : IsS w b rb n cnt R) :
    Calls Try.prog 36 #[.pointer (some ⟨b, 0, none⟩), .int .u64 (pd : Nat)] w fun e w' => ∃ q, e = .returned (.pointer (some ⟨q, 0, none⟩)) ∧ w.heap.size ≤ q ∧ SQ w' q b rb n cnt R ⟨pd, 0, 0, 0, 0, 0⟩ ∧ Ch Nil w w' ∧ q < w'.heap.size :=
  (begin_of pd h).mono fun e w' ⟨q, he, hq, k, s, c, z⟩ => ⟨q, he, by omega, ⟨s, k, by have := h.lt; omega, by have := h.lt2; omega⟩, c, by omega⟩
def R64 : Nat → Rec := upR zeroR 0 ⟨257, 1, 0⟩
def R65 : Nat → Rec := upR R64 0 ⟨256, 1, 0⟩
theorem al1 {w : World} {q b rb : Nat} (h : SQ w q b rb 1 0 zeroR ⟨0, 0, 0, 0, 0, 0⟩) :
    Calls Try.prog 37 #[.pointer (some ⟨q, 0, none⟩)] w fun e w' => e = .returned (.int .i64 0) ∧ SQ w' q b rb 1 0 zeroR ⟨0, 1, 0, 0, 0, 0⟩ ∧ Ch (Tri q b rb) w w' := by
  have X := step_look h rfl rfl (by decide); exact X
theorem al2 {w : World} {q b rb : Nat} (h : SQ w q b rb 1 0 zeroR ⟨0, 1, 0, 0, 0, 0⟩) :
    Calls Try.prog 37 #[.pointer (some ⟨q, 0, none⟩)] w fun e w' => e = .returned (.int .i64 0) ∧ SQ w' q b rb 1 1 zeroR ⟨0, 2, 0, 0, 0, 0⟩ ∧ Ch (Tri q b rb) w w' := by
  have X := step_claim h rfl rfl (by decide) rfl; exact X
theorem al3 {w : World} {q b rb : Nat} (h : SQ w q b rb 1 1 zeroR ⟨0, 2, 0, 0, 0, 0⟩) :
    Calls Try.prog 37 #[.pointer (some ⟨q, 0, none⟩)] w fun e w' => e = .returned (.int .i64 2) ∧ SQ w' q b rb 1 1 R64 ⟨0, 2, 2, 0, 0, 64⟩ ∧ Ch (Tri q b rb) w w' := by
  have e1 : nxW (zeroR 0).wd 1 ((0 : Nat) != 0) = (257, 0) := by decide
  have h6 := step_hold h rfl rfl (by decide) (by decide) (by show (nxW (zeroR 0).wd 1 ((0 : Nat) != 0)).2 = 0; rw [e1]) (by decide)
  dsimp only at h6
  rw [e1] at h6
  exact h6
theorem al4 {w : World} {q b rb : Nat} (h : SQ w q b rb 1 1 R64 ⟨0, 0, 0, 0, 0, 0⟩) :
    Calls Try.prog 37 #[.pointer (some ⟨q, 0, none⟩)] w fun e w' => e = .returned (.int .i64 1) ∧ SQ w' q b rb 1 1 R64 ⟨0, 0, 1, 1, 0, 0⟩ ∧ Ch (Tri q b rb) w w' := by
  have X := step_full h rfl rfl rfl; exact X
theorem al5 {w : World} {b rb : Nat} (h : IsS w b rb 1 1 R64) :
    Calls Try.prog 39 #[.pointer (some ⟨b, 0, none⟩), .int .i64 0, .int .u64 257, .int .i64 9] w fun e w' => e = .returned (.tuple #[.int .u64 256, .int .i64 0]) ∧ IsS w' b rb 1 1 R65 ∧ Ch (One rb) w w' := by
  have e2 : nxZ 257 9 ((R64 0).pd != 0) = (256, 0) := by decide
  have h9 := try_go 0 257 9 h (by decide) (by decide) (by rw [e2]) rfl
  rw [e2] at h9
  exact h9
theorem al6 (w : World) : Calls Try.prog 40 #[.int .u64 256] w fun e w' => e = .returned (.int .i64 0) ∧ w = w' := by
  have h := state_any 256 (by decide) w
  rwa [show okW 256 = true from by decide, if_pos rfl] at h
theorem al7 {w : World} {b rb : Nat} (h : IsS w b rb 1 1 R65) :
    Calls Try.prog 41 #[.pointer (some ⟨b, 0, none⟩)] w fun e w' => e = .returned (.int .i64 0) ∧ IsS w' b rb 1 0 R65 ∧ Ch (One b) w w' := drop_of h (by decide)
theorem al8 {w : World} {q b rb : Nat} (h : SQ w q b rb 1 1 R64 ⟨0, 2, 2, 0, 0, 64⟩) :
    Calls Try.prog 38 #[.pointer (some ⟨q, 0, none⟩)] w fun e w' => e = .returned (.tuple #[.int .u64 64, .int .i64 0]) ∧ w = w' := id_of h.rq
theorem al9 {w : World} {b rb : Nat} (h : IsS w b rb 1 1 R64) :
    Calls Try.prog 21 #[.pointer (some ⟨b, 0, none⟩), .int .i64 0] w fun e w' => e = .returned (.tuple #[.int .u64 257, .int .i64 0]) ∧ IsS w' b rb 1 1 R64 ∧ Ch (One rb) w w' := word_in 0 h (by decide)
end Go.Proofs.Ytkialefhjfoniaa
