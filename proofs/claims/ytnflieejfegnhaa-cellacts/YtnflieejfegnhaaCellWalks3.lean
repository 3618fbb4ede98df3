/-
  Contracts of the document's answer for cells (vergeref03).
-/
import Derived.Test.YtnflieejfegnhaaCellWalks2
namespace Go.Proofs.Ytnflieejfegnhaa
open Go.RowKit Verge
attribute [local go_sem] Oper.semAt_some
set_option linter.unusedVariables false

set_option maxHeartbeats 4000000 in
theorem do_0 (b : Nat) (old x : Int) (s : CSt) (w : World) (h : IsI w b s) :
    Calls Try.prog 10 #[.pointer (some ⟨b, 0, none⟩), actV 0 old x] w (ActOk (s.v, false, ⟨s.v, wrap64 (s.l + 1), s.t, s.u⟩) b w) := by
  have hbl := h.lt
  have H := Lib.hid h
  obtain ⟨hv, hl, ht, hu, fv, fl, ft, fu⟩ := h
  go_enter Try.func10, Try.ntmps10
  go_wp2
  go_ret2
  exact ⟨rfl, (H.out.setL _).alloc _, ((Ch.refl _ _).setB _ _).alloc _⟩
set_option maxHeartbeats 4000000 in
theorem do_1 (b : Nat) (old x : Int) (s : CSt) (w : World) (h : IsI w b s) :
    Calls Try.prog 10 #[.pointer (some ⟨b, 0, none⟩), actV 1 old x] w (ActOk (0, false, ⟨x, s.l, s.t, s.u⟩) b w) := by
  have hbl := h.lt
  have H := Lib.hid h
  obtain ⟨hv, hl, ht, hu, fv, fl, ft, fu⟩ := h
  go_enter Try.func10, Try.ntmps10
  go_wp2
  go_ret2
  exact ⟨rfl, (H.out.setV _).alloc _, ((Ch.refl _ _).setB _ _).alloc _⟩
set_option maxHeartbeats 4000000 in
theorem do_2y (b : Nat) (old x : Int) (s : CSt) (w : World) (h : IsI w b s) (hq : (s.v == old) = true) :
    Calls Try.prog 10 #[.pointer (some ⟨b, 0, none⟩), actV 2 old x] w (ActOk (0, true, ⟨x, s.l, wrap64 (s.t + 1), wrap64 (s.u + 1)⟩) b w) := by
  have hbl := h.lt
  have H := Lib.hid h
  obtain ⟨hv, hl, ht, hu, fv, fl, ft, fu⟩ := h
  go_enter Try.func10, Try.ntmps10
  go_wp2
  go_quiet (fail)
  go_wp2
  go_ret2
  exact ⟨rfl, ((((H.out.setT _).alloc _).drewN _).setV _).setU _, (((((Ch.refl _ _).setB _ _).alloc _).drewN _).setB _ _).setB _ _⟩
set_option maxHeartbeats 4000000 in
theorem do_2n (b : Nat) (old x : Int) (s : CSt) (w : World) (h : IsI w b s) (hq : (s.v == old) = false) :
    Calls Try.prog 10 #[.pointer (some ⟨b, 0, none⟩), actV 2 old x] w (ActOk (0, false, ⟨s.v, s.l, wrap64 (s.t + 1), s.u⟩) b w) := by
  have hbl := h.lt
  have H := Lib.hid h
  obtain ⟨hv, hl, ht, hu, fv, fl, ft, fu⟩ := h
  go_enter Try.func10, Try.ntmps10
  go_wp2
  go_quiet (fail)
  go_wp2
  go_ret2
  exact ⟨rfl, ((H.out.setT _).alloc _).drewN _, (((Ch.refl _ _).setB _ _).alloc _).drewN _⟩
set_option maxHeartbeats 4000000 in
theorem do_3y (b : Nat) (old x : Int) (s : CSt) (w : World) (h : IsI w b s) (hq : old < s.v) :
    Calls Try.prog 10 #[.pointer (some ⟨b, 0, none⟩), actV 3 old x] w (ActOk (s.v, true, ⟨x, wrap64 (s.l + 1), wrap64 (s.t + 1), wrap64 (s.u + 1)⟩) b w) := by
  have hbl := h.lt
  have H := Lib.hid h
  obtain ⟨hv, hl, ht, hu, fv, fl, ft, fu⟩ := h
  go_enter Try.func10, Try.ntmps10
  go_wp2
  go_ret2
  exact ⟨rfl, ((((H.out.setL _).setT _).setU _).setV _).alloc _, (((((Ch.refl _ _).setB _ _).setB _ _).setB _ _).setB _ _).alloc _⟩
set_option maxHeartbeats 4000000 in
theorem do_3n (b : Nat) (old x : Int) (s : CSt) (w : World) (h : IsI w b s) (hq : ¬ old < s.v) :
    Calls Try.prog 10 #[.pointer (some ⟨b, 0, none⟩), actV 3 old x] w (ActOk (s.v, false, ⟨s.v, wrap64 (s.l + 1), s.t, s.u⟩) b w) := by
  have hbl := h.lt
  have H := Lib.hid h
  obtain ⟨hv, hl, ht, hu, fv, fl, ft, fu⟩ := h
  go_enter Try.func10, Try.ntmps10
  go_wp2
  go_ret2
  exact ⟨rfl, (H.out.setL _).alloc _, ((Ch.refl _ _).setB _ _).alloc _⟩
set_option maxHeartbeats 4000000 in
theorem do_4 (b : Nat) (k old x : Int) (s : CSt) (w : World) (h : IsI w b s) (q0 : (k == 0) = false) (q1 : (k == 1) = false) (q2 : (k == 2) = false) (q3 : (k == 3) = false) :
    Calls Try.prog 10 #[.pointer (some ⟨b, 0, none⟩), actV k old x] w (ActOk (0, false, s) b w) := by
  have hbl := h.lt
  have H := Lib.hid h
  obtain ⟨hv, hl, ht, hu, fv, fl, ft, fu⟩ := h
  go_enter Try.func10, Try.ntmps10
  go_wp2
  go_ret2
  exact ⟨rfl, H.out.alloc _, (Ch.refl _ _).alloc _⟩

theorem do_any (b : Nat) (k old x : Int) (s : CSt) (w : World) (h : IsI w b s) :
    Calls Try.prog 10 #[.pointer (some ⟨b, 0, none⟩), actV k old x] w (ActOk (doC k old x s) b w) := by
  by_cases k0 : k = 0
  · subst k0; exact do_0 b old x s w h
  by_cases k1 : k = 1
  · subst k1; exact do_1 b old x s w h
  by_cases k2 : k = 2
  · subst k2
    by_cases hv : s.v = old
    · have e1 : doC 2 old x s = (0, true, ⟨x, s.l, wrap64 (s.t + 1), wrap64 (s.u + 1)⟩) := by simp [doC, hv]
      rw [e1]; exact do_2y b old x s w h (by rw [beq_iff_eq]; exact hv)
    · have e1 : doC 2 old x s = (0, false, ⟨s.v, s.l, wrap64 (s.t + 1), s.u⟩) := by simp [doC, hv]
      rw [e1]; exact do_2n b old x s w h (by rw [beq_eq_false_iff_ne]; exact hv)
  by_cases k3 : k = 3
  · subst k3
    by_cases hv : old < s.v
    · have e1 : doC 3 old x s = (s.v, true, ⟨x, wrap64 (s.l + 1), wrap64 (s.t + 1), wrap64 (s.u + 1)⟩) := by simp [doC, hv]
      rw [e1]; exact do_3y b old x s w h hv
    · have e1 : doC 3 old x s = (s.v, false, ⟨s.v, wrap64 (s.l + 1), s.t, s.u⟩) := by simp [doC, hv]
      rw [e1]; exact do_3n b old x s w h hv
  · have e1 : doC k old x s = (0, false, s) := by simp [doC, k0, k1, k2, k3]
    rw [e1]
    exact do_4 b k old x s w h (by rw [beq_eq_false_iff_ne]; exact k0) (by rw [beq_eq_false_iff_ne]; exact k1) (by rw [beq_eq_false_iff_ne]; exact k2) (by rw [beq_eq_false_iff_ne]; exact k3)
end Go.Proofs.Ytnflieejfegnhaa
