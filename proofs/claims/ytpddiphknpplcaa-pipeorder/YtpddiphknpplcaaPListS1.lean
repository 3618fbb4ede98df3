/-
  Contracts of package list's functions at string: nodes, heads; link and cut.
-/
import Derived.Test.YtpddiphknpplcaaPListMem
import Derived.RegionTactic
import Derived.BigRegion
namespace Go.Proofs.Ytpddiphknpplcaa.PS
open Go.RowKit
attribute [local go_sem] Oper.semAt_some
set_option linter.unusedVariables false
set_option linter.unusedSimpArgs false
variable {X : Oth}

/-- a node: its value, whose it is, who stands ahead, who behind -/
structure IsN (w : World) (b : Nat) (v : ByteArray) (lp ah be : Option Nat) : Prop where
  v : w.cell? ⟨b, 0, none⟩ = some (.string v)
  l : w.cell? ⟨b, 1, none⟩ = some (po lp)
  a : w.cell? ⟨b, 2, none⟩ = some (pt ah)
  z : w.cell? ⟨b, 3, none⟩ = some (pt be)
  k : Blk w b
section
variable {S : Nat → Prop} {w w' : World} {b : Nat} {v : ByteArray} {lp ah be : Option Nat}
theorem IsN.lt (h : IsN w b v lp ah be) : b < w.heap.size := lt_of_cell h.v
theorem IsN.kept (h : IsN w b v lp ah be) (c : Ch S w w') (hn : ¬ S b) : IsN w' b v lp ah be :=
  ⟨c.keeps h.v hn, c.keeps h.l hn, c.keeps h.a hn, c.keeps h.z hn, h.k.kept c hn⟩
theorem IsN.set0 (h : IsN w b v lp ah be) (x : ByteArray) : IsN (w.setCell ⟨b, 0, none⟩ (.string x)) b x lp ah be :=
  ⟨World.cell?_setCell_same _ _ _ h.v, (cell_ne (by omega) _).trans h.l, (cell_ne (by omega) _).trans h.a, (cell_ne (by omega) _).trans h.z, h.k.set _ _⟩
end

theorem first_of (lb : Nat) (fi : Option Nat) (w : World) (hc : w.cell? ⟨lb, 1, none⟩ = some (pt fi)) :
    Calls Try.prog 43 #[.pointer (some ⟨lb, 1, none⟩)] w fun e w' => e = .returned (pt fi) ∧ w = w' := by
  cases fi <;> simp only [pt, po] at hc ⊢
  all_goals
    go_enter Try.func43, Try.ntmps43
    go_wp2
    go_ret
    exact ⟨rfl, rfl⟩
theorem first_nil (w : World) :
    Calls Try.prog 43 #[.pointer none] w fun e w' => e = .returned (.pointer none) ∧ w = w' := by
  go_enter Try.func43, Try.ntmps43
  go_wp2
  go_ret
  exact ⟨rfl, rfl⟩
theorem len_of (lb : Nat) (n : Nat) (w : World) (hc : w.cell? ⟨lb, 3, none⟩ = some (.int .i64 n)) :
    Calls Try.prog 37 #[.pointer (some ⟨lb, 1, none⟩)] w fun e w' => e = .returned (.int .i64 n) ∧ w = w' := by
  go_enter Try.func37, Try.ntmps37
  go_wp2
  go_ret
  exact ⟨rfl, rfl⟩
/-- pointers to lists, to nodes, held against each other -/
theorem eqlL {w : World} (p q : Option Nat) (hp : ∀ b, p = some b → Blk w b) (hq : ∀ b, q = some b → Blk w b) : (binOp .eql 80 (po p) (po q)).run Try.prog w = .ok (.bool (decide (p = q))) w :=
  run_eql_po p q hp hq Try.underlying80 (by kernel_rfl)
theorem neqN {w : World} (p q : Option Nat) (hp : ∀ b, p = some b → Blk w b) (hq : ∀ b, q = some b → Blk w b) : (binOp .neq 65 (pt p) (pt q)).run Try.prog w = .ok (.bool (!decide (p = q))) w :=
  run_neq_pt p q hp hq Try.underlying65 (by kernel_rfl)
theorem eqlN {w : World} (p q : Option Nat) (hp : ∀ b, p = some b → Blk w b) (hq : ∀ b, q = some b → Blk w b) : (binOp .eql 65 (pt p) (pt q)).run Try.prog w = .ok (.bool (decide (p = q))) w :=
  run_eql_pt p q hp hq Try.underlying65 (by kernel_rfl)

theorem has_of (lb b : Nat) (lp : Option Nat) (w : World) (hc : w.cell? ⟨b, 1, none⟩ = some (po lp)) (hk : Blk w lb) (hl : ∀ x, lp = some x → Blk w x) :
    Calls Try.prog 48 #[.pointer (some ⟨lb, 1, none⟩), .pointer (some ⟨b, 0, none⟩)] w fun e w' => e = .returned (.bool (decide (lp = some lb))) ∧ w = w' := by
  have hE := eqlL lp (some lb) hl (fun x e => by cases e; exact hk)
  obtain ⟨z, hz⟩ : ∃ z, z = decide (lp = some lb) := ⟨_, rfl⟩
  rw [← hz] at hE ⊢
  clear hz hl hk
  cases lp <;> simp only [pt, po] at hc hE
  all_goals
    go_enter Try.func48, Try.ntmps48
    go_wp2
    go_ret
    exact ⟨rfl, rfl⟩

/-- what link makes: the node stands last -/
structure Linked (X : Oth) (w w' : World) (lb b : Nat) (fi la : Option Nat) (n : Nat) (v : ByteArray) : Prop where
  h : IsHX X w' lb (if la = none then some b else fi) (some b) (n + 1)
  n : IsN w' b v (some lb) la none
  p : ∀ p, la = some p → ∀ u l a, IsN w p u l a none → IsN w' p u l a (some b)
  c : Ch (fun k => k = lb ∨ k = b ∨ la = some k) w w'

set_option maxHeartbeats 800000 in
theorem link_at (lb b : Nat) (fi la : Option Nat) (n : Nat) (v : ByteArray) (w : World) (h : IsHX X w lb fi la n) (hb : IsN w b v none none none) (hne : b ≠ lb) (hn : n ≤ 1000000)
    (hp : ∀ p, la = some p → p ≠ lb ∧ p ≠ b ∧ ∃ u l a, IsN w p u l a none) :
    Calls Try.prog 42 #[.pointer (some ⟨lb, 1, none⟩), .pointer (some ⟨b, 0, none⟩)] w fun e w' => (∃ r, e = .returned r) ∧ Linked X w w' lb b fi la n v := by
  have hne' : lb ≠ b := fun e => hne e.symm
  have g1 := h.k.fz 1; have g2 := h.k.fz 2; have g3 := h.k.fz 3
  have d1 := hb.k.fz 1; have d2 := hb.k.fz 2; have d3 := hb.k.fz 3
  obtain ⟨h1, h2, h3, kh, x1, x2, x3⟩ := h
  obtain ⟨b1, b2, b3, b4, kb⟩ := hb
  have KH := Lib.hid kh
  have KB := Lib.hid kb
  clear kh kb
  cases la with
  | none =>
    simp only [pt, po] at h2 b2 b3 b4
    clear hp
    go_enter Try.func42, Try.ntmps42
    go_wp2
    go_end0
    refine ⟨⟨_, rfl⟩, ⟨by (simp [cell_set, cell_drew_own, *]), by (simp [cell_set, cell_drew_own, *]), by (simp [cell_set, cell_drew_own, *]), by ((repeat (first | with_reducible refine Blk.set ?_ _ _ | with_reducible refine Blk.drew ?_)); with_reducible exact KH.out), by (simp [cell_set, cell_drew_own, *]), by (simp [cell_set, cell_drew_own, *]), by (simp [cell_set, cell_drew_own, *])⟩, ⟨by (simp [cell_set, cell_drew_own, *]), by (simp [cell_set, cell_drew_own, *]), by (simp [cell_set, cell_drew_own, *]), by (simp [cell_set, cell_drew_own, *]), by ((repeat (first | with_reducible refine Blk.set ?_ _ _ | with_reducible refine Blk.drew ?_)); with_reducible exact KB.out)⟩, fun p e => (by cases e), by ((repeat (first | with_reducible refine Ch.drew ?_ | with_reducible refine Ch.set ?_ (fun _ => by simp) _)); with_reducible exact Ch.refl _ _)⟩
  | some p =>
    obtain ⟨p1, p2, u, l, a, hpn⟩ := hp p rfl
    have p1' : lb ≠ p := fun e => p1 e.symm
    have p2' : b ≠ p := fun e => p2 e.symm
    have e1 := hpn.k.fz 3
    have q1 := hpn.z
    clear hp
    have HP := Lib.hid hpn
    clear hpn
    simp only [pt, po] at h2 b2 b3 b4 q1
    go_enter Try.func42, Try.ntmps42
    go_wp2
    go_end0
    refine ⟨⟨_, rfl⟩, ⟨by (simp [cell_set, cell_drew_own, *]), by (simp [cell_set, cell_drew_own, *]), by (simp [cell_set, cell_drew_own, *]), by ((repeat (first | with_reducible refine Blk.set ?_ _ _ | with_reducible refine Blk.drew ?_)); with_reducible exact KH.out), by (simp [cell_set, cell_drew_own, *]), by (simp [cell_set, cell_drew_own, *]), by (simp [cell_set, cell_drew_own, *])⟩, ⟨by (simp [cell_set, cell_drew_own, *]), by (simp [cell_set, cell_drew_own, *]), by (simp [cell_set, cell_drew_own, *]), by (simp [cell_set, cell_drew_own, *]), by ((repeat (first | with_reducible refine Blk.set ?_ _ _ | with_reducible refine Blk.drew ?_)); with_reducible exact KB.out)⟩, fun p' e u l a h' => ?_, by ((repeat (first | with_reducible refine Ch.drew ?_ | with_reducible refine Ch.set ?_ (fun _ => by simp) _)); with_reducible exact Ch.refl _ _)⟩
    cases e
    obtain ⟨r1, r2, r3, r4, kr⟩ := h'
    exact ⟨by (simp [cell_set, cell_drew_own, *]), by (simp [cell_set, cell_drew_own, *]), by (simp [cell_set, cell_drew_own, *]), by (simp [cell_set, cell_drew_own, *]), by ((repeat (first | with_reducible refine Blk.set ?_ _ _ | with_reducible refine Blk.drew ?_)); with_reducible exact kr)⟩

/-- what cut makes: the node is in no list, its neighbours stand side by side -/
structure Cut (X : Oth) (w w' : World) (lb b : Nat) (fi la ah be : Option Nat) (n : Nat) (v : ByteArray) : Prop where
  h : IsHX X w' lb (if ah = none then be else fi) (if be = none then ah else la) (n - 1)
  n : IsN w' b v none none none
  p : ∀ p, ah = some p → ∀ u l a z, IsN w p u l a z → IsN w' p u l a be
  q : ∀ q, be = some q → ∀ u l a z, IsN w q u l a z → IsN w' q u l ah z
  c : Ch (fun k => k = lb ∨ k = b ∨ ah = some k ∨ be = some k) w w'

set_option maxHeartbeats 1600000 in
theorem cut_at (lb b : Nat) (fi la ah be : Option Nat) (n : Nat) (v : ByteArray) (w : World) (h : IsHX X w lb fi la n) (hb : IsN w b v (some lb) ah be) (hne : b ≠ lb) (hn : 1 ≤ n ∧ n ≤ 1000000)
    (hp : ∀ p, ah = some p → p ≠ lb ∧ p ≠ b ∧ be ≠ some p ∧ ∃ u l a z, IsN w p u l a z) (hq : ∀ q, be = some q → q ≠ lb ∧ q ≠ b ∧ ∃ u l a z, IsN w q u l a z) :
    Calls Try.prog 49 #[.pointer (some ⟨lb, 1, none⟩), .pointer (some ⟨b, 0, none⟩)] w fun e w' => (∃ r, e = .returned r) ∧ Cut X w w' lb b fi la ah be n v := by
  have hne' : lb ≠ b := fun e => hne e.symm
  have g1 := h.k.fz 1; have g2 := h.k.fz 2; have g3 := h.k.fz 3
  have d1 := hb.k.fz 1; have d2 := hb.k.fz 2; have d3 := hb.k.fz 3
  obtain ⟨h1, h2, h3, kh, x1, x2, x3⟩ := h
  obtain ⟨b1, b2, b3, b4, kb⟩ := hb
  have KH := Lib.hid kh
  have KB := Lib.hid kb
  clear kh kb
  obtain ⟨hn1, hn2⟩ := hn
  have hcast : ((n - 1 : Nat) : Int) = (n : Int) - 1 := by omega
  have HC := Lib.hid hcast
  clear hcast
  cases ah with
  | none =>
    cases be with
    | none =>
      clear hp hq
      simp only [pt, po] at b2 b3 b4
      go_enter Try.func49, Try.ntmps49
      go_wp2
      go_end0
      refine ⟨⟨_, rfl⟩, ⟨by (simp [cell_set, cell_drew_own, *]), by (simp [cell_set, cell_drew_own, *]), by (rw [HC.out]; simp [cell_set, cell_drew_own, *]), by ((repeat (first | with_reducible refine Blk.set ?_ _ _ | with_reducible refine Blk.drew ?_)); with_reducible exact KH.out), by (simp [cell_set, cell_drew_own, *]), by (simp [cell_set, cell_drew_own, *]), by (simp [cell_set, cell_drew_own, *])⟩, ⟨by (simp [cell_set, cell_drew_own, *]), by (simp [cell_set, cell_drew_own, *]), by (simp [cell_set, cell_drew_own, *]), by (simp [cell_set, cell_drew_own, *]), by ((repeat (first | with_reducible refine Blk.set ?_ _ _ | with_reducible refine Blk.drew ?_)); with_reducible exact KB.out)⟩, fun p e => (by cases e), fun p e => (by cases e), by ((repeat (first | with_reducible refine Ch.drew ?_ | with_reducible refine Ch.set ?_ (fun _ => by simp) _)); with_reducible exact Ch.refl _ _)⟩
    | some q =>
      obtain ⟨q1, q2, u, l, a, z, hqn⟩ := hq q rfl
      have q1' : lb ≠ q := fun e => q1 e.symm
      have q2' : b ≠ q := fun e => q2 e.symm
      have e1 := hqn.k.fz 2
      have c1 := hqn.a
      clear hp hq hqn
      simp only [pt, po] at b2 b3 b4
      go_enter Try.func49, Try.ntmps49
      go_wp2
      go_region
      all_goals go_wp2
      all_goals go_end0
      all_goals refine ⟨⟨_, rfl⟩, ⟨by (simp [cell_set, cell_drew_own, *]), by (simp [cell_set, cell_drew_own, *]), by (rw [HC.out]; simp [cell_set, cell_drew_own, *]), by ((repeat (first | with_reducible refine Blk.set ?_ _ _ | with_reducible refine Blk.drew ?_)); with_reducible exact KH.out), by (simp [cell_set, cell_drew_own, *]), by (simp [cell_set, cell_drew_own, *]), by (simp [cell_set, cell_drew_own, *])⟩, ⟨by (simp [cell_set, cell_drew_own, *]), by (simp [cell_set, cell_drew_own, *]), by (simp [cell_set, cell_drew_own, *]), by (simp [cell_set, cell_drew_own, *]), by ((repeat (first | with_reducible refine Blk.set ?_ _ _ | with_reducible refine Blk.drew ?_)); with_reducible exact KB.out)⟩, fun p e => (by cases e), fun q' e u l a z h' => ?_, by ((repeat (first | with_reducible refine Ch.drew ?_ | with_reducible refine Ch.set ?_ (fun _ => by simp) _)); with_reducible exact Ch.refl _ _)⟩
      all_goals
        cases e
        obtain ⟨r1, r2, r3, r4, kr⟩ := h'
        exact ⟨by (simp [cell_set, cell_drew_own, *]), by (simp [cell_set, cell_drew_own, *]), by (simp [cell_set, cell_drew_own, *]), by (simp [cell_set, cell_drew_own, *]), by ((repeat (first | with_reducible refine Blk.set ?_ _ _ | with_reducible refine Blk.drew ?_)); with_reducible exact kr)⟩
  | some p =>
    obtain ⟨p1, p2, p3, u, l, a, z, hpn⟩ := hp p rfl
    have p1' : lb ≠ p := fun e => p1 e.symm
    have p2' : b ≠ p := fun e => p2 e.symm
    have e1 := hpn.k.fz 3
    have c1 := hpn.z
    clear hp hpn
    cases be with
    | none =>
      clear hq
      simp only [pt, po] at b2 b3 b4
      go_enter Try.func49, Try.ntmps49
      go_wp2
      go_region
      all_goals go_wp2
      all_goals go_end0
      all_goals refine ⟨⟨_, rfl⟩, ⟨by (simp [cell_set, cell_drew_own, *]), by (simp [cell_set, cell_drew_own, *]), by (rw [HC.out]; simp [cell_set, cell_drew_own, *]), by ((repeat (first | with_reducible refine Blk.set ?_ _ _ | with_reducible refine Blk.drew ?_)); with_reducible exact KH.out), by (simp [cell_set, cell_drew_own, *]), by (simp [cell_set, cell_drew_own, *]), by (simp [cell_set, cell_drew_own, *])⟩, ⟨by (simp [cell_set, cell_drew_own, *]), by (simp [cell_set, cell_drew_own, *]), by (simp [cell_set, cell_drew_own, *]), by (simp [cell_set, cell_drew_own, *]), by ((repeat (first | with_reducible refine Blk.set ?_ _ _ | with_reducible refine Blk.drew ?_)); with_reducible exact KB.out)⟩, fun q' e u l a z h' => ?_, fun p e => (by cases e), by ((repeat (first | with_reducible refine Ch.drew ?_ | with_reducible refine Ch.set ?_ (fun _ => by simp) _)); with_reducible exact Ch.refl _ _)⟩
      all_goals
        cases e
        obtain ⟨r1, r2, r3, r4, kr⟩ := h'
        exact ⟨by (simp [cell_set, cell_drew_own, *]), by (simp [cell_set, cell_drew_own, *]), by (simp [cell_set, cell_drew_own, *]), by (simp [cell_set, cell_drew_own, *]), by ((repeat (first | with_reducible refine Blk.set ?_ _ _ | with_reducible refine Blk.drew ?_)); with_reducible exact kr)⟩
    | some q =>
      obtain ⟨q1, q2, u', l', a', z', hqn⟩ := hq q rfl
      have p3' : q ≠ p := fun e => p3 (by rw [e])
      have p4' : p ≠ q := fun e => p3' e.symm
      have q1' : lb ≠ q := fun e => q1 e.symm
      have q2' : b ≠ q := fun e => q2 e.symm
      have e2 := hqn.k.fz 2
      have c2 := hqn.a
      clear hq hqn p3
      simp only [pt, po] at b2 b3 b4
      go_enter Try.func49, Try.ntmps49
      go_wp2
      go_region
      all_goals go_wp2
      all_goals go_region
      all_goals go_wp2
      all_goals go_end0
      all_goals refine ⟨⟨_, rfl⟩, ⟨by (simp [cell_set, cell_drew_own, *]), by (simp [cell_set, cell_drew_own, *]), by (rw [HC.out]; simp [cell_set, cell_drew_own, *]), by ((repeat (first | with_reducible refine Blk.set ?_ _ _ | with_reducible refine Blk.drew ?_)); with_reducible exact KH.out), by (simp [cell_set, cell_drew_own, *]), by (simp [cell_set, cell_drew_own, *]), by (simp [cell_set, cell_drew_own, *])⟩, ⟨by (simp [cell_set, cell_drew_own, *]), by (simp [cell_set, cell_drew_own, *]), by (simp [cell_set, cell_drew_own, *]), by (simp [cell_set, cell_drew_own, *]), by ((repeat (first | with_reducible refine Blk.set ?_ _ _ | with_reducible refine Blk.drew ?_)); with_reducible exact KB.out)⟩, fun p' e u l a z h' => ?_, fun q' e u l a z h' => ?_, by ((repeat (first | with_reducible refine Ch.drew ?_ | with_reducible refine Ch.set ?_ (fun _ => by simp) _)); with_reducible exact Ch.refl _ _)⟩
      all_goals
        cases e
        obtain ⟨r1, r2, r3, r4, kr⟩ := h'
        exact ⟨by (simp [cell_set, cell_drew_own, *]), by (simp [cell_set, cell_drew_own, *]), by (simp [cell_set, cell_drew_own, *]), by (simp [cell_set, cell_drew_own, *]), by ((repeat (first | with_reducible refine Blk.set ?_ _ _ | with_reducible refine Blk.drew ?_)); with_reducible exact kr)⟩
end Go.Proofs.Ytpddiphknpplcaa.PS
