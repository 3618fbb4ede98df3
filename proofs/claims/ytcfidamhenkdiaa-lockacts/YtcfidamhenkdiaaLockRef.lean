/-
  The document's lock (vergeref10) in memory, and its functions' contracts.
-/
import Derived.Test.YtcfidamhenkdiaaLockR
namespace Go.Proofs.Ytcfidamhenkdiaa
open Go.RowKit
attribute [local go_sem] Oper.semAt_some
set_option linter.unusedVariables false
set_option linter.unusedSimpArgs false

/-- the document's lock -/
structure IsRk (w : World) (vb : Nat) (q : Lk) : Prop where
  t : w.cell? ⟨vb, 0, none⟩ = some (.bool q.t)
  o : w.cell? ⟨vb, 1, none⟩ = some (.int .i64 q.o)
  n : w.cell? ⟨vb, 2, none⟩ = some (.int .i64 (q.n : Nat))
  f : ∀ i, w.frozen? ⟨vb, i, none⟩ = false
section
variable {S : Nat → Prop} {w w' : World} {vb : Nat} {q : Lk}
theorem IsRk.lt (h : IsRk w vb q) : vb < w.heap.size := lt_of_cell h.o
theorem IsRk.kept (h : IsRk w vb q) (c : Ch S w w') (hn : ¬ S vb) : IsRk w' vb q :=
  ⟨c.keeps h.t hn, c.keeps h.o hn, c.keeps h.n hn, fun i => (c.frozen (p := ⟨vb, i, none⟩) h.lt hn).trans (h.f i)⟩
theorem isRk_new (w : World) (T : TypeId) : IsRk (w.alloc (.cells #[.bool false, .int .i64 0, .int .i64 0] T)) w.heap.size ⟨0, false, 0⟩ := by
  constructor <;> simp [go_sem]
theorem IsRk.took (h : IsRk w vb q) (who : Int) : IsRk (((w.setCell ⟨vb, 0, none⟩ (.bool true)).setCell ⟨vb, 1, none⟩ (.int .i64 who)).setCell ⟨vb, 2, none⟩ (.int .i64 ((q.n + 1 : Nat) : Int))) vb ⟨who, true, q.n + 1⟩ := by
  obtain ⟨ht, ho, hn, hf⟩ := h
  constructor
  all_goals (try intro i)
  all_goals simp [go_sem, ho, ht, hn, hf]
theorem IsRk.gone (h : IsRk w vb q) : IsRk ((w.setCell ⟨vb, 0, none⟩ (.bool false)).setCell ⟨vb, 1, none⟩ (.int .i64 0)) vb ⟨0, false, q.n⟩ := by
  obtain ⟨ht, ho, hn, hf⟩ := h
  constructor
  all_goals (try intro i)
  all_goals simp [go_sem, ho, ht, hn, hf]
theorem refTry_of (who : Int) (h : IsRk w vb q) (hn : q.n ≤ 1000000) :
    Calls Try.prog 12 #[.pointer (some ⟨vb, 0, none⟩), .int .i64 who] w fun e w' => e = .returned (.bool (opn q.t who)) ∧ IsRk w' vb (tryK q who) ∧ Ch (One vb) w w' := by
  obtain ⟨o, t, n⟩ := q
  have H := Lib.hid h
  obtain ⟨kt, ko, kn, kf⟩ := h
  replace kt : w.cell? ⟨vb, 0, none⟩ = some (.bool t) := kt
  replace ko : w.cell? ⟨vb, 1, none⟩ = some (.int .i64 o) := ko
  replace kn : w.cell? ⟨vb, 2, none⟩ = some (.int .i64 (n : Nat)) := kn
  replace hn : n ≤ 1000000 := hn
  cases t
  · by_cases h0 : who < 0
    · have so : opn false who = false := by unfold opn; simp; omega
      rw [tryK_no (q := ⟨o, false, n⟩) so, show opn (Lk.mk o false n).t who = false from so]
      go_enter Try.func12, Try.ntmps12
      go_wp2
      go_ret
      exact ⟨rfl, H.out, Ch.refl _ _⟩
    · have so : opn false who = true := by unfold opn; simp; omega
      rw [tryK_yes (q := ⟨o, false, n⟩) so, show opn (Lk.mk o false n).t who = true from so]
      have h1 : 0 ≤ who := by omega
      go_enter Try.func12, Try.ntmps12
      go_wp2
      go_ret
      exact ⟨rfl, H.out.took who, (((Ch.refl _ _).setB _ _).setB _ _).setB _ _⟩
  · have so : opn true who = false := by unfold opn; simp
    rw [tryK_no (q := ⟨o, true, n⟩) so, show opn (Lk.mk o true n).t who = false from so]
    go_enter Try.func12, Try.ntmps12
    go_wp2
    go_ret
    exact ⟨rfl, H.out, Ch.refl _ _⟩
theorem leaveE_bad {q : Lk} {who : Int} (h : who < 0) : leaveE q who = 1 := by unfold leaveE; rw [if_pos h]
theorem leaveE_no {q : Lk} {who : Int} (h : ¬ who < 0) (hl : lvs q.t q.o who = false) : leaveE q who = 7 := by unfold leaveE; rw [if_neg h, if_neg (by rw [hl]; simp)]
theorem leaveE_yes {q : Lk} {who : Int} (h : ¬ who < 0) (hl : lvs q.t q.o who = true) : leaveE q who = 0 := by unfold leaveE; rw [if_neg h, if_pos hl]
theorem goes_bad {q : Lk} {who : Int} (h : who < 0) : goes q who = false := by unfold goes; rw [decide_eq_false (by omega), Bool.false_and]
theorem goes_ok {q : Lk} {who : Int} (h : ¬ who < 0) : goes q who = lvs q.t q.o who := by unfold goes; rw [decide_eq_true (by omega), Bool.true_and]
theorem refLeave_of (who : Int) (h : IsRk w vb q) :
    Calls Try.prog 10 #[.pointer (some ⟨vb, 0, none⟩), .int .i64 who] w fun e w' => e = .returned (.int .i64 (leaveE q who)) ∧ IsRk w' vb (leaveK q who) ∧ Ch (One vb) w w' := by
  obtain ⟨o, t, n⟩ := q
  have H := Lib.hid h
  obtain ⟨kt, ko, kn, kf⟩ := h
  replace kt : w.cell? ⟨vb, 0, none⟩ = some (.bool t) := kt
  replace ko : w.cell? ⟨vb, 1, none⟩ = some (.int .i64 o) := ko
  replace kn : w.cell? ⟨vb, 2, none⟩ = some (.int .i64 (n : Nat)) := kn
  by_cases h0 : who < 0
  · rw [leaveE_bad h0, leaveK_no (goes_bad h0)]
    go_enter Try.func10, Try.ntmps10
    go_wp2
    go_ret
    exact ⟨rfl, H.out, Ch.refl _ _⟩
  · have h1 : 0 ≤ who := by omega
    cases t
    · have so : lvs false o who = false := by unfold lvs; simp
      rw [leaveE_no (q := ⟨o, false, n⟩) h0 so, leaveK_no (q := ⟨o, false, n⟩) ((goes_ok h0).trans so)]
      go_enter Try.func10, Try.ntmps10
      go_wp2
      go_ret
      exact ⟨rfl, H.out, Ch.refl _ _⟩
    · by_cases ho : o = who
      · subst ho
        have so : lvs true o o = true := by unfold lvs; simp
        rw [leaveE_yes (q := ⟨o, true, n⟩) h0 so, leaveK_yes (q := ⟨o, true, n⟩) ((goes_ok h0).trans so)]
        have oo : (o != o) = false := by simp
        go_enter Try.func10, Try.ntmps10
        go_wp2
        go_ret
        exact ⟨rfl, H.out.gone, ((Ch.refl _ _).setB _ _).setB _ _⟩
      · have so : lvs true o who = false := by unfold lvs; simp [ho]
        rw [leaveE_no (q := ⟨o, true, n⟩) h0 so, leaveK_no (q := ⟨o, true, n⟩) ((goes_ok h0).trans so)]
        have oo : (o != who) = true := by rw [bne_iff_ne]; exact ho
        go_enter Try.func10, Try.ntmps10
        go_wp2
        go_ret
        exact ⟨rfl, H.out, Ch.refl _ _⟩
end
/-- both locks, side by side -/
structure LaR (w W : World) (b vb : Nat) (q : Lk) (m : Nat) : Prop where
  r : LkR w W b q m
  v : IsRk W vb q
  ne : vb ≠ b
  hv : w.heap.size ≤ vb
section
variable {w W W1 W2 : World} {b vb m m' : Nat} {q q' : Lk}
theorem LaR.quiet (h : LaR w W b vb q m) (c : Ch Nil W W1) : LaR w W1 b vb q m :=
  ⟨⟨h.r.l.kept c (fun e => e), h.r.n, h.r.c.trans c, h.r.hb⟩, h.v.kept c (fun e => e), h.ne, h.hv⟩
theorem LaR.looked (h : LaR w W b vb q m) (k : IsLk W1 b q) (c : Ch (One b) W W1) : LaR w W1 b vb q m :=
  ⟨h.r.turned k c h.r.n, h.v.kept c h.ne, h.ne, h.hv⟩
theorem LaR.more (h : LaR w W b vb q m) (hm : m ≤ m') : LaR w W b vb q m' := ⟨h.r.more hm, h.v, h.ne, h.hv⟩
theorem LaR.acted (h : LaR w W b vb q m) (k1 : IsLk W1 b q') (c1 : Ch (One b) W W1) (k2 : IsRk W2 vb q') (c2 : Ch (One vb) W1 W2) (hn : q'.n ≤ m') : LaR w W2 b vb q' m' := by
  have r1 := h.r.turned k1 c1 hn
  refine ⟨⟨r1.l.kept c2 (fun e => h.ne e.symm), hn, r1.c.then c2 (fun i hi e => ?_), h.r.hb⟩, k2, h.ne, h.hv⟩
  have := h.hv
  have : i = vb := e
  omega
end
end Go.Proofs.Ytcfidamhenkdiaa
