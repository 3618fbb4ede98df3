/-
  What an act does to a floor, as numbers; the document's Do, of every act; a floor and the document's side by side.
-/
import Derived.Test.YtkialefhjfoniaaFlDo
import Derived.Test.YtkialefhjfoniaaHeld
import Derived.Deep.QuietTactic
import Derived.BigQuiet
import Derived.Deep.Cut
import Derived.Deep.CutRange
import Derived.Deep.CutBlock
import Derived.RegionTactic
import Derived.BigRegion
namespace Verge
def actS (s : St) (x : Ax) : St :=
  if x.k = 0 then { s with i := s.i + 1 } else if x.k = 1 then { s with i := s.i - 1 } else if x.k = 2 then (if x.on = true then { s with b := s.b + 1 } else { s with b := s.b - 1 })
  else if x.k = 3 then { s with cl := true } else if x.k = 4 then { s with t := s.t + 1 } else if x.k = 5 then { s with L := s.L ++ [x.u] } else s
def actE (s : St) (x : Ax) : Int := if x.k = 1 ∧ s.i = 0 then 6 else if x.k = 2 ∧ x.on = false ∧ s.b = 0 then 6 else 0
def actB (s : St) (x : Ax) : Bool := decide (x.k = 3) && !s.cl
def stLe (s : St) (k : Nat) : Prop := s.i ≤ k ∧ s.b ≤ k ∧ s.t ≤ k ∧ s.L.length ≤ k
theorem actS_le {s : St} {k : Nat} (h : stLe s k) (x : Ax) : stLe (actS s x) (k + 1) := by
  unfold stLe at *
  unfold actS
  split
  · simp only; omega
  · split
    · simp only; omega
    · split
      · split <;> (simp only; omega)
      · split
        · simp only; omega
        · split
          · simp only; omega
          · split
            · simp only [List.length_append, List.length_singleton]; omega
            · omega
end Verge
namespace Go.Proofs.Ytkialefhjfoniaa
open Go.RowKit Verge
set_option linter.unusedVariables false
set_option linter.unusedSimpArgs false
attribute [local go_sem] Oper.semAt_some

section
variable {w w' : World} {vb : Nat} {s : St} {a : Option Addr} {tc : Nat}
theorem do_any (h : Rf w vb s a tc) (x : Ax) (hs : stLe s 1000) :
    Calls Try.prog 29 #[.pointer (some ⟨vb, 0, none⟩), .agg #[.int .i64 x.k, .bool x.on, .int .i64 x.u.k, .int .i64 x.u.t, .int .i64 x.u.c, .int .i64 x.u.h, .int .u64 x.u.i, .int .u64 x.u.g, .int .u64 x.u.d, .int .u64 x.u.p, .int .u64 x.u.q, .int .i64 x.u.e]] w fun e w' => ∃ a' tc', e = .returned (.tuple #[.int .i64 (actE s x), .bool (actB s x)]) ∧ Rf w' vb (actS s x) a' tc' ∧ Ch (RfS vb a) w w' ∧ ∀ k, OwnS a' k → OwnS a k ∨ w.heap.size ≤ k := by
  obtain ⟨k, on, u⟩ := x
  obtain ⟨s1, s2, s3, s4⟩ := hs
  by_cases h0 : k = 0
  · subst h0
    exact (do_enter h u on (by omega)).mono fun e w' ⟨he, r, c⟩ => ⟨a, tc, by rw [he]; simp [actE, actB], by simpa [actS] using r, c, fun _ h => .inl h⟩
  by_cases h1 : k = 1
  · subst h1
    by_cases hi : s.i = 0
    · exact (do_leave0 h u on hi).mono fun e w' ⟨he, r, c⟩ => ⟨a, tc, by rw [he]; simp [actE, actB, hi], by
        have e1 : actS s ⟨1, on, u⟩ = s := by unfold actS; rw [if_neg (by simp), if_pos rfl]; cases s; simp at hi ⊢; omega
        rw [e1]; exact r, c, fun _ h => .inl h⟩
    · exact (do_leave h u on (s.i - 1) (by omega) (by omega)).mono fun e w' ⟨he, r, c⟩ => ⟨a, tc, by rw [he]; simp [actE, actB, hi], by simpa [actS] using r, c, fun _ h => .inl h⟩
  by_cases h2 : k = 2
  · subst h2
    cases on with
    | true => exact (do_workon h u (by omega)).mono fun e w' ⟨he, r, c⟩ => ⟨a, tc, by rw [he]; simp [actE, actB], by simpa [actS] using r, c, fun _ h => .inl h⟩
    | false =>
      by_cases hb : s.b = 0
      · exact (do_work0 h u hb).mono fun e w' ⟨he, r, c⟩ => ⟨a, tc, by rw [he]; simp [actE, actB, hb], by
          have e1 : actS s ⟨2, false, u⟩ = s := by unfold actS; rw [if_neg (by simp), if_neg (by simp), if_pos rfl, if_neg (by simp)]; cases s; simp at hb ⊢; omega
          rw [e1]; exact r, c, fun _ h => .inl h⟩
      · exact (do_work h u (s.b - 1) (by omega) (by omega)).mono fun e w' ⟨he, r, c⟩ => ⟨a, tc, by rw [he]; simp [actE, actB, hb], by simpa [actS] using r, c, fun _ h => .inl h⟩
  by_cases h3 : k = 3
  · subst h3
    exact (do_shut h u on).mono fun e w' ⟨he, r, c⟩ => ⟨a, tc, by rw [he]; simp [actE, actB], by simpa [actS] using r, c, fun _ h => .inl h⟩
  by_cases h4 : k = 4
  · subst h4
    exact (do_turn h u on (by omega)).mono fun e w' ⟨he, r, c⟩ => ⟨a, tc, by rw [he]; simp [actE, actB], by simpa [actS] using r, c, fun _ h => .inl h⟩
  by_cases h5 : k = 5
  · subst h5
    exact (do_note h u on (by omega)).mono fun e w' ⟨a', tc', he, r, c, g⟩ => ⟨a', tc', by rw [he]; simp [actE, actB], by simpa [actS] using r, c, g⟩
  · exact (do_none h u k on (by omega)).mono fun e w' ⟨he, r, c⟩ => ⟨a, tc, by rw [he]; simp [actE, actB, h1, h2, h3], by simpa [actS, h0, h1, h2, h3, h4, h5] using r, c, fun _ h => .inl h⟩
end
/-- a floor and the document's side by side -/
structure AcK (w0 W : World) (F : Fb) (vb : Nat) (sf sr : St) (a : Option Addr) (tc : Nat) (a2 : Option Addr) (tc2 : Nat) : Prop where
  f : Fl W F sf a tc
  r : Rf W vb sr a2 tc2
  c : Ch Nil w0 W
  lF : w0.heap.size ≤ F.cl
  lv : w0.heap.size ≤ vb
  la : ∀ k, OwnS a k → w0.heap.size ≤ k
  l2 : ∀ k, OwnS a2 k → w0.heap.size ≤ k
  ap : ∀ k, RfS vb a2 k → ¬ FS F a k
section
variable {w0 W W' : World} {F : Fb} {vb : Nat} {sf sr sf' sr' : St} {a a2 a' : Option Addr} {tc tc2 tc' : Nat}
theorem AcK.fhi (h : AcK w0 W F vb sf sr a tc a2 tc2) {k : Nat} (hk : FS F a k) : w0.heap.size ≤ k := by
  obtain ⟨lo, o⟩ := h.f.o
  obtain ⟨o1, o2, o3, o4, o5⟩ := o.ids
  have := h.lF
  rcases hk with rfl | rfl | rfl | rfl | rfl | hk
  · omega
  · omega
  · omega
  · omega
  · omega
  · exact h.la k hk
theorem AcK.floor (h : AcK w0 W F vb sf sr a tc a2 tc2) (f' : Fl W' F sf' a' tc') (c : Ch (FS F a) W W') (ha : ∀ k, OwnS a' k → OwnS a k ∨ W.heap.size ≤ k) : AcK w0 W' F vb sf' sr a' tc' a2 tc2 :=
  ⟨f', h.r.kept c h.ap, h.c.then c (fun i hi e => by have := h.fhi e; omega), h.lF, h.lv, fun k hk => by
    rcases ha k hk with e | e
    · exact h.la k e
    · have := h.c.size; omega, h.l2, fun k hk e => by
    rcases e with e | e | e | e | e | e
    · exact h.ap k hk (.inl e)
    · exact h.ap k hk (.inr (.inl e))
    · exact h.ap k hk (.inr (.inr (.inl e)))
    · exact h.ap k hk (.inr (.inr (.inr (.inl e))))
    · exact h.ap k hk (.inr (.inr (.inr (.inr (.inl e)))))
    · rcases ha k e with e | e
      · exact h.ap k hk (.inr (.inr (.inr (.inr (.inr e)))))
      · have := h.r.lt hk; omega⟩
theorem AcK.ref (h : AcK w0 W F vb sf sr a tc a2 tc2) (r' : Rf W' vb sr' a' tc') (c : Ch (RfS vb a2) W W') (ha : ∀ k, OwnS a' k → OwnS a2 k ∨ W.heap.size ≤ k) : AcK w0 W' F vb sf sr' a tc a' tc' :=
  ⟨h.f.kept c (fun k hk e => h.ap k e hk), r', h.c.then c (fun i hi e => by
    rcases e with e | e
    · have := h.lv; omega
    · have := h.l2 i e; omega), h.lF, h.lv, h.la, fun k hk => by
    rcases ha k hk with e | e
    · exact h.l2 k e
    · have := h.c.size; omega, fun k hk e => by
    rcases hk with hk | hk
    · exact h.ap k (.inl hk) e
    · rcases ha k hk with e' | e'
      · exact h.ap k (.inr e') e
      · have := h.f.lt e; omega⟩
theorem AcK.quiet (h : AcK w0 W F vb sf sr a tc a2 tc2) (c : Ch Nil W W') : AcK w0 W' F vb sf sr a tc a2 tc2 := h.floor (h.f.quiet c) (c.mono fun _ _ e => e.elim) fun _ h => .inl h
/-- a call that told something of the floor -/
theorem AcK.read {b : Nat} (h : AcK w0 W F vb sf sr a tc a2 tc2) (f' : Fl W' F sf a tc ∧ Ch (FS F a) W W') : AcK w0 W' F vb sf sr a tc a2 tc2 := h.floor f'.1 f'.2 fun _ h => .inl h
end
/-- behind the act's own call -/
structure FaM (w : World) (F : Fb) (vb : Nat) (s : St) (x : Ax) (er : Int) (ib : Bool) (a2 : Option Addr) (tc2 bx : Nat) (W : World) : Prop where
  e : er = actE s x
  b : ib = actB s x
  k : ∃ a tc, AcK w W F vb (actS s x) s a tc a2 tc2
  v : IsVs W bx [.int .i64 x.k, .bool x.on, .int .i64 x.u.k, .int .i64 x.u.t, .int .i64 x.u.c, .int .i64 x.u.h, .int .u64 x.u.i, .int .u64 x.u.g, .int .u64 x.u.d, .int .u64 x.u.p, .int .u64 x.u.q, .int .i64 x.u.e]
end Go.Proofs.Ytkialefhjfoniaa
