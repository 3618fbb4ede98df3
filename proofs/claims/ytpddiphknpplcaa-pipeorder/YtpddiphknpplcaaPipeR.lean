/-
  A pipe as the row of its things: what each call makes of it.
-/
import Derived.Test.YtpddiphknpplcaaPipeAll
namespace Go.Proofs.Ytpddiphknpplcaa.PI
open Go.RowKit Verge
set_option linter.unusedVariables false
set_option linter.unusedSimpArgs false

/-- a pipe that was made within the call: its things in the order in which they will be taken, its blocks -/
structure PRS (w W : World) (pb cb n : Nat) (q : List Int) (m : Nat) (sh : Bool) (S : Nat → Prop) : Prop where
  c : Ch Nil w W
  p : ∃ ch xs V, IsPb W pb cb n ch xs V m sh ∧ ch ++ xs.map V = q ∧ ch.length = min n q.length ∧ S = PB pb cb xs
  hi : ∀ k, S k → w.heap.size ≤ k
/-- from world to world: of what was there only the pipe's blocks have turned -/
structure Nxt (W W' : World) (S S' : Nat → Prop) : Prop where
  s : ∀ k, S' k → S k ∨ W.heap.size ≤ k
  c : Ch S W W'
/-- things in a row, as values -/
def qV (q : List Int) (i : Nat) : Value := .int .i64 (q.getD i 0)
section
variable {w W W' : World} {pb cb n m : Nat} {q : List Int} {sh : Bool} {S S' : Nat → Prop}
theorem PRS.lt (h : PRS w W pb cb n q m sh S) {k : Nat} (hk : S k) : k < W.heap.size := by
  obtain ⟨ch, xs, V, h1, -, -, rfl⟩ := h.p
  exact h1.lt hk
theorem PRS.kept (h : PRS w W pb cb n q m sh S) {T : Nat → Prop} (c : Ch T W W') (c0 : Ch Nil w W') (hn : ∀ k, S k → ¬ T k) : PRS w W' pb cb n q m sh S := by
  obtain ⟨ch, xs, V, h1, h2, h3, rfl⟩ := h.p
  exact ⟨c0, ⟨ch, xs, V, h1.kept c hn, h2, h3, rfl⟩, h.hi⟩
theorem PRS.next (h : PRS w W pb cb n q m sh S) {q' : List Int} {m' : Nat} {sh' : Bool} {ch : List Int} {xs : List Nat} {V : Nat → Int} (h1 : IsPb W' pb cb n ch xs V m' sh') (h2 : ch ++ xs.map V = q') (h3 : ch.length = min n q'.length)
    (hs : ∀ k, PB pb cb xs k → S k ∨ W.heap.size ≤ k) (c : Ch S W W') : PRS w W' pb cb n q' m' sh' (PB pb cb xs) ∧ Nxt W W' S (PB pb cb xs) :=
  ⟨⟨h.c.then c (fun i hi e => by have := h.hi i e; omega), ⟨ch, xs, V, h1, h2, h3, rfl⟩, fun k hk => by
    rcases hs k hk with e | e
    · exact h.hi k e
    · exact Nat.le_trans h.c.size e⟩, hs, c⟩
theorem PRS.more (h : PRS w W pb cb n q m sh S) : ∃ ch xs V, IsPb W pb cb n ch xs V m sh ∧ ch ++ xs.map V = q ∧ ch.length = min n q.length ∧ xs.length = q.length - n ∧ S = PB pb cb xs := by
  obtain ⟨ch, xs, V, h1, h2, h3, h4⟩ := h.p
  refine ⟨ch, xs, V, h1, h2, h3, ?_, h4⟩
  have := congrArg List.length h2
  rw [List.length_append, List.length_map] at this
  omega

theorem new_prs (n : Nat) (h1 : 1 ≤ n) (h2 : n ≤ 16) (w W : World) (c : Ch Nil w W) :
    Calls Try.prog 8 #[.int .i64 n] W fun e W' => ∃ pb cb S, e = .returned (.tuple #[.pointer (some ⟨pb, 0, none⟩), .int .i64 0]) ∧ PRS w W' pb cb n [] 0 false S ∧ (∀ k, S k → W.heap.size ≤ k) ∧ Ch Nil W W' := by
  refine (new_of n h1 h2 (fun _ => 0) W).mono ?_
  rintro e W' ⟨rfl, p, c1⟩
  have hs := c.size
  have hS : ∀ k, PB (W.heap.size + 1) W.heap.size [] k → W.heap.size ≤ k := by
    rintro k ((rfl | hk) | rfl)
    · omega
    · cases hk
    · omega
  exact ⟨_, _, _, rfl, ⟨c.trans c1, ⟨[], [], _, p, rfl, by simp, rfl⟩, fun k hk => Nat.le_trans hs (hS k hk)⟩, hS, c1⟩
theorem PRS.putShut (h : PRS w W pb cb n q m true S) (v : Int) :
    Calls Try.prog 9 #[.pointer (some ⟨pb, 0, none⟩), .int .i64 v] W fun e W' => e = .returned (.tuple #[.bool false, .int .i64 3]) ∧ W = W' := by
  obtain ⟨ch, xs, V, h1, -, -, rfl⟩ := h.p
  exact h1.put_shut v
theorem upd_map {V : Nat → Int} {b : Nat} {v : Int} {xs : List Nat} (h : b ∉ xs) : xs.map (upd V b v) = xs.map V :=
  List.map_congr_left fun x hx => upd_other _ _ _ _ (fun e => h (e ▸ hx))
theorem PRS.put (h : PRS w W pb cb n q m false S) (v : Int) (hq : q.length ≤ 100000) (hm : m ≤ 100000) :
    Calls Try.prog 9 #[.pointer (some ⟨pb, 0, none⟩), .int .i64 v] W fun e W' => e = .returned (.tuple #[.bool (decide (n ≤ q.length)), .int .i64 0]) ∧ ∃ S', PRS w W' pb cb n (q ++ [v]) (max m (q.length + 1 - n)) false S' ∧ Nxt W W' S S' := by
  obtain ⟨ch, xs, V, h1, h2, h3, h4, rfl⟩ := h.more
  by_cases hn : n ≤ q.length
  · rw [decide_eq_true hn]
    refine (h1.put_spill v (fun _ => by omega) (by omega) (by omega)).mono ?_
    rintro e W' ⟨rfl, b, hb, p, c⟩
    refine ⟨rfl, _, h.next (q' := q ++ [v]) (m' := max m (q.length + 1 - n)) (by rw [show q.length + 1 - n = xs.length + 1 by omega]; exact p) ?_ ?_ ?_ c⟩
    · have hx : b ∉ xs := fun hm => by have := h1.lt (.inl (.inr hm)); omega
      rw [List.map_append, upd_map hx, ← h2, List.append_assoc]; simp [upd_same]
    · simp; omega
    · rintro k ((rfl | hk) | rfl)
      · exact .inl (.inl (.inl rfl))
      · rcases List.mem_append.1 hk with hk | hk
        · exact .inl (.inl (.inr hk))
        · simp at hk; subst hk; exact .inr hb
      · exact .inl (.inr rfl)
  · rw [decide_eq_false hn]
    obtain rfl : xs = [] := List.eq_nil_of_length_eq_zero (by omega)
    refine (h1.put_room v (by omega)).mono ?_
    rintro e W' ⟨rfl, p, c⟩
    refine ⟨rfl, _, h.next (q' := q ++ [v]) (m' := max m (q.length + 1 - n)) (by rw [show max m (q.length + 1 - n) = m by omega]; exact p) ?_ ?_ (fun k hk => .inl hk) c⟩
    · rw [← h2]; simp
    · simp; omega
theorem PRS.takeNone (h : PRS w W pb cb n [] m sh S) :
    Calls Try.prog 11 #[.pointer (some ⟨pb, 0, none⟩)] W fun e W' => e = .returned (.tuple #[.int .i64 0, .int .i64 6]) ∧ W = W' := by
  obtain ⟨ch, xs, V, h1, h2, -, rfl⟩ := h.p
  obtain ⟨rfl, -⟩ := List.append_eq_nil_iff.1 h2
  exact h1.take_none
theorem PRS.take {x : Int} (h : PRS w W pb cb n (x :: q) m sh S) (hn : 1 ≤ n) (hq : q.length ≤ 100000) :
    Calls Try.prog 11 #[.pointer (some ⟨pb, 0, none⟩)] W fun e W' => e = .returned (.tuple #[.int .i64 x, .int .i64 0]) ∧ ∃ S', PRS w W' pb cb n q m sh S' ∧ Nxt W W' S S' := by
  obtain ⟨ch, xs, V, h1, h2, h3, h4, rfl⟩ := h.more
  simp only [List.length_cons] at h3 h4
  cases ch with
  | nil => simp at h3; omega
  | cons y ch =>
    simp only [List.cons_append, List.cons.injEq] at h2
    obtain ⟨rfl, h2⟩ := h2
    have hl := congrArg List.length h2
    simp only [List.length_append, List.length_map] at hl
    simp only [List.length_cons] at h3
    cases xs with
    | nil =>
      refine h1.take_one.mono ?_
      rintro e W' ⟨rfl, p, c⟩
      simp at hl
      exact ⟨rfl, _, h.next p h2 (by omega) (fun k hk => .inl hk) c⟩
    | cons b xs =>
      simp only [List.length_cons] at hl h4
      refine (h1.take_more (by omega) (by omega)).mono ?_
      rintro e W' ⟨rfl, p, c⟩
      refine ⟨rfl, _, h.next p (by rw [← h2]; simp) (by simp; omega) ?_ c⟩
      rintro k ((rfl | hk) | rfl)
      · exact .inl (.inl (.inl rfl))
      · exact .inl (.inl (.inr (List.mem_cons_of_mem _ hk)))
      · exact .inl (.inr rfl)
theorem PRS.quiet (h : PRS w W pb cb n q m sh S) (c : Ch Nil W W') : PRS w W' pb cb n q m sh S ∧ Nxt W W' S S :=
  ⟨h.kept c (h.c.trans c) (fun _ _ e => e), fun k hk => .inl hk, c.mono (fun _ _ e => e.elim)⟩
theorem PRS.len (h : PRS w W pb cb n q m sh S) (hq : q.length ≤ 100000) :
    Calls Try.prog 14 #[.pointer (some ⟨pb, 0, none⟩)] W fun e W' => e = .returned (.int .i64 (q.length : Nat)) ∧ PRS w W' pb cb n q m sh S ∧ Nxt W W' S S := by
  obtain ⟨ch, xs, V, h1, h2, h3, h4, -⟩ := h.more
  refine (h1.len (by omega) (by omega)).mono ?_
  rintro e W' ⟨rfl, c⟩
  exact ⟨by rw [show q.length = ch.length + xs.length by omega], h.quiet c⟩
theorem PRS.spilled (h : PRS w W pb cb n q m sh S) :
    Calls Try.prog 15 #[.pointer (some ⟨pb, 0, none⟩)] W fun e W' => e = .returned (.int .i64 ((q.length - n : Nat) : Int)) ∧ W = W' := by
  obtain ⟨ch, xs, V, h1, h2, h3, h4, -⟩ := h.more
  rw [← h4]
  exact spilled_of pb xs.length W h1.l.h.n
theorem PRS.most (h : PRS w W pb cb n q m sh S) :
    Calls Try.prog 17 #[.pointer (some ⟨pb, 0, none⟩)] W fun e W' => e = .returned (.int .i64 m) ∧ W = W' := by
  obtain ⟨ch, xs, V, h1, -⟩ := h.p
  exact h1.mostOf
theorem PRS.closed (h : PRS w W pb cb n q m sh S) (hq : q.length ≤ 100000) :
    Calls Try.prog 18 #[.pointer (some ⟨pb, 0, none⟩)] W fun e W' => e = .returned (.bool (sh && (q.length == 0))) ∧ PRS w W' pb cb n q m sh S ∧ Nxt W W' S S := by
  obtain ⟨ch, xs, V, h1, h2, h3, h4, -⟩ := h.more
  refine (h1.closedOf (by omega) (by omega)).mono ?_
  rintro e W' ⟨rfl, c⟩
  exact ⟨by rw [show q.length = ch.length + xs.length by omega], h.quiet c⟩
theorem PRS.shutAgain (h : PRS w W pb cb n q m true S) :
    Calls Try.prog 13 #[.pointer (some ⟨pb, 0, none⟩)] W fun e W' => e = .returned (.int .i64 3) ∧ W = W' := by
  obtain ⟨ch, xs, V, h1, -⟩ := h.p
  exact h1.shut_again
theorem PRS.shut (h : PRS w W pb cb n q m false S) :
    Calls Try.prog 13 #[.pointer (some ⟨pb, 0, none⟩)] W fun e W' => e = .returned (.int .i64 0) ∧ PRS w W' pb cb n q m true S ∧ Nxt W W' S S := by
  obtain ⟨ch, xs, V, h1, h2, h3, rfl⟩ := h.p
  refine h1.shut_first.mono ?_
  rintro e W' ⟨rfl, p, c⟩
  exact ⟨rfl, h.next p h2 h3 (fun k hk => .inl hk) (c.mono (fun i _ e => by have : i = pb := e; subst this; exact .inl (.inl rfl)))⟩
theorem PRS.all (h : PRS w W pb cb n q m sh S) (hn : n ≤ 16) (hq : q.length ≤ 100000) :
    Calls Try.prog 20 #[.pointer (some ⟨pb, 0, none⟩)] W fun e W' => ∃ a cp, e = .returned (.slice a q.length cp) ∧ Row W' 3 1 a q.length cp (qV q) ∧ (∀ g, OwnS a g → W.heap.size ≤ g) ∧ PRS w W' pb cb n q m sh S ∧ Nxt W W' S S := by
  obtain ⟨ch, xs, V, h1, h2, h3, h4, rfl⟩ := h.more
  refine (h1.all (by omega) (by omega) (by omega)).mono ?_
  rintro e W' ⟨a, cp, rfl, row, own, p, c⟩
  rw [show ch.length + xs.length = q.length by omega] at *
  refine ⟨a, cp, rfl, ?_, own, h.next p h2 h3 (fun k hk => .inl hk) (c.mono (fun i _ e => .inr e))⟩
  have : thingV ch xs V = qV q := by funext i; unfold thingV qV thingAt; rw [h2]
  rw [← this]
  exact row
end
end Go.Proofs.Ytpddiphknpplcaa.PI
