/-
  A ring of integers and all its tickets in memory: what each call makes of them.
-/
import Derived.Test.YtklgmecmgbfhgaaRingI6
import Derived.Test.YtklgmecmgbfhgaaRingPlain3
namespace Go.Proofs.Ytklgmecmgbfhgaa
open Go.RowKit Verge RI
set_option linter.unusedVariables false

structure Mach (w : World) (M : Nat → Prop) (b sb n nx fi q : Nat) (P : Nat → Bool) (V : Nat → Int) (tb : Nat → Nat) (T : Nat → TSt) : Prop where
  r : IsRing w b sb n nx fi P V
  t : ∀ k, k < q → IsT w (tb k) b (T k).st (T k).su (T k).pos (T k).fl
  mb : M b
  ms : M sb
  mt : ∀ k, k < q → M (tb k)
  nb : ∀ k, k < q → tb k ≠ b
  ns : ∀ k, k < q → tb k ≠ sb
  inj : ∀ j k, j < q → k < q → tb j = tb k → j = k
  lt : ∀ k, M k → k < w.heap.size

section
variable {w w' : World} {M S : Nat → Prop} {b sb n nx fi q : Nat} {P : Nat → Bool} {V : Nat → Int} {tb : Nat → Nat} {T : Nat → TSt}
theorem Mach.kept (h : Mach w M b sb n nx fi q P V tb T) (c : Ch S w w') (ha : ∀ k, M k → ¬ S k) : Mach w' M b sb n nx fi q P V tb T :=
  ⟨h.r.kept c (ha _ h.mb) (ha _ h.ms), fun k hk => (h.t k hk).kept c (ha _ (h.mt k hk)), h.mb, h.ms, h.mt, h.nb, h.ns, h.inj, fun k hk => Nat.lt_of_lt_of_le (h.lt k hk) c.size⟩
theorem Mach.chTwo (h : Mach w M b sb n nx fi q P V tb T) (c : Ch (Two b sb) w w') : Ch M w w' := c.mono fun i _ e => by rcases e with rfl | rfl; exact h.mb; exact h.ms
theorem Mach.chTri (h : Mach w M b sb n nx fi q P V tb T) {k : Nat} (hk : k < q) (c : Ch (Tri (tb k) b sb) w w') : Ch M w w' := c.mono fun i _ e => by rcases e with rfl | rfl | rfl; exact h.mt k hk; exact h.mb; exact h.ms
/-- the ring turned, no ticket did -/
theorem Mach.ring {nx' fi' : Nat} {P' : Nat → Bool} {V' : Nat → Int} (h : Mach w M b sb n nx fi q P V tb T) (c : Ch (Two b sb) w w') (h' : IsRing w' b sb n nx' fi' P' V') : Mach w' M b sb n nx' fi' q P' V' tb T :=
  ⟨h', fun k hk => (h.t k hk).kept c (fun e => by rcases e with e | e; exact h.nb k hk e; exact h.ns k hk e), h.mb, h.ms, h.mt, h.nb, h.ns, h.inj, fun k hk => Nat.lt_of_lt_of_le (h.lt k hk) c.size⟩
/-- the ring turned, and one ticket -/
theorem Mach.tick {nx' fi' k : Nat} {P' : Nat → Bool} {V' : Nat → Int} {t : TSt} (h : Mach w M b sb n nx fi q P V tb T) (hk : k < q) (c : Ch (Tri (tb k) b sb) w w') (h' : IsRing w' b sb n nx' fi' P' V') (ht : IsT w' (tb k) b t.st t.su t.pos t.fl) :
    Mach w' M b sb n nx' fi' q P' V' tb (upd T k t) := by
  refine ⟨h', fun j hj => ?_, h.mb, h.ms, h.mt, h.nb, h.ns, h.inj, fun k hk => Nat.lt_of_lt_of_le (h.lt k hk) c.size⟩
  by_cases e : j = k
  · subst e; rw [upd_same]; exact ht
  · rw [upd_other _ _ _ _ e]
    exact (h.t j hj).kept c (fun x => by rcases x with x | x | x; exact e (h.inj j k hj hk x); exact h.nb j hj x; exact h.ns j hj x)
theorem IsRing.setV (h : IsRing w b sb n nx fi P V) (V' : Nat → Int) (hv : ∀ p, P p = true → V' p = V p) : IsRing w b sb n nx fi P V' :=
  ⟨h.next, h.first, h.seats, fun p h1 h2 => by
    obtain ⟨z, hz, hq⟩ := (h.seat p h1 h2).z
    exact ⟨(h.seat p h1 h2).m, ⟨z, hz, fun e => (hq e).trans (hv p e).symm⟩, (h.seat p h1 h2).f⟩, h.ne, h.n0, h.n1⟩
theorem Mach.setV (h : Mach w M b sb n nx fi q P V tb T) (V' : Nat → Int) (hv : ∀ p, P p = true → V' p = V p) : Mach w M b sb n nx fi q P V' tb T :=
  ⟨IsRing.setV h.r V' hv, h.t, h.mb, h.ms, h.mt, h.nb, h.ns, h.inj, h.lt⟩

theorem mach_new (n : Nat) (w : World) (n0 : 0 < n) (n1 : n ≤ 64) (T : Nat → TSt) (tb : Nat → Nat) :
    Calls Try.prog 9 #[.int .i64 n] w fun e w' => ∃ b sb M, e = .returned (.tuple #[.pointer (some ⟨b, 0, none⟩), .int .i64 0]) ∧ (∀ k, M k → w.heap.size ≤ k) ∧ Mach w' M b sb n 0 0 0 (fun _ => false) (fun _ => 0) tb T ∧ Ch Nil w w' :=
  (new_of n w n0 n1).mono fun e w' ⟨b, sb, he, hb, hs, h, c⟩ => ⟨b, sb, Two b sb, he, fun k hk => Two.up hk hb hs, ⟨h, by omega, .inl rfl, .inr rfl, by omega, by omega, by omega, by omega, fun k hk => by rcases hk with rfl | rfl; exact h.lt; exact h.lt2⟩, c⟩
theorem mach_begin (h : Mach w M b sb n nx fi q P V tb T) :
    Calls Try.prog 10 #[.pointer (some ⟨b, 0, none⟩)] w fun e w' => ∃ t, e = .returned (.pointer (some ⟨t, 0, none⟩)) ∧ w.heap.size ≤ t ∧ Mach w' (fun k => M k ∨ k = t) b sb n nx fi (q + 1) P V (upd tb q t) (upd T q ⟨0, 0, 0, false⟩) ∧ Ch Nil w w' := by
  refine (begin_of h.r).mono fun e w' ⟨t, he, ht, htb, hts, hk, hr, c⟩ => ⟨t, he, ht, ?_, c⟩
  have cs : ∀ k, k < q + 1 → (k = q ∧ upd tb q t k = t) ∨ (k < q ∧ upd tb q t k = tb k) := by
    intro k hk
    by_cases e : k = q
    · exact .inl ⟨e, by rw [e]; exact upd_same _ _ _⟩
    · exact .inr ⟨by omega, upd_other _ _ _ _ e⟩
  have old : ∀ k, k < q → tb k < w.heap.size := fun k hk => h.lt _ (h.mt k hk)
  refine ⟨hr, ?_, .inl h.mb, .inl h.ms, ?_, ?_, ?_, ?_, ?_⟩
  · intro k hk'
    by_cases e : k = q
    · rw [e, upd_same, upd_same]; exact hk
    · rw [upd_other _ _ _ _ e, upd_other _ _ _ _ e]; exact (h.t k (by omega)).kept c (fun e => e)
  · intro k hk'; rcases cs k hk' with ⟨-, e⟩ | ⟨hq, e⟩ <;> rw [e]
    · exact .inr rfl
    · exact .inl (h.mt k hq)
  · intro k hk'; rcases cs k hk' with ⟨-, e⟩ | ⟨hq, e⟩ <;> rw [e]
    · exact htb
    · exact h.nb k hq
  · intro k hk'; rcases cs k hk' with ⟨-, e⟩ | ⟨hq, e⟩ <;> rw [e]
    · exact hts
    · exact h.ns k hq
  · intro j k hj hk'
    rcases cs j hj with ⟨e0, e⟩ | ⟨e0, e⟩ <;> rw [e] <;> rcases cs k hk' with ⟨e0', e'⟩ | ⟨e0', e'⟩ <;> rw [e']
    · intros; omega
    · have := old k e0'; intros; omega
    · have := old j e0; intros; omega
    · exact h.inj j k e0 e0'
  · intro k hk'
    rcases hk' with hk' | rfl
    · exact Nat.lt_of_lt_of_le (h.lt k hk') c.size
    · exact hk.lt
theorem mach_step (h : Mach w M b sb n nx fi q P V tb T) (i : Inv n nx fi q P T) (hx : nx ≤ 900000) (k : Nat) (hk : k < q) (s' : TSt) (nx' : Nat) (he : tickStep n nx fi P (T k) = (nx', s')) (t : Nat) (ht : tb k = t) :
    Calls Try.prog 11 #[.pointer (some ⟨t, 0, none⟩)] w fun e w' => e = .returned (.int .i64 s'.su) ∧ Mach w' M b sb n nx' fi q P V tb (upd T k s') ∧ Ch M w w' := by
  subst ht
  refine (step_to (T k) s' nx' h.r (h.t k hk) (h.nb k hk) (h.ns k hk) (by have := i.pos k hk; omega) (i.st k hk) he).mono fun e w' ⟨h1, h2, h3, c⟩ => ⟨h1, h.tick hk c h2 h3, h.chTri hk c⟩
theorem mach_fill (h : Mach w M b sb n nx fi q P V tb T) (i : Inv n nx fi q P T) (hx : nx ≤ 900000) (k : Nat) (hk : k < q) (h2 : Hid ((T k).su = 2)) (h3 : Hid ((T k).fl = false)) (v : Int) (t : Nat) (ht : tb k = t) :
    Calls Try.prog 13 #[.pointer (some ⟨t, 0, none⟩), .int .i64 v] w fun e w' => e = .returned (.int .i64 0) ∧ Mach w' M b sb n nx fi q (upd P (T k).pos true) (upd V (T k).pos v) tb (upd T k ⟨(T k).st, (T k).su, (T k).pos, true⟩) ∧ Ch M w w' := by
  subst ht
  have hp := (i.fill hk h2.out h3.out).1
  have := h.t k hk
  rw [h2.out, h3.out] at this
  have hr := i.room
  refine (fill_ok (tb k) b sb n nx fi P V (T k).st (T k).pos v w h.r this (h.nb k hk) (h.ns k hk) (by omega) (by omega)).mono fun e w' ⟨h1, h4, h5, c⟩ => ⟨h1, h.tick hk c h4 ?_, h.chTri hk c⟩
  rw [h2.out]; exact h5
theorem mach_refuse (h : Mach w M b sb n nx fi q P V tb T) (k : Nat) (hk : k < q) (h2 : Hid ((T k).su ≠ 2 ∨ (T k).fl = true)) (v : Int) (t : Nat) (ht : tb k = t) :
    Calls Try.prog 13 #[.pointer (some ⟨t, 0, none⟩), .int .i64 v] w fun e w' => e = .returned (.int .i64 7) ∧ w = w' := by
  subst ht
  by_cases hs : (T k).su = 2
  · rcases h2.out with h3 | h3
    · exact absurd hs h3
    · have := h.t k hk
      rw [hs, h3] at this
      exact fill_again (tb k) b (T k).st (T k).pos v w this
  · exact fill_early (tb k) b _ _ _ _ v w (h.t k hk) hs
theorem mach_pop (h : Mach w M b sb n nx fi q P V tb T) (i : Inv n nx fi q P T) (hx : nx ≤ 900000) (hP : Hid (P fi = true)) :
    Calls Try.prog 15 #[.pointer (some ⟨b, 0, none⟩)] w fun e w' => e = .returned (.tuple #[.int .i64 (V fi), .int .i64 0]) ∧ Mach w' M b sb n nx (fi + 1) q P V tb T ∧ Ch M w w' :=
  (pop_ok b sb n nx fi P V w h.r (by have := i.le; omega) hP (i.pub _ i.room)).mono fun e w' ⟨he, hr, c⟩ => ⟨he, h.ring c hr, h.chTwo c⟩
theorem mach_popnone (h : Mach w M b sb n nx fi q P V tb T) (i : Inv n nx fi q P T) (hx : nx ≤ 900000) (hP : Hid (P fi = false)) :
    Calls Try.prog 15 #[.pointer (some ⟨b, 0, none⟩)] w fun e w' => e = .returned (.tuple #[.int .i64 0, .int .i64 6]) ∧ Mach w' M b sb n nx fi q P V tb T ∧ Ch M w w' :=
  (pop_none b sb n nx fi P V w h.r (by have := i.le; omega) hP).mono fun e w' ⟨he, hr, c⟩ => ⟨he, h.ring c hr, h.chTwo c⟩
theorem mach_len (h : Mach w M b sb n nx fi q P V tb T) (hx : nx ≤ 900000) (d : Nat) (hd : Hid (nx = fi + d)) :
    Calls Try.prog 17 #[.pointer (some ⟨b, 0, none⟩)] w fun e w' => e = .returned (.int .i64 (d : Nat)) ∧ Mach w' M b sb n nx fi q P V tb T ∧ Ch M w w' :=
  (len_of h.r d hd (by omega)).mono fun e w' ⟨he, hr, c⟩ => ⟨he, h.ring c hr, h.chTwo c⟩
theorem mach_ready (h : Mach w M b sb n nx fi q P V tb T) (i : Inv n nx fi q P T) (hx : nx ≤ 900000) :
    Calls Try.prog 18 #[.pointer (some ⟨b, 0, none⟩)] w fun e w' => e = .returned (.bool (P fi)) ∧ Mach w' M b sb n nx fi q P V tb T ∧ Ch M w w' :=
  (ready_at b sb n nx fi P V w h.r (by have := i.le; omega)).mono fun e w' ⟨he, hr, c⟩ => ⟨he, h.ring c hr, h.chTwo c⟩
end
end Go.Proofs.Ytklgmecmgbfhgaa
