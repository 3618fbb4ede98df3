/-
  Contracts of package ring's functions at int, as the statements use them.
-/
import Derived.Test.YtklgmecmgbfhgaaRingI5
import Derived.Test.YtklgmecmgbfhgaaRingPlain2
namespace Go.Proofs.Ytklgmecmgbfhgaa.RI
open Go.RowKit Verge
set_option linter.unusedVariables false

theorem new_of (n : Nat) (w : World) (n0 : 0 < n) (n1 : n ≤ 64) :
    Calls Try.prog 9 #[.int .i64 n] w fun e w' => ∃ b sb, e = .returned (.tuple #[.pointer (some ⟨b, 0, none⟩), .int .i64 0]) ∧ w.heap.size ≤ b ∧ w.heap.size ≤ sb ∧ IsRing w' b sb n 0 0 (fun _ => false) (fun _ => 0) ∧ Ch Nil w w' :=
  (new_in n w n0 n1).mono fun e w' ⟨he, h, c⟩ => ⟨_, _, he, by omega, by omega, h, c⟩
theorem begin_of {w : World} {b sb n nx fi : Nat} {P : Nat → Bool} {V : Nat → Int} (h : IsRing w b sb n nx fi P V) :
    Calls Try.prog 10 #[.pointer (some ⟨b, 0, none⟩)] w fun e w' => ∃ t, e = .returned (.pointer (some ⟨t, 0, none⟩)) ∧ w.heap.size ≤ t ∧ t ≠ b ∧ t ≠ sb ∧ IsT w' t b 0 0 0 false ∧ IsRing w' b sb n nx fi P V ∧ Ch Nil w w' :=
  (begin_at b sb n w h.seats h.n0).mono fun e w' ⟨he, k, c, _⟩ => ⟨_, he, Nat.le_refl _, by have := h.lt; omega, by have := h.lt2; omega, k, h.kept c (fun e => e) (fun e => e), c⟩
theorem step_to {t b sb n nx fi : Nat} {P : Nat → Bool} {V : Nat → Int} (s s' : TSt) (nx' : Nat) {w : World} (h : IsRing w b sb n nx fi P V) (k : IsT w t b s.st s.su s.pos s.fl) (hb : t ≠ b) (hs : t ≠ sb) (hx : s.pos ≤ 1000000)
    (hst : s.st = 0 ∨ s.st = 1 ∨ s.st = 2) (he : tickStep n nx fi P s = (nx', s')) :
    Calls Try.prog 11 #[.pointer (some ⟨t, 0, none⟩)] w fun e w' => e = .returned (.int .i64 s'.su) ∧ IsRing w' b sb n nx' fi P V ∧ IsT w' t b s'.st s'.su s'.pos s'.fl ∧ Ch (Tri t b sb) w w' := by
  have := step_any t b sb n nx fi P V s w h k hb hs hx hst
  rw [he] at this
  exact this
theorem pop_seq {b sb n nx fi : Nat} {V : Nat → Int} {w : World} (h : IsRing w b sb n nx fi (pubTo nx) V) (h1 : fi ≤ nx) (h2 : nx ≤ fi + n) (hx : nx ≤ 900000) :
    Calls Try.prog 15 #[.pointer (some ⟨b, 0, none⟩)] w fun e w' => ∃ v c fi', e = .returned (.tuple #[.int .i64 v, .int .i64 c]) ∧ fi ≤ fi' ∧ fi' ≤ nx ∧ IsRing w' b sb n nx fi' (pubTo nx) V ∧ Ch (Two b sb) w w' := by
  by_cases hlt : fi < nx
  · exact (pop_ok b sb n nx fi _ V w h (by omega) (pubTo_yes hlt) (pubTo_no h2)).mono fun e w' ⟨he, k, c⟩ => ⟨_, _, fi + 1, he, by omega, by omega, k, c⟩
  · exact (pop_none b sb n nx fi _ V w h (by omega) (pubTo_no (by omega))).mono fun e w' ⟨he, k, c⟩ => ⟨_, _, fi, he, by omega, by omega, k, c⟩
theorem len_of {b sb n nx fi : Nat} {P : Nat → Bool} {V : Nat → Int} {w : World} (h : IsRing w b sb n nx fi P V) (d : Nat) (hd : Hid (nx = fi + d)) (hx : nx ≤ 1000000) :
    Calls Try.prog 17 #[.pointer (some ⟨b, 0, none⟩)] w fun e w' => e = .returned (.int .i64 (d : Nat)) ∧ IsRing w' b sb n nx fi P V ∧ Ch (Two b sb) w w' := by
  have := len_at b sb n nx fi P V w h (by have := hd.out; omega) hx
  rw [show nx - fi = d by have := hd.out; omega] at this
  exact this
theorem Tri.up {t b sb B i : Nat} (h : Tri t b sb i) (h1 : B ≤ t) (h2 : B ≤ b) (h3 : B ≤ sb) : B ≤ i := by rcases h with rfl | rfl | rfl <;> assumption
theorem Two.up {b sb B i : Nat} (h : Two b sb i) (h2 : B ≤ b) (h3 : B ≤ sb) : B ≤ i := by rcases h with rfl | rfl <;> assumption
theorem Ch_upTri {t b sb : Nat} {w w1 w2 : World} (c0 : Ch Nil w w1) (c : Ch (Tri t b sb) w1 w2) (h1 : w.heap.size ≤ t) (h2 : w.heap.size ≤ b) (h3 : w.heap.size ≤ sb) : Ch Nil w w2 :=
  c0.then c fun i hi e => by have := Tri.up e h1 h2 h3; omega
theorem Ch_upTwo {b sb : Nat} {w w1 w2 : World} (c0 : Ch Nil w w1) (c : Ch (Two b sb) w1 w2) (h2 : w.heap.size ≤ b) (h3 : w.heap.size ≤ sb) : Ch Nil w w2 :=
  c0.then c fun i hi e => by have := Two.up e h2 h3; omega
end Go.Proofs.Ytklgmecmgbfhgaa.RI
