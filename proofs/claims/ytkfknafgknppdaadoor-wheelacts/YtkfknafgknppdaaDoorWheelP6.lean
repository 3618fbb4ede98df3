/-
  A wheel, and what was there before it: its calls as the statements use them, of ints.
-/
import Derived.Test.YtkfknafgknppdaaDoorWheelP5
namespace Go.Proofs.YtkfknafgknppdaaDoor.LP
open Go.RowKit Verge
set_option linter.unusedVariables false
/-- a wheel that the call made itself: nothing that was there before has turned -/
structure Drv (w0 w : World) (g : Wh) (now : Nat) (Q P : List Ent) : Prop where
  q : IsQ w g now Q P
  hi : ∀ k, WS g P k → w0.heap.size ≤ k
  c : Ch Nil w0 w
section
variable {S : Nat → Prop} {w0 w w' : World} {g : Wh} {now : Nat} {P Q : List Ent} {x : Ent}
theorem Drv.later (D : Drv w0 w g now Q P) (c : Ch S w w') (hn : ∀ k, WS g P k → ¬ S k) (hs : ∀ k, S k → w0.heap.size ≤ k) : Drv w0 w' g now Q P := ⟨D.q.kept c hn, D.hi, D.c.up c hs⟩
theorem Drv.quiet (D : Drv w0 w g now Q P) (c : Ch Nil w w') : Drv w0 w' g now Q P := D.later c (fun _ _ e => e) (fun _ e => e.elim)
theorem Drv.lt (D : Drv w0 w g now Q P) {k : Nat} (hk : WS g P k) : k < w.heap.size := D.q.lt hk
theorem Drv.base {v : World} (D : Drv w w' g now Q P) (c : Ch Nil v w) : Drv v w' g now Q P := ⟨D.q, fun k hk => Nat.le_trans c.size (D.hi k hk), c.trans D.c⟩
theorem Drv.new (now : Nat) (hn : now < 18446744073709551616) (c : Ch Nil w0 w) :
    Calls Tryd.prog 5 #[.int .u64 (now : Nat)] w fun e w' => ∃ g : Wh, e = .returned (.pointer (some ⟨g.wb, 0, none⟩)) ∧ (∀ k, WS g [] k → w.heap.size ≤ k) ∧ Drv w0 w' g now [] [] ∧ Ch Nil w w' :=
  (neww_of w now hn).mono fun e w' ⟨g, he, h, hi, c'⟩ => ⟨g, he, hi, ⟨.new h, fun k hk => Nat.le_trans c.size (hi k hk), c.trans c'⟩, c'⟩
theorem Drv.insert (D : Drv w0 w g now Q P) (d : Nat) (u : Int) (hd : now < d) (hd2 : d < 18446744073709551616) (hl : Q.length ≤ 90000) :
    Calls Tryd.prog 6 #[.pointer (some ⟨g.wb, 0, none⟩), .int .u64 (d : Nat), .int .i64 u] w fun e w' => ∃ b, e = .returned (.tuple #[.pointer (some ⟨b, 0, none⟩), .int .i64 0]) ∧ w.heap.size ≤ b ∧ Drv w0 w' g now (Q ++ [⟨b, d, u⟩]) (P ++ [⟨b, d, u⟩]) ∧ Ch (WS g P) w w' := by
  refine (D.q.insert d u hd hd2 hl).mono fun e w' ⟨b, he, hb, hq, c⟩ => ⟨b, he, hb, ⟨hq, fun k hk => ?_, D.c.up c D.hi⟩, c⟩
  have := D.c.size
  rcases WS.more hk with h | h | h
  · exact D.hi k h
  · simp only at h; omega
  · simp only at h; omega
theorem Drv.late (D : Drv w0 w g now Q P) (d : Nat) (u : Int) (hd : d ≤ now) :
    Calls Tryd.prog 6 #[.pointer (some ⟨g.wb, 0, none⟩), .int .u64 (d : Nat), .int .i64 u] w fun e w' => e = .returned (.tuple #[.pointer none, .int .i64 1]) ∧ w = w' := insert_late w g.wb now d u D.q.w.t hd
theorem Drv.advance (D : Drv w0 w g now Q P) (hn : now + 1 < 18446744073709551616) (hl : Q.length ≤ 45000) :
    Calls Tryd.prog 10 #[.pointer (some ⟨g.wb, 0, none⟩)] w fun e w' => ∃ a cap, e = .returned (.tuple #[.slice a (dueQ Q (now + 1)).length cap, .int .i64 0]) ∧ RowX w' a (dueQ Q (now + 1)).length cap (dueQ Q (now + 1)) ∧ (∀ k, OwnS a k → w.heap.size ≤ k) ∧ Drv w0 w' g (now + 1) (leftQ Q (now + 1)) P ∧ Ch (WS g P) w w' :=
  (D.q.advance hn hl).mono fun e w' ⟨a, cap, he, r, g1, hq, c⟩ => ⟨a, cap, he, r, g1, ⟨hq, D.hi, D.c.up c D.hi⟩, c⟩
theorem Drv.over (D : Drv w0 w g 18446744073709551615 Q P) :
    Calls Tryd.prog 10 #[.pointer (some ⟨g.wb, 0, none⟩)] w fun e w' => e = .returned (.tuple #[.slice none 0 0, .int .i64 9]) ∧ w = w' := advance_over w g.wb D.q.w.t
theorem Drv.at_of {h s : Nat} (D : Drv w0 w g now Q P) (hh : h < 4) (hs : s < 64) (hl : Q.length ≤ 100000) :
    Calls Tryd.prog 15 #[.pointer (some ⟨g.wb, 0, none⟩), .int .i64 (h : Nat), .int .i64 (s : Nat)] w fun e w' => ∃ a cap, e = .returned (.slice a (rowsOf Q now (64 * h + s)).length cap) ∧ RowU w' a (rowsOf Q now (64 * h + s)).length cap (rowsOf Q now (64 * h + s)) ∧ (∀ k, OwnS a k → w.heap.size ≤ k) ∧ Ch Nil w w' :=
  D.q.w.at_of hh hs (by have := rowsOf_len (Q := Q) (now := now) (p := 64 * h + s); omega)
/-- At of any level and slot -/
def atQ (Q : List Ent) (now : Nat) (l s : Int) : List Ent := if 0 ≤ l ∧ l < 4 ∧ 0 ≤ s ∧ s < 64 then rowsOf Q now (64 * l.toNat + s.toNat) else []
theorem atQ_len {l s : Int} : (atQ Q now l s).length ≤ Q.length := by unfold atQ; split; exact rowsOf_len; simp
theorem atQ_nat {h s : Nat} (hh : h < 4) (hs : s < 64) : atQ Q now (h : Int) (s : Int) = rowsOf Q now (64 * h + s) := by
  unfold atQ; rw [if_pos ⟨by omega, by omega, by omega, by omega⟩]; rfl
theorem Drv.at_any (D : Drv w0 w g now Q P) (l s : Int) (hl : Q.length ≤ 100000) :
    Calls Tryd.prog 15 #[.pointer (some ⟨g.wb, 0, none⟩), .int .i64 l, .int .i64 s] w fun e w' => ∃ a cap, e = .returned (.slice a (atQ Q now l s).length cap) ∧ RowU w' a (atQ Q now l s).length cap (atQ Q now l s) ∧ (∀ k, OwnS a k → w.heap.size ≤ k) ∧ Ch Nil w w' := by
  by_cases h1 : 0 ≤ l ∧ l < 4
  · obtain ⟨h, rfl⟩ := Int.eq_ofNat_of_zero_le h1.1
    by_cases h2 : 0 ≤ s ∧ s < 64
    · obtain ⟨s, rfl⟩ := Int.eq_ofNat_of_zero_le h2.1
      rw [atQ_nat (by omega) (by omega)]
      exact D.at_of (by omega) (by omega) hl
    · have e : atQ Q now (h : Int) s = [] := by unfold atQ; rw [if_neg (by omega)]
      rw [e]
      refine (D.q.w.at_noslot (by omega) s (by omega)).mono ?_
      rintro r w' ⟨a, cap, rfl, hr, hg, c⟩
      exact ⟨a, cap, rfl, hr, hg, c⟩
  · have e : atQ Q now l s = [] := by unfold atQ; rw [if_neg (by omega)]
    rw [e]
    refine (at_nolevel g.wb l s (by omega) w).mono ?_
    rintro r w' ⟨rfl, rfl⟩
    exact ⟨none, 0, rfl, Row.nil _ _ _ _, fun k hk => (by cases hk), Ch.refl _ _⟩
theorem Drv.beyond (D : Drv w0 w g now Q P) (hl : Q.length ≤ 100000) :
    Calls Tryd.prog 35 #[.pointer (some ⟨g.wb, 0, none⟩)] w fun e w' => ∃ a cap, e = .returned (.slice a (rowsOf Q now 256).length cap) ∧ RowU w' a (rowsOf Q now 256).length cap (rowsOf Q now 256) ∧ (∀ k, OwnS a k → w.heap.size ≤ k) ∧ Ch Nil w w' :=
  D.q.w.beyond (by have := rowsOf_len (Q := Q) (now := now) (p := 256); omega)
theorem Drv.time (D : Drv w0 w g now Q P) :
    Calls Tryd.prog 16 #[.pointer (some ⟨g.wb, 0, none⟩)] w fun e w' => e = .returned (.int .u64 (now : Nat)) ∧ w = w' := now_at g.wb now w D.q.w.t
theorem Drv.len (D : Drv w0 w g now Q P) (T : Tab w0) (hl : Q.length ≤ 100000) :
    Calls Tryd.prog 34 #[.pointer (some ⟨g.wb, 0, none⟩)] w fun e w' => e = .returned (.int .i64 (Q.length : Nat)) ∧ Ch Nil w w' := D.q.len (T.keeps D.c (fun e => e)) hl
end
end Go.Proofs.YtkfknafgknppdaaDoor.LP
