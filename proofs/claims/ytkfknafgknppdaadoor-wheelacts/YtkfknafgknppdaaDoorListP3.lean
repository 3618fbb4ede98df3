/-
  Contracts of package list's calls at *verge/wheel.Entry[int]: Push, Put, Unlink; no list, no node.
-/
import Derived.Test.YtkfknafgknppdaaDoorListP2
namespace Go.Proofs.YtkfknafgknppdaaDoor.LP
open Go.RowKit Verge
attribute [local go_sem] Oper.semAt_some
set_option linter.unusedVariables false
set_option linter.unusedSimpArgs false

section
variable {S : Nat → Prop} {w w' : World} {lb b : Nat} {xs : List Nat} {V : Nat → Nat}
theorem new_of (w : World) (V : Nat → Nat) :
    Calls Tryd.prog 17 #[] w fun e w' => ∃ lb, e = .returned (.pointer (some ⟨lb, 0, none⟩)) ∧ w.heap.size ≤ lb ∧ IsL w' lb [] V ∧ Ch Nil w w' :=
  (new_any w).mono fun e w' ⟨lb, he, hl, h, c⟩ => ⟨lb, he, by omega, .new h, c⟩

/-- a node made by hand -/
theorem IsN.made (w : World) (v : Nat) (t : TypeId) : IsN (w.alloc (.cells #[.pointer (some ⟨v, 0, none⟩), .pointer none, .pointer none, .pointer none] t)) w.heap.size v none none none := by
  refine ⟨?_, ?_, ?_, ?_, Blk.new _ _ _⟩ <;> simp [cell_fresh]

-- @INT
theorem IsL.put (h : IsL w lb xs V) (hb : IsN w b (V b) none none none) (hx : b ∉ xs) (hl : b ≠ lb) (hs : xs.length ≤ 1000000) :
    Calls Tryd.prog 39 #[.pointer (some ⟨lb, 0, none⟩), .pointer (some ⟨b, 0, none⟩)] w fun e w' => e = .returned (.int .i64 0) ∧ IsL w' lb (xs ++ [b]) V ∧ Ch (fun k => LB lb xs k ∨ k = b) w w' := by
  have H := Lib.hid h
  have HB := Lib.hid hb
  have c1 := hb.l
  simp only [pt] at c1
  clear h hb
  go_enter Tryd.func39, Tryd.ntmps39
  go_wp2_with fail
  refine (H.out.link_of HB.out hx hl hs).mono ?_
  rintro e w' ⟨⟨r, rfl⟩, h3, c3⟩
  have H3 := Lib.hid h3
  have C3 := Lib.hid c3
  clear h3 c3
  go_wp2
  go_ret
  exact ⟨rfl, H3.out, C3.out⟩
theorem put_state (lb b x : Nat) (w : World) (hc : w.cell? ⟨b, 1, none⟩ = some (pt (some x))) :
    Calls Tryd.prog 39 #[.pointer (some ⟨lb, 0, none⟩), .pointer (some ⟨b, 0, none⟩)] w fun e w' => e = .returned (.int .i64 7) ∧ w = w' := by
  simp only [pt] at hc
  go_enter Tryd.func39, Tryd.ntmps39
  go_wp2
  go_ret
  exact ⟨rfl, rfl⟩
theorem put_nonode (lb : Nat) (w : World) :
    Calls Tryd.prog 39 #[.pointer (some ⟨lb, 0, none⟩), .pointer none] w fun e w' => e = .returned (.int .i64 1) ∧ w = w' := by
  go_enter Tryd.func39, Tryd.ntmps39
  go_wp2
  go_ret
  exact ⟨rfl, rfl⟩
theorem put_nil (p : Value) (w : World) :
    Calls Tryd.prog 39 #[.pointer none, p] w fun e w' => e = .returned (.int .i64 6) ∧ w = w' := by
  go_enter Tryd.func39, Tryd.ntmps39
  go_wp2
  go_ret
  exact ⟨rfl, rfl⟩

-- @END
theorem IsL.unlink (h : IsL w lb xs V) {i : Nat} (hi : xs[i]? = some b) (hs : xs.length ≤ 1000000) :
    Calls Tryd.prog 24 #[.pointer (some ⟨lb, 0, none⟩), .pointer (some ⟨b, 0, none⟩)] w fun e w' => e = .returned (.int .i64 0) ∧ IsL w' lb (xs.eraseIdx i) V ∧ IsN w' b (V b) none none none ∧ Ch (LB lb xs) w w' := by
  have hH := has_of lb b (some lb) w (h.n i b hi).l h.h.k (fun x e => by cases e; exact h.h.k)
  rw [decide_eq_true rfl] at hH
  have HH := Lib.hid hH
  have H := Lib.hid h
  have HI := Lib.hid hi
  clear h hH hi
  go_enter Tryd.func24, Tryd.ntmps24
  go_wp2_with fail
  refine HH.out.mono ?_
  rintro e w' ⟨rfl, rfl⟩
  go_wp2_with fail
  refine (H.out.cut_of HI.out hs).mono ?_
  rintro e w' ⟨⟨r, rfl⟩, h3, n3, c3⟩
  have H3 := Lib.hid h3
  have N3 := Lib.hid n3
  have C3 := Lib.hid c3
  clear h3 n3 c3
  go_wp2
  go_ret
  exact ⟨rfl, H3.out, N3.out, C3.out⟩
theorem unlink_none (lb b : Nat) (lp : Option Nat) (w : World) (hc : w.cell? ⟨b, 1, none⟩ = some (pt lp)) (hk : Blk w lb) (hl : ∀ x, lp = some x → Blk w x) (hne : lp ≠ some lb) :
    Calls Tryd.prog 24 #[.pointer (some ⟨lb, 0, none⟩), .pointer (some ⟨b, 0, none⟩)] w fun e w' => e = .returned (.int .i64 6) ∧ w = w' := by
  have hH := has_of lb b lp w hc hk hl
  rw [decide_eq_false hne] at hH
  have HH := Lib.hid hH
  clear hH hc hk hl hne
  go_enter Tryd.func24, Tryd.ntmps24
  go_wp2_with fail
  refine HH.out.mono ?_
  rintro e w' ⟨rfl, rfl⟩
  go_wp2
  go_ret
  exact ⟨rfl, rfl⟩
theorem unlink_nonode (lb : Nat) (w : World) :
    Calls Tryd.prog 24 #[.pointer (some ⟨lb, 0, none⟩), .pointer none] w fun e w' => e = .returned (.int .i64 1) ∧ w = w' := by
  go_enter Tryd.func24, Tryd.ntmps24
  go_wp2
  go_ret
  exact ⟨rfl, rfl⟩
theorem unlink_nil (p : Value) (w : World) :
    Calls Tryd.prog 24 #[.pointer none, p] w fun e w' => e = .returned (.int .i64 6) ∧ w = w' := by
  go_enter Tryd.func24, Tryd.ntmps24
  go_wp2
  go_ret
  exact ⟨rfl, rfl⟩
theorem has_nonode (lb : Nat) (w : World) :
    Calls Tryd.prog 43 #[.pointer (some ⟨lb, 0, none⟩), .pointer none] w fun e w' => e = .returned (.bool false) ∧ w = w' := by
  go_enter Tryd.func43, Tryd.ntmps43
  go_wp2
  go_ret
  exact ⟨rfl, rfl⟩
theorem has_nil (b : Nat) (w : World) :
    Calls Tryd.prog 43 #[.pointer none, .pointer (some ⟨b, 0, none⟩)] w fun e w' => e = .returned (.bool false) ∧ w = w' := by
  go_enter Tryd.func43, Tryd.ntmps43
  go_wp2
  go_ret
  exact ⟨rfl, rfl⟩
theorem len_nil (w : World) :
    Calls Tryd.prog 52 #[.pointer none] w fun e w' => e = .returned (.int .i64 0) ∧ w = w' := by
  go_enter Tryd.func52, Tryd.ntmps52
  go_wp2
  go_ret
  exact ⟨rfl, rfl⟩
end
end Go.Proofs.YtkfknafgknppdaaDoor.LP
