/-
  Contracts of package list's calls at int: Push, Put, Unlink; no list, no node.
-/
import Derived.Test.YtpddiphknpplcaaPListI2
namespace Go.Proofs.Ytpddiphknpplcaa.PI
open Go.RowKit Verge
attribute [local go_sem] Oper.semAt_some
set_option linter.unusedVariables false
set_option linter.unusedSimpArgs false
variable {X : Oth}

section
variable {S : Nat → Prop} {w w' : World} {lb b : Nat} {xs : List Nat} {V : Nat → Int}
/-- a node made by hand -/
theorem IsN.made (w : World) (v : Int) (t : TypeId) : IsN (w.alloc (.cells #[.int .i64 v, .pointer none, .pointer none, .pointer none] t)) w.heap.size v none none none := by
  refine ⟨?_, ?_, ?_, ?_, Blk.new _ _ _⟩ <;> simp [cell_fresh]

set_option maxHeartbeats 800000 in
theorem IsL.push (h : IsL X w lb xs V) (v : Int) (hs : xs.length ≤ 1000000) :
    Calls Try.prog 27 #[.pointer (some ⟨lb, 1, none⟩), .int .i64 v] w fun e w' => ∃ b, e = .returned (.pointer (some ⟨b, 0, none⟩)) ∧ w.heap.size ≤ b ∧ IsL X w' lb (xs ++ [b]) (upd V b v) ∧ Ch (LB lb xs) w w' := by
  have H := Lib.hid h
  clear h
  go_enter Try.func27, Try.ntmps27
  go_wp2_with fail
  have hx : w.heap.size ∉ xs := fun hm => by have := H.out.lt (.inr hm); omega
  have hl : w.heap.size ≠ lb := fun e => by have := H.out.lt (.inl rfl); omega
  have h1 : IsL X (w.alloc (.cells #[.int .i64 v, .pointer none, .pointer none, .pointer none] 76)) lb xs (upd V w.heap.size v) :=
    (H.out.kept (S := Nil) ((Ch.refl _ _).alloc _) (fun _ _ e => e)).congr _ (fun b hb => upd_other _ _ _ _ (fun e => hx (e ▸ hb)))
  have h2 : IsN (w.alloc (.cells #[.int .i64 v, .pointer none, .pointer none, .pointer none] 76)) w.heap.size (upd V w.heap.size v w.heap.size) none none none := by
    rw [upd_same]; exact IsN.made _ _ _
  refine (h1.link_of h2 hx hl hs).mono ?_
  rintro e w' ⟨⟨r, rfl⟩, h3, c3⟩
  have H3 := Lib.hid h3
  have C3 := Lib.hid c3
  clear h1 h2 h3 c3
  go_wp2
  go_ret
  refine ⟨_, rfl, Nat.le_refl _, H3.out, ?_⟩
  refine ((Ch.refl (LB lb xs) w).alloc _).then C3.out ?_
  rintro i hi (hk | rfl)
  · exact hk
  · omega
theorem push_nil (v : Int) (w : World) :
    Calls Try.prog 27 #[.pointer none, .int .i64 v] w fun e w' => e = .returned (.pointer none) ∧ w = w' := by
  go_enter Try.func27, Try.ntmps27
  go_wp2
  go_ret
  exact ⟨rfl, rfl⟩

-- @INT
-- @END
theorem IsL.unlink (h : IsL X w lb xs V) {i : Nat} (hi : xs[i]? = some b) (hs : xs.length ≤ 1000000) :
    Calls Try.prog 40 #[.pointer (some ⟨lb, 1, none⟩), .pointer (some ⟨b, 0, none⟩)] w fun e w' => e = .returned (.int .i64 0) ∧ IsL X w' lb (xs.eraseIdx i) V ∧ IsN w' b (V b) none none none ∧ Ch (LB lb xs) w w' := by
  have hH := has_of lb b (some lb) w (h.n i b hi).l h.h.k (fun x e => by cases e; exact h.h.k)
  rw [decide_eq_true rfl] at hH
  have HH := Lib.hid hH
  have H := Lib.hid h
  have HI := Lib.hid hi
  clear h hH hi
  go_enter Try.func40, Try.ntmps40
  go_wp2_with fail
  refine HH.out.mono ?_
  rintro e w' ⟨rfl, rfl⟩
  go_wp2_with fail
  refine (H.out.cut_of HI.out hs).mono ?_
  rintro e w' ⟨⟨r, rfl⟩, h3, n3, c3⟩
  have H3 := Lib.hid h3
  have N3 := Lib.hid n3
  have C3 := Lib.hid c3
  clear h3 n3 c3
  go_wp2
  go_ret
  exact ⟨rfl, H3.out, N3.out, C3.out⟩
theorem unlink_none (lb b : Nat) (lp : Option Nat) (w : World) (hc : w.cell? ⟨b, 1, none⟩ = some (po lp)) (hk : Blk w lb) (hl : ∀ x, lp = some x → Blk w x) (hne : lp ≠ some lb) :
    Calls Try.prog 40 #[.pointer (some ⟨lb, 1, none⟩), .pointer (some ⟨b, 0, none⟩)] w fun e w' => e = .returned (.int .i64 6) ∧ w = w' := by
  have hH := has_of lb b lp w hc hk hl
  rw [decide_eq_false hne] at hH
  have HH := Lib.hid hH
  clear hH hc hk hl hne
  go_enter Try.func40, Try.ntmps40
  go_wp2_with fail
  refine HH.out.mono ?_
  rintro e w' ⟨rfl, rfl⟩
  go_wp2
  go_ret
  exact ⟨rfl, rfl⟩
theorem unlink_nonode (lb : Nat) (w : World) :
    Calls Try.prog 40 #[.pointer (some ⟨lb, 1, none⟩), .pointer none] w fun e w' => e = .returned (.int .i64 1) ∧ w = w' := by
  go_enter Try.func40, Try.ntmps40
  go_wp2
  go_ret
  exact ⟨rfl, rfl⟩
theorem unlink_nil (p : Value) (w : World) :
    Calls Try.prog 40 #[.pointer none, p] w fun e w' => e = .returned (.int .i64 6) ∧ w = w' := by
  go_enter Try.func40, Try.ntmps40
  go_wp2
  go_ret
  exact ⟨rfl, rfl⟩
theorem has_nonode (lb : Nat) (w : World) :
    Calls Try.prog 45 #[.pointer (some ⟨lb, 1, none⟩), .pointer none] w fun e w' => e = .returned (.bool false) ∧ w = w' := by
  go_enter Try.func45, Try.ntmps45
  go_wp2
  go_ret
  exact ⟨rfl, rfl⟩
theorem has_nil (b : Nat) (w : World) :
    Calls Try.prog 45 #[.pointer none, .pointer (some ⟨b, 0, none⟩)] w fun e w' => e = .returned (.bool false) ∧ w = w' := by
  go_enter Try.func45, Try.ntmps45
  go_wp2
  go_ret
  exact ⟨rfl, rfl⟩
theorem len_nil (w : World) :
    Calls Try.prog 30 #[.pointer none] w fun e w' => e = .returned (.int .i64 0) ∧ w = w' := by
  go_enter Try.func30, Try.ntmps30
  go_wp2
  go_ret
  exact ⟨rfl, rfl⟩
end
end Go.Proofs.Ytpddiphknpplcaa.PI
