/-
  Contracts of package level's row, mark, Map: a slot's list, the map set right.
-/
import Derived.Test.YtkfknafgknppdaaDoorLevelPMem
namespace Go.Proofs.YtkfknafgknppdaaDoor.LP
open Go.RowKit Verge
attribute [local go_sem] Oper.semAt_some
set_option linter.unusedVariables false
set_option linter.unusedSimpArgs false
section
variable {S : Nat → Prop} {w w' : World} {vb m b s : Nat} {hd : Nat → Nat} {X : Nat → List Nat} {V : Nat → Nat}
theorem row_of (h : IsV w vb hd X V m) (hs : s < 64) :
    Calls Tryd.prog 45 #[.pointer (some ⟨vb, 0, none⟩), .int .i64 (s : Nat)] w fun e w' => e = .returned (.tuple #[.pointer (some ⟨hd s, 0, none⟩), .int .i64 0]) ∧ w = w' := by
  have c1 := h.s s hs
  have hz : (s : Int) < 64 := by omega
  have hz0 : (0 : Int) ≤ (s : Int) := by omega
  clear h
  go_enter Tryd.func45, Tryd.ntmps45
  go_wp2
  go_ret2
  exact ⟨rfl, rfl⟩
theorem row_range (vb : Nat) (z : Int) (hz : z < 0 ∨ 64 ≤ z) (w : World) :
    Calls Tryd.prog 45 #[.pointer (some ⟨vb, 0, none⟩), .int .i64 z] w fun e w' => e = .returned (.tuple #[.pointer none, .int .i64 4]) ∧ w = w' := by
  by_cases h0 : z < 0
  · clear hz
    go_enter Tryd.func45, Tryd.ntmps45
    go_wp2
    go_ret2
    exact ⟨rfl, rfl⟩
  · have h1 : 64 ≤ z := by omega
    have h2 : 0 ≤ z := by omega
    clear hz
    go_enter Tryd.func45, Tryd.ntmps45
    go_wp2
    go_ret2
    exact ⟨rfl, rfl⟩
theorem row_nil (z : Int) (w : World) :
    Calls Tryd.prog 45 #[.pointer none, .int .i64 z] w fun e w' => e = .returned (.tuple #[.pointer none, .int .i64 6]) ∧ w = w' := by
  go_enter Tryd.func45, Tryd.ntmps45
  go_wp2
  go_ret2
  exact ⟨rfl, rfl⟩
theorem map_of (h : IsV w vb hd X V m) :
    Calls Tryd.prog 60 #[.pointer (some ⟨vb, 0, none⟩)] w fun e w' => e = .returned (.int .u64 (m : Nat)) ∧ w = w' := by
  have c1 := h.m
  clear h
  go_enter Tryd.func60, Tryd.ntmps60
  go_wp2
  go_ret
  exact ⟨rfl, rfl⟩
theorem map_nil (w : World) :
    Calls Tryd.prog 60 #[.pointer none] w fun e w' => e = .returned (.int .u64 0) ∧ w = w' := by
  go_enter Tryd.func60, Tryd.ntmps60
  go_wp2
  go_ret
  exact ⟨rfl, rfl⟩

theorem mark_of (h : IsV w vb hd X V m) (hs : s < 64) (hm : m < 18446744073709551616) :
    Calls Tryd.prog 46 #[.pointer (some ⟨vb, 0, none⟩), .int .i64 (s : Nat)] w fun e w' => (∃ r, e = .returned r) ∧ IsV w' vb hd X V (markN X m s) ∧ Ch (One vb) w w' := by
  have c1 := h.s s hs
  have c2 := h.m
  have f1 := h.k.fz 64
  have hz : (s : Int) < 64 := by omega
  have hz0 : (0 : Int) ≤ (s : Int) := by omega
  have HL := Lib.hid (len_of (hd s) _ w (h.l s hs).h.n)
  have H := Lib.hid h
  clear h
  by_cases hx : X s = []
  · have e : markN X m s = woN m s := by unfold markN; rw [if_pos hx]
    rw [e]
    rw [hx] at HL
    have HX := Lib.hid hx
    clear hx e
    go_enter Tryd.func46, Tryd.ntmps46
    go_wp2_with fail
    refine HL.out.mono ?_
    rintro e w' ⟨rfl, rfl⟩
    go_wp2_with fail
    refine (without_any m s hm _).mono ?_
    rintro e w' ⟨rfl, rfl⟩
    go_wp2
    go_end0
    exact ⟨⟨_, rfl⟩, H.out.setm _, (Ch.refl _ _).setB 64 _⟩
  · have e : markN X m s = withN m s := by unfold markN; rw [if_neg hx]
    rw [e]
    obtain ⟨n, hn⟩ : ∃ n, n = (X s).length := ⟨_, rfl⟩
    have hpos : (0 : Int) < (n : Int) := by have := List.length_pos_iff.2 hx; omega
    rw [← hn] at HL
    have HX := Lib.hid hx
    clear hx e hn
    go_enter Tryd.func46, Tryd.ntmps46
    go_wp2_with fail
    refine HL.out.mono ?_
    rintro e w' ⟨rfl, rfl⟩
    go_wp2_with fail
    refine (with_any m s hm _).mono ?_
    rintro e w' ⟨rfl, rfl⟩
    go_wp2
    go_end0
    exact ⟨⟨_, rfl⟩, H.out.setm _, (Ch.refl _ _).setB 64 _⟩
end
end Go.Proofs.YtkfknafgknppdaaDoor.LP
