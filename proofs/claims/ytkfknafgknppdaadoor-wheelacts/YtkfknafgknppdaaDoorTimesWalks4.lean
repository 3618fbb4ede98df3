/-
  Contracts of the functions that give the document's own answer of layer 1 (vergeref01: Digits, Ints, Apart, Zeros, Cut) and of times.Digits: what each returns; nothing that was there is changed.
-/
import Derived.Test.YtkfknafgknppdaaDoorTimesWalks3
namespace Go.Proofs.YtkfknafgknppdaaDoor
open Go.RowKit Go.Shelf Verge
set_option linter.unusedVariables false
attribute [local go_sem] Oper.semAt_some

theorem Tryd.infoInt : (Tryd.prog.info? 3).map (fun i => (i.zero, i.size, i.bytes)) = some (some (.int .i64 0), 1, 8) := by kernel_rfl

def dvals (t k : Nat) : List Value := (List.range k).map fun j => Value.int .i64 (dg t j : Nat)
theorem dvals_len (t k : Nat) : (dvals t k).length = k := by simp [dvals]
theorem dvals_succ (t k : Nat) : dvals t (k + 1) = dvals t k ++ [Value.int .i64 (dg t k : Nat)] := by simp [dvals, List.range_succ]
theorem dvals_get (t k i : Nat) (h : i < k) : (dvals t k)[i]? = some (Value.int .i64 (dg t i : Nat)) := by simp [dvals, h]

/-- block g holds the eleven digits of t -/
def DigCells (w : World) (g t : Nat) : Prop := ∀ i, i < 11 → w.cell? ⟨g, i, none⟩ = some (.int .i64 (dg t i : Nat))
theorem DigCells.below {B : Nat} {w w' : World} {g t : Nat} (h : DigCells w g t) (hb : Below B w w') (hg : g < B) : DigCells w' g t := fun i hi => (hb.cell (p := ⟨g, i, none⟩) hg).trans (h i hi)
theorem digs_of_owns {W : World} {base : Nat} {e : TypeId} {v : Value} {t : Nat} (h : W.ownsRow base e 1 v 11 (dvals t 11)) :
    ∃ g cap, v = .slice (some ⟨g, 0, none⟩) 11 cap ∧ base ≤ g ∧ g < W.heap.size ∧ 11 ≤ cap ∧ DigCells W g t := by
  obtain ⟨g, cap, rfl⟩ := ownsRow_succ h
  refine ⟨g, cap, rfl, (h.lt g rfl).1, (h.lt g rfl).2, ?_, ?_⟩
  · obtain ⟨_, h2 | ⟨g', cap', cur, e1, _, _, h3, _⟩⟩ := h
    · cases h2.1
    · cases e1; exact h3
  · intro i hi
    rw [h.cellAt i (by omega), dvals_get _ _ _ hi]

theorem div_next (t k : Nat) : t / 64 ^ k / 64 = t / 64 ^ (k + 1) := by rw [Nat.pow_succ, Nat.div_div_eq_div_mul]

def DigsPost (w : World) (t : Nat) (e : Ending) (w' : World) : Prop :=
  ∃ g cap, e = .returned (.slice (some ⟨g, 0, none⟩) 11 cap) ∧ w.heap.size ≤ g ∧ g < w'.heap.size ∧ 11 ≤ cap ∧ DigCells w' g t ∧ Below w.heap.size w w'

set_option maxHeartbeats 1600000 in
set_option maxRecDepth 1000000 in
theorem refDigits_any (t : Nat) (ht : t < 18446744073709551616) (w : World) :
    Calls Tryd.prog 21 #[.int .u64 t] w (DigsPost w t) := by
  obtain ⟨i0, hi, hz0, hz1, hz2⟩ := info_parts Tryd.infoInt
  go_enter Tryd.func21, Tryd.ntmps21
  go_wp2
  go_loopw [0, 3, 4] (fun tt v i wr => ∃ (k : Nat) (u : Nat), k ≤ 11 ∧ i = .int .i64 k ∧ Hid (u = t / 64 ^ k) ∧ u < 18446744073709551616 ∧ tt = .int .u64 u ∧ wr.ownsRow w.heap.size 3 1 v k (dvals t k) ∧ Below w.heap.size w wr)
    (fun _ _ i _ => 11 - (intOf i).toNat)
  case atStart => exact ⟨0, t, by omega, rfl, by show t = t / 64 ^ 0; simp, ht, rfl, World.ownsRow_nil _ _ _ _, Below.refl _ _⟩
  case round =>
    obtain ⟨k, u, hk, rfl, hu, hub, rfl, hown, hnx⟩ := hrel
    by_cases hlt : k < 11
    · have hd : Hid ((u : Int) % 64 = (dg t k : Nat)) := by
        show (u : Int) % 64 = (dg t k : Nat)
        rw [hu.out]; unfold dg; omega
      have hm1 : 0 ≤ (u : Int) % 64 := by omega
      have hm2 : (u : Int) % 64 < 64 := by omega
      go_wp2_with (at_builtin; refine wpList_append_own _ rfl _ _ 47 rfl w.heap.size 3 i0 (.int .i64 0) 1 8 Tryd.underlying47 hi hz0 hz1 hz2 rfl (by decide) _ _ _ rfl (hown.alloc _) ⟨wr.heap.size, 0, none⟩ 1 1 [.int .i64 ((u : Int) % 64)] rfl rfl ?c1 ?c2 ?c3 ?c4 ?c5 ?_)
      case c1 =>
        intro j u hj
        match j, hj with
        | 0, hj => simp at hj; subst hj; simp [Addr.add]
      case c2 => intro u hu; simp at hu; subst hu; rfl
      case c3 => unfold maxLen; omega
      case c4 => omega
      case c5 => have := hnx.size; simp; omega
      · intro v' w1 hown' hgrow _
        rw [hd.out, ← dvals_succ] at hown'
        have hb' : Below w.heap.size w w1 := (hnx.alloc hnx.size _).grown hgrow (by have := hnx.size; simp; omega) (fun k' e => (hown.lt k' e).1)
        obtain ⟨g', cap', rfl⟩ := ownsRow_succ hown'
        have HO := Lib.hid hown'
        clear hown' hgrow hown
        go_wp2
        go_roundw
        case rel => exact ⟨k + 1, u / 64, by omega, by go_num, by show u / 64 = _; rw [hu.out, div_next], by omega, by go_num, HO.out, hb'⟩
        case measure => simp [intOf]; omega
    · obtain rfl : k = 11 := by omega
      obtain ⟨g, cap, rfl, hg1, hg2, hg3, hg4⟩ := digs_of_owns hown
      have HG := Lib.hid hg4
      clear hg4 hown
      go_wp2
      go_ret
      exact ⟨g, cap, rfl, hg1, hg2, hg3, HG.out, hnx⟩
end Go.Proofs.YtkfknafgknppdaaDoor
