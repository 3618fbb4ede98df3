/-
  Contracts of package floor's Check and of the document's: a config may be just if each of its six numbers is from 1 to its limit.
-/
import Derived.Test.YtkialefhjfoniaaGreatFlMem
import Derived.BigQuiet
import Derived.Deep.QuietTactic
import Derived.IntWalk
namespace Verge
/-- a config's i-th number, its limit -/
def numC (c : Cf) : Nat → Int | 0 => c.s | 1 => c.c | 2 => c.r | 3 => c.m | 4 => c.k | _ => c.l
def limC : Nat → Int | 0 => 4 | 1 => 64 | 2 => 64 | 3 => 16 | 4 => 4 | _ => 8
def cfOk (c : Cf) : Prop := ∀ i, i < 6 → 1 ≤ numC c i ∧ numC c i ≤ limC i
instance (c : Cf) : Decidable (cfOk c) := inferInstanceAs (Decidable (∀ i, i < 6 → _))
theorem lt6 {j : Nat} (h : j < 6) : j = 0 ∨ j = 1 ∨ j = 2 ∨ j = 3 ∨ j = 4 ∨ j = 5 := by omega
theorem limC_le (i : Nat) : 4 ≤ limC i ∧ limC i ≤ 64 := by
  unfold limC; split <;> omega
end Verge
namespace Go.Proofs.YtkialefhjfoniaaGreat
open Go.RowKit Verge
attribute [local go_sem] Oper.semAt_some
set_option linter.unusedVariables false
set_option linter.unusedSimpArgs false

/-- the pairs of a number and its limit -/
structure IsPr (w : World) (b : Nat) (c : Cf) : Prop where
  n : ∀ i, i < 6 → w.cell? ⟨b, i * 2, none⟩ = some (.int .i64 (numC c i))
  l : ∀ i, i < 6 → w.cell? ⟨b, i * 2 + 1, none⟩ = some (.int .i64 (limC i))
theorem IsPr.of {w : World} {b : Nat} {c : Cf} (h : IsVs w b [.int .i64 c.s, .int .i64 4, .int .i64 c.c, .int .i64 64, .int .i64 c.r, .int .i64 64, .int .i64 c.m, .int .i64 16, .int .i64 c.k, .int .i64 4, .int .i64 c.l, .int .i64 8]) : IsPr w b c := by
  refine ⟨fun i hi => ?_, fun i hi => ?_⟩ <;> rcases lt6 hi with rfl | rfl | rfl | rfl | rfl | rfl
  · exact h.c 0 _ rfl
  · exact h.c 2 _ rfl
  · exact h.c 4 _ rfl
  · exact h.c 6 _ rfl
  · exact h.c 8 _ rfl
  · exact h.c 10 _ rfl
  · exact h.c 1 _ rfl
  · exact h.c 3 _ rfl
  · exact h.c 5 _ rfl
  · exact h.c 7 _ rfl
  · exact h.c 9 _ rfl
  · exact h.c 11 _ rfl
theorem IsPr.kept {S : Nat → Prop} {w w' : World} {b : Nat} {c : Cf} (h : IsPr w b c) (k : Ch S w w') (hn : ¬ S b) : IsPr w' b c :=
  ⟨fun i hi => k.keeps (h.n i hi) hn, fun i hi => k.keeps (h.l i hi) hn⟩
set_option maxHeartbeats 4000000 in
set_option maxRecDepth 100000 in
theorem check_of (c : Cf) (r : Int) (hr : Hid (r = if cfOk c then 0 else 8)) (w : World) :
    Calls Tryz.prog 33 #[.agg #[.int .i64 c.s, .int .i64 c.c, .int .i64 c.r, .int .i64 c.m, .int .i64 c.k, .int .i64 c.l]] w fun e w' => e = .returned (.int .i64 r) ∧ Ch Nil w w' := by
  have cA : Ch Nil w (w.alloc (Obj.cells #[.int .i64 c.s, .int .i64 c.c, .int .i64 c.r, .int .i64 c.m, .int .i64 c.k, .int .i64 c.l] 29)) := (Ch.refl _ _).alloc _
  have bx : IsVs (w.alloc (Obj.cells #[.int .i64 c.s, .int .i64 c.c, .int .i64 c.r, .int .i64 c.m, .int .i64 c.k, .int .i64 c.l] 29)) w.heap.size (cfV c) := IsVs.new w (cfV c) 29
  have CA := Lib.hid cA
  clear cA
  go_enter Tryz.func33, Tryz.ntmps33
  go_upto_region 1 with (fail)
  generalize w.alloc (Obj.cells #[.int .i64 c.s, .int .i64 c.c, .int .i64 c.r, .int .i64 c.m, .int .i64 c.k, .int .i64 c.l] 29) = W at CA bx ⊢
  obtain ⟨B, hB⟩ : ∃ B, B = w.heap.size := ⟨_, rfl⟩
  rw [← hB] at bx ⊢
  have HB := Lib.hid hB
  clear hB
  obtain ⟨c0, c1, c2, c3, c4, c5⟩ := bx.cells6
  clear bx
  go_wp2
  clear c0 c1 c2 c3 c4 c5
  have pr : IsPr (W.alloc (Obj.cells #[.int .i64 c.s, .int .i64 4, .int .i64 c.c, .int .i64 64, .int .i64 c.r, .int .i64 64, .int .i64 c.m, .int .i64 16, .int .i64 c.k, .int .i64 4, .int .i64 c.l, .int .i64 8] 132)) W.heap.size c := IsPr.of (IsVs.new W [.int .i64 c.s, .int .i64 4, .int .i64 c.c, .int .i64 64, .int .i64 c.r, .int .i64 64, .int .i64 c.m, .int .i64 16, .int .i64 c.k, .int .i64 4, .int .i64 c.l, .int .i64 8] _)
  have c1 := CA.out.alloc (Obj.cells #[.int .i64 c.s, .int .i64 4, .int .i64 c.c, .int .i64 64, .int .i64 c.r, .int .i64 64, .int .i64 c.m, .int .i64 16, .int .i64 c.k, .int .i64 4, .int .i64 c.l, .int .i64 8] 132)
  generalize W.alloc (Obj.cells #[.int .i64 c.s, .int .i64 4, .int .i64 c.c, .int .i64 64, .int .i64 c.r, .int .i64 64, .int .i64 c.m, .int .i64 16, .int .i64 c.k, .int .i64 4, .int .i64 c.l, .int .i64 8] 132) = W1 at pr c1 ⊢
  generalize W.heap.size = D at pr ⊢
  have C1 := Lib.hid c1
  have PR := Lib.hid pr
  clear c1 pr
  go_loopw [25] (fun i wr => ∃ k : Nat, k ≤ 6 ∧ i = .int .i64 k ∧ (∀ j, j < k → 1 ≤ numC c j ∧ numC c j ≤ limC j) ∧ IsPr wr D c ∧ Ch Nil w wr) (fun i _ => 6 - (intOf i).toNat)
  case atStart => exact ⟨0, by omega, rfl, fun j hj => by omega, PR.out, C1.out⟩
  case round =>
    obtain ⟨k, hk, rfl, hT, hp, hc⟩ := hrel
    have HT := Lib.hid hT
    have HP := Lib.hid hp
    have HC := Lib.hid hc
    clear hT hc
    by_cases hlt : k < 6
    · have hkz : (k : Int) < 6 := by omega
      have hkz0 : (0 : Int) ≤ (k : Int) := by omega
      have p0 := hp.n k hlt
      have p1 := hp.l k hlt
      obtain ⟨x, hx⟩ : ∃ x, x = numC c k := ⟨_, rfl⟩
      obtain ⟨y, hy⟩ : ∃ y, y = limC k := ⟨_, rfl⟩
      rw [← hx] at p0
      rw [← hy] at p1
      have HX := Lib.hid hx
      have HY := Lib.hid hy
      clear hp hx hy
      by_cases h1 : x < 1
      · have d1 : decide (x < 1) = true := decide_eq_true h1
        have E : r = 8 := by
          rw [hr.out, if_neg]
          intro h
          have := h k hlt
          rw [← HX.out] at this; omega
        have HE := Lib.hid E
        clear E h1
        go_wp2
        go_ret
        exact ⟨by rw [HE.out]; first | done | rfl, HC.out.alloc _⟩
      · by_cases h2 : y < x
        · have d1 : decide (x < 1) = false := decide_eq_false h1
          have d2 : decide (y < x) = true := decide_eq_true h2
          have E : r = 8 := by
            rw [hr.out, if_neg]
            intro h
            have := h k hlt
            rw [← HX.out, ← HY.out] at this; omega
          have HE := Lib.hid E
          clear E h1 h2
          go_wp2
          go_ret
          exact ⟨by rw [HE.out]; first | done | rfl, HC.out.alloc _⟩
        · have d1 : decide (x < 1) = false := decide_eq_false h1
          have d2 : decide (y < x) = false := decide_eq_false h2
          have NX : Hid (1 ≤ x ∧ x ≤ y) := Lib.hid (by omega)
          clear h1 h2
          go_wp2
          go_roundw
          case rel =>
            refine ⟨k + 1, by omega, by go_num, fun j hj => ?_, HP.out.kept (S := Nil) ((Ch.refl _ _).alloc _) (fun e => e), HC.out.alloc _⟩
            by_cases e : j = k
            · subst e; rw [← HX.out, ← HY.out]; exact NX.out
            · exact HT.out j (by omega)
          case measure => simp [intOf]; omega
    · obtain rfl : k = 6 := by omega
      have E : r = 0 := by rw [hr.out, if_pos]; exact HT.out
      have HE := Lib.hid E
      clear E hp
      go_wp2
      go_ret
      exact ⟨by rw [HE.out]; first | done | rfl, HC.out⟩
/-- the document's -/
structure IsPr2 (w : World) (b : Nat) (c : Cf) : Prop where
  n : ∀ i, i < 6 → w.cell? ⟨b, 2 * i, none⟩ = some (.int .i64 (numC c i))
  l : ∀ i, i < 6 → w.cell? ⟨b, 2 * i + 1, none⟩ = some (.int .i64 (limC i))
end Go.Proofs.YtkialefhjfoniaaGreat
