/-
  The document's answer: in which list a node is; a list without one; a list's values.
-/
import Derived.Test.YtmebkogkcnmkiaaListRef1
import Derived.Test.YtmebkogkcnmkiaaListRound
import Derived.Test.YtmebkogkcnmkiaaListPlain
import Derived.Test.YtmebkogkcnmkiaaHeld
import Derived.WalkKit
namespace Go.Proofs.Ytmebkogkcnmkiaa
open Go.RowKit Verge
attribute [local go_sem] Oper.semAt_some
set_option linter.unusedVariables false
set_option linter.unusedSimpArgs false
section
variable {S : Nat → Prop} {w w1 w' : World} {R : Nat → Prop} {wb q k vc c' : Nat} {Val : Nat → Int} {L : Nat → List Nat} {ra : Nat → Option Addr} {rc : Nat → Nat} {va a : Option Addr} {xs : List Nat}

set_option maxRecDepth 100000 in
set_option maxHeartbeats 1600000 in
theorem RefL.of (h : RefL w R wb q Val L ra rc va vc) (n : Nat) (hl : ∀ k, k < 3 → (L k).length ≤ 100000) :
    Calls Try.prog 8 #[.pointer (some ⟨wb, 0, none⟩), .int .i64 n] w fun e w' => e = .returned (.int .i64 (ofL L n)) ∧ w = w' := by
  have H := Lib.hid h
  have HL := Lib.hid hl
  clear h hl
  go_enter Try.func8, Try.ntmps8
  go_wp2
  go_loopw [5] (fun i wr => ∃ t : Nat, t ≤ 3 ∧ i = .int .i64 t ∧ (∀ k, k < t → n ∉ L k) ∧ w = wr) (fun i _ => 3 - (intOf i).toNat)
  case atStart => exact ⟨0, by omega, rfl, fun k hk => by omega, rfl⟩
  case round =>
    obtain ⟨t, ht, rfl, hno, rfl⟩ := hrel
    have HNO := Lib.hid hno
    clear hno
    by_cases hlt : t < 3
    · have htz : (t : Int) < 3 := by omega
      go_wp2
      go_loopw [6] (fun i wr => ∃ m : Nat, m ≤ (L t).length ∧ i = .int .i64 m ∧ (∀ j, j < m → (L t)[j]? ≠ some n) ∧ w = wr) (fun i _ => (L t).length - (intOf i).toNat)
      case atStart => exact ⟨0, by omega, rfl, fun k hk => by omega, rfl⟩
      case round =>
        obtain ⟨m, hm, rfl, hnm, rfl⟩ := hrel
        have HNM := Lib.hid hnm
        clear hnm
        have hc := H.out.c t hlt
        have hll := HL.out t hlt
        by_cases hltm : m < (L t).length
        · obtain ⟨g, hg, -⟩ := (H.out.r t hlt).form (by omega)
          rw [hg] at hc
          have hr := H.out.r t hlt
          rw [hg] at hr
          have q1 := Row.cell hr m (by omega)
          have lc := Row.len_cap hr
          clear hr
          obtain ⟨y, hy⟩ : ∃ y, (L t)[m]? = some y := ⟨_, List.getElem?_eq_getElem hltm⟩
          have hyv : numR (L t) m = (y : Int) := by simp only [numR]; rw [List.getD_eq_getElem?_getD, hy]; rfl
          have q2 : w.cell? ⟨g, m, none⟩ = some (.int .i64 (y : Int)) := by rw [← hyv]; exact q1
          have HY := Lib.hid hy
          clear q1 hyv hy hg
          have hmz : (m : Int) < ((L t).length : Int) := by omega
          by_cases e : y = n
          · subst e
            have FIN := Lib.hid (ofL_at hlt (List.mem_of_getElem? HY.out) HNO.out)
            have eb : ((y : Int) == (y : Int)) = true := by simp
            go_wp2
            go_ret
            exact ⟨by rw [FIN.out]; rfl, rfl⟩
          · have eb : ((y : Int) == (n : Int)) = false := by rw [beq_eq_false_iff_ne]; omega
            have HE := Lib.hid e
            clear e
            go_wp2
            go_roundw
            case rel =>
              refine ⟨m + 1, by omega, by go_num, fun j hj => ?_, trivial⟩
              by_cases e' : j = m
              · subst e'; rw [HY.out]; intro e2; cases e2; exact HE.out rfl
              · exact HNM.out j (by omega)
            case measure => simp [intOf]; omega
        · obtain rfl : (L t).length = m := by omega
          go_wp2
          go_roundw
          case rel =>
            refine ⟨t + 1, by omega, by go_num, fun j hj => ?_, trivial⟩
            by_cases e' : j = t
            · subst e'; intro hm'
              obtain ⟨i, hi⟩ := List.mem_iff_getElem?.1 hm'
              exact HNM.out i (List.getElem?_eq_some_iff.1 hi).1 hi
            · exact HNO.out j (by omega)
          case measure => simp [intOf]; omega
    · obtain rfl : t = 3 := by omega
      have FIN := Lib.hid (ofL_none HNO.out)
      go_wp2
      go_ret
      exact ⟨by rw [FIN.out]; rfl, rfl⟩
end
end Go.Proofs.Ytmebkogkcnmkiaa
