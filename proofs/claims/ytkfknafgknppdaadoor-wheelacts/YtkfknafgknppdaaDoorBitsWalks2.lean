/-
  Contracts of package bits' iterator (slots) and of From, Round: the least slot from one on, at every argument.
-/
import Derived.Test.YtkfknafgknppdaaDoorBitsWalks1
import Derived.Test.YtkfknafgknppdaaDoorRangeSome
namespace Go.Proofs.YtkfknafgknppdaaDoor
open Go.RowKit Go.Shelf Verge
attribute [local go_sem] Oper.semAt_some
set_option linter.unusedVariables false
set_option linter.unusedSimpArgs false

/-- how many slots a map has -/
def left (v : Value) : Nat := (slots (intOf v).toNat).length

set_option maxRecDepth 100000 in
set_option maxHeartbeats 1000000 in
theorem slots_tells (n : Nat) (h1 : 1 ≤ n) (m : Nat) (hm : m < 18446744073709551616) (I : Nat → World → Prop) (hT : ∀ k W, I k W → Tab W) :
    TellsSome n Tryd.prog 64 (fun l => #[.int .u64 m] ++ #[.func (.yield l) #[] #[]]) (slots m).length (fun k => .int .i64 (slotAt m k : Nat)) I := by
  intro l J Jx W hJ hY h0
  have HT := Lib.hid fun k W h => hT k W (hJ k W h)
  have HY := Lib.hid hY
  have H0 := Lib.hid h0
  have HM := Lib.hid (show slots m = (slots m).drop 0 from rfl)
  clear hT hJ hY h0
  refine callsIn_of_wp Tryd.func64 rfl trivial ?_ rfl
  simp only [Tryd.ntmps64, List.size_toArray, List.length_cons, List.length_nil, Nat.reduceAdd, Nat.reduceSub, Array.replicate_succ, Array.replicate_zero, List.push_toArray, List.append_toArray, List.nil_append, List.cons_append]
  gi_wp2
  gi_loopw [0] (fun v wr => ∃ k r : Nat, k ≤ (slots m).length ∧ r < 18446744073709551616 ∧ v = .int .u64 r ∧ Hid (slots r = (slots m).drop k) ∧ J k wr) (fun v _ => left v)
  case atStart => exact ⟨0, m, by omega, hm, rfl, HM, H0.out⟩
  case round =>
    obtain ⟨k, r, hk, hr, rfl, HD, hj⟩ := hrel
    have HJ2 := Lib.hid hj
    clear hj
    by_cases hlt : k < (slots m).length
    · have hr0 : r ≠ 0 := by
        rintro rfl
        have := HD.out
        rw [slots_zero] at this
        have := congrArg List.length this
        simp at this; omega
      have hcons := slots_cons r hr hr0
      have hg : slotAt m k = Lib.ctz 64 r := by
        have h1 := HD.out
        rw [hcons] at h1
        have h2 := congrArg (·[0]?) h1
        simp only [List.getElem?_cons_zero, List.getElem?_drop, Nat.add_zero] at h2
        unfold slotAt; rw [List.getD_eq_getElem?_getD, ← h2]; rfl
      obtain ⟨fn, tmps, assign, body, hy, hR⟩ := HY.out k wr HJ2.out hlt
      rw [hg] at hy
      have hc := (ctz_spec r hr hr0).1
      have HR := Lib.hid hR
      have HC := Lib.hid hcons
      have b0 : ((r : Int) != 0) = true := by rw [bne_iff_ne]; omega
      have hd2 : slots (woN r (Lib.ctz 64 r : Nat)) = (slots m).drop (k + 1) := by
        have h1 := HD.out
        rw [hcons] at h1
        have h2 := congrArg List.tail h1
        simpa using h2
      have HD2 := Lib.hid hd2
      have hw := woN_lt r (Lib.ctz 64 r : Nat) hr
      have TZ := fun W T => tz_any r hr hr0 W T
      have HTZ := Lib.hid TZ
      have T0 := Lib.hid (HT.out k wr HJ2.out)
      clear hR hcons hg hd2 TZ
      generalize Lib.ctz 64 r = c at *
      gi_wp2_with (refine ⟨trivial, ?_⟩; gi_at_call 66; refine (callsIn_wide.2 (HTZ.out _ T0.out)).mono ?_; rintro e w' ⟨rfl, rfl⟩)
      refine HR.out.mono ?_
      rintro e W3 (⟨rfl, hJ3⟩ | ⟨rfl, hJx3⟩)
      · have HJ3 := Lib.hid hJ3
        clear hJ3
        gi_wp2_with (refine ⟨trivial, ?_⟩; gi_at_call 57; refine (callsIn_wide.2 (without_any r c hr _)).mono ?_; rintro e w' ⟨rfl, rfl⟩)
        go_roundw
        case rel => exact ⟨k + 1, _, by omega, hw, rfl, HD2, HJ3.out⟩
        case measure =>
          simp only [left, intOf, Int.toNat_natCast]
          rw [HC.out]; simp
      · have HJ3 := Lib.hid hJx3
        clear hJx3
        gi_wp2
        refine bodyPost_ret (results_none rfl _ _ _) rfl ?_
        exact ⟨⟨_, rfl⟩, .inr ⟨k, hlt, HJ3.out⟩⟩
    · obtain rfl : k = (slots m).length := by omega
      have hr0 : r = 0 := slots_nil r hr (by rw [HD.out]; simp)
      clear HD
      subst hr0
      gi_wp2
      go_end0
      exact ⟨⟨_, rfl⟩, .inl HJ2.out⟩
end Go.Proofs.YtkfknafgknppdaaDoor
