/-
  Contracts of package times' small functions: Digit, each and its closure, Cut, Add, Later: what each returns, at every argument.
-/
import Derived.Test.YtkfknafgknppdaaDoorRows
import Derived.Test.YtkfknafgknppdaaDoorTimesPlain
import Derived.RangeFuncNested
import Derived.RangeFuncBound
import Derived.RangeFuncCalls
import Derived.RangeFuncLeaves
import Derived.Shelf.Abstract
import Derived.Shelf.RegionOpen
import Derived.WalkKit
import Derived.OwnWalkIn
import Derived.TacticsInMore
import Derived.LoopNIn
import Derived.LoopIn
import Derived.Lib.Hide
namespace Go.Proofs.YtkfknafgknppdaaDoor
open Go.RowKit Go.Shelf Verge
attribute [local go_sem] Oper.semAt_some

theorem ret_int {k : IntKind} {a b : Int} (h : a = b) : Ending.returned (.int k a) = .returned (.int k b) := by rw [h]

theorem pow6 (l : Nat) : (2 : Nat) ^ (6 * l) = 64 ^ l := by rw [Nat.pow_mul]
theorem and63 (t l : Nat) (ht : t < 18446744073709551616) : wrap64 (bits BinOp.and IntKind.u64 ((t : Int) / 2 ^ (6 * (l : Int)).toNat) 63) = (dg t l : Nat) := by
  have e : (6 * (l : Int)).toNat = 6 * l := by omega
  rw [e]
  have e2 : ((t : Int) / 2 ^ (6 * l)) = ((t / 64 ^ l : Nat) : Int) := by
    rw [← pow6]; simp
  rw [e2, show (63 : Int) = ((63 : Nat) : Int) from rfl, u64_and_nat _ _ (Nat.lt_of_le_of_lt (Nat.div_le_self _ _) ht) (by decide)]
  have e3 : t / 64 ^ l &&& 63 = dg t l := by
    unfold dg
    exact Nat.and_two_pow_sub_one_eq_mod _ 6
  rw [e3]
  have := dg_lt t l
  unfold wrap64; omega

theorem digit_any (t : Nat) (l : Int) (ht : t < 18446744073709551616) (w : World) :
    Calls Tryd.prog 42 #[.int .u64 t, .int .i64 l] w fun e w' => e = .returned (.int .i64 ((if 0 ≤ l ∧ l < 11 then dg t l.toNat else 0 : Nat) : Int)) ∧ w = w' := by
  by_cases h : 0 ≤ l ∧ l < 11
  · obtain ⟨hl, hl2⟩ := h
    obtain ⟨k, rfl⟩ := Int.eq_ofNat_of_zero_le hl
    have e := and63 t k ht
    rw [if_pos ⟨hl, hl2⟩, Int.toNat_natCast]
    have E := Lib.hid e
    clear e
    go_enter Tryd.func42, Tryd.ntmps42
    go_wp2
    go_ret
    exact ⟨ret_int E.out, rfl⟩
  · rw [if_neg h]
    by_cases h0 : l < 0
    · go_enter Tryd.func42, Tryd.ntmps42
      go_wp2
      go_ret
      exact ⟨rfl, rfl⟩
    · have h11 : 11 ≤ l := by omega
      go_enter Tryd.func42, Tryd.ntmps42
      go_wp2
      go_ret
      exact ⟨rfl, rfl⟩

theorem digit_at (t k : Nat) (ht : t < 18446744073709551616) (hk : k < 11) (w : World) :
    Calls Tryd.prog 42 #[.int .u64 t, .int .i64 k] w fun e w' => e = .returned (.int .i64 (dg t k : Nat)) ∧ w = w' := by
  have h := digit_any t k ht w
  rwa [if_pos ⟨by omega, by omega⟩, Int.toNat_natCast] at h

theorem each_in (t : Int) (n : Nat) (w : World) :
    CallsIn Fence.wide n Tryd.prog 47 #[.int .u64 t] w fun e w' => e = .returned (.func (.func 58) #[] #[.pointer (some ⟨w.heap.size, 0, none⟩)]) ∧ w.alloc (.cells #[.int .u64 t] 22) = w' := by
  refine callsIn_of_wp Tryd.func47 rfl trivial ?_ rfl
  simp only [Tryd.ntmps47, List.size_toArray, List.length_cons, List.length_nil, Nat.reduceAdd, Nat.reduceSub, Array.replicate_succ, Array.replicate_zero, List.push_toArray, List.append_toArray, List.nil_append, List.cons_append]
  gi_wp2
  go_ret
  exact ⟨rfl, rfl⟩

/-- what the iterator leans on: its box holds what it held -/
def KpBox (B : Nat) (W W' : World) : Prop := ∀ v, W.cell? ⟨B, 0, none⟩ = some v → W'.cell? ⟨B, 0, none⟩ = some v
theorem kpBox_t {B : Nat} {X Y Z : World} (h : KpBox B X Y) (h' : KpBox B Y Z) : KpBox B X Z := fun v hv => h' v (h v hv)
theorem kpBox_b {B : Nat} (W : World) (l : Nat) (o o' : Obj) (h : W.heap[l]? = some o) (ho : o.isCells = false) : KpBox B W (W.putObj l o') :=
  fun _ hv => cell_kept hv (grownBy_putObj' W l o') (fun r e => by cases e; exact ⟨o, h, ho⟩)

abbrev encP (x : Nat × Nat) : Array Value := #[Value.int .i64 x.1, Value.int .i64 x.2]

set_option maxRecDepth 100000 in
set_option maxHeartbeats 1000000 in
theorem each1_in (n : Nat) (hn : 1 ≤ n) (l B t : Nat) (ht : t < 18446744073709551616) (J Jx : List (Nat × Nat) → World → Prop)
    (hY : ∀ pre x W, J pre W → pre.length < 11 → YieldAt Fence.wide (n - 1) Tryd.prog l (encP x) W fun e W' =>
      (e = .returned (.bool true) ∧ J (pre ++ [x]) W' ∧ KpBox B W W') ∨ (e = .returned (.bool false) ∧ Jx (pre ++ [x]) W'))
    (W : World) (hB : W.cell? ⟨B, 0, none⟩ = some (.int .u64 t)) (h0 : J [] W) :
    CallsIn Fence.wide n Tryd.prog 58 #[.func (.yield l) #[] #[], .pointer (some ⟨B, 0, none⟩)] W fun e W' => (∃ v, e = .returned v) ∧
      ((∃ ys, ys = pairs t ∧ J ys W') ∨ (∃ pre, pre <+: pairs t ∧ Jx pre W')) := by
  refine callsIn_of_wp Tryd.func58 rfl trivial ?_ rfl
  simp only [Tryd.ntmps58, List.size_toArray, List.length_cons, List.length_nil, Nat.reduceAdd, Nat.reduceSub, Array.replicate_succ, Array.replicate_zero, List.push_toArray, List.append_toArray, List.nil_append, List.cons_append]
  have HY := Lib.hid hY
  have H0 := Lib.hid h0
  clear hY h0
  gi_wp2
  gi_loopw [4] (fun i wr => ∃ k : Nat, k ≤ 11 ∧ i = .int .i64 k ∧ wr.cell? ⟨B, 0, none⟩ = some (.int .u64 t) ∧ J ((pairs t).take k) wr) (fun i _ => 11 - (intOf i).toNat)
  case atStart => exact ⟨0, by omega, rfl, hB, H0.out⟩
  case round =>
    obtain ⟨k, hk, rfl, hc, hJ⟩ := hrel
    clear hB
    by_cases hlt : k < 11
    · have hy1 := HY.out ((pairs t).take k) (k, dg t k) wr hJ (by rw [List.length_take, pairs_length]; omega)
      rw [← pairs_take t k hlt] at hy1
      obtain ⟨fn, tmps, assign, body, hy, hR⟩ := hy1
      dsimp only [encP] at hy
      have HR := Lib.hid hR
      have HJ := Lib.hid hJ
      clear hR hJ
      gi_wp2_with (refine ⟨trivial, ?_⟩; gi_at_call 42; refine (callsIn_wide.2 (digit_at _ _ ht hlt _)).mono ?_; rintro e w' ⟨rfl, rfl⟩)
      refine HR.out.mono ?_
      rintro e W3 (⟨rfl, hJ3, hk3⟩ | ⟨rfl, hJx3⟩)
      · have hc3 := hk3 _ hc
        have HJ3 := Lib.hid hJ3
        clear hJ3
        gi_wp2
        go_roundw
        case rel => exact ⟨k + 1, by omega, by go_num, hc3, HJ3.out⟩
        case measure => simp [intOf]; omega
      · have HJ3 := Lib.hid hJx3
        clear hJx3
        gi_wp2
        refine bodyPost_ret (results_none rfl _ _ _) rfl ?_
        exact ⟨⟨_, rfl⟩, .inr ⟨_, List.take_prefix _ _, HJ3.out⟩⟩
    · obtain rfl : k = 11 := by omega
      have HJ := Lib.hid hJ
      clear hJ
      gi_wp2
      go_end0
      exact ⟨⟨_, rfl⟩, .inl ⟨_, rfl, by have := HJ.out; rwa [pairs_all] at this⟩⟩

theorem each_stops (n : Nat) (hn : 1 ≤ n) (B t : Nat) (ht : t < 18446744073709551616) (w : World) (hBn : B < w.heap.size) (hc : w.cell? ⟨B, 0, none⟩ = some (.int .u64 t)) :
    SeqStopsK Fence.wide n Tryd.prog 58 #[.pointer (some ⟨B, 0, none⟩)] encP (KpBox B) (fun ys => ys = pairs t) (fun pre => pre <+: pairs t) 11 w := fun l J Jx W hW _ _ hY h0 =>
  each1_in n hn l B t ht J Jx hY W ((hW.cell (p := ⟨B, 0, none⟩) hBn).trans hc) h0
end Go.Proofs.YtkfknafgknppdaaDoor
