/-
  A list's nodes, told one by one, at int: the iterator.
-/
import Derived.Test.YtpddiphknpplcaaPListI3
import Derived.Shelf.Abstract
import Derived.Shelf.RegionOpen
import Derived.WalkKit
import Derived.OwnWalkIn
import Derived.TacticsInMore
import Derived.LoopNIn
import Derived.LoopIn
namespace Go.Proofs.Ytpddiphknpplcaa.PI
open Go.RowKit Go.Shelf Verge
attribute [local go_sem] Oper.semAt_some
set_option linter.unusedVariables false
set_option linter.unusedSimpArgs false
variable {X : Oth}

/-- how many are left, by the one that comes -/
def left (xs : List Nat) : Value → Nat
  | .pointer (some a) => xs.length - xs.idxOf a.block
  | _ => 0
theorem left_at {xs : List Nat} (nd : ∀ (i j b : Nat), xs[i]? = some b → xs[j]? = some b → i = j) {k b : Nat} (h : xs[k]? = some b) : left xs (pt (some b)) = xs.length - k := by
  have hm := List.mem_of_getElem? h
  have := nd (xs.idxOf b) k b (by rw [List.getElem?_eq_getElem (List.idxOf_lt_length_of_mem hm), List.getElem_idxOf]) h
  simp [left, this]

set_option maxRecDepth 100000 in
set_option maxHeartbeats 1000000 in
theorem nodes_tells (n : Nat) (h1 : 1 ≤ n) (lb : Nat) (xs : List Nat) (nd : ∀ (i j b : Nat), xs[i]? = some b → xs[j]? = some b → i = j) (I : Nat → World → Prop)
    (hF : ∀ W, I 0 W → W.cell? ⟨lb, 1, none⟩ = some (pt xs[0]?)) (hB : ∀ k W b, I k W → xs[k]? = some b → W.cell? ⟨b, 3, none⟩ = some (pt xs[k + 1]?)) :
    TellsAll n Try.prog 47 (fun l => #[.pointer (some ⟨lb, 1, none⟩)] ++ #[.func (.yield l) #[] #[]]) xs.length (fun k => pt xs[k]?) I := by
  intro l J W hJ hY h0
  have HF := Lib.hid (hF W (hJ 0 W h0))
  have HB := Lib.hid hB
  have HJ := Lib.hid hJ
  have HY := Lib.hid hY
  have H0 := Lib.hid h0
  have ND := Lib.hid nd
  obtain ⟨p0, hp0⟩ : ∃ p0, p0 = pt xs[0]? := ⟨_, rfl⟩
  have HP0 := Lib.hid hp0
  clear hp0
  clear hF hB hJ hY h0 nd
  refine callsIn_of_wp Try.func47 rfl trivial ?_ rfl
  simp only [Try.ntmps47, List.size_toArray, List.length_cons, List.length_nil, Nat.reduceAdd, Nat.reduceSub, Array.replicate_succ, Array.replicate_zero, List.push_toArray, List.append_toArray, List.nil_append, List.cons_append]
  gi_wp2_with (refine ⟨trivial, ?_⟩; gi_at_call 39; refine (callsIn_wide.2 (first_of lb xs[0]? _ HF.out)).mono ?_; rw [← HP0.out]; rintro e w' ⟨rfl, rfl⟩)
  gi_loopw [4, 5] (fun p m wr => ∃ k : Nat, k ≤ xs.length ∧ p = pt xs[k]? ∧ m = .bool true ∧ J k wr) (fun p _ _ => left xs p)
  case atStart => exact ⟨0, by omega, HP0.out, rfl, H0.out⟩
  case round =>
    obtain ⟨k, hk, rfl, rfl, hj⟩ := hrel
    have HJ2 := Lib.hid hj
    clear hj
    by_cases hlt : k < xs.length
    · obtain ⟨b, hb⟩ : ∃ b, xs[k]? = some b := ⟨_, List.getElem?_eq_getElem hlt⟩
      have hc := HB.out k wr b (HJ.out k wr HJ2.out) hb
      obtain ⟨fn, tmps, assign, body, hy, hR⟩ := HY.out k wr HJ2.out hlt
      simp only [hb, pt_some] at hy
      have HR := Lib.hid hR
      have HBK := Lib.hid hb
      have hm := left_at ND.out hb
      have HM := Lib.hid hm
      clear hR hm
      rw [hb]
      simp only [pt_some]
      rcases hn : xs[k + 1]? with _ | q
      · rw [hn] at hc
        have HN := Lib.hid hn
        clear hn hb
        simp only [pt_some, pt_none] at hc
        gi_wp2
        refine HR.out.mono ?_
        rintro e W3 ⟨rfl, hJ3⟩
        have HJ3 := Lib.hid hJ3
        clear hJ3
        gi_wp2
        go_roundw
        case rel => exact ⟨k + 1, by omega, by rw [HN.out]; rfl, rfl, HJ3.out⟩
        case measure =>
          have := HM.out
          simp only [pt_some] at this
          rw [this]
          show 0 < _
          omega
      · rw [hn] at hc
        have HN := Lib.hid hn
        clear hn hb
        simp only [pt_some, pt_none] at hc
        gi_wp2
        refine HR.out.mono ?_
        rintro e W3 ⟨rfl, hJ3⟩
        have HJ3 := Lib.hid hJ3
        clear hJ3
        gi_wp2
        go_roundw
        case rel => exact ⟨k + 1, by omega, by rw [HN.out]; rfl, rfl, HJ3.out⟩
        case measure =>
          have h1 := HM.out
          have h2 := left_at ND.out HN.out
          have h3 := (List.getElem?_eq_some_iff.1 HN.out).1
          simp only [pt_some] at h1 h2
          rw [h1, h2]
          omega
    · obtain rfl : k = xs.length := by omega
      rw [List.getElem?_eq_none (Nat.le_refl _)]
      simp only [pt_none]
      gi_wp2
      go_end0
      exact ⟨⟨_, rfl⟩, HJ2.out⟩

theorem nodes_nil (n : Nat) (h1 : 1 ≤ n) (I : Nat → World → Prop) :
    TellsAll n Try.prog 47 (fun l => #[.pointer none] ++ #[.func (.yield l) #[] #[]]) 0 (fun k => .pointer none) I := by
  intro l J W hJ hY h0
  have H0 := Lib.hid h0
  clear hJ hY h0
  refine callsIn_of_wp Try.func47 rfl trivial ?_ rfl
  simp only [Try.ntmps47, List.size_toArray, List.length_cons, List.length_nil, Nat.reduceAdd, Nat.reduceSub, Array.replicate_succ, Array.replicate_zero, List.push_toArray, List.append_toArray, List.nil_append, List.cons_append]
  gi_wp2_with (refine ⟨trivial, ?_⟩; gi_at_call 39; refine (callsIn_wide.2 (first_nil _)).mono ?_; rintro e w' ⟨rfl, rfl⟩)
  gi_loopw [4, 5] (fun p m wr => p = .pointer none ∧ m = .bool true ∧ wr = W) (fun _ _ _ => 0)
  case atStart => exact ⟨rfl, rfl, rfl⟩
  case round =>
    obtain ⟨rfl, rfl, rfl⟩ := hrel
    gi_wp2
    go_end0
    exact ⟨⟨_, rfl⟩, H0.out⟩
end Go.Proofs.Ytpddiphknpplcaa.PI
