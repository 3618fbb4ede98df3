/-
  The log's iterator (those): it tells, in order, the firings that are asked for.
-/
import Derived.Test.YtpihlchocjdpmaaFirRef1
import Derived.Test.YtpihlchocjdpmaaRangeBox
import Derived.Test.YtpihlchocjdpmaaRoundList
import Derived.Shelf.Abstract
import Derived.Shelf.RegionOpen
import Derived.WalkKit
import Derived.OwnWalkIn
import Derived.LoopNIn
import Derived.LoopIn
import Derived.IntWalk
namespace Go.Proofs.Ytpihlchocjdpmaa
open Go.RowKit Go.Shelf Verge
attribute [local go_sem] Oper.semAt_some
set_option linter.unusedVariables false
set_option linter.unusedSimpArgs false

/-- a log, or nil: its slice, its firings -/
def LogAt (W : World) (lp : Value) (a : Option Addr) (cap : Nat) (L : List Fr) : Prop :=
  (lp = .pointer none ∧ L = []) ∨ ∃ b, lp = .pointer (some ⟨b, 0, none⟩) ∧ W.cell? ⟨b, 0, none⟩ = some (.slice a L.length cap) ∧ Src W a L
/-- what a function that asks for firings answers -/
def Asks (W : World) (g : Nat) (lb : Array Value) (p : Fr → Bool) : Prop :=
  ∀ f, Calls Try.prog g (#[.agg #[.int .u64 ((f : Fr).i : Nat), .int .u64 (f.g : Nat), .int .u64 (f.d : Nat), .int .u64 (f.t : Nat)]] ++ lb) W fun e W' => e = .returned (.bool (p f)) ∧ Ch Nil W W'
/-- the k-th one that is told -/
def FrT (Q : List Fr) (k : Nat) (v : Value) (W : World) : Prop := ∃ f, Q[k]? = some f ∧ v = frv f
theorem FrT.steady {Q : List Fr} {v : Value} {B : Nat} : Steady B (fun k => FrT Q k v) := fun k W W' r h c hr nc => h

set_option maxRecDepth 100000 in
set_option maxHeartbeats 2000000 in
theorem those_tells (n : Nat) (h1 : 1 ≤ n) (B1 B2 g : Nat) (lp : Value) (lb : Array Value) (a : Option Addr) (cap : Nat) (L : List Fr) (p : Fr → Bool) (hl : L.length ≤ 1000000)
    (eg : ∀ args w, (callFunc g args).run Try.prog w = .ok (.enter g args) w) (I : Nat → World → Prop)
    (hI : ∀ k W, I k W → W.cell? ⟨B1, 0, none⟩ = some lp ∧ W.cell? ⟨B2, 0, none⟩ = some (.func (.func g) #[] lb) ∧ LogAt W lp a cap L ∧ ∀ W', Ch Nil W W' → Asks W' g lb p) :
    TellsVal n Try.prog 34 (fun l => #[.func (.yield l) #[] #[]] ++ #[.pointer (some ⟨B1, 0, none⟩), .pointer (some ⟨B2, 0, none⟩)]) (L.filter p).length (FrT (L.filter p)) I := by
  intro l J Jx W hJ hC hY h0
  have HI := Lib.hid fun k W h => hI k W (hJ k W h)
  have HC := Lib.hid hC
  have HY := Lib.hid hY
  have H0 := Lib.hid h0
  obtain ⟨c1, c2, c3, -⟩ := hI 0 W (hJ 0 W h0)
  clear hI hJ hC hY h0
  refine callsIn_of_wp Try.func34 rfl trivial ?_ rfl
  simp only [Try.ntmps34, List.size_toArray, List.length_cons, List.length_nil, Nat.reduceAdd, Nat.reduceSub, Array.replicate_succ, Array.replicate_zero, List.push_toArray, List.append_toArray, List.nil_append, List.cons_append]
  rcases c3 with ⟨rfl, rfl⟩ | ⟨b, rfl, c4, -⟩
  · gi_wp2
    refine bodyPost_ret (results_none rfl _ _ _) rfl ?_
    exact ⟨⟨_, rfl⟩, .inl H0.out⟩
  · obtain ⟨m, hm⟩ : ∃ m, m = L.length := ⟨_, rfl⟩
    rw [← hm] at c4 hl
    have HM := Lib.hid hm
    clear hm
    gi_wp2
    gi_loopw [13] (fun v wr => ∃ i k : Nat, i ≤ m ∧ v = .int .i64 i ∧ Hid (k = ((L.take i).filter p).length) ∧ J k wr) (fun v _ => m - (intOf v).toNat)
    case atStart => exact ⟨0, 0, by omega, rfl, Lib.hid rfl, H0.out⟩
    case round =>
      obtain ⟨i, k, hi, rfl, HK, hj⟩ := hrel
      have HJ2 := Lib.hid hj
      clear hj
      by_cases hlt : i < m
      · obtain ⟨d1, d2, d3, d4⟩ := HI.out k wr HJ2.out
        rcases d3 with ⟨e, -⟩ | ⟨b', e, -, src⟩
        · cases e
        obtain ⟨b1, o1, rfl, -, k1⟩ := src.form (by rw [← HM.out]; omega)
        obtain ⟨f, hf⟩ : ∃ f, L[i]? = some f := ⟨_, List.getElem?_eq_getElem (by rw [← HM.out]; exact hlt)⟩
        obtain ⟨f0, f1, f2, f3⟩ := src_cells k1 hf
        have hkz : (i : Int) < (m : Int) := by omega
        have hkz0 : (0 : Int) ≤ (i : Int) := by omega
        have HF := Lib.hid hf
        have cA : Ch Nil wr (wr.alloc (.cells #[.int .u64 (f.i : Nat), .int .u64 (f.g : Nat), .int .u64 (f.d : Nat), .int .u64 (f.t : Nat)] 43)) := (Ch.refl _ _).alloc _
        have e2 := cA.keeps d2 (fun e => e)
        have AS := Lib.hid (d4 _ cA f)
        have BX : Hid (∀ W5, Ch Nil (wr.alloc (.cells #[.int .u64 (f.i : Nat), .int .u64 (f.g : Nat), .int .u64 (f.d : Nat), .int .u64 (f.t : Nat)] 43)) W5 → W5.cell? ⟨wr.heap.size, 0, none⟩ = some (.int .u64 (f.i : Nat)) ∧ W5.cell? ⟨wr.heap.size, 1, none⟩ = some (.int .u64 (f.g : Nat)) ∧ W5.cell? ⟨wr.heap.size, 2, none⟩ = some (.int .u64 (f.d : Nat)) ∧ W5.cell? ⟨wr.heap.size, 3, none⟩ = some (.int .u64 (f.t : Nat))) :=
          Lib.hid fun W5 c => ⟨c.keeps (by simp [cell_fresh]) (fun e => e), c.keeps (by simp [cell_fresh]) (fun e => e), c.keeps (by simp [cell_fresh]) (fun e => e), c.keeps (by simp [cell_fresh]) (fun e => e)⟩
        have CA := Lib.hid cA
        clear k1 hf src d4 e cA d2
        gi_wp2_with fail
        refine ⟨trivial, ?_⟩
        refine (callsIn_wide.2 AS.out).mono ?_
        rintro e W5 ⟨rfl, c5⟩
        obtain ⟨x0, x1, x2, x3⟩ := BX.out W5 c5
        have J5 := Lib.hid (HC.out _ _ _ HJ2.out (CA.out.trans c5))
        have HT := Lib.hid (show L.take (i + 1) = L.take i ++ [f] by rw [List.take_add_one, HF.out]; rfl)
        clear c5 AS BX CA
        cases hp : p f with
        | false =>
          have HX := Lib.hid (show ((L.take (i + 1)).filter p).length = ((L.take i).filter p).length by rw [HT.out, List.filter_append]; simp [hp])
          clear hp
          gi_wp2
          refine ⟨fun _ h => (by cases h), ?_⟩
          gi_wp2
          go_roundw
          case rel => exact ⟨i + 1, k, by omega, by go_num, Lib.hid (by rw [HX.out]; exact HK.out), J5.out⟩
          case measure => simp [intOf]; omega
        | true =>
          have hX : (L.take (i + 1)).filter p = (L.take i).filter p ++ [f] := by rw [HT.out, List.filter_append]; simp [hp]
          have hsplit : L.filter p = (L.take (i + 1)).filter p ++ (L.drop (i + 1)).filter p := by rw [← List.filter_append, List.take_append_drop]
          have hkk := HK.out
          have hkN : k < (L.filter p).length := by rw [hsplit, hX]; simp; omega
          have hget : (L.filter p)[k]? = some f := by rw [hsplit, hX, hkk, List.append_assoc, List.getElem?_append_right (by omega)]; simp
          have HX := Lib.hid (show k + 1 = ((L.take (i + 1)).filter p).length by rw [hX, List.length_append, ← hkk]; rfl)
          have HKN := Lib.hid hkN
          obtain ⟨fn, tmps, assign, body, hy, hR⟩ := HY.out k (frv f) W5 J5.out hkN ⟨f, hget, rfl⟩
          unfold frv at hy
          have HR := Lib.hid hR
          clear hX hsplit hkk hkN hget hR hp
          gi_wp2_with fail
          refine HR.out.mono ?_
          rintro e W3 (⟨rfl, hJ3⟩ | ⟨rfl, hJx3⟩)
          · have HJ3 := Lib.hid hJ3
            clear hJ3
            gi_wp2
            go_roundw
            case rel => exact ⟨i + 1, k + 1, by omega, by go_num, HX, HJ3.out⟩
            case measure => simp [intOf]; omega
          · have HJ3 := Lib.hid hJx3
            clear hJx3
            gi_wp2
            refine bodyPost_ret (results_none rfl _ _ _) rfl ?_
            exact ⟨⟨_, rfl⟩, .inr ⟨k, HKN.out, HJ3.out⟩⟩
      · obtain rfl : i = m := by omega
        gi_wp2
        go_end0
        refine ⟨⟨_, rfl⟩, .inl ?_⟩
        have := HK.out
        rw [List.take_of_length_le (by have := HM.out; omega)] at this
        rw [← this]
        exact HJ2.out
end Go.Proofs.Ytpihlchocjdpmaa
