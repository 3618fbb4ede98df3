/-
  SlabRise: the newest numbers of each slot; the loop of one request; the loop that asks for all.
-/
import Derived.Test.YtjhmmfdmoalfmaaSrCode
import Derived.Test.YtjhmmfdmoalfmaaHeld
import Derived.Deep.QuietTactic
import Derived.BigQuiet
import Derived.Deep.Cut
import Derived.Deep.CutRange
import Derived.Deep.CutBlock
import Derived.RegionTactic
import Derived.BigRegion
namespace Go.Proofs.Ytjhmmfdmoalfmaa
open Go.RowKit Verge
set_option linter.unusedVariables false
set_option linter.unusedSimpArgs false
attribute [local go_sem] Oper.semAt_some

/-- the newest number of a slot -/
def lastN (R : Nat → Rec) (j : Nat) : Nat := if (R j).gv = 0 then 0 else 64 * (R j).gv + j
structure Lst (W : World) (lb : Nat) (R : Nat → Rec) : Prop where
  c : ∀ j, j < 8 → W.cell? ⟨lb, j, none⟩ = some (.int .u64 (lastN R j : Nat))
  f : ∀ j, j < 8 → W.frozen? ⟨lb, j, none⟩ = false
theorem Lst.kept {S : Nat → Prop} {W W' : World} {lb : Nat} {R : Nat → Rec} (h : Lst W lb R) (c : Ch S W W') (hn : ¬ S lb) : Lst W' lb R :=
  ⟨fun j hj => c.keeps (h.c j hj) hn, fun j hj => (c.frozen (p := ⟨lb, j, none⟩) (lt_of_cell (h.c j hj)) hn).trans (h.f j hj)⟩
theorem Lst.congr {W : World} {lb : Nat} {R R' : Nat → Rec} (h : Lst W lb R) (e : ∀ j, (R' j).gv = (R j).gv) : Lst W lb R' :=
  ⟨fun j hj => by rw [h.c j hj]; unfold lastN; rw [e j], h.f⟩
theorem Lst.set {W : World} {lb : Nat} {R : Nat → Rec} (h : Lst W lb R) {f : Nat} (hf : f < 8) (x : Rec) (hx : x.gv = (R f).gv + 1) (v : Nat) (hv : v = 64 * x.gv + f) : Lst (W.setCell ⟨lb, f, none⟩ (.int .u64 (v : Nat))) lb (upR R f x) := by
  refine ⟨fun j hj => ?_, fun j hj => (World.frozen?_setCell _ _ _ _).trans (h.f j hj)⟩
  by_cases e : j = f
  · subst e
    rw [World.cell?_setCell_same _ _ _ (h.c j hj)]
    unfold lastN
    rw [upR_same, if_neg (by omega), hv]
  · rw [cell_ne (fun e' => e e'.symm)]
    rw [h.c j hj]
    unfold lastN
    rw [upR_other _ _ e]
theorem mine_yes {n : Nat} {R : Nat → Rec} {j : Nat} (hj : j < n) (n1 : n ≤ 8) (hg : (R j).gv ≠ 0) : mineId n R (64 * (R j).gv + j) = true := by
  unfold mineId
  have e1 : (64 * (R j).gv + j) / 64 = (R j).gv := by omega
  have e2 : (64 * (R j).gv + j) % 64 = j := by omega
  rw [e1, e2, if_pos hj]
  exact decide_eq_true ⟨hg, rfl⟩
theorem mine_no {n : Nat} {R : Nat → Rec} {j : Nat} (hj : j < n) (n1 : n ≤ 8) (hg : 1 < (R j).gv) : mineId n R (64 * ((R j).gv - 1) + j) = false := by
  unfold mineId
  have e1 : (64 * ((R j).gv - 1) + j) / 64 = (R j).gv - 1 := by omega
  have e2 : (64 * ((R j).gv - 1) + j) % 64 = j := by omega
  rw [e1, e2, if_pos hj]
  exact decide_eq_false (by omega)
/-- what holds at the head of the loop -/
def srBI (w : World) (b rb n lb : Nat) (ad : Option Addr) (len cap : Nat) (zs : List Int) (i q cnt m : Nat) (R : Nat → Rec) (k : Nat) (a : Act) (wr : World) : Prop :=
  a.defers = [] ∧ a.tmps.size = 138 ∧ a.tmps.getD 1 undef = .slice ad len cap ∧ a.tmps.getD 5 undef = .int .i64 (n : Nat) ∧ a.tmps.getD 6 undef = .pointer (some ⟨b, 0, none⟩) ∧ a.tmps.getD 8 undef = .pointer (some ⟨lb, 0, none⟩) ∧ a.tmps.getD 9 undef = .int .i64 (i : Nat) ∧ a.tmps.getD 10 undef = .pointer (some ⟨q, 0, none⟩) ∧ a.tmps.getD 11 undef = .int .i64 (k : Nat) ∧ (ItR w wr b rb n cnt R q 0 k ∧ Lst wr lb R)
theorem srBI_ctr {k : Nat} (w : World) (b rb n lb : Nat) (ad : Option Addr) (len cap : Nat) (zs : List Int) (i q cnt m : Nat) (R : Nat → Rec) {a : Act} {wr : World} (H : srBI w b rb n lb ad len cap zs i q cnt m R k a wr) : a.tmps.getD 11 undef = .int .i64 (k : Nat) := by
  obtain ⟨-, -, -, -, -, -, -, -, h, -⟩ := H
  exact h
set_option maxRecDepth 100000 in
set_option maxHeartbeats 0 in
theorem srB_round {k : Nat} (w : World) (b rb n lb : Nat) (ad : Option Addr) (len cap : Nat) (zs : List Int) (i q cnt m : Nat) (R : Nat → Rec) (hv : IsRow .u8 w ad len cap zs) (h100 : len ≤ 100) (n0 : 0 < n) (n1 : n ≤ 8) (hlb : w.heap.size ≤ lb ∧ lb ≠ b ∧ lb ≠ rb) (hi : Inv n cnt R 0 m) (hm : m + 1 ≤ 900000) (hql : q ≠ lb) (a : Act) (wr : World) (hk : k ≤ (n + 2)) (H : srBI w b rb n lb ad len cap zs i q cnt m R k a wr) :
    Code.wp Try.prog (loopIn 2 Try.f8) (Exit.then (fun a' w' => srBI w b rb n lb ad len cap zs i q cnt m R (k + 1) a' w' ∧ k < (n + 2)) (Qx 2 (fun a' w' => srBI w b rb n lb ad len cap zs i q cnt m R k a' w' ∧ k = (n + 2)))) a wr := by
  obtain ⟨t, ds⟩ := a
  obtain ⟨hd', hz, h1, h5, h6, h8, h9, h10, h11, rel⟩ := H
  replace hd' : ds = [] := hd'
  subst hd'
  replace hz : t.size = 138 := hz
  replace h1 : t.getD 1 undef = .slice ad len cap := h1
  replace h5 : t.getD 5 undef = .int .i64 (n : Nat) := h5
  replace h6 : t.getD 6 undef = .pointer (some ⟨b, 0, none⟩) := h6
  replace h8 : t.getD 8 undef = .pointer (some ⟨lb, 0, none⟩) := h8
  replace h9 : t.getD 9 undef = .int .i64 (i : Nat) := h9
  replace h10 : t.getD 10 undef = .pointer (some ⟨q, 0, none⟩) := h10
  replace h11 : t.getD 11 undef = .int .i64 (k : Nat) := h11
  have REL := Lib.hid rel
  clear rel
  refine openFr138 (P := fun t => t.getD 1 undef = .slice ad len cap → t.getD 5 undef = .int .i64 (n : Nat) → t.getD 6 undef = .pointer (some ⟨b, 0, none⟩) → t.getD 8 undef = .pointer (some ⟨lb, 0, none⟩) → t.getD 9 undef = .int .i64 (i : Nat) → t.getD 10 undef = .pointer (some ⟨q, 0, none⟩) → t.getD 11 undef = .int .i64 (k : Nat) → Code.wp Try.prog (loopIn 2 Try.f8) (Exit.then (fun a' w' => srBI w b rb n lb ad len cap zs i q cnt m R (k + 1) a' w' ∧ k < (n + 2)) (Qx 2 (fun a' w' => srBI w b rb n lb ad len cap zs i q cnt m R k a' w' ∧ k = (n + 2)))) ⟨t, []⟩ wr) ?_ t hz h1 h5 h6 h8 h9 h10 h11
  clear h1 h5 h6 h8 h9 h10 h11 hz t
  intro c0 c1 c2 c3 c4 c5 c6 c7 c8 c9 c10 c11 c12 c13 c14 c15 c16 c17 c18 c19 c20 c21 c22 c23 c24 c25 c26 c27 c28 c29 c30 c31 c32 c33 c34 c35 c36 c37 c38 c39 c40 c41 c42 c43 c44 c45 c46 c47 c48 c49 c50 c51 c52 c53 c54 c55 c56 c57 c58 c59 c60 c61 c62 c63 c64 c65 c66 c67 c68 c69 c70 c71 c72 c73 c74 c75 c76 c77 c78 c79 c80 c81 c82 c83 c84 c85 c86 c87 c88 c89 c90 c91 c92 c93 c94 c95 c96 c97 c98 c99 c100 c101 c102 c103 c104 c105 c106 c107 c108 c109 c110 c111 c112 c113 c114 c115 c116 c117 c118 c119 c120 c121 c122 c123 c124 c125 c126 c127 c128 c129 c130 c131 c132 c133 c134 c135 c136 c137 h1 h5 h6 h8 h9 h10 h11
  replace h1 : c1 = .slice ad len cap := h1
  replace h5 : c5 = .int .i64 (n : Nat) := h5
  replace h6 : c6 = .pointer (some ⟨b, 0, none⟩) := h6
  replace h8 : c8 = .pointer (some ⟨lb, 0, none⟩) := h8
  replace h9 : c9 = .int .i64 (i : Nat) := h9
  replace h10 : c10 = .pointer (some ⟨q, 0, none⟩) := h10
  replace h11 : c11 = .int .i64 (k : Nat) := h11
  subst h1
  subst h5
  subst h6
  subst h8
  subst h9
  subst h10
  subst h11
  conv => arg 2; whnf
  have FT := Lib.hid (it_fit 0 hi hm (by omega) n0 k)
  have HL := Lib.hid hlb
  have HQ := Lib.hid hql
  clear hv hi hlb hql
  by_cases hlt : k < n + 2
  · have hkz : (k : Int) < (n : Int) + 2 := by omega
    go_wp2_with fail
    refine (step_fit REL.out.1.sq FT.out).mono ?_
    rintro e w5 ⟨rfl, k5, c5⟩
    have NX := Lib.hid (REL.out.1.next k5 c5)
    have NL := Lib.hid (REL.out.2.kept c5 (fun e => by have h1 := HQ.out; have h2 := HL.out; rcases e with e | e | e <;> omega))
    obtain ⟨y, hy⟩ : ∃ y, y = (stepM n (itS n cnt R ⟨0, 0, 0, 0, 0, 0⟩ k).1 (itS n cnt R ⟨0, 0, 0, 0, 0, 0⟩ k).2.1 (itS n cnt R ⟨0, 0, 0, 0, 0, 0⟩ k).2.2).2.2.ss := ⟨_, rfl⟩
    rw [← hy]
    clear hy k5 c5 REL
    go_wp2
    first | exact ⟨⟨rfl, rfl, rfl, rfl, rfl, rfl, rfl, rfl, rfl, ⟨NX.out, NL.out⟩⟩, hlt⟩ | exact ⟨rfl, rfl, rfl, rfl, rfl, rfl, rfl, rfl, rfl, ⟨NX.out, NL.out⟩⟩
  · obtain rfl : k = n + 2 := by omega
    have hkz : ¬ (n : Int) + 2 < (n : Int) + 2 := by omega
    go_wp2
    first | exact ⟨by first | rfl | trivial, ⟨rfl, rfl, rfl, rfl, rfl, rfl, rfl, rfl, rfl, REL.out⟩, by first | rfl | trivial⟩ | exact ⟨rfl, rfl, rfl, rfl, rfl, rfl, rfl, rfl, rfl, REL.out⟩ | exact ⟨⟨rfl, rfl, rfl, rfl, rfl, rfl, rfl, rfl, rfl, REL.out⟩, by first | rfl | trivial⟩ | exact ⟨by first | rfl | trivial, ⟨rfl, rfl, rfl, rfl, rfl, rfl, rfl, rfl, rfl, REL.out⟩⟩
theorem srB_loop (w : World) (b rb n lb : Nat) (ad : Option Addr) (len cap : Nat) (zs : List Int) (i q cnt m : Nat) (R : Nat → Rec) (hv : IsRow .u8 w ad len cap zs) (h100 : len ≤ 100) (n0 : 0 < n) (n1 : n ≤ 8) (hlb : w.heap.size ≤ lb ∧ lb ≠ b ∧ lb ≠ rb) (hi : Inv n cnt R 0 m) (hm : m + 1 ≤ 900000) (hql : q ≠ lb) (a : Act) (wr : World) (hb : 0 ≤ (n + 2)) (H : srBI w b rb n lb ad len cap zs i q cnt m R 0 a wr) :
    Code.wp Try.prog (.loop (loopIn 2 Try.f8)) (Qx 2 (fun a' w' => srBI w b rb n lb ad len cap zs i q cnt m R (n + 2) a' w')) a wr := by
  refine wp_loop (fun a' wr => ∃ k, k ≤ (n + 2) ∧ srBI w b rb n lb ad len cap zs i q cnt m R k a' wr) (fun a' _ => (n + 2) - (intOf (a'.tmps.getD 11 undef)).toNat) ⟨0, hb, H⟩ ?_
  rintro a' wr ⟨k, hk, h⟩
  refine wp_mono (srB_round w b rb n lb ad len cap zs i q cnt m R hv h100 n0 n1 hlb hi hm hql a' wr hk h) ?_
  intro e a2 w2 hp
  cases e with
  | normal =>
    refine ⟨⟨k + 1, by have := hp.2; omega, hp.1⟩, ?_⟩
    rw [srBI_ctr w b rb n lb ad len cap zs i q cnt m R h, srBI_ctr w b rb n lb ad len cap zs i q cnt m R hp.1]
    have := hp.2
    simp only [intOf, Int.toNat_natCast]
    omega
  | exit n => exact ⟨hp.1, hp.2.2 ▸ hp.2.1⟩
  | _ => exact hp.elim
/-- what holds at the head of the loop -/
def srCI (w : World) (b rb n lb : Nat) (ad : Option Addr) (len cap : Nat) (zs : List Int) (i cnt m : Nat) (R : Nat → Rec) (k : Nat) (a : Act) (wr : World) : Prop :=
  a.defers = [] ∧ a.tmps.size = 138 ∧ a.tmps.getD 1 undef = .slice ad len cap ∧ a.tmps.getD 5 undef = .int .i64 (n : Nat) ∧ a.tmps.getD 6 undef = .pointer (some ⟨b, 0, none⟩) ∧ a.tmps.getD 8 undef = .pointer (some ⟨lb, 0, none⟩) ∧ a.tmps.getD 9 undef = .int .i64 (i : Nat) ∧ a.tmps.getD 15 undef = .int .i64 (k : Nat) ∧ (SlR w wr b rb n cnt R m ∧ Lst wr lb R)
theorem srCI_ctr {k : Nat} (w : World) (b rb n lb : Nat) (ad : Option Addr) (len cap : Nat) (zs : List Int) (i cnt m : Nat) (R : Nat → Rec) {a : Act} {wr : World} (H : srCI w b rb n lb ad len cap zs i cnt m R k a wr) : a.tmps.getD 15 undef = .int .i64 (k : Nat) := by
  obtain ⟨-, -, -, -, -, -, -, h, -⟩ := H
  exact h
set_option maxRecDepth 100000 in
set_option maxHeartbeats 0 in
theorem srC_round {k : Nat} (w : World) (b rb n lb : Nat) (ad : Option Addr) (len cap : Nat) (zs : List Int) (i cnt m : Nat) (R : Nat → Rec) (hv : IsRow .u8 w ad len cap zs) (h100 : len ≤ 100) (n0 : 0 < n) (n1 : n ≤ 8) (hlb : w.heap.size ≤ lb ∧ lb ≠ b ∧ lb ≠ rb) (hm : m ≤ 1000) (a : Act) (wr : World) (hk : k ≤ n) (H : srCI w b rb n lb ad len cap zs i cnt m R k a wr) :
    Code.wp Try.prog (loopIn 4 Try.f8) (Exit.then (fun a' w' => srCI w b rb n lb ad len cap zs i cnt m R (k + 1) a' w' ∧ k < n) (Qx 4 (fun a' w' => srCI w b rb n lb ad len cap zs i cnt m R k a' w' ∧ k = n))) a wr := by
  obtain ⟨t, ds⟩ := a
  obtain ⟨hd', hz, h1, h5, h6, h8, h9, h15, rel⟩ := H
  replace hd' : ds = [] := hd'
  subst hd'
  replace hz : t.size = 138 := hz
  replace h1 : t.getD 1 undef = .slice ad len cap := h1
  replace h5 : t.getD 5 undef = .int .i64 (n : Nat) := h5
  replace h6 : t.getD 6 undef = .pointer (some ⟨b, 0, none⟩) := h6
  replace h8 : t.getD 8 undef = .pointer (some ⟨lb, 0, none⟩) := h8
  replace h9 : t.getD 9 undef = .int .i64 (i : Nat) := h9
  replace h15 : t.getD 15 undef = .int .i64 (k : Nat) := h15
  have REL := Lib.hid rel
  clear rel
  refine openFr138 (P := fun t => t.getD 1 undef = .slice ad len cap → t.getD 5 undef = .int .i64 (n : Nat) → t.getD 6 undef = .pointer (some ⟨b, 0, none⟩) → t.getD 8 undef = .pointer (some ⟨lb, 0, none⟩) → t.getD 9 undef = .int .i64 (i : Nat) → t.getD 15 undef = .int .i64 (k : Nat) → Code.wp Try.prog (loopIn 4 Try.f8) (Exit.then (fun a' w' => srCI w b rb n lb ad len cap zs i cnt m R (k + 1) a' w' ∧ k < n) (Qx 4 (fun a' w' => srCI w b rb n lb ad len cap zs i cnt m R k a' w' ∧ k = n))) ⟨t, []⟩ wr) ?_ t hz h1 h5 h6 h8 h9 h15
  clear h1 h5 h6 h8 h9 h15 hz t
  intro c0 c1 c2 c3 c4 c5 c6 c7 c8 c9 c10 c11 c12 c13 c14 c15 c16 c17 c18 c19 c20 c21 c22 c23 c24 c25 c26 c27 c28 c29 c30 c31 c32 c33 c34 c35 c36 c37 c38 c39 c40 c41 c42 c43 c44 c45 c46 c47 c48 c49 c50 c51 c52 c53 c54 c55 c56 c57 c58 c59 c60 c61 c62 c63 c64 c65 c66 c67 c68 c69 c70 c71 c72 c73 c74 c75 c76 c77 c78 c79 c80 c81 c82 c83 c84 c85 c86 c87 c88 c89 c90 c91 c92 c93 c94 c95 c96 c97 c98 c99 c100 c101 c102 c103 c104 c105 c106 c107 c108 c109 c110 c111 c112 c113 c114 c115 c116 c117 c118 c119 c120 c121 c122 c123 c124 c125 c126 c127 c128 c129 c130 c131 c132 c133 c134 c135 c136 c137 h1 h5 h6 h8 h9 h15
  replace h1 : c1 = .slice ad len cap := h1
  replace h5 : c5 = .int .i64 (n : Nat) := h5
  replace h6 : c6 = .pointer (some ⟨b, 0, none⟩) := h6
  replace h8 : c8 = .pointer (some ⟨lb, 0, none⟩) := h8
  replace h9 : c9 = .int .i64 (i : Nat) := h9
  replace h15 : c15 = .int .i64 (k : Nat) := h15
  subst h1
  subst h5
  subst h6
  subst h8
  subst h9
  subst h15
  conv => arg 2; whnf
  have HL := Lib.hid hlb
  clear hv hlb
  by_cases hlt : k < n
  · have hkz : (k : Int) < (n : Int) := by omega
    have hk8 : (k : Int) < 8 := by omega
    have hkz0 : (0 : Int) ≤ (k : Int) := by omega
    have e0 : ((k : Int)).toNat = k := by omega
    have q1 := REL.out.2.c k (by omega)
    have hg := REL.out.1.i.gv k hlt
    obtain ⟨g, hgg⟩ : ∃ g, g = (R k).gv := ⟨_, rfl⟩
    have G := Lib.hid hgg
    rw [← hgg] at hg
    obtain ⟨v, hv⟩ : ∃ v, v = lastN R k := ⟨_, rfl⟩
    rw [← hv] at q1
    unfold lastN at hv
    rw [← hgg] at hv
    clear hgg
    by_cases g0 : g = 0
    · rw [if_pos g0] at hv
      subst hv
      replace q1 : wr.cell? ⟨lb, k, none⟩ = some (.int .u64 0) := q1
      go_wp2
      first | exact ⟨⟨rfl, rfl, rfl, rfl, rfl, rfl, rfl, rfl, REL.out⟩, hlt⟩ | exact ⟨rfl, rfl, rfl, rfl, rfl, rfl, rfl, rfl, REL.out⟩
    · rw [if_neg g0] at hv
      have VG := Lib.hid hv
      have vb : (v : Int) ≤ 100000 := by omega
      have v0 : ((v : Int) != 0) = true := by rw [bne_iff_ne]; omega
      have v1 : ((v : Int) == 0) = false := by rw [beq_eq_false_iff_ne]; omega
      have my := mine_yes (R := R) hlt n1 (by rw [← G.out]; exact g0)
      rw [← G.out, ← hv] at my
      have MY := Lib.hid my
      clear my
      by_cases g1 : g = 1
      · have vz : (v : Int) ≤ 64 + (k : Int) := by omega
        have vn : ¬ 64 + (k : Int) < (v : Int) := by omega
        clear hv
        go_wp2_with fail
        refine (mine_of v (by omega) REL.out.1.s).mono ?_
        rintro e w5 ⟨rfl, rfl⟩
        rw [MY.out]
        go_wp2
        first | exact ⟨⟨rfl, rfl, rfl, rfl, rfl, rfl, rfl, rfl, REL.out⟩, hlt⟩ | exact ⟨rfl, rfl, rfl, rfl, rfl, rfl, rfl, rfl, REL.out⟩
      · have vz : 64 + (k : Int) < (v : Int) := by omega
        have mn := mine_no (R := R) hlt n1 (by rw [← G.out]; omega)
        rw [← G.out] at mn
        obtain ⟨u, hu⟩ : ∃ u, u = 64 * (g - 1) + k := ⟨_, rfl⟩
        have hub : u < 18446744073709551616 := by omega
        have huv : (v : Int) - 64 = (u : Int) := by omega
        rw [← hu] at mn
        have MN := Lib.hid mn
        clear mn hv hu
        go_wp2_with fail
        refine (mine_of v (by omega) REL.out.1.s).mono ?_
        rintro e w5 ⟨rfl, rfl⟩
        rw [MY.out]
        go_wp2_with fail
        (try rw [huv])
        refine (mine_of u hub REL.out.1.s).mono ?_
        rintro e w5 ⟨rfl, rfl⟩
        rw [MN.out]
        go_wp2
        first | exact ⟨⟨rfl, rfl, rfl, rfl, rfl, rfl, rfl, rfl, REL.out⟩, hlt⟩ | exact ⟨rfl, rfl, rfl, rfl, rfl, rfl, rfl, rfl, REL.out⟩
  · obtain rfl : k = n := by omega
    have hkz : ¬ (k : Int) < (k : Int) := by omega
    go_wp2
    first | exact ⟨by first | rfl | trivial, ⟨rfl, rfl, rfl, rfl, rfl, rfl, rfl, rfl, REL.out⟩, by first | rfl | trivial⟩ | exact ⟨rfl, rfl, rfl, rfl, rfl, rfl, rfl, rfl, REL.out⟩ | exact ⟨⟨rfl, rfl, rfl, rfl, rfl, rfl, rfl, rfl, REL.out⟩, by first | rfl | trivial⟩ | exact ⟨by first | rfl | trivial, ⟨rfl, rfl, rfl, rfl, rfl, rfl, rfl, rfl, REL.out⟩⟩
theorem srC_loop (w : World) (b rb n lb : Nat) (ad : Option Addr) (len cap : Nat) (zs : List Int) (i cnt m : Nat) (R : Nat → Rec) (hv : IsRow .u8 w ad len cap zs) (h100 : len ≤ 100) (n0 : 0 < n) (n1 : n ≤ 8) (hlb : w.heap.size ≤ lb ∧ lb ≠ b ∧ lb ≠ rb) (hm : m ≤ 1000) (a : Act) (wr : World) (hb : 0 ≤ n) (H : srCI w b rb n lb ad len cap zs i cnt m R 0 a wr) :
    Code.wp Try.prog (.loop (loopIn 4 Try.f8)) (Qx 4 (fun a' w' => srCI w b rb n lb ad len cap zs i cnt m R n a' w')) a wr := by
  refine wp_loop (fun a' wr => ∃ k, k ≤ n ∧ srCI w b rb n lb ad len cap zs i cnt m R k a' wr) (fun a' _ => n - (intOf (a'.tmps.getD 15 undef)).toNat) ⟨0, hb, H⟩ ?_
  rintro a' wr ⟨k, hk, h⟩
  refine wp_mono (srC_round w b rb n lb ad len cap zs i cnt m R hv h100 n0 n1 hlb hm a' wr hk h) ?_
  intro e a2 w2 hp
  cases e with
  | normal =>
    refine ⟨⟨k + 1, by have := hp.2; omega, hp.1⟩, ?_⟩
    rw [srCI_ctr w b rb n lb ad len cap zs i cnt m R h, srCI_ctr w b rb n lb ad len cap zs i cnt m R hp.1]
    have := hp.2
    simp only [intOf, Int.toNat_natCast]
    omega
  | exit n => exact ⟨hp.1, hp.2.2 ▸ hp.2.1⟩
  | _ => exact hp.elim
end Go.Proofs.Ytjhmmfdmoalfmaa
