/-
  SlabStale: the rows of numbers and words that were seen; the loop of one request; the loop that asks for all.
-/
import Derived.Test.YtjhmmfdmoalfmaaStCode
import Derived.Test.YtjhmmfdmoalfmaaHeld
import Derived.Deep.QuietTactic
import Derived.BigQuiet
import Derived.Deep.Cut
import Derived.Deep.CutRange
import Derived.Deep.CutBlock
import Derived.RegionTactic
import Derived.BigRegion
namespace Go.Proofs.Ytjhmmfdmoalfmaa
open Go.RowKit Verge
set_option linter.unusedVariables false
set_option linter.unusedSimpArgs false
attribute [local go_sem] Oper.semAt_some

def idF (j : Nat) : Value := .int .u64 ((64 * (j + 1) : Nat) : Int)
def wdF (j : Nat) : Value := .int .u64 ((256 * (j + 1) + 1 : Nat) : Int)
/-- the numbers and the words that were seen -/
structure Rows2 (w W : World) (b rb i : Nat) (ai : Option Addr) (ci : Nat) (aw : Option Addr) (cw : Nat) : Prop where
  ids : Row W 23 1 ai i ci idF
  wds : Row W 49 1 aw i cw wdF
  oi : ∀ j, OwnS ai j → w.heap.size ≤ j ∧ j ≠ b ∧ j ≠ rb ∧ ¬ OwnS aw j
  ow : ∀ j, OwnS aw j → w.heap.size ≤ j ∧ j ≠ b ∧ j ≠ rb
theorem Rows2.kept {S : Nat → Prop} {w W W' : World} {b rb i : Nat} {ai aw : Option Addr} {ci cw : Nat} (h : Rows2 w W b rb i ai ci aw cw) (c : Ch S W W') (hS : ∀ j, S j → j = b ∨ j = rb ∨ (¬ OwnS ai j ∧ ¬ OwnS aw j)) : Rows2 w W' b rb i ai ci aw cw :=
  ⟨h.ids.kept c (fun j hj e => by have := h.oi j hj; rcases hS j e with e | e | e; omega; omega; exact e.1 hj),
   h.wds.kept c (fun j hj e => by have := h.ow j hj; rcases hS j e with e | e | e; omega; omega; exact e.2 hj), h.oi, h.ow⟩
/-- what holds at the head of the loop -/
def stBI (w : World) (b rb tz ev tt : Nat) (i q : Nat) (R : Nat → Rec) (ai aw : Option Addr) (ci cw : Nat) (k : Nat) (a : Act) (wr : World) : Prop :=
  a.defers = [] ∧ a.tmps.size = 138 ∧ a.tmps.getD 0 undef = .int .u8 (tz : Nat) ∧ a.tmps.getD 1 undef = .int .u8 (ev : Nat) ∧ a.tmps.getD 5 undef = .pointer (some ⟨b, 0, none⟩) ∧ a.tmps.getD 7 undef = .slice ai i ci ∧ a.tmps.getD 8 undef = .slice aw i cw ∧ a.tmps.getD 9 undef = .int .i64 (i : Nat) ∧ a.tmps.getD 10 undef = .pointer (some ⟨q, 0, none⟩) ∧ a.tmps.getD 11 undef = .int .i64 (k : Nat) ∧ (ItR w wr b rb 1 0 R q 1 k ∧ Rows2 w wr b rb i ai ci aw cw)
theorem stBI_ctr {k : Nat} (w : World) (b rb tz ev tt : Nat) (i q : Nat) (R : Nat → Rec) (ai aw : Option Addr) (ci cw : Nat) {a : Act} {wr : World} (H : stBI w b rb tz ev tt i q R ai aw ci cw k a wr) : a.tmps.getD 11 undef = .int .i64 (k : Nat) := by
  obtain ⟨-, -, -, -, -, -, -, -, -, h, -⟩ := H
  exact h
set_option maxRecDepth 100000 in
set_option maxHeartbeats 0 in
theorem stB_round {k : Nat} (w : World) (b rb tz ev tt : Nat) (i q : Nat) (R : Nat → Rec) (ai aw : Option Addr) (ci cw : Nat) (ht : tt = tz % 6) (htz : tz ≤ 255) (hev : ev ≤ 255) (hi : Inv 1 0 R 0 i) (hit : i ≤ 6) (hq : ¬ OwnS ai q ∧ ¬ OwnS aw q) (a : Act) (wr : World) (hk : k ≤ 3) (H : stBI w b rb tz ev tt i q R ai aw ci cw k a wr) :
    Code.wp Try.prog (loopIn 2 Try.f6) (Exit.then (fun a' w' => stBI w b rb tz ev tt i q R ai aw ci cw (k + 1) a' w' ∧ k < 3) (Qx 2 (fun a' w' => stBI w b rb tz ev tt i q R ai aw ci cw k a' w' ∧ k = 3))) a wr := by
  obtain ⟨t, ds⟩ := a
  obtain ⟨hd', hz, h0, h1, h5, h7, h8, h9, h10, h11, rel⟩ := H
  replace hd' : ds = [] := hd'
  subst hd'
  replace hz : t.size = 138 := hz
  replace h0 : t.getD 0 undef = .int .u8 (tz : Nat) := h0
  replace h1 : t.getD 1 undef = .int .u8 (ev : Nat) := h1
  replace h5 : t.getD 5 undef = .pointer (some ⟨b, 0, none⟩) := h5
  replace h7 : t.getD 7 undef = .slice ai i ci := h7
  replace h8 : t.getD 8 undef = .slice aw i cw := h8
  replace h9 : t.getD 9 undef = .int .i64 (i : Nat) := h9
  replace h10 : t.getD 10 undef = .pointer (some ⟨q, 0, none⟩) := h10
  replace h11 : t.getD 11 undef = .int .i64 (k : Nat) := h11
  have REL := Lib.hid rel
  clear rel
  refine openFr138 (P := fun t => t.getD 0 undef = .int .u8 (tz : Nat) → t.getD 1 undef = .int .u8 (ev : Nat) → t.getD 5 undef = .pointer (some ⟨b, 0, none⟩) → t.getD 7 undef = .slice ai i ci → t.getD 8 undef = .slice aw i cw → t.getD 9 undef = .int .i64 (i : Nat) → t.getD 10 undef = .pointer (some ⟨q, 0, none⟩) → t.getD 11 undef = .int .i64 (k : Nat) → Code.wp Try.prog (loopIn 2 Try.f6) (Exit.then (fun a' w' => stBI w b rb tz ev tt i q R ai aw ci cw (k + 1) a' w' ∧ k < 3) (Qx 2 (fun a' w' => stBI w b rb tz ev tt i q R ai aw ci cw k a' w' ∧ k = 3))) ⟨t, []⟩ wr) ?_ t hz h0 h1 h5 h7 h8 h9 h10 h11
  clear h0 h1 h5 h7 h8 h9 h10 h11 hz t
  intro c0 c1 c2 c3 c4 c5 c6 c7 c8 c9 c10 c11 c12 c13 c14 c15 c16 c17 c18 c19 c20 c21 c22 c23 c24 c25 c26 c27 c28 c29 c30 c31 c32 c33 c34 c35 c36 c37 c38 c39 c40 c41 c42 c43 c44 c45 c46 c47 c48 c49 c50 c51 c52 c53 c54 c55 c56 c57 c58 c59 c60 c61 c62 c63 c64 c65 c66 c67 c68 c69 c70 c71 c72 c73 c74 c75 c76 c77 c78 c79 c80 c81 c82 c83 c84 c85 c86 c87 c88 c89 c90 c91 c92 c93 c94 c95 c96 c97 c98 c99 c100 c101 c102 c103 c104 c105 c106 c107 c108 c109 c110 c111 c112 c113 c114 c115 c116 c117 c118 c119 c120 c121 c122 c123 c124 c125 c126 c127 c128 c129 c130 c131 c132 c133 c134 c135 c136 c137 h0 h1 h5 h7 h8 h9 h10 h11
  replace h0 : c0 = .int .u8 (tz : Nat) := h0
  replace h1 : c1 = .int .u8 (ev : Nat) := h1
  replace h5 : c5 = .pointer (some ⟨b, 0, none⟩) := h5
  replace h7 : c7 = .slice ai i ci := h7
  replace h8 : c8 = .slice aw i cw := h8
  replace h9 : c9 = .int .i64 (i : Nat) := h9
  replace h10 : c10 = .pointer (some ⟨q, 0, none⟩) := h10
  replace h11 : c11 = .int .i64 (k : Nat) := h11
  subst h0
  subst h1
  subst h5
  subst h7
  subst h8
  subst h9
  subst h10
  subst h11
  conv => arg 2; whnf
  have FT := Lib.hid (it_fit 1 hi (by omega) (by decide) (by decide) k)
  have HQ := Lib.hid hq
  clear hi hq ht
  by_cases hlt : k < 3
  · have hkz : (k : Int) < 3 := by omega
    go_wp2_with fail
    refine (step_fit REL.out.1.sq FT.out).mono ?_
    rintro e w5 ⟨rfl, k5, c5⟩
    have NX := Lib.hid (REL.out.1.next k5 c5)
    have NL := Lib.hid (REL.out.2.kept c5 (fun j e => by rcases e with e | e | e; exact .inr (.inr (e ▸ HQ.out)); exact .inl e; exact .inr (.inl e)))
    obtain ⟨y, hy⟩ : ∃ y, y = (stepM 1 (itS 1 0 R ⟨1, 0, 0, 0, 0, 0⟩ k).1 (itS 1 0 R ⟨1, 0, 0, 0, 0, 0⟩ k).2.1 (itS 1 0 R ⟨1, 0, 0, 0, 0, 0⟩ k).2.2).2.2.ss := ⟨_, rfl⟩
    rw [← hy]
    clear hy k5 c5 REL
    go_wp2
    first | exact ⟨⟨rfl, rfl, rfl, rfl, rfl, rfl, rfl, rfl, rfl, rfl, ⟨NX.out, NL.out⟩⟩, hlt⟩ | exact ⟨rfl, rfl, rfl, rfl, rfl, rfl, rfl, rfl, rfl, rfl, ⟨NX.out, NL.out⟩⟩
  · obtain rfl : k = 3 := by omega
    go_wp2
    first | exact ⟨by first | rfl | trivial, ⟨rfl, rfl, rfl, rfl, rfl, rfl, rfl, rfl, rfl, rfl, REL.out⟩, by first | rfl | trivial⟩ | exact ⟨rfl, rfl, rfl, rfl, rfl, rfl, rfl, rfl, rfl, rfl, REL.out⟩ | exact ⟨⟨rfl, rfl, rfl, rfl, rfl, rfl, rfl, rfl, rfl, rfl, REL.out⟩, by first | rfl | trivial⟩ | exact ⟨by first | rfl | trivial, ⟨rfl, rfl, rfl, rfl, rfl, rfl, rfl, rfl, rfl, rfl, REL.out⟩⟩
theorem stB_loop (w : World) (b rb tz ev tt : Nat) (i q : Nat) (R : Nat → Rec) (ai aw : Option Addr) (ci cw : Nat) (ht : tt = tz % 6) (htz : tz ≤ 255) (hev : ev ≤ 255) (hi : Inv 1 0 R 0 i) (hit : i ≤ 6) (hq : ¬ OwnS ai q ∧ ¬ OwnS aw q) (a : Act) (wr : World) (hb : 0 ≤ 3) (H : stBI w b rb tz ev tt i q R ai aw ci cw 0 a wr) :
    Code.wp Try.prog (.loop (loopIn 2 Try.f6)) (Qx 2 (fun a' w' => stBI w b rb tz ev tt i q R ai aw ci cw 3 a' w')) a wr := by
  refine wp_loop (fun a' wr => ∃ k, k ≤ 3 ∧ stBI w b rb tz ev tt i q R ai aw ci cw k a' wr) (fun a' _ => 3 - (intOf (a'.tmps.getD 11 undef)).toNat) ⟨0, hb, H⟩ ?_
  rintro a' wr ⟨k, hk, h⟩
  refine wp_mono (stB_round w b rb tz ev tt i q R ai aw ci cw ht htz hev hi hit hq a' wr hk h) ?_
  intro e a2 w2 hp
  cases e with
  | normal =>
    refine ⟨⟨k + 1, by have := hp.2; omega, hp.1⟩, ?_⟩
    rw [stBI_ctr w b rb tz ev tt i q R ai aw ci cw h, stBI_ctr w b rb tz ev tt i q R ai aw ci cw hp.1]
    have := hp.2
    simp only [intOf, Int.toNat_natCast]
    omega
  | exit n => exact ⟨hp.1, hp.2.2 ▸ hp.2.1⟩
  | _ => exact hp.elim
/-- what holds at the head of the loop -/
def stCI (w : World) (b rb tz ev tt : Nat) (i id wd : Nat) (R : Nat → Rec) (ai aw : Option Addr) (ci cw : Nat) (k : Nat) (a : Act) (wr : World) : Prop :=
  a.defers = [] ∧ a.tmps.size = 138 ∧ a.tmps.getD 0 undef = .int .u8 (tz : Nat) ∧ a.tmps.getD 1 undef = .int .u8 (ev : Nat) ∧ a.tmps.getD 5 undef = .pointer (some ⟨b, 0, none⟩) ∧ a.tmps.getD 7 undef = .slice ai i ci ∧ a.tmps.getD 8 undef = .slice aw i cw ∧ a.tmps.getD 9 undef = .int .i64 (i : Nat) ∧ a.tmps.getD 12 undef = .int .u64 (id : Nat) ∧ a.tmps.getD 14 undef = .int .u64 (wd : Nat) ∧ a.tmps.getD 16 undef = .int .i64 (k : Nat) ∧ (IsS wr b rb 1 1 R ∧ Rows2 w wr b rb i ai ci aw cw ∧ Ch Nil w wr)
theorem stCI_ctr {k : Nat} (w : World) (b rb tz ev tt : Nat) (i id wd : Nat) (R : Nat → Rec) (ai aw : Option Addr) (ci cw : Nat) {a : Act} {wr : World} (H : stCI w b rb tz ev tt i id wd R ai aw ci cw k a wr) : a.tmps.getD 16 undef = .int .i64 (k : Nat) := by
  obtain ⟨-, -, -, -, -, -, -, -, -, -, h, -⟩ := H
  exact h
set_option maxRecDepth 100000 in
set_option maxHeartbeats 0 in
theorem stC_round {k : Nat} (w : World) (b rb tz ev tt : Nat) (i id wd : Nat) (R : Nat → Rec) (ai aw : Option Addr) (ci cw : Nat) (ht : tt = tz % 6) (htz : tz ≤ 255) (hev : ev ≤ 255) (hit : i ≤ 6) (hid : id = 64 * (i + 1)) (hwd : wd = 256 * (i + 1) + 1) (hR : R 0 = ⟨wd, i + 1, 1⟩) (hr : w.heap.size ≤ rb) (a : Act) (wr : World) (hk : k ≤ i) (H : stCI w b rb tz ev tt i id wd R ai aw ci cw k a wr) :
    Code.wp Try.prog (loopIn 4 Try.f6) (Exit.then (fun a' w' => stCI w b rb tz ev tt i id wd R ai aw ci cw (k + 1) a' w' ∧ k < i) (Qx 4 (fun a' w' => stCI w b rb tz ev tt i id wd R ai aw ci cw k a' w' ∧ k = i))) a wr := by
  obtain ⟨t, ds⟩ := a
  obtain ⟨hd', hz, h0, h1, h5, h7, h8, h9, h12, h14, h16, rel⟩ := H
  replace hd' : ds = [] := hd'
  subst hd'
  replace hz : t.size = 138 := hz
  replace h0 : t.getD 0 undef = .int .u8 (tz : Nat) := h0
  replace h1 : t.getD 1 undef = .int .u8 (ev : Nat) := h1
  replace h5 : t.getD 5 undef = .pointer (some ⟨b, 0, none⟩) := h5
  replace h7 : t.getD 7 undef = .slice ai i ci := h7
  replace h8 : t.getD 8 undef = .slice aw i cw := h8
  replace h9 : t.getD 9 undef = .int .i64 (i : Nat) := h9
  replace h12 : t.getD 12 undef = .int .u64 (id : Nat) := h12
  replace h14 : t.getD 14 undef = .int .u64 (wd : Nat) := h14
  replace h16 : t.getD 16 undef = .int .i64 (k : Nat) := h16
  have REL := Lib.hid rel
  clear rel
  refine openFr138 (P := fun t => t.getD 0 undef = .int .u8 (tz : Nat) → t.getD 1 undef = .int .u8 (ev : Nat) → t.getD 5 undef = .pointer (some ⟨b, 0, none⟩) → t.getD 7 undef = .slice ai i ci → t.getD 8 undef = .slice aw i cw → t.getD 9 undef = .int .i64 (i : Nat) → t.getD 12 undef = .int .u64 (id : Nat) → t.getD 14 undef = .int .u64 (wd : Nat) → t.getD 16 undef = .int .i64 (k : Nat) → Code.wp Try.prog (loopIn 4 Try.f6) (Exit.then (fun a' w' => stCI w b rb tz ev tt i id wd R ai aw ci cw (k + 1) a' w' ∧ k < i) (Qx 4 (fun a' w' => stCI w b rb tz ev tt i id wd R ai aw ci cw k a' w' ∧ k = i))) ⟨t, []⟩ wr) ?_ t hz h0 h1 h5 h7 h8 h9 h12 h14 h16
  clear h0 h1 h5 h7 h8 h9 h12 h14 h16 hz t
  intro c0 c1 c2 c3 c4 c5 c6 c7 c8 c9 c10 c11 c12 c13 c14 c15 c16 c17 c18 c19 c20 c21 c22 c23 c24 c25 c26 c27 c28 c29 c30 c31 c32 c33 c34 c35 c36 c37 c38 c39 c40 c41 c42 c43 c44 c45 c46 c47 c48 c49 c50 c51 c52 c53 c54 c55 c56 c57 c58 c59 c60 c61 c62 c63 c64 c65 c66 c67 c68 c69 c70 c71 c72 c73 c74 c75 c76 c77 c78 c79 c80 c81 c82 c83 c84 c85 c86 c87 c88 c89 c90 c91 c92 c93 c94 c95 c96 c97 c98 c99 c100 c101 c102 c103 c104 c105 c106 c107 c108 c109 c110 c111 c112 c113 c114 c115 c116 c117 c118 c119 c120 c121 c122 c123 c124 c125 c126 c127 c128 c129 c130 c131 c132 c133 c134 c135 c136 c137 h0 h1 h5 h7 h8 h9 h12 h14 h16
  replace h0 : c0 = .int .u8 (tz : Nat) := h0
  replace h1 : c1 = .int .u8 (ev : Nat) := h1
  replace h5 : c5 = .pointer (some ⟨b, 0, none⟩) := h5
  replace h7 : c7 = .slice ai i ci := h7
  replace h8 : c8 = .slice aw i cw := h8
  replace h9 : c9 = .int .i64 (i : Nat) := h9
  replace h12 : c12 = .int .u64 (id : Nat) := h12
  replace h14 : c14 = .int .u64 (wd : Nat) := h14
  replace h16 : c16 = .int .i64 (k : Nat) := h16
  subst h0
  subst h1
  subst h5
  subst h7
  subst h8
  subst h9
  subst h12
  subst h14
  subst h16
  conv => arg 2; whnf
  have HR := Lib.hid hR
  clear hR ht
  by_cases hlt : k < i
  · have hkz : (k : Int) < (i : Int) := by omega
    have hkz0 : (0 : Int) ≤ (k : Int) := by omega
    have e0 : ((k : Int)).toNat = k := by omega
    obtain ⟨gi, rfl, -⟩ := REL.out.2.1.ids.form (by omega)
    obtain ⟨gw, rfl, -⟩ := REL.out.2.1.wds.form (by omega)
    have lc1 := REL.out.2.1.ids.len_cap
    have lc2 := REL.out.2.1.wds.len_cap
    have q1 := REL.out.2.1.ids.cell k (by omega)
    have q2 := REL.out.2.1.wds.cell k (by omega)
    obtain ⟨u, hu⟩ : ∃ u, u = 64 * (k + 1) := ⟨_, rfl⟩
    obtain ⟨v, hv⟩ : ∃ v, v = 256 * (k + 1) + 1 := ⟨_, rfl⟩
    replace q1 : wr.cell? ⟨gi, k, none⟩ = some (.int .u64 (u : Nat)) := by rw [hu]; exact q1
    replace q2 : wr.cell? ⟨gw, k, none⟩ = some (.int .u64 (v : Nat)) := by rw [hv]; exact q2
    have un : ((u : Int) == (id : Int)) = false := by rw [beq_eq_false_iff_ne]; omega
    have vn : ((v : Int) == (wd : Int)) = false := by rw [beq_eq_false_iff_ne]; omega
    have mn : mineId 1 R u = false := by
      unfold mineId
      rw [show u / 64 = k + 1 by omega, show u % 64 = 0 by omega, if_pos (by decide), HR.out]
      exact decide_eq_false (by show ¬ (k + 1 ≠ 0 ∧ k + 1 = i + 1); omega)
    have MN := Lib.hid mn
    have VW : Hid ((R 0).wd ≠ v) := Lib.hid (by rw [HR.out]; show wd ≠ v; omega)
    have W0 : Hid ((R 0).wd = wd) := Lib.hid (by rw [HR.out])
    have tm := tmod_nat ev 10
    obtain ⟨r, hr10⟩ : ∃ r, r = ev % 10 := ⟨_, rfl⟩
    rw [← hr10] at tm
    replace tm : ((ev : Int)).tmod 10 = (r : Int) := tm
    have em : (ev : Int) % 10 = (r : Int) := by rw [hr10, Int.natCast_emod]; rfl
    have hub : u < 18446744073709551616 := by omega
    have hvb : v < 18446744073709551616 := by omega
    have HRB := Lib.hid hr
    clear mn hu hv hid hwd hr10 hr
    have TR : Hid (Calls Try.prog 16 #[.pointer (some ⟨b, 0, none⟩), .int .i64 0, .int .u64 (v : Nat), .int .i64 (1 + (r : Int))] wr fun e w' => ∃ y : Nat, e = .returned (.tuple #[.int .u64 (wd : Nat), .int .i64 (y : Nat)]) ∧ y ≠ 0 ∧ IsS w' b rb 1 1 R ∧ Ch (One rb) wr w') := Lib.hid (by
      by_cases hx : (nxZ v (1 + (r : Int)) ((R 0).pd != 0)).2 = 0
      · have := try_busy 0 v (1 + (r : Int)) REL.out.1 (by decide) hvb hx VW.out
        rw [W0.out] at this
        exact this.mono fun e w' ⟨he, s, c⟩ => ⟨10, he, by decide, s, c⟩
      · have := try_err 0 v (1 + (r : Int)) REL.out.1 (by decide) hvb hx
        rw [W0.out] at this
        exact this.mono fun e w' ⟨he, s, c⟩ => ⟨_, he, hx, s, c⟩)
    go_wp2_with fail
    refine (mine_of u hub REL.out.1).mono ?_
    rintro e w5 ⟨rfl, rfl⟩
    rw [MN.out]
    go_wp2_with fail
    refine TR.out.mono ?_
    rintro e w6 ⟨y, rfl, hy, s6, c6⟩
    have y0 : ((y : Int) == 0) = false := by rw [beq_eq_false_iff_ne]; omega
    have NX : Hid (IsS w6 b rb 1 1 R ∧ Rows2 w w6 b rb i (some ⟨gi, 0, none⟩) ci (some ⟨gw, 0, none⟩) cw ∧ Ch Nil w w6) := Lib.hid ⟨s6, REL.out.2.1.kept c6 (fun j e => .inr (.inl e)), REL.out.2.2.then c6 (fun j hj e => by have := HRB.out; change j = _ at e; omega)⟩
    clear s6 c6 REL TR q1 q2 hy
    go_wp2
    first | exact ⟨⟨rfl, rfl, rfl, rfl, rfl, rfl, rfl, rfl, rfl, rfl, rfl, NX.out⟩, hlt⟩ | exact ⟨rfl, rfl, rfl, rfl, rfl, rfl, rfl, rfl, rfl, rfl, rfl, NX.out⟩
  · obtain rfl : k = i := by omega
    have hkz : ¬ (k : Int) < (k : Int) := by omega
    go_wp2
    first | exact ⟨by first | rfl | trivial, ⟨rfl, rfl, rfl, rfl, rfl, rfl, rfl, rfl, rfl, rfl, rfl, REL.out⟩, by first | rfl | trivial⟩ | exact ⟨rfl, rfl, rfl, rfl, rfl, rfl, rfl, rfl, rfl, rfl, rfl, REL.out⟩ | exact ⟨⟨rfl, rfl, rfl, rfl, rfl, rfl, rfl, rfl, rfl, rfl, rfl, REL.out⟩, by first | rfl | trivial⟩ | exact ⟨by first | rfl | trivial, ⟨rfl, rfl, rfl, rfl, rfl, rfl, rfl, rfl, rfl, rfl, rfl, REL.out⟩⟩
theorem stC_loop (w : World) (b rb tz ev tt : Nat) (i id wd : Nat) (R : Nat → Rec) (ai aw : Option Addr) (ci cw : Nat) (ht : tt = tz % 6) (htz : tz ≤ 255) (hev : ev ≤ 255) (hit : i ≤ 6) (hid : id = 64 * (i + 1)) (hwd : wd = 256 * (i + 1) + 1) (hR : R 0 = ⟨wd, i + 1, 1⟩) (hr : w.heap.size ≤ rb) (a : Act) (wr : World) (hb : 0 ≤ i) (H : stCI w b rb tz ev tt i id wd R ai aw ci cw 0 a wr) :
    Code.wp Try.prog (.loop (loopIn 4 Try.f6)) (Qx 4 (fun a' w' => stCI w b rb tz ev tt i id wd R ai aw ci cw i a' w')) a wr := by
  refine wp_loop (fun a' wr => ∃ k, k ≤ i ∧ stCI w b rb tz ev tt i id wd R ai aw ci cw k a' wr) (fun a' _ => i - (intOf (a'.tmps.getD 16 undef)).toNat) ⟨0, hb, H⟩ ?_
  rintro a' wr ⟨k, hk, h⟩
  refine wp_mono (stC_round w b rb tz ev tt i id wd R ai aw ci cw ht htz hev hit hid hwd hR hr a' wr hk h) ?_
  intro e a2 w2 hp
  cases e with
  | normal =>
    refine ⟨⟨k + 1, by have := hp.2; omega, hp.1⟩, ?_⟩
    rw [stCI_ctr w b rb tz ev tt i id wd R ai aw ci cw h, stCI_ctr w b rb tz ev tt i id wd R ai aw ci cw hp.1]
    have := hp.2
    simp only [intOf, Int.toNat_natCast]
    omega
  | exit n => exact ⟨hp.1, hp.2.2 ▸ hp.2.1⟩
  | _ => exact hp.elim
end Go.Proofs.Ytjhmmfdmoalfmaa
