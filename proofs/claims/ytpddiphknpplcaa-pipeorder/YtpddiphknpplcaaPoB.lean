/-
  PipeOrder: what was put is taken; the end.
-/
import Derived.Test.YtpddiphknpplcaaPoA
import Derived.Test.YtpddiphknpplcaaHeld
import Derived.Deep.QuietTactic
import Derived.BigQuiet
import Derived.Deep.Cut
import Derived.Deep.CutRange
import Derived.Deep.CutBlock
import Derived.RegionTactic
import Derived.BigRegion
namespace Go.Proofs.Ytpddiphknpplcaa
open Go.RowKit Verge PI
set_option linter.unusedVariables false
set_option linter.unusedSimpArgs false
attribute [local go_sem] Oper.semAt_some

/-- what holds at the head of the loop -/
def poBI (w : World) (pb cb n u g0 : Nat) (k : Nat) (a : Act) (wr : World) : Prop :=
  ∃ (m : Nat) (S : Nat → Prop), a.defers = [] ∧ a.tmps.size = 165 ∧ a.tmps.getD 6 undef = .pointer (some ⟨pb, 0, none⟩) ∧ a.tmps.getD 8 undef = .int .i64 (u : Nat) ∧ a.tmps.getD 9 undef = .int .i64 (k : Nat) ∧ PRS w wr pb cb n (seqI k (u - k)) m true S
theorem poBI_ctr {k : Nat} (w : World) (pb cb n u g0 : Nat) {a : Act} {wr : World} (H : poBI w pb cb n u g0 k a wr) : a.tmps.getD 9 undef = .int .i64 (k : Nat) := by
  obtain ⟨m, S, -, -, -, -, h, -⟩ := H
  exact h
set_option maxRecDepth 100000 in
set_option maxHeartbeats 0 in
theorem poB_round {k : Nat} (w : World) (pb cb n u g0 : Nat) (h200 : u ≤ 200) (hn1 : 1 ≤ n) (a : Act) (wr : World) (hk : k ≤ u) (H : poBI w pb cb n u g0 k a wr) :
    Code.wp Try.prog (loopIn 2 Try.f4) (Exit.then (fun a' w' => poBI w pb cb n u g0 (k + 1) a' w' ∧ k < u) (Qx 2 (fun a' w' => poBI w pb cb n u g0 k a' w' ∧ k = u))) a wr := by
  obtain ⟨t, ds⟩ := a
  obtain ⟨m, S, hd', hz, h6, h8, h9, rel⟩ := H
  replace hd' : ds = [] := hd'
  subst hd'
  replace hz : t.size = 165 := hz
  replace h6 : t.getD 6 undef = .pointer (some ⟨pb, 0, none⟩) := h6
  replace h8 : t.getD 8 undef = .int .i64 (u : Nat) := h8
  replace h9 : t.getD 9 undef = .int .i64 (k : Nat) := h9
  have REL := Lib.hid rel
  clear rel
  refine openFr165 (P := fun t => t.getD 6 undef = .pointer (some ⟨pb, 0, none⟩) → t.getD 8 undef = .int .i64 (u : Nat) → t.getD 9 undef = .int .i64 (k : Nat) → Code.wp Try.prog (loopIn 2 Try.f4) (Exit.then (fun a' w' => poBI w pb cb n u g0 (k + 1) a' w' ∧ k < u) (Qx 2 (fun a' w' => poBI w pb cb n u g0 k a' w' ∧ k = u))) ⟨t, []⟩ wr) ?_ t hz h6 h8 h9
  clear h6 h8 h9 hz t
  intro c0 c1 c2 c3 c4 c5 c6 c7 c8 c9 c10 c11 c12 c13 c14 c15 c16 c17 c18 c19 c20 c21 c22 c23 c24 c25 c26 c27 c28 c29 c30 c31 c32 c33 c34 c35 c36 c37 c38 c39 c40 c41 c42 c43 c44 c45 c46 c47 c48 c49 c50 c51 c52 c53 c54 c55 c56 c57 c58 c59 c60 c61 c62 c63 c64 c65 c66 c67 c68 c69 c70 c71 c72 c73 c74 c75 c76 c77 c78 c79 c80 c81 c82 c83 c84 c85 c86 c87 c88 c89 c90 c91 c92 c93 c94 c95 c96 c97 c98 c99 c100 c101 c102 c103 c104 c105 c106 c107 c108 c109 c110 c111 c112 c113 c114 c115 c116 c117 c118 c119 c120 c121 c122 c123 c124 c125 c126 c127 c128 c129 c130 c131 c132 c133 c134 c135 c136 c137 c138 c139 c140 c141 c142 c143 c144 c145 c146 c147 c148 c149 c150 c151 c152 c153 c154 c155 c156 c157 c158 c159 c160 c161 c162 c163 c164 h6 h8 h9
  replace h6 : c6 = .pointer (some ⟨pb, 0, none⟩) := h6
  replace h8 : c8 = .int .i64 (u : Nat) := h8
  replace h9 : c9 = .int .i64 (k : Nat) := h9
  subst h6
  subst h8
  subst h9
  conv => arg 2; whnf
  by_cases hlt : k < u
  · have hltz : (k : Int) < (u : Int) := by omega
    have P := REL.out
    rw [seqI_cons hlt] at P
    have TK := Lib.hid (P.take hn1 (by rw [seqI_len]; omega))
    clear P
    have yz : ∀ z : Nat, ((z : Int) != (z : Int)) = false := fun z => by rw [bne_eq_false_iff_eq]
    go_wp2_with fail
    refine TK.out.mono ?_
    rintro e w5 ⟨rfl, S5, p5, nx5⟩
    have N := Lib.hid p5
    clear p5 nx5 TK
    go_wp2
    first | exact ⟨⟨m, S5, rfl, rfl, rfl, rfl, rfl, N.out⟩, hlt⟩ | exact ⟨m, S5, rfl, rfl, rfl, rfl, rfl, N.out⟩
  · have hge : ¬ (k : Int) < (u : Int) := by omega
    obtain rfl : k = u := by omega
    go_wp2
    first | exact ⟨by first | rfl | trivial, ⟨_, _, rfl, rfl, rfl, rfl, rfl, REL.out⟩, by first | rfl | trivial⟩ | exact ⟨by first | rfl | trivial, ⟨_, _, rfl, rfl, rfl, rfl, rfl, REL.out⟩⟩ | exact ⟨_, _, rfl, rfl, rfl, rfl, rfl, REL.out⟩ | exact ⟨⟨_, _, rfl, rfl, rfl, rfl, rfl, REL.out⟩, by first | rfl | trivial⟩
theorem poB_loop (w : World) (pb cb n u g0 : Nat) (h200 : u ≤ 200) (hn1 : 1 ≤ n) (a : Act) (wr : World) (hb : g0 ≤ u) (H : poBI w pb cb n u g0 g0 a wr) :
    Code.wp Try.prog (.loop (loopIn 2 Try.f4)) (Qx 2 (fun a' w' => poBI w pb cb n u g0 u a' w')) a wr := by
  refine wp_loop (fun a' wr => ∃ k, k ≤ u ∧ poBI w pb cb n u g0 k a' wr) (fun a' _ => u - (intOf (a'.tmps.getD 9 undef)).toNat) ⟨g0, hb, H⟩ ?_
  rintro a' wr ⟨k, hk, h⟩
  refine wp_mono (poB_round w pb cb n u g0 h200 hn1 a' wr hk h) ?_
  intro e a2 w2 hp
  cases e with
  | normal =>
    refine ⟨⟨k + 1, by have := hp.2; omega, hp.1⟩, ?_⟩
    rw [poBI_ctr w pb cb n u g0 h, poBI_ctr w pb cb n u g0 hp.1]
    have := hp.2
    simp only [intOf, Int.toNat_natCast]
    omega
  | exit n => exact ⟨hp.1, hp.2.2 ▸ hp.2.1⟩
  | _ => exact hp.elim
set_option maxRecDepth 100000 in
set_option maxHeartbeats 0 in
theorem po_end (w : World) (pb cb n u g0 : Nat) (h200 : u ≤ 200) (hn1 : 1 ≤ n)  (a : Act) (wr : World) (H : poBI w pb cb n u g0 u a wr) :
    Code.wp Try.prog (aftIn 2 Try.f4) (bodyPost Try.prog Try.f4 (fun e w' => e = .returned (.bool true) ∧ Below w.heap.size w w')) a wr := by
  obtain ⟨t, ds⟩ := a
  obtain ⟨m, S, hd', hz, h6, h8, h9, rel⟩ := H
  replace hd' : ds = [] := hd'
  subst hd'
  replace hz : t.size = 165 := hz
  replace h6 : t.getD 6 undef = .pointer (some ⟨pb, 0, none⟩) := h6
  replace h8 : t.getD 8 undef = .int .i64 (u : Nat) := h8
  replace h9 : t.getD 9 undef = .int .i64 (u : Nat) := h9
  have REL := Lib.hid rel
  clear rel
  refine openFr165 (P := fun t => t.getD 6 undef = .pointer (some ⟨pb, 0, none⟩) → t.getD 8 undef = .int .i64 (u : Nat) → t.getD 9 undef = .int .i64 (u : Nat) → Code.wp Try.prog (aftIn 2 Try.f4) (bodyPost Try.prog Try.f4 (fun e w' => e = .returned (.bool true) ∧ Below w.heap.size w w')) ⟨t, []⟩ wr) ?_ t hz h6 h8 h9
  clear h6 h8 h9 hz t
  intro c0 c1 c2 c3 c4 c5 c6 c7 c8 c9 c10 c11 c12 c13 c14 c15 c16 c17 c18 c19 c20 c21 c22 c23 c24 c25 c26 c27 c28 c29 c30 c31 c32 c33 c34 c35 c36 c37 c38 c39 c40 c41 c42 c43 c44 c45 c46 c47 c48 c49 c50 c51 c52 c53 c54 c55 c56 c57 c58 c59 c60 c61 c62 c63 c64 c65 c66 c67 c68 c69 c70 c71 c72 c73 c74 c75 c76 c77 c78 c79 c80 c81 c82 c83 c84 c85 c86 c87 c88 c89 c90 c91 c92 c93 c94 c95 c96 c97 c98 c99 c100 c101 c102 c103 c104 c105 c106 c107 c108 c109 c110 c111 c112 c113 c114 c115 c116 c117 c118 c119 c120 c121 c122 c123 c124 c125 c126 c127 c128 c129 c130 c131 c132 c133 c134 c135 c136 c137 c138 c139 c140 c141 c142 c143 c144 c145 c146 c147 c148 c149 c150 c151 c152 c153 c154 c155 c156 c157 c158 c159 c160 c161 c162 c163 c164 h6 h8 h9
  replace h6 : c6 = .pointer (some ⟨pb, 0, none⟩) := h6
  replace h8 : c8 = .int .i64 (u : Nat) := h8
  replace h9 : c9 = .int .i64 (u : Nat) := h9
  subst h6
  subst h8
  subst h9
  conv => arg 2; whnf
  have P := REL.out
  rw [Nat.sub_self, seqI_zero] at P
  have PT := Lib.hid (P.putShut 1)
  have CL := Lib.hid (P.closed (by simp))
  clear P
  go_wp2_with fail
  refine PT.out.mono ?_
  rintro e w5 ⟨rfl, rfl⟩
  clear PT
  go_wp2_with fail
  refine CL.out.mono ?_
  rintro e w6 ⟨rfl, p6, nx6⟩
  have LE := Lib.hid (p6.len (by simp))
  clear p6 nx6 CL
  go_wp2_with fail
  refine LE.out.mono ?_
  rintro e w7 ⟨rfl, p7, nx7⟩
  have C7 := Lib.hid p7.c
  clear p7 nx7 LE
  go_wp2
  go_ret
  exact ⟨rfl, C7.out.below (Nat.le_refl _) (fun _ _ e => e.elim)⟩
set_option maxRecDepth 100000 in
set_option maxHeartbeats 0 in
theorem po_mid (w : World) (pb cb n : Nat) (ad : Option Addr) (len cap : Nat) (B : Nat → Bool) (hv : IsBools w ad len cap B) (h200 : len ≤ 200) (hn1 : 1 ≤ n) (hn2 : n ≤ 16)  (a : Act) (wr : World) (H : poAI w pb cb n ad len cap B len a wr) :
    Code.wp Try.prog (aftIn 0 Try.f4) (bodyPost Try.prog Try.f4 (fun e w' => e = .returned (.bool true) ∧ Below w.heap.size w w')) a wr := by
  obtain ⟨t, ds⟩ := a
  obtain ⟨u, g, m, S, hd', hz, h1, h5, h6, h8, h9, h10, rel⟩ := H
  replace hd' : ds = [] := hd'
  subst hd'
  replace hz : t.size = 165 := hz
  replace h1 : t.getD 1 undef = .slice ad len cap := h1
  replace h5 : t.getD 5 undef = .int .i64 (n : Nat) := h5
  replace h6 : t.getD 6 undef = .pointer (some ⟨pb, 0, none⟩) := h6
  replace h8 : t.getD 8 undef = .int .i64 (u : Nat) := h8
  replace h9 : t.getD 9 undef = .int .i64 (g : Nat) := h9
  replace h10 : t.getD 10 undef = .int .i64 (len : Nat) := h10
  have REL := Lib.hid rel
  clear rel
  refine openFr165 (P := fun t => t.getD 1 undef = .slice ad len cap → t.getD 5 undef = .int .i64 (n : Nat) → t.getD 6 undef = .pointer (some ⟨pb, 0, none⟩) → t.getD 8 undef = .int .i64 (u : Nat) → t.getD 9 undef = .int .i64 (g : Nat) → t.getD 10 undef = .int .i64 (len : Nat) → Code.wp Try.prog (aftIn 0 Try.f4) (bodyPost Try.prog Try.f4 (fun e w' => e = .returned (.bool true) ∧ Below w.heap.size w w')) ⟨t, []⟩ wr) ?_ t hz h1 h5 h6 h8 h9 h10
  clear h1 h5 h6 h8 h9 h10 hz t
  intro c0 c1 c2 c3 c4 c5 c6 c7 c8 c9 c10 c11 c12 c13 c14 c15 c16 c17 c18 c19 c20 c21 c22 c23 c24 c25 c26 c27 c28 c29 c30 c31 c32 c33 c34 c35 c36 c37 c38 c39 c40 c41 c42 c43 c44 c45 c46 c47 c48 c49 c50 c51 c52 c53 c54 c55 c56 c57 c58 c59 c60 c61 c62 c63 c64 c65 c66 c67 c68 c69 c70 c71 c72 c73 c74 c75 c76 c77 c78 c79 c80 c81 c82 c83 c84 c85 c86 c87 c88 c89 c90 c91 c92 c93 c94 c95 c96 c97 c98 c99 c100 c101 c102 c103 c104 c105 c106 c107 c108 c109 c110 c111 c112 c113 c114 c115 c116 c117 c118 c119 c120 c121 c122 c123 c124 c125 c126 c127 c128 c129 c130 c131 c132 c133 c134 c135 c136 c137 c138 c139 c140 c141 c142 c143 c144 c145 c146 c147 c148 c149 c150 c151 c152 c153 c154 c155 c156 c157 c158 c159 c160 c161 c162 c163 c164 h1 h5 h6 h8 h9 h10
  replace h1 : c1 = .slice ad len cap := h1
  replace h5 : c5 = .int .i64 (n : Nat) := h5
  replace h6 : c6 = .pointer (some ⟨pb, 0, none⟩) := h6
  replace h8 : c8 = .int .i64 (u : Nat) := h8
  replace h9 : c9 = .int .i64 (g : Nat) := h9
  replace h10 : c10 = .int .i64 (len : Nat) := h10
  subst h1
  subst h5
  subst h6
  subst h8
  subst h9
  subst h10
  conv => arg 2; whnf
  obtain ⟨P, hpg, hpk, hm⟩ := REL.out
  have SH := Lib.hid P.shut
  clear P
  go_wp2_with fail
  refine SH.out.mono ?_
  rintro e w5 ⟨rfl, p5, nx5⟩
  have CL := Lib.hid (p5.closed (by rw [seqI_len]; omega))
  rw [seqI_len] at CL
  clear p5 nx5 SH
  by_cases hc : u = g
  · subst hc
    have b1 : (true && (u - u == 0)) = true := by simp
    rw [b1] at CL
    clear b1
    go_wp2_with fail
    refine CL.out.mono ?_
    rintro e w6 ⟨rfl, p6, nx6⟩
    have N6 := Lib.hid p6
    clear p6 nx6 CL
    go_wp2
    refine wp_mono (poB_loop w pb cb n u u (by omega) hn1 _ _ (by omega) ?hI) ?_
    case hI => exact ⟨_, _, rfl, rfl, rfl, rfl, rfl, N6.out⟩
    rename_i K hK
    intro e a' w' hp
    obtain ⟨rfl, H⟩ := Qx_inv hp
    exact hK _ _ (po_end w pb cb n u u (by omega) hn1 a' w' H)

  · have b1 : (true && (u - g == 0)) = false := by simp; omega
    have b2 : ((g : Int) == (u : Int)) = false := by rw [beq_eq_false_iff_ne]; omega
    rw [b1] at CL
    clear b1
    go_wp2_with fail
    refine CL.out.mono ?_
    rintro e w6 ⟨rfl, p6, nx6⟩
    have N6 := Lib.hid p6
    clear p6 nx6 CL
    go_wp2
    refine wp_mono (poB_loop w pb cb n u g (by omega) hn1 _ _ (by omega) ?hI) ?_
    case hI => exact ⟨_, _, rfl, rfl, rfl, rfl, rfl, N6.out⟩
    rename_i K hK
    intro e a' w' hp
    obtain ⟨rfl, H⟩ := Qx_inv hp
    exact hK _ _ (po_end w pb cb n u g (by omega) hn1 a' w' H)

end Go.Proofs.Ytpddiphknpplcaa
