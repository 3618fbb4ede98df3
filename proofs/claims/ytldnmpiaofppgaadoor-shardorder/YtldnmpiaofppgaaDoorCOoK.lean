import Derived.Test.YtldnmpiaofppgaaDoorCOoN
import Derived.Test.YtldnmpiaofppgaaDoorK07
import Derived.Deep.QuietTactic
import Derived.BigQuiet
import Derived.Deep.Cut
import Derived.Deep.CutRange
import Derived.Deep.CutBlock
import Derived.RegionTactic
import Derived.BigRegion
/-
  ShardOrder: the loop that turns.
-/
namespace Go.Proofs.YtldnmpiaofppgaaDoor
open Go.RowKit Verge Go.Proofs.YtldnmpiaofppgaaDoor.LT
set_option linter.unusedVariables false
set_option linter.unusedSimpArgs false
attribute [local go_sem] Oper.semAt_some

/-- what holds at the head of the loop -/
def ooKI (w : World) (s : Nat) (g : Wh) (mb : Nat) (ad : Option Addr) (len cap : Nat) (A : List Ac) (P : List Ent) (mn id i tk now0 : Nat) (k : Nat) (a : Act) (wr : World) : Prop :=
  ∃ (Q : List Ent) (F : Nat → Option Nat) (last : Nat), a.defers = [] ∧ a.tmps.size = 193 ∧ a.tmps.getD 0 undef = .slice ad len cap ∧ a.tmps.getD 3 undef = .pointer (some ⟨s, 0, none⟩) ∧ a.tmps.getD 5 undef = .map (some mb) ∧ a.tmps.getD 6 undef = .int .u64 (id : Nat) ∧ a.tmps.getD 7 undef = .int .u64 (last : Nat) ∧ a.tmps.getD 8 undef = .int .i64 (i : Nat) ∧ a.tmps.getD 9 undef = .int .i64 (tk : Nat) ∧ a.tmps.getD 13 undef = .int .i64 (k : Nat) ∧ OrS w wr s g mb (now0 + k) Q P F mn id last
theorem ooKI_ctr {k : Nat} (w : World) (s : Nat) (g : Wh) (mb : Nat) (ad : Option Addr) (len cap : Nat) (A : List Ac) (P : List Ent) (mn id i tk now0 : Nat) {a : Act} {wr : World} (H : ooKI w s g mb ad len cap A P mn id i tk now0 k a wr) : a.tmps.getD 13 undef = .int .i64 (k : Nat) := by
  obtain ⟨Q, F, last, -, -, -, -, -, -, -, -, -, h, -⟩ := H
  exact h
set_option maxRecDepth 100000 in
set_option maxHeartbeats 0 in
theorem ooK_round {k : Nat} (w : World) (s : Nat) (g : Wh) (mb : Nat) (ad : Option Addr) (len cap : Nat) (A : List Ac) (P : List Ent) (mn id i tk now0 : Nat) (hs : ASrc w ad A) (hA : A.length = len) (ok : ∀ x, x ∈ A → x.ok) (h60 : len ≤ 60) (hc : len ≤ cap ∧ cap ≤ maxLen) (T : Tab w) (htk : tk ≤ 150) (hid : id ≤ 60) (hn0 : now0 ≤ 15000) (a : Act) (wr : World) (hk : k ≤ tk) (H : ooKI w s g mb ad len cap A P mn id i tk now0 k a wr) :
    Code.wp Tryd.prog (loopIn 2 Tryd.f4) (Exit.then (fun a' w' => ooKI w s g mb ad len cap A P mn id i tk now0 (k + 1) a' w' ∧ k < tk) (Qx 2 (fun a' w' => ooKI w s g mb ad len cap A P mn id i tk now0 k a' w' ∧ k = tk))) a wr := by
  obtain ⟨t, ds⟩ := a
  obtain ⟨Q, F, last, hd', hz, h0, h3, h5, h6, h7, h8, h9, h13, rel⟩ := H
  replace hd' : ds = [] := hd'
  subst hd'
  replace hz : t.size = 193 := hz
  replace h0 : t.getD 0 undef = .slice ad len cap := h0
  replace h3 : t.getD 3 undef = .pointer (some ⟨s, 0, none⟩) := h3
  replace h5 : t.getD 5 undef = .map (some mb) := h5
  replace h6 : t.getD 6 undef = .int .u64 (id : Nat) := h6
  replace h7 : t.getD 7 undef = .int .u64 (last : Nat) := h7
  replace h8 : t.getD 8 undef = .int .i64 (i : Nat) := h8
  replace h9 : t.getD 9 undef = .int .i64 (tk : Nat) := h9
  replace h13 : t.getD 13 undef = .int .i64 (k : Nat) := h13
  have REL := Lib.hid rel
  clear rel
  refine openFr193 (P := fun t => t.getD 0 undef = .slice ad len cap → t.getD 3 undef = .pointer (some ⟨s, 0, none⟩) → t.getD 5 undef = .map (some mb) → t.getD 6 undef = .int .u64 (id : Nat) → t.getD 7 undef = .int .u64 (last : Nat) → t.getD 8 undef = .int .i64 (i : Nat) → t.getD 9 undef = .int .i64 (tk : Nat) → t.getD 13 undef = .int .i64 (k : Nat) → Code.wp Tryd.prog (loopIn 2 Tryd.f4) (Exit.then (fun a' w' => ooKI w s g mb ad len cap A P mn id i tk now0 (k + 1) a' w' ∧ k < tk) (Qx 2 (fun a' w' => ooKI w s g mb ad len cap A P mn id i tk now0 k a' w' ∧ k = tk))) ⟨t, []⟩ wr) ?_ t hz h0 h3 h5 h6 h7 h8 h9 h13
  clear h0 h3 h5 h6 h7 h8 h9 h13 hz t
  intro c0 c1 c2 c3 c4 c5 c6 c7 c8 c9 c10 c11 c12 c13 c14 c15 c16 c17 c18 c19 c20 c21 c22 c23 c24 c25 c26 c27 c28 c29 c30 c31 c32 c33 c34 c35 c36 c37 c38 c39 c40 c41 c42 c43 c44 c45 c46 c47 c48 c49 c50 c51 c52 c53 c54 c55 c56 c57 c58 c59 c60 c61 c62 c63 c64 c65 c66 c67 c68 c69 c70 c71 c72 c73 c74 c75 c76 c77 c78 c79 c80 c81 c82 c83 c84 c85 c86 c87 c88 c89 c90 c91 c92 c93 c94 c95 c96 c97 c98 c99 c100 c101 c102 c103 c104 c105 c106 c107 c108 c109 c110 c111 c112 c113 c114 c115 c116 c117 c118 c119 c120 c121 c122 c123 c124 c125 c126 c127 c128 c129 c130 c131 c132 c133 c134 c135 c136 c137 c138 c139 c140 c141 c142 c143 c144 c145 c146 c147 c148 c149 c150 c151 c152 c153 c154 c155 c156 c157 c158 c159 c160 c161 c162 c163 c164 c165 c166 c167 c168 c169 c170 c171 c172 c173 c174 c175 c176 c177 c178 c179 c180 c181 c182 c183 c184 c185 c186 c187 c188 c189 c190 c191 c192 h0 h3 h5 h6 h7 h8 h9 h13
  replace h0 : c0 = .slice ad len cap := h0
  replace h3 : c3 = .pointer (some ⟨s, 0, none⟩) := h3
  replace h5 : c5 = .map (some mb) := h5
  replace h6 : c6 = .int .u64 (id : Nat) := h6
  replace h7 : c7 = .int .u64 (last : Nat) := h7
  replace h8 : c8 = .int .i64 (i : Nat) := h8
  replace h9 : c9 = .int .i64 (tk : Nat) := h9
  replace h13 : c13 = .int .i64 (k : Nat) := h13
  subst h0
  subst h3
  subst h5
  subst h6
  subst h7
  subst h8
  subst h9
  subst h13
  conv => arg 2; whnf
  have HS := Lib.hid hs
  have OK := Lib.hid ok
  have TB := Lib.hid T
  have htz : (tk : Int) ≤ 150 := by omega
  clear hs ok T
  by_cases hlt : k < tk
  · have hkz : (k : Int) < (tk : Int) := by omega
    have hkz0 : (0 : Int) ≤ (k : Int) := by omega
    go_wp2_with fail
    refine (REL.out.h.turn (by omega) (by have := REL.out.b; omega)).mono ?_
    rintro e w5 ⟨a5, cap5, rfl, r5, g5, h5, c5⟩
    have nx0 := REL.out.turn h5 r5 g5 c5
    rw [List.length_map]
    generalize dueQ Q (now0 + k + 1) = ds at nx0 ⊢
    generalize leftQ Q (now0 + k + 1) = lq at nx0
    obtain ⟨now1, hn1⟩ : ∃ now1, now1 = now0 + k + 1 := ⟨_, rfl⟩
    rw [← hn1] at nx0
    obtain ⟨dn, hdn⟩ : ∃ dn, ds.length = dn := ⟨_, rfl⟩
    rw [hdn]
    have HDN := Lib.hid hdn
    have HN1 := Lib.hid hn1
    have NX0 := Lib.hid nx0
    have hnw : now1 ≤ 20000 := by omega
    clear r5 g5 h5 c5 nx0 REL hdn hn1
    go_wp2
    refine wp_mono (ooN_loop w s g mb ad len cap A ds lq P mn id now1 i tk k dn a5 cap5 HS.out hA OK.out h60 hc TB.out HDN.out hid hnw _ _ (by omega) ?hI) ?_
    case hI => exact ⟨_, _, rfl, rfl, rfl, rfl, rfl, rfl, rfl, rfl, rfl, rfl, rfl, rfl, NX0.out⟩
    clear NX0
    intro e a' w9 hp
    obtain ⟨rfl, H⟩ := Qx_inv hp
    clear hp
    obtain ⟨t, ds⟩ := a'
    obtain ⟨F, last, hd', hz, h0, h3, h5, h6, h7, h8, h9, h13, h14, h16, rel⟩ := H
    replace hd' : ds = [] := hd'
    subst hd'
    replace hz : t.size = 193 := hz
    replace h0 : t.getD 0 undef = .slice ad len cap := h0
    replace h3 : t.getD 3 undef = .pointer (some ⟨s, 0, none⟩) := h3
    replace h5 : t.getD 5 undef = .map (some mb) := h5
    replace h6 : t.getD 6 undef = .int .u64 (id : Nat) := h6
    replace h7 : t.getD 7 undef = .int .u64 (last : Nat) := h7
    replace h8 : t.getD 8 undef = .int .i64 (i : Nat) := h8
    replace h9 : t.getD 9 undef = .int .i64 (tk : Nat) := h9
    replace h13 : t.getD 13 undef = .int .i64 (k : Nat) := h13
    replace h14 : t.getD 14 undef = .slice a5 dn cap5 := h14
    replace h16 : t.getD 16 undef = .int .i64 (dn : Nat) := h16
    have REL := Lib.hid rel
    clear rel
    refine openFr193 (P := fun t => t.getD 0 undef = .slice ad len cap → t.getD 3 undef = .pointer (some ⟨s, 0, none⟩) → t.getD 5 undef = .map (some mb) → t.getD 6 undef = .int .u64 (id : Nat) → t.getD 7 undef = .int .u64 (last : Nat) → t.getD 8 undef = .int .i64 (i : Nat) → t.getD 9 undef = .int .i64 (tk : Nat) → t.getD 13 undef = .int .i64 (k : Nat) → t.getD 14 undef = .slice a5 dn cap5 → t.getD 16 undef = .int .i64 (dn : Nat) → Exit.inBlock 4 _ (.exit 4) ⟨t, []⟩ w9) ?_ t hz h0 h3 h5 h6 h7 h8 h9 h13 h14 h16
    clear h0 h3 h5 h6 h7 h8 h9 h13 h14 h16 hz t
    intro c0 c1 c2 c3 c4 c5 c6 c7 c8 c9 c10 c11 c12 c13 c14 c15 c16 c17 c18 c19 c20 c21 c22 c23 c24 c25 c26 c27 c28 c29 c30 c31 c32 c33 c34 c35 c36 c37 c38 c39 c40 c41 c42 c43 c44 c45 c46 c47 c48 c49 c50 c51 c52 c53 c54 c55 c56 c57 c58 c59 c60 c61 c62 c63 c64 c65 c66 c67 c68 c69 c70 c71 c72 c73 c74 c75 c76 c77 c78 c79 c80 c81 c82 c83 c84 c85 c86 c87 c88 c89 c90 c91 c92 c93 c94 c95 c96 c97 c98 c99 c100 c101 c102 c103 c104 c105 c106 c107 c108 c109 c110 c111 c112 c113 c114 c115 c116 c117 c118 c119 c120 c121 c122 c123 c124 c125 c126 c127 c128 c129 c130 c131 c132 c133 c134 c135 c136 c137 c138 c139 c140 c141 c142 c143 c144 c145 c146 c147 c148 c149 c150 c151 c152 c153 c154 c155 c156 c157 c158 c159 c160 c161 c162 c163 c164 c165 c166 c167 c168 c169 c170 c171 c172 c173 c174 c175 c176 c177 c178 c179 c180 c181 c182 c183 c184 c185 c186 c187 c188 c189 c190 c191 c192 h0 h3 h5 h6 h7 h8 h9 h13 h14 h16
    replace h0 : c0 = .slice ad len cap := h0
    replace h3 : c3 = .pointer (some ⟨s, 0, none⟩) := h3
    replace h5 : c5 = .map (some mb) := h5
    replace h6 : c6 = .int .u64 (id : Nat) := h6
    replace h7 : c7 = .int .u64 (last : Nat) := h7
    replace h8 : c8 = .int .i64 (i : Nat) := h8
    replace h9 : c9 = .int .i64 (tk : Nat) := h9
    replace h13 : c13 = .int .i64 (k : Nat) := h13
    replace h14 : c14 = .slice a5 dn cap5 := h14
    replace h16 : c16 = .int .i64 (dn : Nat) := h16
    subst h0
    subst h3
    subst h5
    subst h6
    subst h7
    subst h8
    subst h9
    subst h13
    subst h14
    subst h16
    have nx := REL.out
    rw [← HDN.out] at nx
    have nx2 := nx.done
    rw [HN1.out] at nx2
    have NX := Lib.hid nx2
    clear nx nx2 REL
    go_wp2
    first | exact ⟨⟨lq, _, _, rfl, rfl, rfl, rfl, rfl, rfl, rfl, rfl, rfl, rfl, NX.out⟩, hlt⟩ | exact ⟨lq, _, _, rfl, rfl, rfl, rfl, rfl, rfl, rfl, rfl, rfl, rfl, NX.out⟩
  · obtain rfl : k = tk := by omega
    go_wp2
    exact ⟨by first | rfl | trivial, ⟨_, _, _, rfl, rfl, rfl, rfl, rfl, rfl, rfl, rfl, rfl, rfl, REL.out⟩, by first | rfl | trivial⟩
theorem ooK_loop (w : World) (s : Nat) (g : Wh) (mb : Nat) (ad : Option Addr) (len cap : Nat) (A : List Ac) (P : List Ent) (mn id i tk now0 : Nat) (hs : ASrc w ad A) (hA : A.length = len) (ok : ∀ x, x ∈ A → x.ok) (h60 : len ≤ 60) (hc : len ≤ cap ∧ cap ≤ maxLen) (T : Tab w) (htk : tk ≤ 150) (hid : id ≤ 60) (hn0 : now0 ≤ 15000) (a : Act) (wr : World) (hb : 0 ≤ tk) (H : ooKI w s g mb ad len cap A P mn id i tk now0 0 a wr) :
    Code.wp Tryd.prog (.loop (loopIn 2 Tryd.f4)) (Qx 2 (fun a' w' => ooKI w s g mb ad len cap A P mn id i tk now0 tk a' w')) a wr := by
  refine wp_loop (fun a' wr => ∃ k, k ≤ tk ∧ ooKI w s g mb ad len cap A P mn id i tk now0 k a' wr) (fun a' _ => tk - (intOf (a'.tmps.getD 13 undef)).toNat) ⟨0, hb, H⟩ ?_
  rintro a' wr ⟨k, hk, h⟩
  refine wp_mono (ooK_round w s g mb ad len cap A P mn id i tk now0 hs hA ok h60 hc T htk hid hn0 a' wr hk h) ?_
  intro e a2 w2 hp
  cases e with
  | normal =>
    refine ⟨⟨k + 1, by have := hp.2; omega, hp.1⟩, ?_⟩
    rw [ooKI_ctr w s g mb ad len cap A P mn id i tk now0 h, ooKI_ctr w s g mb ad len cap A P mn id i tk now0 hp.1]
    have := hp.2
    simp only [intOf, Int.toNat_natCast]
    omega
  | exit n => exact ⟨hp.1, hp.2.2 ▸ hp.2.1⟩
  | _ => exact hp.elim
end Go.Proofs.YtldnmpiaofppgaaDoor
