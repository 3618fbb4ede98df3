/-
  WheelShift: what follows its loops.
-/
import Derived.Test.YtkdkkgbjfabifaaDoorWsIns
import Derived.Test.YtkdkkgbjfabifaaDoorWsTick
import Derived.Test.YtkdkkgbjfabifaaDoorHeld
import Derived.Deep.QuietTactic
import Derived.BigQuiet
import Derived.Deep.Cut
import Derived.Deep.CutRange
import Derived.Deep.CutBlock
import Derived.RegionTactic
import Derived.BigRegion
namespace Go.Proofs.YtkdkkgbjfabifaaDoor
open Go.RowKit Verge LP
set_option linter.unusedVariables false
set_option linter.unusedSimpArgs false
attribute [local go_sem] Oper.semAt_some

set_option maxRecDepth 100000 in
set_option maxHeartbeats 0 in
theorem ws_end (w : World) (ga gb : Wh) (ad : Option Addr) (n0 sp ti l s len cap : Nat) (zs : List Int) (hv : IsRow .u16 w ad len cap zs) (h60 : len ≤ 60) (bn : n0 ≤ 4294967295) (bs : sp ≤ 65535) (bt : ti ≤ 255) (T : Tab w) (bl : l ≤ 255) (b8 : s ≤ 255) (a : Act) (wr : World) (H : wsBI w ga gb ad n0 sp ti l s len cap ti a wr) :
    Code.wp Tryd.prog (aftIn 2 Tryd.f8) (bodyPost Tryd.prog Tryd.f8 (fun e w' => e = .returned (.bool true) ∧ Below w.heap.size w w')) a wr := by
  obtain ⟨t, ds⟩ := a
  obtain ⟨Qa, Pa, Qb, Pb, hd', hz, h0, h1, h3, h4, h5, h13, h14, h15, h22, rel⟩ := H
  replace hd' : ds = [] := hd'
  subst hd'
  replace hz : t.size = 175 := hz
  replace h0 : t.getD 0 undef = .int .u32 (n0 : Nat) := h0
  replace h1 : t.getD 1 undef = .slice ad len cap := h1
  replace h3 : t.getD 3 undef = .int .u8 (ti : Nat) := h3
  replace h4 : t.getD 4 undef = .int .u8 (l : Nat) := h4
  replace h5 : t.getD 5 undef = .int .u8 (s : Nat) := h5
  replace h13 : t.getD 13 undef = .int .u64 ((sp : Int) * 16777216) := h13
  replace h14 : t.getD 14 undef = .pointer (some ⟨ga.wb, 0, none⟩) := h14
  replace h15 : t.getD 15 undef = .pointer (some ⟨gb.wb, 0, none⟩) := h15
  replace h22 : t.getD 22 undef = .int .i64 (ti : Nat) := h22
  have REL := Lib.hid rel
  clear rel
  refine openFr175 (P := fun t => t.getD 0 undef = .int .u32 (n0 : Nat) → t.getD 1 undef = .slice ad len cap → t.getD 3 undef = .int .u8 (ti : Nat) → t.getD 4 undef = .int .u8 (l : Nat) → t.getD 5 undef = .int .u8 (s : Nat) → t.getD 13 undef = .int .u64 ((sp : Int) * 16777216) → t.getD 14 undef = .pointer (some ⟨ga.wb, 0, none⟩) → t.getD 15 undef = .pointer (some ⟨gb.wb, 0, none⟩) → t.getD 22 undef = .int .i64 (ti : Nat) → Code.wp Tryd.prog (aftIn 2 Tryd.f8) (bodyPost Tryd.prog Tryd.f8 (fun e w' => e = .returned (.bool true) ∧ Below w.heap.size w w')) ⟨t, []⟩ wr) ?_ t hz h0 h1 h3 h4 h5 h13 h14 h15 h22
  clear h0 h1 h3 h4 h5 h13 h14 h15 h22 hz t
  intro c0 c1 c2 c3 c4 c5 c6 c7 c8 c9 c10 c11 c12 c13 c14 c15 c16 c17 c18 c19 c20 c21 c22 c23 c24 c25 c26 c27 c28 c29 c30 c31 c32 c33 c34 c35 c36 c37 c38 c39 c40 c41 c42 c43 c44 c45 c46 c47 c48 c49 c50 c51 c52 c53 c54 c55 c56 c57 c58 c59 c60 c61 c62 c63 c64 c65 c66 c67 c68 c69 c70 c71 c72 c73 c74 c75 c76 c77 c78 c79 c80 c81 c82 c83 c84 c85 c86 c87 c88 c89 c90 c91 c92 c93 c94 c95 c96 c97 c98 c99 c100 c101 c102 c103 c104 c105 c106 c107 c108 c109 c110 c111 c112 c113 c114 c115 c116 c117 c118 c119 c120 c121 c122 c123 c124 c125 c126 c127 c128 c129 c130 c131 c132 c133 c134 c135 c136 c137 c138 c139 c140 c141 c142 c143 c144 c145 c146 c147 c148 c149 c150 c151 c152 c153 c154 c155 c156 c157 c158 c159 c160 c161 c162 c163 c164 c165 c166 c167 c168 c169 c170 c171 c172 c173 c174 h0 h1 h3 h4 h5 h13 h14 h15 h22
  replace h0 : c0 = .int .u32 (n0 : Nat) := h0
  replace h1 : c1 = .slice ad len cap := h1
  replace h3 : c3 = .int .u8 (ti : Nat) := h3
  replace h4 : c4 = .int .u8 (l : Nat) := h4
  replace h5 : c5 = .int .u8 (s : Nat) := h5
  replace h13 : c13 = .int .u64 ((sp : Int) * 16777216) := h13
  replace h14 : c14 = .pointer (some ⟨ga.wb, 0, none⟩) := h14
  replace h15 : c15 = .pointer (some ⟨gb.wb, 0, none⟩) := h15
  replace h22 : c22 = .int .i64 (ti : Nat) := h22
  subst h0
  subst h1
  subst h3
  subst h4
  subst h5
  subst h13
  subst h14
  subst h15
  subst h22
  conv => arg 2; whnf
  have TB := Lib.hid T
  clear T hv
  have l2 : (l : Int) ≤ 255 := by omega
  have s2 : (s : Int) ≤ 255 := by omega
  have hl4 : ((l : Int).tmod 4) = ((l % 4 : Nat) : Int) := rfl
  have hs64 : ((s : Int).tmod 64) = ((s % 64 : Nat) : Int) := rfl
  have ql := REL.out.n
  have ql2 := REL.out.s.len
  go_wp2_with fail
  refine (REL.out.a.at_of (h := l % 4) (s := s % 64) (by omega) (by omega) (by omega)).mono ?_
  rintro e w6 ⟨a6, cap6, rfl, r6, g6, c6⟩
  have R6 := Lib.hid r6
  have DA6 := Lib.hid (REL.out.a.quiet c6)
  have DB6 := Lib.hid (REL.out.b.quiet c6)
  have SH := Lib.hid REL.out.s
  have hs1 : Shf (sp * 16777216) (rowsOf Qa (n0 + ti) (64 * (l % 4) + s % 64)) (rowsOf Qb (n0 + ti + sp * 16777216) (64 * (l % 4) + s % 64)) := SH.out.rows
  have hs2 : Shf (sp * 16777216) (rowsOf Qa (n0 + ti) 256) (rowsOf Qb (n0 + ti + sp * 16777216) 256) := SH.out.rows
  have hl1 := hs1.len
  have hl2 := hs2.len
  have hb1 := rowsOf_len (Q := Qa) (now := n0 + ti) (p := 64 * (l % 4) + s % 64)
  have hb2 := rowsOf_len (Q := Qa) (now := n0 + ti) (p := 256)
  have S1 := Lib.hid hs1
  have S2 := Lib.hid hs2
  clear r6 g6 c6 REL hs1 hs2
  go_wp2_with fail
  refine (DB6.out.at_of (h := l % 4) (s := s % 64) (by omega) (by omega) (by omega)).mono ?_
  rintro e w7 ⟨a7, cap7, rfl, r7, g7, c7⟩
  rw [hl1] at r7 ⊢
  have R7 : Hid (RowI w7 a7 _ cap7 (uAt (rowsOf Qa (n0 + ti) (64 * (l % 4) + s % 64)))) := Lib.hid ((RowU.ints r7).congr _ (fun i _ => uAt_congr S1.out.us.symm i))
  have R6' := Lib.hid (RowI.kept (S := Nil) (RowU.ints R6.out) c7 (fun _ _ e => e))
  have DA7 := Lib.hid (DA6.out.quiet c7)
  have DB7 := Lib.hid (DB6.out.quiet c7)
  clear r7 g7 c7 DA6 DB6 R6
  go_wp2_with fail
  refine (ints_same R6'.out R7.out (by omega)).mono ?_
  rintro e w8 ⟨rfl, c8⟩
  have DA8 := Lib.hid (DA7.out.quiet c8)
  have DB8 := Lib.hid (DB7.out.quiet c8)
  clear c8 DA7 DB7 R6' R7
  go_wp2_with fail
  refine (DA8.out.beyond (by omega)).mono ?_
  rintro e w9 ⟨a9, cap9, rfl, r9, g9, c9⟩
  have R9 := Lib.hid r9
  have DA9 := Lib.hid (DA8.out.quiet c9)
  have DB9 := Lib.hid (DB8.out.quiet c9)
  clear r9 g9 c9 DA8 DB8
  go_wp2_with fail
  refine (DB9.out.beyond (by omega)).mono ?_
  rintro e wa ⟨aa, capa, rfl, ra, ga', ca⟩
  rw [hl2] at ra ⊢
  have RA : Hid (RowI wa aa _ capa (uAt (rowsOf Qa (n0 + ti) 256))) := Lib.hid ((RowU.ints ra).congr _ (fun i _ => uAt_congr S2.out.us.symm i))
  have R9' := Lib.hid (RowI.kept (S := Nil) (RowU.ints R9.out) ca (fun _ _ e => e))
  have DAa := Lib.hid (DA9.out.quiet ca)
  have DBa := Lib.hid (DB9.out.quiet ca)
  clear ra ga' ca DA9 DB9 R9
  go_wp2_with fail
  refine (ints_same R9'.out RA.out (by omega)).mono ?_
  rintro e wb ⟨rfl, cb⟩
  have DAb := Lib.hid (DAa.out.quiet cb)
  have DBb := Lib.hid (DBa.out.quiet cb)
  clear cb DAa DBa R9' RA
  go_wp2_with fail
  refine (DAb.out.len TB.out (by omega)).mono ?_
  rintro e wc ⟨rfl, cc⟩
  have DBc := Lib.hid (DBb.out.quiet cc)
  clear cc DAb DBb
  go_wp2_with fail
  refine (DBc.out.len TB.out (by omega)).mono ?_
  rintro e wd ⟨rfl, cd⟩
  have CD := Lib.hid (DBc.out.c.trans cd)
  clear cd DBc
  rw [ql2]
  go_wp2
  go_ret
  exact ⟨rfl, CD.out.below (Nat.le_refl _) (fun _ _ e => e.elim)⟩
set_option maxRecDepth 100000 in
set_option maxHeartbeats 0 in
theorem ws_mid (w : World) (ga gb : Wh) (ad : Option Addr) (n0 sp ti l s len cap : Nat) (zs : List Int) (hv : IsRow .u16 w ad len cap zs) (h60 : len ≤ 60) (bn : n0 ≤ 4294967295) (bs : sp ≤ 65535) (bt : ti ≤ 255) (T : Tab w) (bl : l ≤ 255) (b8 : s ≤ 255) (a : Act) (wr : World) (H : wsAI w ga gb ad n0 sp ti l s len cap len a wr) :
    Code.wp Tryd.prog (aftIn 0 Tryd.f8) (bodyPost Tryd.prog Tryd.f8 (fun e w' => e = .returned (.bool true) ∧ Below w.heap.size w w')) a wr := by
  obtain ⟨t, ds⟩ := a
  obtain ⟨Qa, Pa, Qb, Pb, hd', hz, h0, h1, h3, h4, h5, h13, h14, h15, h16, rel⟩ := H
  replace hd' : ds = [] := hd'
  subst hd'
  replace hz : t.size = 175 := hz
  replace h0 : t.getD 0 undef = .int .u32 (n0 : Nat) := h0
  replace h1 : t.getD 1 undef = .slice ad len cap := h1
  replace h3 : t.getD 3 undef = .int .u8 (ti : Nat) := h3
  replace h4 : t.getD 4 undef = .int .u8 (l : Nat) := h4
  replace h5 : t.getD 5 undef = .int .u8 (s : Nat) := h5
  replace h13 : t.getD 13 undef = .int .u64 ((sp : Int) * 16777216) := h13
  replace h14 : t.getD 14 undef = .pointer (some ⟨ga.wb, 0, none⟩) := h14
  replace h15 : t.getD 15 undef = .pointer (some ⟨gb.wb, 0, none⟩) := h15
  replace h16 : t.getD 16 undef = .int .i64 (len : Nat) := h16
  have REL := Lib.hid rel
  clear rel
  refine openFr175 (P := fun t => t.getD 0 undef = .int .u32 (n0 : Nat) → t.getD 1 undef = .slice ad len cap → t.getD 3 undef = .int .u8 (ti : Nat) → t.getD 4 undef = .int .u8 (l : Nat) → t.getD 5 undef = .int .u8 (s : Nat) → t.getD 13 undef = .int .u64 ((sp : Int) * 16777216) → t.getD 14 undef = .pointer (some ⟨ga.wb, 0, none⟩) → t.getD 15 undef = .pointer (some ⟨gb.wb, 0, none⟩) → t.getD 16 undef = .int .i64 (len : Nat) → Code.wp Tryd.prog (aftIn 0 Tryd.f8) (bodyPost Tryd.prog Tryd.f8 (fun e w' => e = .returned (.bool true) ∧ Below w.heap.size w w')) ⟨t, []⟩ wr) ?_ t hz h0 h1 h3 h4 h5 h13 h14 h15 h16
  clear h0 h1 h3 h4 h5 h13 h14 h15 h16 hz t
  intro c0 c1 c2 c3 c4 c5 c6 c7 c8 c9 c10 c11 c12 c13 c14 c15 c16 c17 c18 c19 c20 c21 c22 c23 c24 c25 c26 c27 c28 c29 c30 c31 c32 c33 c34 c35 c36 c37 c38 c39 c40 c41 c42 c43 c44 c45 c46 c47 c48 c49 c50 c51 c52 c53 c54 c55 c56 c57 c58 c59 c60 c61 c62 c63 c64 c65 c66 c67 c68 c69 c70 c71 c72 c73 c74 c75 c76 c77 c78 c79 c80 c81 c82 c83 c84 c85 c86 c87 c88 c89 c90 c91 c92 c93 c94 c95 c96 c97 c98 c99 c100 c101 c102 c103 c104 c105 c106 c107 c108 c109 c110 c111 c112 c113 c114 c115 c116 c117 c118 c119 c120 c121 c122 c123 c124 c125 c126 c127 c128 c129 c130 c131 c132 c133 c134 c135 c136 c137 c138 c139 c140 c141 c142 c143 c144 c145 c146 c147 c148 c149 c150 c151 c152 c153 c154 c155 c156 c157 c158 c159 c160 c161 c162 c163 c164 c165 c166 c167 c168 c169 c170 c171 c172 c173 c174 h0 h1 h3 h4 h5 h13 h14 h15 h16
  replace h0 : c0 = .int .u32 (n0 : Nat) := h0
  replace h1 : c1 = .slice ad len cap := h1
  replace h3 : c3 = .int .u8 (ti : Nat) := h3
  replace h4 : c4 = .int .u8 (l : Nat) := h4
  replace h5 : c5 = .int .u8 (s : Nat) := h5
  replace h13 : c13 = .int .u64 ((sp : Int) * 16777216) := h13
  replace h14 : c14 = .pointer (some ⟨ga.wb, 0, none⟩) := h14
  replace h15 : c15 = .pointer (some ⟨gb.wb, 0, none⟩) := h15
  replace h16 : c16 = .int .i64 (len : Nat) := h16
  subst h0
  subst h1
  subst h3
  subst h4
  subst h5
  subst h13
  subst h14
  subst h15
  subst h16
  conv => arg 2; whnf
  have HV := Lib.hid hv
  have TB := Lib.hid T
  clear T hv
  have ST2 : Hid (Both w ga gb len sp (n0 + 0) Qa Pa Qb Pb wr) := REL
  go_wp2
  refine wp_mono (wsB_loop w ga gb ad n0 sp ti l s len cap zs HV.out h60 bn bs bt _ _ (by omega) ⟨_, _, _, _, rfl, rfl, rfl, rfl, rfl, rfl, rfl, rfl, rfl, rfl, rfl, ST2.out⟩) ?_
  rename_i K hK
  intro e a' w' hp
  obtain ⟨rfl, H⟩ := Qx_inv hp
  exact hK _ _ (ws_end w ga gb ad n0 sp ti l s len cap zs HV.out h60 bn bs bt TB.out bl b8 a' w' H)

end Go.Proofs.YtkdkkgbjfabifaaDoor
