/-
  WheelShift: the loop that ticks.
-/
import Derived.Test.YtkdkkgbjfabifaaDoorWsCode
import Derived.Test.YtkdkkgbjfabifaaDoorHeld
import Derived.Deep.QuietTactic
import Derived.BigQuiet
import Derived.Deep.Cut
import Derived.Deep.CutRange
import Derived.Deep.CutBlock
import Derived.RegionTactic
import Derived.BigRegion
namespace Go.Proofs.YtkdkkgbjfabifaaDoor
open Go.RowKit Verge LP
set_option linter.unusedVariables false
set_option linter.unusedSimpArgs false
attribute [local go_sem] Oper.semAt_some

/-- what holds at the head of the loop -/
def wsBI (w : World) (ga gb : Wh) (ad : Option Addr) (n0 sp ti l s len cap : Nat) (k : Nat) (a : Act) (wr : World) : Prop :=
  ∃ (Qa Pa Qb Pb : List Ent), a.defers = [] ∧ a.tmps.size = 175 ∧ a.tmps.getD 0 undef = .int .u32 (n0 : Nat) ∧ a.tmps.getD 1 undef = .slice ad len cap ∧ a.tmps.getD 3 undef = .int .u8 (ti : Nat) ∧ a.tmps.getD 4 undef = .int .u8 (l : Nat) ∧ a.tmps.getD 5 undef = .int .u8 (s : Nat) ∧ a.tmps.getD 13 undef = .int .u64 ((sp : Int) * 16777216) ∧ a.tmps.getD 14 undef = .pointer (some ⟨ga.wb, 0, none⟩) ∧ a.tmps.getD 15 undef = .pointer (some ⟨gb.wb, 0, none⟩) ∧ a.tmps.getD 22 undef = .int .i64 (k : Nat) ∧ Both w ga gb len sp (n0 + k) Qa Pa Qb Pb wr
theorem wsBI_ctr {k : Nat} (w : World) (ga gb : Wh) (ad : Option Addr) (n0 sp ti l s len cap : Nat) {a : Act} {wr : World} (H : wsBI w ga gb ad n0 sp ti l s len cap k a wr) : a.tmps.getD 22 undef = .int .i64 (k : Nat) := by
  obtain ⟨Qa, Pa, Qb, Pb, -, -, -, -, -, -, -, -, -, -, h, -⟩ := H
  exact h
set_option maxRecDepth 100000 in
set_option maxHeartbeats 0 in
theorem wsB_round {k : Nat} (w : World) (ga gb : Wh) (ad : Option Addr) (n0 sp ti l s len cap : Nat) (zs : List Int) (hv : IsRow .u16 w ad len cap zs) (h60 : len ≤ 60) (bn : n0 ≤ 4294967295) (bs : sp ≤ 65535) (bt : ti ≤ 255) (a : Act) (wr : World) (hk : k ≤ ti) (H : wsBI w ga gb ad n0 sp ti l s len cap k a wr) :
    Code.wp Tryd.prog (loopIn 2 Tryd.f8) (Exit.then (fun a' w' => wsBI w ga gb ad n0 sp ti l s len cap (k + 1) a' w' ∧ k < ti) (Qx 2 (fun a' w' => wsBI w ga gb ad n0 sp ti l s len cap k a' w' ∧ k = ti))) a wr := by
  obtain ⟨t, ds⟩ := a
  obtain ⟨Qa, Pa, Qb, Pb, hd', hz, h0, h1, h3, h4, h5, h13, h14, h15, h22, rel⟩ := H
  replace hd' : ds = [] := hd'
  subst hd'
  replace hz : t.size = 175 := hz
  replace h0 : t.getD 0 undef = .int .u32 (n0 : Nat) := h0
  replace h1 : t.getD 1 undef = .slice ad len cap := h1
  replace h3 : t.getD 3 undef = .int .u8 (ti : Nat) := h3
  replace h4 : t.getD 4 undef = .int .u8 (l : Nat) := h4
  replace h5 : t.getD 5 undef = .int .u8 (s : Nat) := h5
  replace h13 : t.getD 13 undef = .int .u64 ((sp : Int) * 16777216) := h13
  replace h14 : t.getD 14 undef = .pointer (some ⟨ga.wb, 0, none⟩) := h14
  replace h15 : t.getD 15 undef = .pointer (some ⟨gb.wb, 0, none⟩) := h15
  replace h22 : t.getD 22 undef = .int .i64 (k : Nat) := h22
  have REL := Lib.hid rel
  clear rel
  refine openFr175 (P := fun t => t.getD 0 undef = .int .u32 (n0 : Nat) → t.getD 1 undef = .slice ad len cap → t.getD 3 undef = .int .u8 (ti : Nat) → t.getD 4 undef = .int .u8 (l : Nat) → t.getD 5 undef = .int .u8 (s : Nat) → t.getD 13 undef = .int .u64 ((sp : Int) * 16777216) → t.getD 14 undef = .pointer (some ⟨ga.wb, 0, none⟩) → t.getD 15 undef = .pointer (some ⟨gb.wb, 0, none⟩) → t.getD 22 undef = .int .i64 (k : Nat) → Code.wp Tryd.prog (loopIn 2 Tryd.f8) (Exit.then (fun a' w' => wsBI w ga gb ad n0 sp ti l s len cap (k + 1) a' w' ∧ k < ti) (Qx 2 (fun a' w' => wsBI w ga gb ad n0 sp ti l s len cap k a' w' ∧ k = ti))) ⟨t, []⟩ wr) ?_ t hz h0 h1 h3 h4 h5 h13 h14 h15 h22
  clear h0 h1 h3 h4 h5 h13 h14 h15 h22 hz t
  intro c0 c1 c2 c3 c4 c5 c6 c7 c8 c9 c10 c11 c12 c13 c14 c15 c16 c17 c18 c19 c20 c21 c22 c23 c24 c25 c26 c27 c28 c29 c30 c31 c32 c33 c34 c35 c36 c37 c38 c39 c40 c41 c42 c43 c44 c45 c46 c47 c48 c49 c50 c51 c52 c53 c54 c55 c56 c57 c58 c59 c60 c61 c62 c63 c64 c65 c66 c67 c68 c69 c70 c71 c72 c73 c74 c75 c76 c77 c78 c79 c80 c81 c82 c83 c84 c85 c86 c87 c88 c89 c90 c91 c92 c93 c94 c95 c96 c97 c98 c99 c100 c101 c102 c103 c104 c105 c106 c107 c108 c109 c110 c111 c112 c113 c114 c115 c116 c117 c118 c119 c120 c121 c122 c123 c124 c125 c126 c127 c128 c129 c130 c131 c132 c133 c134 c135 c136 c137 c138 c139 c140 c141 c142 c143 c144 c145 c146 c147 c148 c149 c150 c151 c152 c153 c154 c155 c156 c157 c158 c159 c160 c161 c162 c163 c164 c165 c166 c167 c168 c169 c170 c171 c172 c173 c174 h0 h1 h3 h4 h5 h13 h14 h15 h22
  replace h0 : c0 = .int .u32 (n0 : Nat) := h0
  replace h1 : c1 = .slice ad len cap := h1
  replace h3 : c3 = .int .u8 (ti : Nat) := h3
  replace h4 : c4 = .int .u8 (l : Nat) := h4
  replace h5 : c5 = .int .u8 (s : Nat) := h5
  replace h13 : c13 = .int .u64 ((sp : Int) * 16777216) := h13
  replace h14 : c14 = .pointer (some ⟨ga.wb, 0, none⟩) := h14
  replace h15 : c15 = .pointer (some ⟨gb.wb, 0, none⟩) := h15
  replace h22 : c22 = .int .i64 (k : Nat) := h22
  subst h0
  subst h1
  subst h3
  subst h4
  subst h5
  subst h13
  subst h14
  subst h15
  subst h22
  conv => arg 2; whnf
  have b3 : (n0 : Int) ≤ 4294967295 := by omega
  have bt2 : (ti : Int) ≤ 255 := by omega
  have bs2 : (sp : Int) ≤ 65535 := by omega
  clear hv
  by_cases hlt : k < ti
  · have hkz : (k : Int) < (ti : Int) := by omega
    have hkz0 : (0 : Int) ≤ (k : Int) := by omega
    have ql := REL.out.n
    have ql2 := REL.out.s.len
    have qs := REL.out.s
    have QS := Lib.hid qs
    have QP : Hid (∀ x, x ∈ Qa → x ∈ Pa) := Lib.hid REL.out.a.q.p
    have QPb : Hid (∀ x, x ∈ Qb → x ∈ Pb) := Lib.hid REL.out.b.q.p
    clear qs
    go_wp2_with fail
    refine (REL.out.a.advance (by omega) (by omega)).mono ?_
    rintro e w5 ⟨a5, cap5, rfl, r5, g5, d5, c5⟩
    have DB := Lib.hid (REL.out.b.later c5 (fun k h1 h2 => REL.out.d k h2 h1) REL.out.a.hi)
    have D5 := Lib.hid d5
    have R5 := Lib.hid r5
    have G5 := Lib.hid g5
    have AP := Lib.hid REL.out.d
    clear d5 c5 r5 g5
    go_wp2_with fail
    refine (DB.out.advance (by omega) (by omega)).mono ?_
    rintro e w6 ⟨a6, cap6, rfl, r6, g6, d6, c6⟩
    have sz6 := c6.size
    have D6a := Lib.hid (D5.out.later c6 AP.out DB.out.hi)
    have D6b := Lib.hid d6
    have szw := REL.out.b.c.size
    have R5' := Lib.hid (Row.kept R5.out c6 (fun j hj e => by have := G5.out j hj; have := REL.out.b.lt e; omega))
    have R6 := Lib.hid r6
    have hd1 := due_len (Q := Qa) (t := n0 + k + 1)
    have hd2 := due_len (Q := Qb) (t := n0 + k + sp * 16777216 + 1)
    have hsh : Shf (sp * 16777216) (dueQ Qa (n0 + k + 1)) (dueQ Qb (n0 + k + sp * 16777216 + 1)) := by
      have := QS.out.due (t := n0 + k + 1)
      rwa [show n0 + k + 1 + sp * 16777216 = n0 + k + sp * 16777216 + 1 by omega] at this
    have SH := Lib.hid hsh
    have hlen := hsh.len
    clear d6 c6 r6 g6 D5 DB R5 G5 hsh
    obtain ⟨m, hm⟩ : ∃ m, m = (dueQ Qa (n0 + k + 1)).length := ⟨_, rfl⟩
    rw [← hm] at hlen hd1 R5' ⊢
    rw [hlen] at hd2 R6 ⊢
    have HM := Lib.hid hm
    have HL := Lib.hid hlen
    clear hm hlen
    have nb1 : (n0 : Int) + 1 + (k : Int) ≤ 18446744073709551615 := by omega
    have nb2 : (n0 : Int) + 1 + (k : Int) + (sp : Int) * 16777216 ≤ 18446744073709551615 := by omega
    go_wp2_with fail
    refine (Drv.numbers (t := n0 + 1 + k) D6a.out R5'.out HM.out (fun x hx => QP.out x (due_mem x hx)) (fun x hx => by have := due_at x hx; omega) (by rw [← HM.out]; omega)).mono ?_
    rintro e w7 ⟨a7, cap7, rfl, r7, g7, c7⟩
    have R7 := Lib.hid r7
    have D7a := Lib.hid (D6a.out.quiet c7)
    have D7b := Lib.hid (D6b.out.quiet c7)
    have R6' := Lib.hid (Row.kept R6.out c7 (fun _ _ e => e))
    clear r7 g7 c7 D6a D6b R5' R6
    go_wp2_with fail
    refine (Drv.numbers (t := n0 + 1 + k + sp * 16777216) D7b.out R6'.out HL.out.symm (fun x hx => QPb.out x (due_mem x hx)) (fun x hx => by have := due_at x hx; omega) (by rw [HL.out]; omega)).mono ?_
    rintro e w8 ⟨a8, cap8, rfl, r8, g8, c8⟩
    have R8 : Hid (RowI w8 a8 m cap8 (uAt (dueQ Qa (n0 + k + 1)))) := Lib.hid (r8.congr _ (fun i _ => uAt_congr SH.out.us.symm i))
    have R7' := Lib.hid (R7.out.kept c8 (fun _ _ e => e))
    have D8a := Lib.hid (D7a.out.quiet c8)
    have D8b := Lib.hid (D7b.out.quiet c8)
    clear r8 g8 c8 D7a D7b R7 R6'
    go_wp2_with fail
    refine (ints_same R7'.out R8.out (by omega)).mono ?_
    rintro e w9 ⟨rfl, c9⟩
    have NX : Hid (Both w ga gb len sp (n0 + (k + 1)) (leftQ Qa (n0 + k + 1)) Pa (leftQ Qb (n0 + k + sp * 16777216 + 1)) Pb w9) := Lib.hid ⟨D8a.out.quiet c9, by
        have := D8b.out.quiet c9
        rwa [show n0 + k + sp * 16777216 + 1 = n0 + (k + 1) + sp * 16777216 by omega] at this ⊢, AP.out, by
        have := QS.out.left (t := n0 + k + 1)
        rwa [show n0 + k + 1 + sp * 16777216 = n0 + k + sp * 16777216 + 1 by omega] at this, by have := left_len (Q := Qa) (t := n0 + k + 1); omega⟩
    clear c9 D8a D8b R7' R8 REL
    go_wp2
    exact ⟨⟨_, _, _, _, rfl, rfl, rfl, rfl, rfl, rfl, rfl, rfl, rfl, rfl, rfl, NX.out⟩, hlt⟩
  · obtain rfl : k = ti := by omega
    go_wp2
    exact ⟨by first | rfl | trivial, ⟨_, _, _, _, rfl, rfl, rfl, rfl, rfl, rfl, rfl, rfl, rfl, rfl, rfl, REL.out⟩, by first | rfl | trivial⟩
theorem wsB_loop (w : World) (ga gb : Wh) (ad : Option Addr) (n0 sp ti l s len cap : Nat) (zs : List Int) (hv : IsRow .u16 w ad len cap zs) (h60 : len ≤ 60) (bn : n0 ≤ 4294967295) (bs : sp ≤ 65535) (bt : ti ≤ 255) (a : Act) (wr : World) (hb : 0 ≤ ti) (H : wsBI w ga gb ad n0 sp ti l s len cap 0 a wr) :
    Code.wp Tryd.prog (.loop (loopIn 2 Tryd.f8)) (Qx 2 (fun a' w' => wsBI w ga gb ad n0 sp ti l s len cap ti a' w')) a wr := by
  refine wp_loop (fun a' wr => ∃ k, k ≤ ti ∧ wsBI w ga gb ad n0 sp ti l s len cap k a' wr) (fun a' _ => ti - (intOf (a'.tmps.getD 22 undef)).toNat) ⟨0, hb, H⟩ ?_
  rintro a' wr ⟨k, hk, h⟩
  refine wp_mono (wsB_round w ga gb ad n0 sp ti l s len cap zs hv h60 bn bs bt a' wr hk h) ?_
  intro e a2 w2 hp
  cases e with
  | normal =>
    refine ⟨⟨k + 1, by have := hp.2; omega, hp.1⟩, ?_⟩
    rw [wsBI_ctr w ga gb ad n0 sp ti l s len cap h, wsBI_ctr w ga gb ad n0 sp ti l s len cap hp.1]
    have := hp.2
    simp only [intOf, Int.toNat_natCast]
    omega
  | exit n => exact ⟨hp.1, hp.2.2 ▸ hp.2.1⟩
  | _ => exact hp.elim
end Go.Proofs.YtkdkkgbjfabifaaDoor
