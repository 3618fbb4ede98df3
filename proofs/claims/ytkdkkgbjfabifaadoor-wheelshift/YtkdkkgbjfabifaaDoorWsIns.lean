/-
  WheelShift: the loop that inserts.
-/
import Derived.Test.YtkdkkgbjfabifaaDoorWsCode
import Derived.Test.YtkdkkgbjfabifaaDoorHeld
import Derived.Deep.QuietTactic
import Derived.BigQuiet
import Derived.Deep.Cut
import Derived.Deep.CutRange
import Derived.Deep.CutBlock
import Derived.RegionTactic
import Derived.BigRegion
namespace Go.Proofs.YtkdkkgbjfabifaaDoor
open Go.RowKit Verge LP
set_option linter.unusedVariables false
set_option linter.unusedSimpArgs false
attribute [local go_sem] Oper.semAt_some

/-- what holds at the head of the loop -/
def wsAI (w : World) (ga gb : Wh) (ad : Option Addr) (n0 sp ti l s len cap : Nat) (k : Nat) (a : Act) (wr : World) : Prop :=
  ∃ (Qa Pa Qb Pb : List Ent), a.defers = [] ∧ a.tmps.size = 175 ∧ a.tmps.getD 0 undef = .int .u32 (n0 : Nat) ∧ a.tmps.getD 1 undef = .slice ad len cap ∧ a.tmps.getD 3 undef = .int .u8 (ti : Nat) ∧ a.tmps.getD 4 undef = .int .u8 (l : Nat) ∧ a.tmps.getD 5 undef = .int .u8 (s : Nat) ∧ a.tmps.getD 13 undef = .int .u64 ((sp : Int) * 16777216) ∧ a.tmps.getD 14 undef = .pointer (some ⟨ga.wb, 0, none⟩) ∧ a.tmps.getD 15 undef = .pointer (some ⟨gb.wb, 0, none⟩) ∧ a.tmps.getD 16 undef = .int .i64 (k : Nat) ∧ Both w ga gb k sp n0 Qa Pa Qb Pb wr
theorem wsAI_ctr {k : Nat} (w : World) (ga gb : Wh) (ad : Option Addr) (n0 sp ti l s len cap : Nat) {a : Act} {wr : World} (H : wsAI w ga gb ad n0 sp ti l s len cap k a wr) : a.tmps.getD 16 undef = .int .i64 (k : Nat) := by
  obtain ⟨Qa, Pa, Qb, Pb, -, -, -, -, -, -, -, -, -, -, h, -⟩ := H
  exact h
set_option maxRecDepth 100000 in
set_option maxHeartbeats 0 in
theorem wsA_round {k : Nat} (w : World) (ga gb : Wh) (ad : Option Addr) (n0 sp ti l s len cap : Nat) (zs : List Int) (hv : IsRow .u16 w ad len cap zs) (h60 : len ≤ 60) (bn : n0 ≤ 4294967295) (bs : sp ≤ 65535) (bt : ti ≤ 255) (a : Act) (wr : World) (hk : k ≤ len) (H : wsAI w ga gb ad n0 sp ti l s len cap k a wr) :
    Code.wp Tryd.prog (loopIn 0 Tryd.f8) (Exit.then (fun a' w' => wsAI w ga gb ad n0 sp ti l s len cap (k + 1) a' w' ∧ k < len) (Qx 0 (fun a' w' => wsAI w ga gb ad n0 sp ti l s len cap k a' w' ∧ k = len))) a wr := by
  obtain ⟨t, ds⟩ := a
  obtain ⟨Qa, Pa, Qb, Pb, hd', hz, h0, h1, h3, h4, h5, h13, h14, h15, h16, rel⟩ := H
  replace hd' : ds = [] := hd'
  subst hd'
  replace hz : t.size = 175 := hz
  replace h0 : t.getD 0 undef = .int .u32 (n0 : Nat) := h0
  replace h1 : t.getD 1 undef = .slice ad len cap := h1
  replace h3 : t.getD 3 undef = .int .u8 (ti : Nat) := h3
  replace h4 : t.getD 4 undef = .int .u8 (l : Nat) := h4
  replace h5 : t.getD 5 undef = .int .u8 (s : Nat) := h5
  replace h13 : t.getD 13 undef = .int .u64 ((sp : Int) * 16777216) := h13
  replace h14 : t.getD 14 undef = .pointer (some ⟨ga.wb, 0, none⟩) := h14
  replace h15 : t.getD 15 undef = .pointer (some ⟨gb.wb, 0, none⟩) := h15
  replace h16 : t.getD 16 undef = .int .i64 (k : Nat) := h16
  have REL := Lib.hid rel
  clear rel
  refine openFr175 (P := fun t => t.getD 0 undef = .int .u32 (n0 : Nat) → t.getD 1 undef = .slice ad len cap → t.getD 3 undef = .int .u8 (ti : Nat) → t.getD 4 undef = .int .u8 (l : Nat) → t.getD 5 undef = .int .u8 (s : Nat) → t.getD 13 undef = .int .u64 ((sp : Int) * 16777216) → t.getD 14 undef = .pointer (some ⟨ga.wb, 0, none⟩) → t.getD 15 undef = .pointer (some ⟨gb.wb, 0, none⟩) → t.getD 16 undef = .int .i64 (k : Nat) → Code.wp Tryd.prog (loopIn 0 Tryd.f8) (Exit.then (fun a' w' => wsAI w ga gb ad n0 sp ti l s len cap (k + 1) a' w' ∧ k < len) (Qx 0 (fun a' w' => wsAI w ga gb ad n0 sp ti l s len cap k a' w' ∧ k = len))) ⟨t, []⟩ wr) ?_ t hz h0 h1 h3 h4 h5 h13 h14 h15 h16
  clear h0 h1 h3 h4 h5 h13 h14 h15 h16 hz t
  intro c0 c1 c2 c3 c4 c5 c6 c7 c8 c9 c10 c11 c12 c13 c14 c15 c16 c17 c18 c19 c20 c21 c22 c23 c24 c25 c26 c27 c28 c29 c30 c31 c32 c33 c34 c35 c36 c37 c38 c39 c40 c41 c42 c43 c44 c45 c46 c47 c48 c49 c50 c51 c52 c53 c54 c55 c56 c57 c58 c59 c60 c61 c62 c63 c64 c65 c66 c67 c68 c69 c70 c71 c72 c73 c74 c75 c76 c77 c78 c79 c80 c81 c82 c83 c84 c85 c86 c87 c88 c89 c90 c91 c92 c93 c94 c95 c96 c97 c98 c99 c100 c101 c102 c103 c104 c105 c106 c107 c108 c109 c110 c111 c112 c113 c114 c115 c116 c117 c118 c119 c120 c121 c122 c123 c124 c125 c126 c127 c128 c129 c130 c131 c132 c133 c134 c135 c136 c137 c138 c139 c140 c141 c142 c143 c144 c145 c146 c147 c148 c149 c150 c151 c152 c153 c154 c155 c156 c157 c158 c159 c160 c161 c162 c163 c164 c165 c166 c167 c168 c169 c170 c171 c172 c173 c174 h0 h1 h3 h4 h5 h13 h14 h15 h16
  replace h0 : c0 = .int .u32 (n0 : Nat) := h0
  replace h1 : c1 = .slice ad len cap := h1
  replace h3 : c3 = .int .u8 (ti : Nat) := h3
  replace h4 : c4 = .int .u8 (l : Nat) := h4
  replace h5 : c5 = .int .u8 (s : Nat) := h5
  replace h13 : c13 = .int .u64 ((sp : Int) * 16777216) := h13
  replace h14 : c14 = .pointer (some ⟨ga.wb, 0, none⟩) := h14
  replace h15 : c15 = .pointer (some ⟨gb.wb, 0, none⟩) := h15
  replace h16 : c16 = .int .i64 (k : Nat) := h16
  subst h0
  subst h1
  subst h3
  subst h4
  subst h5
  subst h13
  subst h14
  subst h15
  subst h16
  conv => arg 2; whnf
  have hsm := hv.small
  have HV := Lib.hid hv
  clear hv
  by_cases hlt : k < len
  · obtain ⟨x, rfl, hc, hwf⟩ := HV.out.item hlt
    have q1 := REL.out.a.c.keeps hc (fun e => e)
    obtain ⟨z1, z2⟩ := bounds_u16 hwf
    obtain ⟨di, hdi⟩ := Int.eq_ofNat_of_zero_le z1
    rw [hdi] at q1 z2
    have hkz : (k : Int) < (len : Int) := by omega
    have hkz0 : (0 : Int) ≤ (k : Int) := by omega
    clear hc hwf hdi z1
    have b1 : (n0 : Int) + 1 + (di : Int) ≤ 18446744073709551615 := by omega
    have b2 : (n0 : Int) + 1 + (di : Int) + (sp : Int) * 16777216 ≤ 18446744073709551615 := by omega
    have b3 : (n0 : Int) ≤ 4294967295 := by omega
    go_wp2_with fail
    refine (REL.out.a.insert (n0 + 1 + di) k (by omega) (by omega) (by have := REL.out.n; omega)).mono ?_
    rintro e w5 ⟨xa, rfl, hxa, d5, c5⟩
    have DB := Lib.hid (REL.out.b.later c5 (fun k h1 h2 => REL.out.d k h2 h1) REL.out.a.hi)
    have D5 := Lib.hid d5
    have AP5 := Lib.hid (apart_more (x := ⟨xa, n0 + 1 + di, (k : Int)⟩) REL.out.d (fun k hk => REL.out.b.lt hk) hxa)
    clear d5 c5
    go_wp2_with fail
    refine (DB.out.insert (n0 + 1 + di + sp * 16777216) k (by omega) (by omega) (by have := REL.out.n; have := REL.out.s.len; omega)).mono ?_
    rintro e w6 ⟨xb, rfl, hxb, d6, c6⟩
    have NX : Hid (Both w ga gb (k + 1) sp n0 (Qa ++ [⟨xa, n0 + 1 + di, (k : Int)⟩]) (Pa ++ [⟨xa, n0 + 1 + di, (k : Int)⟩]) (Qb ++ [⟨xb, n0 + 1 + di + sp * 16777216, (k : Int)⟩]) (Pb ++ [⟨xb, n0 + 1 + di + sp * 16777216, (k : Int)⟩]) w6) :=
      Lib.hid ⟨D5.out.later c6 AP5.out DB.out.hi, d6, fun j h1 h2 => apart_more (x := ⟨xb, n0 + 1 + di + sp * 16777216, (k : Int)⟩) (fun k h1 h2 => AP5.out k h2 h1) (fun k hk => D5.out.lt hk) hxb j h2 h1, REL.out.s.more _ _ rfl rfl, by have := REL.out.n; simp; omega⟩
    clear d6 c6 DB D5 AP5 REL
    go_wp2
    exact ⟨⟨_, _, _, _, rfl, rfl, rfl, rfl, rfl, rfl, rfl, rfl, rfl, rfl, rfl, NX.out⟩, hlt⟩
  · obtain rfl : k = len := by omega
    go_wp2
    exact ⟨by first | rfl | trivial, ⟨_, _, _, _, rfl, rfl, rfl, rfl, rfl, rfl, rfl, rfl, rfl, rfl, rfl, REL.out⟩, by first | rfl | trivial⟩
theorem wsA_loop (w : World) (ga gb : Wh) (ad : Option Addr) (n0 sp ti l s len cap : Nat) (zs : List Int) (hv : IsRow .u16 w ad len cap zs) (h60 : len ≤ 60) (bn : n0 ≤ 4294967295) (bs : sp ≤ 65535) (bt : ti ≤ 255) (a : Act) (wr : World) (hb : 0 ≤ len) (H : wsAI w ga gb ad n0 sp ti l s len cap 0 a wr) :
    Code.wp Tryd.prog (.loop (loopIn 0 Tryd.f8)) (Qx 0 (fun a' w' => wsAI w ga gb ad n0 sp ti l s len cap len a' w')) a wr := by
  refine wp_loop (fun a' wr => ∃ k, k ≤ len ∧ wsAI w ga gb ad n0 sp ti l s len cap k a' wr) (fun a' _ => len - (intOf (a'.tmps.getD 16 undef)).toNat) ⟨0, hb, H⟩ ?_
  rintro a' wr ⟨k, hk, h⟩
  refine wp_mono (wsA_round w ga gb ad n0 sp ti l s len cap zs hv h60 bn bs bt a' wr hk h) ?_
  intro e a2 w2 hp
  cases e with
  | normal =>
    refine ⟨⟨k + 1, by have := hp.2; omega, hp.1⟩, ?_⟩
    rw [wsAI_ctr w ga gb ad n0 sp ti l s len cap h, wsAI_ctr w ga gb ad n0 sp ti l s len cap hp.1]
    have := hp.2
    simp only [intOf, Int.toNat_natCast]
    omega
  | exit n => exact ⟨hp.1, hp.2.2 ▸ hp.2.1⟩
  | _ => exact hp.elim
end Go.Proofs.YtkdkkgbjfabifaaDoor
