/-
  WheelExact: the loop that ticks.
-/
import Derived.Test.YtkdkkgbjfabifaaDoorWxD
import Derived.Test.YtkdkkgbjfabifaaDoorHeld
import Derived.Deep.QuietTactic
import Derived.BigQuiet
import Derived.Deep.Cut
import Derived.Deep.CutRange
import Derived.Deep.CutBlock
import Derived.RegionTactic
import Derived.BigRegion
namespace Go.Proofs.YtkdkkgbjfabifaaDoor
open Go.RowKit Verge LP
set_option linter.unusedVariables false
set_option linter.unusedSimpArgs false
attribute [local go_sem] Oper.semAt_some

/-- what holds at the head of the loop -/
def wxCI (w : World) (g : Wh) (ad bd : Option Addr) (n0 ti len cap blen bcap mb : Nat) (zs ys : List Int) (tt : Nat) (k : Nat) (a : Act) (wr : World) : Prop :=
  ∃ (P Q : List Ent) (F : Nat → Int) (ar : Option Addr) (cr mm : Nat), a.defers = [] ∧ a.tmps.size = 220 ∧ a.tmps.getD 0 undef = .int .u64 (n0 : Nat) ∧ a.tmps.getD 1 undef = .slice ad len cap ∧ a.tmps.getD 3 undef = .int .u16 (ti : Nat) ∧ a.tmps.getD 9 undef = .pointer (some ⟨g.wb, 0, none⟩) ∧ a.tmps.getD 11 undef = .map (some mb) ∧ a.tmps.getD 17 undef = .int .i64 (k : Nat) ∧ Ex w g mb n0 zs len mm (n0 + k) P Q F ar cr wr ∧ mm ≤ 60 + 60 * k
theorem wxCI_ctr {k : Nat} (w : World) (g : Wh) (ad bd : Option Addr) (n0 ti len cap blen bcap mb : Nat) (zs ys : List Int) (tt : Nat) {a : Act} {wr : World} (H : wxCI w g ad bd n0 ti len cap blen bcap mb zs ys tt k a wr) : a.tmps.getD 17 undef = .int .i64 (k : Nat) := by
  obtain ⟨P, Q, F, ar, cr, mm, -, -, -, -, -, -, -, h, -⟩ := H
  exact h
set_option maxRecDepth 100000 in
set_option maxHeartbeats 0 in
theorem wxC_round {k : Nat} (w : World) (g : Wh) (ad bd : Option Addr) (n0 ti len cap blen bcap mb : Nat) (zs ys : List Int) (tt : Nat) (hv : IsRow .u16 w ad len cap zs) (hu : IsRow .u8 w bd blen bcap ys) (T : Tab w) (h60 : len ≤ 60) (hb60 : blen ≤ 60) (bn : n0 ≤ 18446744073709351615) (bt : ti ≤ 65535) (htt : tt = ti % 6000) (a : Act) (wr : World) (hk : k ≤ tt) (H : wxCI w g ad bd n0 ti len cap blen bcap mb zs ys tt k a wr) :
    Code.wp Tryd.prog (loopIn 4 Tryd.f4) (Exit.then (fun a' w' => wxCI w g ad bd n0 ti len cap blen bcap mb zs ys tt (k + 1) a' w' ∧ k < tt) (Qx 4 (fun a' w' => wxCI w g ad bd n0 ti len cap blen bcap mb zs ys tt k a' w' ∧ k = tt))) a wr := by
  obtain ⟨t, ds⟩ := a
  obtain ⟨P, Q, F, ar, cr, mm, hd', hz, h0, h1, h3, h9, h11, h17, rel⟩ := H
  replace hd' : ds = [] := hd'
  subst hd'
  replace hz : t.size = 220 := hz
  replace h0 : t.getD 0 undef = .int .u64 (n0 : Nat) := h0
  replace h1 : t.getD 1 undef = .slice ad len cap := h1
  replace h3 : t.getD 3 undef = .int .u16 (ti : Nat) := h3
  replace h9 : t.getD 9 undef = .pointer (some ⟨g.wb, 0, none⟩) := h9
  replace h11 : t.getD 11 undef = .map (some mb) := h11
  replace h17 : t.getD 17 undef = .int .i64 (k : Nat) := h17
  have REL := Lib.hid rel
  clear rel
  refine openFr220 (P := fun t => t.getD 0 undef = .int .u64 (n0 : Nat) → t.getD 1 undef = .slice ad len cap → t.getD 3 undef = .int .u16 (ti : Nat) → t.getD 9 undef = .pointer (some ⟨g.wb, 0, none⟩) → t.getD 11 undef = .map (some mb) → t.getD 17 undef = .int .i64 (k : Nat) → Code.wp Tryd.prog (loopIn 4 Tryd.f4) (Exit.then (fun a' w' => wxCI w g ad bd n0 ti len cap blen bcap mb zs ys tt (k + 1) a' w' ∧ k < tt) (Qx 4 (fun a' w' => wxCI w g ad bd n0 ti len cap blen bcap mb zs ys tt k a' w' ∧ k = tt))) ⟨t, []⟩ wr) ?_ t hz h0 h1 h3 h9 h11 h17
  clear h0 h1 h3 h9 h11 h17 hz t
  intro c0 c1 c2 c3 c4 c5 c6 c7 c8 c9 c10 c11 c12 c13 c14 c15 c16 c17 c18 c19 c20 c21 c22 c23 c24 c25 c26 c27 c28 c29 c30 c31 c32 c33 c34 c35 c36 c37 c38 c39 c40 c41 c42 c43 c44 c45 c46 c47 c48 c49 c50 c51 c52 c53 c54 c55 c56 c57 c58 c59 c60 c61 c62 c63 c64 c65 c66 c67 c68 c69 c70 c71 c72 c73 c74 c75 c76 c77 c78 c79 c80 c81 c82 c83 c84 c85 c86 c87 c88 c89 c90 c91 c92 c93 c94 c95 c96 c97 c98 c99 c100 c101 c102 c103 c104 c105 c106 c107 c108 c109 c110 c111 c112 c113 c114 c115 c116 c117 c118 c119 c120 c121 c122 c123 c124 c125 c126 c127 c128 c129 c130 c131 c132 c133 c134 c135 c136 c137 c138 c139 c140 c141 c142 c143 c144 c145 c146 c147 c148 c149 c150 c151 c152 c153 c154 c155 c156 c157 c158 c159 c160 c161 c162 c163 c164 c165 c166 c167 c168 c169 c170 c171 c172 c173 c174 c175 c176 c177 c178 c179 c180 c181 c182 c183 c184 c185 c186 c187 c188 c189 c190 c191 c192 c193 c194 c195 c196 c197 c198 c199 c200 c201 c202 c203 c204 c205 c206 c207 c208 c209 c210 c211 c212 c213 c214 c215 c216 c217 c218 c219 h0 h1 h3 h9 h11 h17
  replace h0 : c0 = .int .u64 (n0 : Nat) := h0
  replace h1 : c1 = .slice ad len cap := h1
  replace h3 : c3 = .int .u16 (ti : Nat) := h3
  replace h9 : c9 = .pointer (some ⟨g.wb, 0, none⟩) := h9
  replace h11 : c11 = .map (some mb) := h11
  replace h17 : c17 = .int .i64 (k : Nat) := h17
  subst h0
  subst h1
  subst h3
  subst h9
  subst h11
  subst h17
  conv => arg 2; whnf
  have HV := Lib.hid hv
  have HU := Lib.hid hu
  have TB := Lib.hid T
  have b3 : (n0 : Int) ≤ 18446744073709351615 := by omega
  have bt2 : (ti : Int) ≤ 65535 := by omega
  have htr : ((ti : Int)).tmod 6000 = (tt : Int) := by rw [htt]; rfl
  have htl : tt < 6000 := by rw [htt]; exact Nat.mod_lt _ (by decide)
  clear hv hu T htt
  by_cases hlt : k < tt
  · have hkz : (k : Int) < (tt : Int) := by omega
    have hkz0 : (0 : Int) ≤ (k : Int) := by omega
    have ql := REL.out.1.ql
    go_wp2_with fail
    refine (REL.out.1.d.advance (by omega) (by omega)).mono ?_
    rintro e w5 ⟨a5, cap5, rfl, r5, g5, d5, c5⟩
    have D5 := Lib.hid d5
    have R5 := Lib.hid r5
    have hdl := due_len (Q := Q) (t := n0 + k + 1)
    have ER := Lib.hid (Row.kept REL.out.1.r c5 (fun j hj => (REL.out.1.ro j hj).2.1))
    have EZ := Lib.hid (REL.out.1.z.kept c5 REL.out.1.mo.2)
    have sz5 := c5.size
    clear d5 r5 g5 c5
    obtain ⟨m, hm⟩ : ∃ m, m = (dueQ Q (n0 + k + 1)).length := ⟨_, rfl⟩
    have HM := Lib.hid hm
    rw [← hm] at hdl R5 ⊢
    clear hm
    have nb1 : (n0 : Int) + 1 + (k : Int) ≤ 18446744073709551615 := by omega
    go_wp2_with fail
    refine (Drv.numbers (t := n0 + 1 + k) D5.out R5.out HM.out (fun x hx => REL.out.1.d.q.p x (due_mem x hx)) (fun x hx => by have := due_at x hx; omega) (by rw [← HM.out]; omega)).mono ?_
    rintro e w6 ⟨a6, cap6, rfl, r6, g6, c6⟩
    have D6 := Lib.hid (D5.out.quiet c6)
    have R6 := Lib.hid r6
    have G6 := Lib.hid g6
    have ER6 := Lib.hid (Row.kept ER.out c6 (fun _ _ e => e))
    have EZ6 := Lib.hid (EZ.out.kept c6 (fun e => e))
    clear r6 g6 c6 D5 R5 ER EZ
    go_wp2_with fail
    have NW := D6.out.time
    rw [show ((n0 + k + 1 : Nat) : Int) = (n0 : Int) + 1 + (k : Int) by omega] at NW
    refine NW.mono ?_
    rintro e w7 ⟨rfl, rfl⟩
    clear NW
    have START : Hid (ExI w g mb n0 zs len mm (n0 + k) P Q F ar cr a6 cap6 0 w6) := Lib.hid ⟨D6.out, ER6.out, by rw [List.take_zero, markF_nil]; exact EZ6.out, by rw [← HM.out]; exact R6.out, REL.out.1.ln, REL.out.1.pe, REL.out.1.qe, REL.out.1.ro, REL.out.1.mo, fun j hj e => by have := G6.out j hj; have := EZ6.out.lt; have := REL.out.1.z.lt; omega, REL.out.1.d.q.n⟩
    have hmm := REL.out.2
    clear D6 R6 G6 ER6 EZ6 REL
    go_wp2
    refine wp_mono (wxD_loop w g ad bd n0 ti len cap blen bcap mb zs ys tt k m P Q F ar cr a6 cap6 HV.out HU.out TB.out h60 hb60 bn bt HM.out (by omega) (by omega) _ _ (by omega) ?hI) ?_
    case hI => exact ⟨mm, rfl, rfl, rfl, rfl, rfl, rfl, rfl, rfl, rfl, rfl, ⟨START.out, by omega⟩⟩
    clear START hmm
    clear mm
    intro e a' w9 hp
    obtain ⟨rfl, H⟩ := Qx_inv hp
    clear hp
    obtain ⟨t, ds⟩ := a'
    obtain ⟨mm, hd', hz, h0, h1, h3, h9, h11, h17, h20, h22, rel⟩ := H
    replace hd' : ds = [] := hd'
    subst hd'
    replace hz : t.size = 220 := hz
    replace h0 : t.getD 0 undef = .int .u64 (n0 : Nat) := h0
    replace h1 : t.getD 1 undef = .slice ad len cap := h1
    replace h3 : t.getD 3 undef = .int .u16 (ti : Nat) := h3
    replace h9 : t.getD 9 undef = .pointer (some ⟨g.wb, 0, none⟩) := h9
    replace h11 : t.getD 11 undef = .map (some mb) := h11
    replace h17 : t.getD 17 undef = .int .i64 (k : Nat) := h17
    replace h20 : t.getD 20 undef = .slice a6 m cap6 := h20
    replace h22 : t.getD 22 undef = .int .i64 (m : Nat) := h22
    have REL := Lib.hid rel
    clear rel
    refine openFr220 (P := fun t => t.getD 0 undef = .int .u64 (n0 : Nat) → t.getD 1 undef = .slice ad len cap → t.getD 3 undef = .int .u16 (ti : Nat) → t.getD 9 undef = .pointer (some ⟨g.wb, 0, none⟩) → t.getD 11 undef = .map (some mb) → t.getD 17 undef = .int .i64 (k : Nat) → t.getD 20 undef = .slice a6 m cap6 → t.getD 22 undef = .int .i64 (m : Nat) → Exit.inBlock 6 _ (.exit 6) ⟨t, []⟩ w9) ?_ t hz h0 h1 h3 h9 h11 h17 h20 h22
    clear h0 h1 h3 h9 h11 h17 h20 h22 hz t
    intro c0 c1 c2 c3 c4 c5 c6 c7 c8 c9 c10 c11 c12 c13 c14 c15 c16 c17 c18 c19 c20 c21 c22 c23 c24 c25 c26 c27 c28 c29 c30 c31 c32 c33 c34 c35 c36 c37 c38 c39 c40 c41 c42 c43 c44 c45 c46 c47 c48 c49 c50 c51 c52 c53 c54 c55 c56 c57 c58 c59 c60 c61 c62 c63 c64 c65 c66 c67 c68 c69 c70 c71 c72 c73 c74 c75 c76 c77 c78 c79 c80 c81 c82 c83 c84 c85 c86 c87 c88 c89 c90 c91 c92 c93 c94 c95 c96 c97 c98 c99 c100 c101 c102 c103 c104 c105 c106 c107 c108 c109 c110 c111 c112 c113 c114 c115 c116 c117 c118 c119 c120 c121 c122 c123 c124 c125 c126 c127 c128 c129 c130 c131 c132 c133 c134 c135 c136 c137 c138 c139 c140 c141 c142 c143 c144 c145 c146 c147 c148 c149 c150 c151 c152 c153 c154 c155 c156 c157 c158 c159 c160 c161 c162 c163 c164 c165 c166 c167 c168 c169 c170 c171 c172 c173 c174 c175 c176 c177 c178 c179 c180 c181 c182 c183 c184 c185 c186 c187 c188 c189 c190 c191 c192 c193 c194 c195 c196 c197 c198 c199 c200 c201 c202 c203 c204 c205 c206 c207 c208 c209 c210 c211 c212 c213 c214 c215 c216 c217 c218 c219 h0 h1 h3 h9 h11 h17 h20 h22
    replace h0 : c0 = .int .u64 (n0 : Nat) := h0
    replace h1 : c1 = .slice ad len cap := h1
    replace h3 : c3 = .int .u16 (ti : Nat) := h3
    replace h9 : c9 = .pointer (some ⟨g.wb, 0, none⟩) := h9
    replace h11 : c11 = .map (some mb) := h11
    replace h17 : c17 = .int .i64 (k : Nat) := h17
    replace h20 : c20 = .slice a6 m cap6 := h20
    replace h22 : c22 = .int .i64 (m : Nat) := h22
    subst h0
    subst h1
    subst h3
    subst h9
    subst h11
    subst h17
    subst h20
    subst h22
    have NX := REL.out.1
    rw [HM.out] at NX
    replace NX := Lib.hid NX.all
    have hm2 := REL.out.2
    go_wp2
    exact ⟨⟨P, _, _, ar, cr, mm, rfl, rfl, rfl, rfl, rfl, rfl, rfl, rfl, ⟨NX.out, by omega⟩⟩, hlt⟩
  · obtain rfl : k = tt := by omega
    go_wp2
    exact ⟨by first | rfl | trivial, ⟨_, _, _, _, _, _, rfl, rfl, rfl, rfl, rfl, rfl, rfl, rfl, REL.out⟩, by first | rfl | trivial⟩
theorem wxC_loop (w : World) (g : Wh) (ad bd : Option Addr) (n0 ti len cap blen bcap mb : Nat) (zs ys : List Int) (tt : Nat) (hv : IsRow .u16 w ad len cap zs) (hu : IsRow .u8 w bd blen bcap ys) (T : Tab w) (h60 : len ≤ 60) (hb60 : blen ≤ 60) (bn : n0 ≤ 18446744073709351615) (bt : ti ≤ 65535) (htt : tt = ti % 6000) (a : Act) (wr : World) (hb : 0 ≤ tt) (H : wxCI w g ad bd n0 ti len cap blen bcap mb zs ys tt 0 a wr) :
    Code.wp Tryd.prog (.loop (loopIn 4 Tryd.f4)) (Qx 4 (fun a' w' => wxCI w g ad bd n0 ti len cap blen bcap mb zs ys tt tt a' w')) a wr := by
  refine wp_loop (fun a' wr => ∃ k, k ≤ tt ∧ wxCI w g ad bd n0 ti len cap blen bcap mb zs ys tt k a' wr) (fun a' _ => tt - (intOf (a'.tmps.getD 17 undef)).toNat) ⟨0, hb, H⟩ ?_
  rintro a' wr ⟨k, hk, h⟩
  refine wp_mono (wxC_round w g ad bd n0 ti len cap blen bcap mb zs ys tt hv hu T h60 hb60 bn bt htt a' wr hk h) ?_
  intro e a2 w2 hp
  cases e with
  | normal =>
    refine ⟨⟨k + 1, by have := hp.2; omega, hp.1⟩, ?_⟩
    rw [wxCI_ctr w g ad bd n0 ti len cap blen bcap mb zs ys tt h, wxCI_ctr w g ad bd n0 ti len cap blen bcap mb zs ys tt hp.1]
    have := hp.2
    simp only [intOf, Int.toNat_natCast]
    omega
  | exit n => exact ⟨hp.1, hp.2.2 ▸ hp.2.1⟩
  | _ => exact hp.elim
end Go.Proofs.YtkdkkgbjfabifaaDoor
