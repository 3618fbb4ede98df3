/-
  WheelExact: the loop that counts; what follows the loops.
-/
import Derived.Test.YtkdkkgbjfabifaaDoorWxA
import Derived.Test.YtkdkkgbjfabifaaDoorWxB
import Derived.Test.YtkdkkgbjfabifaaDoorWxC
import Derived.Test.YtkdkkgbjfabifaaDoorHeld
import Derived.Deep.QuietTactic
import Derived.BigQuiet
import Derived.Deep.Cut
import Derived.Deep.CutRange
import Derived.Deep.CutBlock
import Derived.RegionTactic
import Derived.BigRegion
namespace Go.Proofs.YtkdkkgbjfabifaaDoor
open Go.RowKit Verge LP
set_option linter.unusedVariables false
set_option linter.unusedSimpArgs false
attribute [local go_sem] Oper.semAt_some

/-- what holds at the head of the loop -/
def wxEI (w : World) (g : Wh) (ad bd : Option Addr) (n0 ti len cap blen bcap mb : Nat) (zs ys : List Int) (tt : Nat) (P Q : List Ent) (F : Nat → Int) (ar : Option Addr) (cr mm : Nat) (k : Nat) (a : Act) (wr : World) : Prop :=
  a.defers = [] ∧ a.tmps.size = 220 ∧ a.tmps.getD 0 undef = .int .u64 (n0 : Nat) ∧ a.tmps.getD 1 undef = .slice ad len cap ∧ a.tmps.getD 3 undef = .int .u16 (ti : Nat) ∧ a.tmps.getD 9 undef = .pointer (some ⟨g.wb, 0, none⟩) ∧ a.tmps.getD 11 undef = .map (some mb) ∧ a.tmps.getD 23 undef = .int .i64 ((cntE F P k : Nat) : Int) ∧ a.tmps.getD 24 undef = .int .i64 (k : Nat) ∧ Ex w g mb n0 zs len mm (n0 + tt) P Q F ar cr wr
theorem wxEI_ctr {k : Nat} (w : World) (g : Wh) (ad bd : Option Addr) (n0 ti len cap blen bcap mb : Nat) (zs ys : List Int) (tt : Nat) (P Q : List Ent) (F : Nat → Int) (ar : Option Addr) (cr mm : Nat) {a : Act} {wr : World} (H : wxEI w g ad bd n0 ti len cap blen bcap mb zs ys tt P Q F ar cr mm k a wr) : a.tmps.getD 24 undef = .int .i64 (k : Nat) := by
  obtain ⟨-, -, -, -, -, -, -, -, h, -⟩ := H
  exact h
set_option maxRecDepth 100000 in
set_option maxHeartbeats 0 in
theorem wxE_round {k : Nat} (w : World) (g : Wh) (ad bd : Option Addr) (n0 ti len cap blen bcap mb : Nat) (zs ys : List Int) (tt : Nat) (P Q : List Ent) (F : Nat → Int) (ar : Option Addr) (cr mm : Nat) (hv : IsRow .u16 w ad len cap zs) (hu : IsRow .u8 w bd blen bcap ys) (T : Tab w) (h60 : len ≤ 60) (hb60 : blen ≤ 60) (bn : n0 ≤ 18446744073709351615) (bt : ti ≤ 65535) (htt : tt = ti % 6000) (a : Act) (wr : World) (hk : k ≤ len) (H : wxEI w g ad bd n0 ti len cap blen bcap mb zs ys tt P Q F ar cr mm k a wr) :
    Code.wp Tryd.prog (loopIn 8 Tryd.f4) (Exit.then (fun a' w' => wxEI w g ad bd n0 ti len cap blen bcap mb zs ys tt P Q F ar cr mm (k + 1) a' w' ∧ k < len) (Qx 8 (fun a' w' => wxEI w g ad bd n0 ti len cap blen bcap mb zs ys tt P Q F ar cr mm k a' w' ∧ k = len))) a wr := by
  obtain ⟨t, ds⟩ := a
  obtain ⟨hd', hz, h0, h1, h3, h9, h11, h23, h24, rel⟩ := H
  replace hd' : ds = [] := hd'
  subst hd'
  replace hz : t.size = 220 := hz
  replace h0 : t.getD 0 undef = .int .u64 (n0 : Nat) := h0
  replace h1 : t.getD 1 undef = .slice ad len cap := h1
  replace h3 : t.getD 3 undef = .int .u16 (ti : Nat) := h3
  replace h9 : t.getD 9 undef = .pointer (some ⟨g.wb, 0, none⟩) := h9
  replace h11 : t.getD 11 undef = .map (some mb) := h11
  replace h23 : t.getD 23 undef = .int .i64 ((cntE F P k : Nat) : Int) := h23
  replace h24 : t.getD 24 undef = .int .i64 (k : Nat) := h24
  have REL := Lib.hid rel
  clear rel
  refine openFr220 (P := fun t => t.getD 0 undef = .int .u64 (n0 : Nat) → t.getD 1 undef = .slice ad len cap → t.getD 3 undef = .int .u16 (ti : Nat) → t.getD 9 undef = .pointer (some ⟨g.wb, 0, none⟩) → t.getD 11 undef = .map (some mb) → t.getD 23 undef = .int .i64 ((cntE F P k : Nat) : Int) → t.getD 24 undef = .int .i64 (k : Nat) → Code.wp Tryd.prog (loopIn 8 Tryd.f4) (Exit.then (fun a' w' => wxEI w g ad bd n0 ti len cap blen bcap mb zs ys tt P Q F ar cr mm (k + 1) a' w' ∧ k < len) (Qx 8 (fun a' w' => wxEI w g ad bd n0 ti len cap blen bcap mb zs ys tt P Q F ar cr mm k a' w' ∧ k = len))) ⟨t, []⟩ wr) ?_ t hz h0 h1 h3 h9 h11 h23 h24
  clear h0 h1 h3 h9 h11 h23 h24 hz t
  intro c0 c1 c2 c3 c4 c5 c6 c7 c8 c9 c10 c11 c12 c13 c14 c15 c16 c17 c18 c19 c20 c21 c22 c23 c24 c25 c26 c27 c28 c29 c30 c31 c32 c33 c34 c35 c36 c37 c38 c39 c40 c41 c42 c43 c44 c45 c46 c47 c48 c49 c50 c51 c52 c53 c54 c55 c56 c57 c58 c59 c60 c61 c62 c63 c64 c65 c66 c67 c68 c69 c70 c71 c72 c73 c74 c75 c76 c77 c78 c79 c80 c81 c82 c83 c84 c85 c86 c87 c88 c89 c90 c91 c92 c93 c94 c95 c96 c97 c98 c99 c100 c101 c102 c103 c104 c105 c106 c107 c108 c109 c110 c111 c112 c113 c114 c115 c116 c117 c118 c119 c120 c121 c122 c123 c124 c125 c126 c127 c128 c129 c130 c131 c132 c133 c134 c135 c136 c137 c138 c139 c140 c141 c142 c143 c144 c145 c146 c147 c148 c149 c150 c151 c152 c153 c154 c155 c156 c157 c158 c159 c160 c161 c162 c163 c164 c165 c166 c167 c168 c169 c170 c171 c172 c173 c174 c175 c176 c177 c178 c179 c180 c181 c182 c183 c184 c185 c186 c187 c188 c189 c190 c191 c192 c193 c194 c195 c196 c197 c198 c199 c200 c201 c202 c203 c204 c205 c206 c207 c208 c209 c210 c211 c212 c213 c214 c215 c216 c217 c218 c219 h0 h1 h3 h9 h11 h23 h24
  replace h0 : c0 = .int .u64 (n0 : Nat) := h0
  replace h1 : c1 = .slice ad len cap := h1
  replace h3 : c3 = .int .u16 (ti : Nat) := h3
  replace h9 : c9 = .pointer (some ⟨g.wb, 0, none⟩) := h9
  replace h11 : c11 = .map (some mb) := h11
  replace h23 : c23 = .int .i64 ((cntE F P k : Nat) : Int) := h23
  replace h24 : c24 = .int .i64 (k : Nat) := h24
  subst h0
  subst h1
  subst h3
  subst h9
  subst h11
  subst h23
  subst h24
  conv => arg 2; whnf
  have hsm := hv.small
  have HV := Lib.hid hv
  have bt2 : (ti : Int) ≤ 65535 := by omega
  have htr : ((ti : Int)).tmod 6000 = (tt : Int) := by rw [htt]; rfl
  clear hv hu T htt
  by_cases hlt : k < len
  · obtain ⟨x, rfl, hc, hwf⟩ := HV.out.item hlt
    obtain ⟨z1, z2⟩ := bounds_u16 hwf
    have q1 := REL.out.d.c.keeps hc (fun e => e)
    obtain ⟨di, hdi⟩ := Int.eq_ofNat_of_zero_le z1
    have hdz : di = dzE zs k := by unfold dzE; rw [hdi]; rfl
    rw [hdi] at q1 z2
    have DI := Lib.hid hdz
    have hkz : (k : Int) < (len : Int) := by omega
    have hkz0 : (0 : Int) ≤ (k : Int) := by omega
    clear hc hwf hdi z1 hdz
    obtain ⟨x, hxk, hxd, hxq, hsum, hcl⟩ := REL.out.cnt hlt
    have lk := REL.out.z.look k (by omega)
    obtain ⟨c, hc⟩ : ∃ c, c = cntE F P k := ⟨_, rfl⟩
    rw [← hc] at hsum hcl ⊢
    clear hc
    by_cases hF : F k = 0
    · rw [hF] at lk
      have hdt : (tt : Int) ≤ (di : Int) := by
        have h1 := REL.out.d.q.a x (hxq hF)
        have h2 := DI.out
        omega
      rw [if_pos hF] at hsum
      have SUM := Lib.hid hsum
      clear hsum hxq hxd hxk
      go_wp2
      exact ⟨⟨rfl, rfl, rfl, rfl, rfl, rfl, rfl, by rw [SUM.out]; rfl, rfl, REL.out⟩, hlt⟩
    · obtain ⟨f, hf⟩ : ∃ f, f = F k := ⟨_, rfl⟩
      rw [if_neg hF, Nat.add_zero] at hsum
      rw [← hf] at lk hF
      clear hf
      have hfb : (f == 0) = false := by rw [beq_eq_false_iff_ne]; exact hF
      have SUM := Lib.hid hsum
      clear hsum hxq hxd hxk
      go_wp2
      exact ⟨⟨rfl, rfl, rfl, rfl, rfl, rfl, rfl, by rw [SUM.out]; rfl, rfl, REL.out⟩, hlt⟩
  · obtain rfl : k = len := by omega
    go_wp2
    exact ⟨by first | rfl | trivial, ⟨rfl, rfl, rfl, rfl, rfl, rfl, rfl, rfl, rfl, REL.out⟩, by first | rfl | trivial⟩
theorem wxE_loop (w : World) (g : Wh) (ad bd : Option Addr) (n0 ti len cap blen bcap mb : Nat) (zs ys : List Int) (tt : Nat) (P Q : List Ent) (F : Nat → Int) (ar : Option Addr) (cr mm : Nat) (hv : IsRow .u16 w ad len cap zs) (hu : IsRow .u8 w bd blen bcap ys) (T : Tab w) (h60 : len ≤ 60) (hb60 : blen ≤ 60) (bn : n0 ≤ 18446744073709351615) (bt : ti ≤ 65535) (htt : tt = ti % 6000) (a : Act) (wr : World) (hb : 0 ≤ len) (H : wxEI w g ad bd n0 ti len cap blen bcap mb zs ys tt P Q F ar cr mm 0 a wr) :
    Code.wp Tryd.prog (.loop (loopIn 8 Tryd.f4)) (Qx 8 (fun a' w' => wxEI w g ad bd n0 ti len cap blen bcap mb zs ys tt P Q F ar cr mm len a' w')) a wr := by
  refine wp_loop (fun a' wr => ∃ k, k ≤ len ∧ wxEI w g ad bd n0 ti len cap blen bcap mb zs ys tt P Q F ar cr mm k a' wr) (fun a' _ => len - (intOf (a'.tmps.getD 24 undef)).toNat) ⟨0, hb, H⟩ ?_
  rintro a' wr ⟨k, hk, h⟩
  refine wp_mono (wxE_round w g ad bd n0 ti len cap blen bcap mb zs ys tt P Q F ar cr mm hv hu T h60 hb60 bn bt htt a' wr hk h) ?_
  intro e a2 w2 hp
  cases e with
  | normal =>
    refine ⟨⟨k + 1, by have := hp.2; omega, hp.1⟩, ?_⟩
    rw [wxEI_ctr w g ad bd n0 ti len cap blen bcap mb zs ys tt P Q F ar cr mm h, wxEI_ctr w g ad bd n0 ti len cap blen bcap mb zs ys tt P Q F ar cr mm hp.1]
    have := hp.2
    simp only [intOf, Int.toNat_natCast]
    omega
  | exit n => exact ⟨hp.1, hp.2.2 ▸ hp.2.1⟩
  | _ => exact hp.elim
set_option maxRecDepth 100000 in
set_option maxHeartbeats 0 in
theorem wx_end (w : World) (g : Wh) (ad bd : Option Addr) (n0 ti len cap blen bcap mb : Nat) (zs ys : List Int) (tt : Nat) (P Q : List Ent) (F : Nat → Int) (ar : Option Addr) (cr mm : Nat) (hv : IsRow .u16 w ad len cap zs) (hu : IsRow .u8 w bd blen bcap ys) (T : Tab w) (h60 : len ≤ 60) (hb60 : blen ≤ 60) (bn : n0 ≤ 18446744073709351615) (bt : ti ≤ 65535) (htt : tt = ti % 6000)  (a : Act) (wr : World) (H : wxEI w g ad bd n0 ti len cap blen bcap mb zs ys tt P Q F ar cr mm len a wr) :
    Code.wp Tryd.prog (aftIn 8 Tryd.f4) (bodyPost Tryd.prog Tryd.f4 (fun e w' => e = .returned (.bool true) ∧ Below w.heap.size w w')) a wr := by
  obtain ⟨t, ds⟩ := a
  obtain ⟨hd', hz, h0, h1, h3, h9, h11, h23, h24, rel⟩ := H
  replace hd' : ds = [] := hd'
  subst hd'
  replace hz : t.size = 220 := hz
  replace h0 : t.getD 0 undef = .int .u64 (n0 : Nat) := h0
  replace h1 : t.getD 1 undef = .slice ad len cap := h1
  replace h3 : t.getD 3 undef = .int .u16 (ti : Nat) := h3
  replace h9 : t.getD 9 undef = .pointer (some ⟨g.wb, 0, none⟩) := h9
  replace h11 : t.getD 11 undef = .map (some mb) := h11
  replace h23 : t.getD 23 undef = .int .i64 ((cntE F P len : Nat) : Int) := h23
  replace h24 : t.getD 24 undef = .int .i64 (len : Nat) := h24
  have REL := Lib.hid rel
  clear rel
  refine openFr220 (P := fun t => t.getD 0 undef = .int .u64 (n0 : Nat) → t.getD 1 undef = .slice ad len cap → t.getD 3 undef = .int .u16 (ti : Nat) → t.getD 9 undef = .pointer (some ⟨g.wb, 0, none⟩) → t.getD 11 undef = .map (some mb) → t.getD 23 undef = .int .i64 ((cntE F P len : Nat) : Int) → t.getD 24 undef = .int .i64 (len : Nat) → Code.wp Tryd.prog (aftIn 8 Tryd.f4) (bodyPost Tryd.prog Tryd.f4 (fun e w' => e = .returned (.bool true) ∧ Below w.heap.size w w')) ⟨t, []⟩ wr) ?_ t hz h0 h1 h3 h9 h11 h23 h24
  clear h0 h1 h3 h9 h11 h23 h24 hz t
  intro c0 c1 c2 c3 c4 c5 c6 c7 c8 c9 c10 c11 c12 c13 c14 c15 c16 c17 c18 c19 c20 c21 c22 c23 c24 c25 c26 c27 c28 c29 c30 c31 c32 c33 c34 c35 c36 c37 c38 c39 c40 c41 c42 c43 c44 c45 c46 c47 c48 c49 c50 c51 c52 c53 c54 c55 c56 c57 c58 c59 c60 c61 c62 c63 c64 c65 c66 c67 c68 c69 c70 c71 c72 c73 c74 c75 c76 c77 c78 c79 c80 c81 c82 c83 c84 c85 c86 c87 c88 c89 c90 c91 c92 c93 c94 c95 c96 c97 c98 c99 c100 c101 c102 c103 c104 c105 c106 c107 c108 c109 c110 c111 c112 c113 c114 c115 c116 c117 c118 c119 c120 c121 c122 c123 c124 c125 c126 c127 c128 c129 c130 c131 c132 c133 c134 c135 c136 c137 c138 c139 c140 c141 c142 c143 c144 c145 c146 c147 c148 c149 c150 c151 c152 c153 c154 c155 c156 c157 c158 c159 c160 c161 c162 c163 c164 c165 c166 c167 c168 c169 c170 c171 c172 c173 c174 c175 c176 c177 c178 c179 c180 c181 c182 c183 c184 c185 c186 c187 c188 c189 c190 c191 c192 c193 c194 c195 c196 c197 c198 c199 c200 c201 c202 c203 c204 c205 c206 c207 c208 c209 c210 c211 c212 c213 c214 c215 c216 c217 c218 c219 h0 h1 h3 h9 h11 h23 h24
  replace h0 : c0 = .int .u64 (n0 : Nat) := h0
  replace h1 : c1 = .slice ad len cap := h1
  replace h3 : c3 = .int .u16 (ti : Nat) := h3
  replace h9 : c9 = .pointer (some ⟨g.wb, 0, none⟩) := h9
  replace h11 : c11 = .map (some mb) := h11
  replace h23 : c23 = .int .i64 ((cntE F P len : Nat) : Int) := h23
  replace h24 : c24 = .int .i64 (len : Nat) := h24
  subst h0
  subst h1
  subst h3
  subst h9
  subst h11
  subst h23
  subst h24
  conv => arg 2; whnf
  have TB := Lib.hid T
  clear hv hu T
  have ca := REL.out.cnt_all
  rw [ca]
  go_wp2_with fail
  refine (REL.out.d.len TB.out (by have := REL.out.ql; omega)).mono ?_
  rintro e w5 ⟨rfl, c5⟩
  have C5 := Lib.hid (REL.out.d.c.trans c5)
  clear c5 REL ca
  go_wp2
  go_ret
  exact ⟨rfl, C5.out.below (Nat.le_refl _) (fun _ _ e => e.elim)⟩
set_option maxRecDepth 100000 in
set_option maxHeartbeats 0 in
theorem wx_mid3 (w : World) (g : Wh) (ad bd : Option Addr) (n0 ti len cap blen bcap mb : Nat) (zs ys : List Int) (tt : Nat) (hv : IsRow .u16 w ad len cap zs) (hu : IsRow .u8 w bd blen bcap ys) (T : Tab w) (h60 : len ≤ 60) (hb60 : blen ≤ 60) (bn : n0 ≤ 18446744073709351615) (bt : ti ≤ 65535) (htt : tt = ti % 6000)  (a : Act) (wr : World) (H : wxCI w g ad bd n0 ti len cap blen bcap mb zs ys tt tt a wr) :
    Code.wp Tryd.prog (aftIn 4 Tryd.f4) (bodyPost Tryd.prog Tryd.f4 (fun e w' => e = .returned (.bool true) ∧ Below w.heap.size w w')) a wr := by
  obtain ⟨t, ds⟩ := a
  obtain ⟨P, Q, F, ar, cr, mm, hd', hz, h0, h1, h3, h9, h11, h17, rel⟩ := H
  replace hd' : ds = [] := hd'
  subst hd'
  replace hz : t.size = 220 := hz
  replace h0 : t.getD 0 undef = .int .u64 (n0 : Nat) := h0
  replace h1 : t.getD 1 undef = .slice ad len cap := h1
  replace h3 : t.getD 3 undef = .int .u16 (ti : Nat) := h3
  replace h9 : t.getD 9 undef = .pointer (some ⟨g.wb, 0, none⟩) := h9
  replace h11 : t.getD 11 undef = .map (some mb) := h11
  replace h17 : t.getD 17 undef = .int .i64 (tt : Nat) := h17
  have REL := Lib.hid rel
  clear rel
  refine openFr220 (P := fun t => t.getD 0 undef = .int .u64 (n0 : Nat) → t.getD 1 undef = .slice ad len cap → t.getD 3 undef = .int .u16 (ti : Nat) → t.getD 9 undef = .pointer (some ⟨g.wb, 0, none⟩) → t.getD 11 undef = .map (some mb) → t.getD 17 undef = .int .i64 (tt : Nat) → Code.wp Tryd.prog (aftIn 4 Tryd.f4) (bodyPost Tryd.prog Tryd.f4 (fun e w' => e = .returned (.bool true) ∧ Below w.heap.size w w')) ⟨t, []⟩ wr) ?_ t hz h0 h1 h3 h9 h11 h17
  clear h0 h1 h3 h9 h11 h17 hz t
  intro c0 c1 c2 c3 c4 c5 c6 c7 c8 c9 c10 c11 c12 c13 c14 c15 c16 c17 c18 c19 c20 c21 c22 c23 c24 c25 c26 c27 c28 c29 c30 c31 c32 c33 c34 c35 c36 c37 c38 c39 c40 c41 c42 c43 c44 c45 c46 c47 c48 c49 c50 c51 c52 c53 c54 c55 c56 c57 c58 c59 c60 c61 c62 c63 c64 c65 c66 c67 c68 c69 c70 c71 c72 c73 c74 c75 c76 c77 c78 c79 c80 c81 c82 c83 c84 c85 c86 c87 c88 c89 c90 c91 c92 c93 c94 c95 c96 c97 c98 c99 c100 c101 c102 c103 c104 c105 c106 c107 c108 c109 c110 c111 c112 c113 c114 c115 c116 c117 c118 c119 c120 c121 c122 c123 c124 c125 c126 c127 c128 c129 c130 c131 c132 c133 c134 c135 c136 c137 c138 c139 c140 c141 c142 c143 c144 c145 c146 c147 c148 c149 c150 c151 c152 c153 c154 c155 c156 c157 c158 c159 c160 c161 c162 c163 c164 c165 c166 c167 c168 c169 c170 c171 c172 c173 c174 c175 c176 c177 c178 c179 c180 c181 c182 c183 c184 c185 c186 c187 c188 c189 c190 c191 c192 c193 c194 c195 c196 c197 c198 c199 c200 c201 c202 c203 c204 c205 c206 c207 c208 c209 c210 c211 c212 c213 c214 c215 c216 c217 c218 c219 h0 h1 h3 h9 h11 h17
  replace h0 : c0 = .int .u64 (n0 : Nat) := h0
  replace h1 : c1 = .slice ad len cap := h1
  replace h3 : c3 = .int .u16 (ti : Nat) := h3
  replace h9 : c9 = .pointer (some ⟨g.wb, 0, none⟩) := h9
  replace h11 : c11 = .map (some mb) := h11
  replace h17 : c17 = .int .i64 (tt : Nat) := h17
  subst h0
  subst h1
  subst h3
  subst h9
  subst h11
  subst h17
  conv => arg 2; whnf
  have HV := Lib.hid hv
  have HU := Lib.hid hu
  have TB := Lib.hid T
  clear T hv hu
  have R1 := Lib.hid REL.out.1
  have c0 : cntE F P 0 = 0 := by simp [cntE]
  go_wp2
  refine wp_mono (wxE_loop w g ad bd n0 ti len cap blen bcap mb zs ys tt P Q F ar cr mm HV.out HU.out TB.out h60 hb60 bn bt htt _ _ (by omega) ?hI) ?_
  case hI => exact ⟨rfl, rfl, rfl, rfl, rfl, rfl, rfl, by rw [c0]; rfl, rfl, R1.out⟩
  rename_i K hK
  intro e a' w' hp
  obtain ⟨rfl, H⟩ := Qx_inv hp
  exact hK _ _ (wx_end w g ad bd n0 ti len cap blen bcap mb zs ys tt P Q F ar cr mm HV.out HU.out TB.out h60 hb60 bn bt htt a' w' H)

set_option maxRecDepth 100000 in
set_option maxHeartbeats 0 in
theorem wx_mid2 (w : World) (g : Wh) (ad bd : Option Addr) (n0 ti len cap blen bcap mb : Nat) (zs ys : List Int) (bb : Nat) (hv : IsRow .u16 w ad len cap zs) (hu : IsRow .u8 w bd blen bcap ys) (T : Tab w) (h60 : len ≤ 60) (hb60 : blen ≤ 60) (bn : n0 ≤ 18446744073709351615) (bt : ti ≤ 65535) (hbb : (len = 0 ∧ bb = 0) ∨ (0 < len ∧ bb = blen))  (a : Act) (wr : World) (H : wxBI w g ad bd n0 ti len cap blen bcap mb zs ys bb bb a wr) :
    Code.wp Tryd.prog (aftIn 2 Tryd.f4) (bodyPost Tryd.prog Tryd.f4 (fun e w' => e = .returned (.bool true) ∧ Below w.heap.size w w')) a wr := by
  obtain ⟨t, ds⟩ := a
  obtain ⟨P, Q, F, ar, cr, mm, hd', hz, h0, h1, h3, h9, h11, h2, h10, h15, rel⟩ := H
  replace hd' : ds = [] := hd'
  subst hd'
  replace hz : t.size = 220 := hz
  replace h0 : t.getD 0 undef = .int .u64 (n0 : Nat) := h0
  replace h1 : t.getD 1 undef = .slice ad len cap := h1
  replace h3 : t.getD 3 undef = .int .u16 (ti : Nat) := h3
  replace h9 : t.getD 9 undef = .pointer (some ⟨g.wb, 0, none⟩) := h9
  replace h11 : t.getD 11 undef = .map (some mb) := h11
  replace h2 : t.getD 2 undef = .slice bd blen bcap := h2
  replace h10 : t.getD 10 undef = .slice ar len cr := h10
  replace h15 : t.getD 15 undef = .int .i64 (bb : Nat) := h15
  have REL := Lib.hid rel
  clear rel
  refine openFr220 (P := fun t => t.getD 0 undef = .int .u64 (n0 : Nat) → t.getD 1 undef = .slice ad len cap → t.getD 3 undef = .int .u16 (ti : Nat) → t.getD 9 undef = .pointer (some ⟨g.wb, 0, none⟩) → t.getD 11 undef = .map (some mb) → t.getD 2 undef = .slice bd blen bcap → t.getD 10 undef = .slice ar len cr → t.getD 15 undef = .int .i64 (bb : Nat) → Code.wp Tryd.prog (aftIn 2 Tryd.f4) (bodyPost Tryd.prog Tryd.f4 (fun e w' => e = .returned (.bool true) ∧ Below w.heap.size w w')) ⟨t, []⟩ wr) ?_ t hz h0 h1 h3 h9 h11 h2 h10 h15
  clear h0 h1 h3 h9 h11 h2 h10 h15 hz t
  intro c0 c1 c2 c3 c4 c5 c6 c7 c8 c9 c10 c11 c12 c13 c14 c15 c16 c17 c18 c19 c20 c21 c22 c23 c24 c25 c26 c27 c28 c29 c30 c31 c32 c33 c34 c35 c36 c37 c38 c39 c40 c41 c42 c43 c44 c45 c46 c47 c48 c49 c50 c51 c52 c53 c54 c55 c56 c57 c58 c59 c60 c61 c62 c63 c64 c65 c66 c67 c68 c69 c70 c71 c72 c73 c74 c75 c76 c77 c78 c79 c80 c81 c82 c83 c84 c85 c86 c87 c88 c89 c90 c91 c92 c93 c94 c95 c96 c97 c98 c99 c100 c101 c102 c103 c104 c105 c106 c107 c108 c109 c110 c111 c112 c113 c114 c115 c116 c117 c118 c119 c120 c121 c122 c123 c124 c125 c126 c127 c128 c129 c130 c131 c132 c133 c134 c135 c136 c137 c138 c139 c140 c141 c142 c143 c144 c145 c146 c147 c148 c149 c150 c151 c152 c153 c154 c155 c156 c157 c158 c159 c160 c161 c162 c163 c164 c165 c166 c167 c168 c169 c170 c171 c172 c173 c174 c175 c176 c177 c178 c179 c180 c181 c182 c183 c184 c185 c186 c187 c188 c189 c190 c191 c192 c193 c194 c195 c196 c197 c198 c199 c200 c201 c202 c203 c204 c205 c206 c207 c208 c209 c210 c211 c212 c213 c214 c215 c216 c217 c218 c219 h0 h1 h3 h9 h11 h2 h10 h15
  replace h0 : c0 = .int .u64 (n0 : Nat) := h0
  replace h1 : c1 = .slice ad len cap := h1
  replace h3 : c3 = .int .u16 (ti : Nat) := h3
  replace h9 : c9 = .pointer (some ⟨g.wb, 0, none⟩) := h9
  replace h11 : c11 = .map (some mb) := h11
  replace h2 : c2 = .slice bd blen bcap := h2
  replace h10 : c10 = .slice ar len cr := h10
  replace h15 : c15 = .int .i64 (bb : Nat) := h15
  subst h0
  subst h1
  subst h3
  subst h9
  subst h11
  subst h2
  subst h10
  subst h15
  conv => arg 2; whnf
  have HV := Lib.hid hv
  have HU := Lib.hid hu
  have TB := Lib.hid T
  clear T hv hu
  have R1 : Hid (Ex w g mb n0 zs len mm (n0 + 0) P Q F ar cr wr ∧ mm ≤ 60 + 60 * 0) := Lib.hid ⟨REL.out.1, by have := REL.out.2; rcases hbb with h | h <;> omega⟩
  go_wp2
  refine wp_mono (wxC_loop w g ad bd n0 ti len cap blen bcap mb zs ys (ti % 6000) HV.out HU.out TB.out h60 hb60 bn bt rfl _ _ (by omega) ?hI) ?_
  case hI => exact ⟨_, _, _, _, _, _, rfl, rfl, rfl, rfl, rfl, rfl, rfl, rfl, R1.out⟩
  rename_i K hK
  intro e a' w' hp
  obtain ⟨rfl, H⟩ := Qx_inv hp
  exact hK _ _ (wx_mid3 w g ad bd n0 ti len cap blen bcap mb zs ys (ti % 6000) HV.out HU.out TB.out h60 hb60 bn bt rfl a' w' H)

set_option maxRecDepth 100000 in
set_option maxHeartbeats 0 in
theorem wx_mid1 (w : World) (g : Wh) (ad bd : Option Addr) (n0 ti len cap blen bcap mb : Nat) (zs ys : List Int) (hv : IsRow .u16 w ad len cap zs) (hu : IsRow .u8 w bd blen bcap ys) (T : Tab w) (h60 : len ≤ 60) (hb60 : blen ≤ 60) (bn : n0 ≤ 18446744073709351615) (bt : ti ≤ 65535)  (a : Act) (wr : World) (H : wxAI w g ad bd n0 ti len cap blen bcap mb zs ys len a wr) :
    Code.wp Tryd.prog (aftIn 0 Tryd.f4) (bodyPost Tryd.prog Tryd.f4 (fun e w' => e = .returned (.bool true) ∧ Below w.heap.size w w')) a wr := by
  obtain ⟨t, ds⟩ := a
  obtain ⟨P, Q, ar, cr, hd', hz, h0, h1, h3, h9, h11, h2, h10, h12, rel⟩ := H
  replace hd' : ds = [] := hd'
  subst hd'
  replace hz : t.size = 220 := hz
  replace h0 : t.getD 0 undef = .int .u64 (n0 : Nat) := h0
  replace h1 : t.getD 1 undef = .slice ad len cap := h1
  replace h3 : t.getD 3 undef = .int .u16 (ti : Nat) := h3
  replace h9 : t.getD 9 undef = .pointer (some ⟨g.wb, 0, none⟩) := h9
  replace h11 : t.getD 11 undef = .map (some mb) := h11
  replace h2 : t.getD 2 undef = .slice bd blen bcap := h2
  replace h10 : t.getD 10 undef = .slice ar len cr := h10
  replace h12 : t.getD 12 undef = .int .i64 (len : Nat) := h12
  have REL := Lib.hid rel
  clear rel
  refine openFr220 (P := fun t => t.getD 0 undef = .int .u64 (n0 : Nat) → t.getD 1 undef = .slice ad len cap → t.getD 3 undef = .int .u16 (ti : Nat) → t.getD 9 undef = .pointer (some ⟨g.wb, 0, none⟩) → t.getD 11 undef = .map (some mb) → t.getD 2 undef = .slice bd blen bcap → t.getD 10 undef = .slice ar len cr → t.getD 12 undef = .int .i64 (len : Nat) → Code.wp Tryd.prog (aftIn 0 Tryd.f4) (bodyPost Tryd.prog Tryd.f4 (fun e w' => e = .returned (.bool true) ∧ Below w.heap.size w w')) ⟨t, []⟩ wr) ?_ t hz h0 h1 h3 h9 h11 h2 h10 h12
  clear h0 h1 h3 h9 h11 h2 h10 h12 hz t
  intro c0 c1 c2 c3 c4 c5 c6 c7 c8 c9 c10 c11 c12 c13 c14 c15 c16 c17 c18 c19 c20 c21 c22 c23 c24 c25 c26 c27 c28 c29 c30 c31 c32 c33 c34 c35 c36 c37 c38 c39 c40 c41 c42 c43 c44 c45 c46 c47 c48 c49 c50 c51 c52 c53 c54 c55 c56 c57 c58 c59 c60 c61 c62 c63 c64 c65 c66 c67 c68 c69 c70 c71 c72 c73 c74 c75 c76 c77 c78 c79 c80 c81 c82 c83 c84 c85 c86 c87 c88 c89 c90 c91 c92 c93 c94 c95 c96 c97 c98 c99 c100 c101 c102 c103 c104 c105 c106 c107 c108 c109 c110 c111 c112 c113 c114 c115 c116 c117 c118 c119 c120 c121 c122 c123 c124 c125 c126 c127 c128 c129 c130 c131 c132 c133 c134 c135 c136 c137 c138 c139 c140 c141 c142 c143 c144 c145 c146 c147 c148 c149 c150 c151 c152 c153 c154 c155 c156 c157 c158 c159 c160 c161 c162 c163 c164 c165 c166 c167 c168 c169 c170 c171 c172 c173 c174 c175 c176 c177 c178 c179 c180 c181 c182 c183 c184 c185 c186 c187 c188 c189 c190 c191 c192 c193 c194 c195 c196 c197 c198 c199 c200 c201 c202 c203 c204 c205 c206 c207 c208 c209 c210 c211 c212 c213 c214 c215 c216 c217 c218 c219 h0 h1 h3 h9 h11 h2 h10 h12
  replace h0 : c0 = .int .u64 (n0 : Nat) := h0
  replace h1 : c1 = .slice ad len cap := h1
  replace h3 : c3 = .int .u16 (ti : Nat) := h3
  replace h9 : c9 = .pointer (some ⟨g.wb, 0, none⟩) := h9
  replace h11 : c11 = .map (some mb) := h11
  replace h2 : c2 = .slice bd blen bcap := h2
  replace h10 : c10 = .slice ar len cr := h10
  replace h12 : c12 = .int .i64 (len : Nat) := h12
  subst h0
  subst h1
  subst h3
  subst h9
  subst h11
  subst h2
  subst h10
  subst h12
  conv => arg 2; whnf
  have HV := Lib.hid hv
  have HU := Lib.hid hu
  have TB := Lib.hid T
  clear T hv hu
  have R1 : Hid (Ex w g mb n0 zs len 0 n0 P Q (fun _ => 0) ar cr wr ∧ 0 ≤ 0) := Lib.hid ⟨REL.out, Nat.le_refl _⟩
  go_wp2
  refine wp_mono (wxB_loop w g ad bd n0 ti len cap blen bcap mb zs ys (if len = 0 then 0 else blen) HV.out HU.out TB.out h60 hb60 bn bt (by by_cases h : len = 0; exact .inl ⟨h, if_pos h⟩; exact .inr ⟨by omega, if_neg h⟩) _ _ (by omega) ?hI) ?_
  case hI => exact ⟨_, _, (fun _ => 0), _, _, 0, rfl, rfl, rfl, rfl, rfl, rfl, rfl, rfl, rfl, rfl, R1.out⟩
  rename_i K hK
  intro e a' w' hp
  obtain ⟨rfl, H⟩ := Qx_inv hp
  exact hK _ _ (wx_mid2 w g ad bd n0 ti len cap blen bcap mb zs ys (if len = 0 then 0 else blen) HV.out HU.out TB.out h60 hb60 bn bt (by by_cases h : len = 0; exact .inl ⟨h, if_pos h⟩; exact .inr ⟨by omega, if_neg h⟩) a' w' H)

end Go.Proofs.YtkdkkgbjfabifaaDoor
