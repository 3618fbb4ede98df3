/-
  ListActs, one round: an act, whatever it is, leaves all as the document says.
-/
import Derived.Test.YtmebkogkcnmkiaaActsRest
import Derived.Test.YtmebkogkcnmkiaaActsPush
import Derived.Deep.QuietTactic
import Derived.BigQuiet
import Derived.Deep.Cut
import Derived.Deep.CutRange
import Derived.Deep.CutBlock
import Derived.RegionTactic
import Derived.BigRegion
namespace Go.Proofs.Ytmebkogkcnmkiaa
open Go.RowKit Verge LI
set_option linter.unusedVariables false
set_option linter.unusedSimpArgs false
attribute [local go_sem] Oper.semAt_some

theorem act_eq : actOf Try.f3 = .seq (fstC (actOf Try.f3)) (.seq (fstC (sndC (actOf Try.f3))) (.seq (pushOf Try.f3) (restOf Try.f3))) := by kernel_rfl

set_option maxRecDepth 100000 in
set_option maxHeartbeats 0 in
theorem act_all {w wr : World} {lb : Nat → Nat} {x : Addr} {len cap ab wb k : Nat} {a : Act} (hv : IsTab [.i .i64, .i .i64, .i .i64, .i .i64] w (some x) len cap) (hlt : k < len) (hl60 : len ≤ 60) (hcap : len ≤ cap ∧ cap ≤ maxLen) (h : Inv w lb (.slice (some x) len cap) ab wb k k a wr) :
    Code.wp Try.prog (actOf Try.f3) (Exit.then (Inv w lb (.slice (some x) len cap) ab wb k (k + 1)) (fun _ _ _ => False)) a wr := by
  obtain ⟨t, ds⟩ := a
  obtain ⟨q, M, R, nb, V, Val, L, ra, rc, va, vc, an, cn, hd, ⟨hz, h0, h3, h4, h5s, h6⟩, ⟨⟨tb0, nt0, T0, hH⟩, hvv, hqk, htk⟩⟩ := h
  replace hd : ds = [] := hd
  subst hd
  rw [act_eq]
  refine openFr (P := fun t => t.getD 0 undef = .slice (some x) len cap → t.getD 3 undef = .pointer (some ⟨ab, 0, none⟩) → t.getD 4 undef = .slice an q cn → t.getD 5 undef = .pointer (some ⟨wb, 0, none⟩) → t.getD 6 undef = .int .i64 k → Code.wp Try.prog (.seq (fstC (actOf Try.f3)) (.seq (fstC (sndC (actOf Try.f3))) (.seq (pushOf Try.f3) (restOf Try.f3)))) (Exit.then (Inv w lb (.slice (some x) len cap) ab wb k (k + 1)) (fun _ _ _ => False)) ⟨t, []⟩ wr) ?_ t hz h0 h3 h4 h5s h6
  clear h0 h3 h4 h5s h6 hz t
  intro c0 c1 c2 c3 c4 c5 c6 c7 c8 c9 c10 c11 c12 c13 c14 c15 c16 c17 c18 c19 c20 c21 c22 c23 c24 c25 c26 c27 c28 c29 c30 c31 c32 c33 c34 c35 c36 c37 c38 c39 c40 c41 c42 c43 c44 c45 c46 c47 c48 c49 c50 c51 c52 c53 c54 c55 c56 c57 c58 c59 c60 c61 c62 c63 c64 c65 c66 c67 c68 c69 c70 c71 c72 c73 c74 c75 c76 c77 c78 c79 c80 c81 c82 c83 c84 c85 c86 c87 c88 c89 c90 c91 c92 c93 c94 c95 c96 c97 c98 c99 c100 c101 c102 c103 c104 c105 c106 c107 c108 c109 c110 c111 c112 c113 c114 c115 c116 c117 c118 c119 c120 c121 c122 c123 c124 c125 c126 c127 c128 c129 c130 c131 c132 c133 c134 c135 c136 c137 c138 c139 c140 c141 c142 c143 c144 c145 c146 c147 c148 c149 c150 c151 c152 c153 c154 c155 c156 c157 c158 c159 c160 c161 c162 c163 c164 c165 c166 c167 c168 c169 c170 c171 c172 c173 c174 c175 c176 c177 c178 c179 c180 c181 c182 c183 c184 c185 c186 c187 c188 c189 c190 c191 c192 c193 c194 c195 c196 c197 c198 c199 c200 c201 c202 c203 c204 c205 c206 c207 c208 c209 c210 c211 c212 c213 c214 c215 c216 c217 c218 c219 c220 c221 c222 c223 c224 c225 c226 c227 c228 c229 c230 c231 c232 c233 c234 c235 c236 c237 c238 c239 c240 c241 c242 c243 c244 c245 c246 c247 c248 c249 c250 c251 h0 h3 h4 h5s h6
  replace h0 : c0 = .slice (some x) len cap := h0
  replace h3 : c3 = .pointer (some ⟨ab, 0, none⟩) := h3
  replace h4 : c4 = .slice an q cn := h4
  replace h5s : c5 = .pointer (some ⟨wb, 0, none⟩) := h5s
  replace h6 : c6 = .int .i64 k := h6
  subst h0
  subst h3
  subst h4
  subst h5s
  subst h6
  have hsm := hv.small
  rcases hv with ⟨hv, -⟩ | ⟨x', hx', -, -, hx⟩
  · cases hv
  cases hx'
  obtain ⟨_, q0, y0, rfl, -⟩ := hx k hlt 0 _ rfl
  obtain ⟨_, q1, y1, rfl, wy1⟩ := hx k hlt 1 _ rfl
  obtain ⟨_, q2, y2, rfl, wy2⟩ := hx k hlt 2 _ rfl
  obtain ⟨_, q3, y3, rfl, -⟩ := hx k hlt 3 _ rfl
  clear hx
  have q0' := hH.c.keeps q0 (fun e => e)
  have q1' := cell_at (k * 4) 1 (hH.c.keeps q1 (fun e => e))
  have q2' := cell_at (k * 4) 2 (hH.c.keeps q2 (fun e => e))
  have q3' := cell_at (k * 4) 3 (hH.c.keeps q3 (fun e => e))
  rw [show k * [Leaf.i .i64, .i .i64, .i .i64, .i .i64].length + 0 = k * 4 from rfl] at q0'
  have hkz : (k : Int) < (len : Int) := by omega
  have hkz0 : (0 : Int) ≤ (k : Int) := by omega
  clear q0 q1 q2 q3
  have HH := Lib.hid hH
  have HVV := Lib.hid hvv
  have HTK := Lib.hid htk
  clear hH hvv htk
  refine wp_seq_k fun K hK => ?_
  have HK := Lib.hid hK
  clear hK
  conv => arg 2; whnf
  go_wp2
  refine HK.out _ _ ?_
  clear HK K q0' q1' q2' q3'
  have H4 := Lib.hid (HH.out.act y0 y1 y2 y3 34)
  clear HH
  generalize wr.alloc (.cells #[.int .i64 y0, .int .i64 y1, .int .i64 y2, .int .i64 y3] 34) = w4 at H4 ⊢
  obtain ⟨tb, htb⟩ : ∃ tb, tb = wr.heap.size := ⟨_, rfl⟩
  rw [← htb] at H4 ⊢
  clear htb
  have b0 : w4.cell? ⟨tb, 0, none⟩ = some (.int .i64 y0) := H4.out.t 0 (by omega)
  have b1 : w4.cell? ⟨tb, 1, none⟩ = some (.int .i64 y1) := H4.out.t 1 (by omega)
  have b2 : w4.cell? ⟨tb, 2, none⟩ = some (.int .i64 y2) := H4.out.t 2 (by omega)
  have b3 : w4.cell? ⟨tb, 3, none⟩ = some (.int .i64 y3) := H4.out.t 3 (by omega)
  refine wp_seq_k fun K hK => ?_
  have HK := Lib.hid hK
  clear hK
  conv => arg 2; whnf
  go_region
  clear b0 b1 b2 b3 wy1 wy2
  generalize hm1 : (if 0 < y1 then y1 else 0) = m1
  generalize hm2 : (if 0 < y2 then y2 else 0) = m2
  have g1 : 0 ≤ m1 := by rw [← hm1]; split <;> omega
  have g2 : 0 ≤ m2 := by rw [← hm2]; split <;> omega
  obtain ⟨kk, hkk, hk3⟩ : ∃ kk : Nat, m1 % 3 = kk ∧ kk < 3 := ⟨(m1 % 3).toNat, by omega, by omega⟩
  obtain ⟨oo, hoo, ho3⟩ : ∃ oo : Nat, m2 % 3 = oo ∧ oo < 3 := ⟨(m2 % 3).toNat, by omega, by omega⟩
  rw [hkk, hoo]
  clear hm1 hm2 g1 g2 hkk hoo
  go_wp2
  refine HK.out _ _ ?_
  clear HK K
  have H5 := Lib.hid (H4.out.nil ((Ch.refl Nil w4).drew))
  clear H4
  generalize w4.drew = w5 at H5 ⊢
  by_cases hy0 : y0 = 0
  · subst hy0
    exact act_next (case_push _ ⟨⟨rfl, rfl, rfl, rfl, rfl, rfl⟩, rfl, rfl, rfl⟩ H5.out HVV.out hqk HTK.out (by omega) hk3 ho3) (fun a' w' hm => act_rest hm (.inr ⟨rfl, rfl⟩) (by omega) hk3 ho3)
  · have t0 : (y0 == 0) = false := by rw [beq_eq_false_iff_ne]; exact hy0
    have b0 : w5.cell? ⟨tb, 0, none⟩ = some (.int .i64 y0) := H5.out.t 0 (by omega)
    refine wp_seq_k fun K hK => ?_
    have HK := Lib.hid hK
    clear hK
    conv => arg 2; whnf
    go_wp2
    refine HK.out _ _ ?_
    exact act_rest (b := k) ⟨q, _, _, _, _, _, _, _, _, _, _, _, _, rfl, ⟨⟨rfl, rfl, rfl, rfl, rfl, rfl⟩, rfl, rfl, rfl⟩, H5.out, HVV.out, hqk, HTK.out⟩ (.inl rfl) (by omega) hk3 ho3
end Go.Proofs.Ytmebkogkcnmkiaa
