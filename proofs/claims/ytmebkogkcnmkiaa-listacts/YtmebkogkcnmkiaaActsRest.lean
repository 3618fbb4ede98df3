/-
  ListActs, an act behind its push: whatever its kind, all stands as the document says.
-/
import Derived.Test.YtmebkogkcnmkiaaActsK1
import Derived.Test.YtmebkogkcnmkiaaActsK2
import Derived.Test.YtmebkogkcnmkiaaActsK3
import Derived.Test.YtmebkogkcnmkiaaActsK4
import Derived.Test.YtmebkogkcnmkiaaActsE
import Derived.Test.YtmebkogkcnmkiaaActsEnd
import Derived.Deep.QuietTactic
import Derived.BigQuiet
import Derived.Deep.Cut
import Derived.Deep.CutRange
import Derived.Deep.CutBlock
import Derived.RegionTactic
import Derived.BigRegion
namespace Go.Proofs.Ytmebkogkcnmkiaa
open Go.RowKit Verge LI
set_option linter.unusedVariables false
set_option linter.unusedSimpArgs false
attribute [local go_sem] Oper.semAt_some

theorem rest_eq : restOf Try.f3 = .seq (fstC (restOf Try.f3)) (.seq (fstC (sndC (restOf Try.f3))) (.seq (caseOf Try.f3) (endOf Try.f3))) := by kernel_rfl
theorem act_next {P : Program} {x y : Code} {I : Act → World → Prop} {I' : Act → World → Prop} {a : Act} {w : World} (h : Code.wp P x (Exit.then I (fun _ _ _ => False)) a w) (h' : ∀ a w, I a w → Code.wp P y (Exit.then I' (fun _ _ _ => False)) a w) : Code.wp P (.seq x y) (Exit.then I' (fun _ _ _ => False)) a w := by
  refine wp_seq (wp_mono h ?_)
  intro e a' w' hp
  cases e with
  | normal => exact h' a' w' hp
  | _ => exact hp.elim

theorem val_eq {z z' : Int} (h : z = z') : Value.int .i64 z = .int .i64 z' := by rw [h]
theorem act_case {w w5 : World} {lb : Nat → Nat} {s0 : Value} {ab wb k b tb kk oo q : Nat} {y0 y1 y2 y3 : Int} {M R : Nat → Prop} {nb : Nat → Nat} {V Val : Nat → Int} {L : Nat → List Nat} {ra : Nat → Option Addr} {rc : Nat → Nat} {va : Option Addr} {vc : Nat} {an : Option Addr} {cn : Nat} (mN : Nat) (t : Array Value) (F : FrM s0 ab wb k tb kk oo (.slice an q cn) t) (hn : t.getD 11 undef = .int .i64 (mN : Nat)) (h5 : ActH w w5 lb ab wb tb 4 q q q (fun j => [y0, y1, y2, y3].getD j 0) M R nb V Val L L ra rc va vc an cn) (hvv : ∀ j, j < q → V (nb j) = Val j) (hqk : q ≤ b) (htk : tot L ≤ b) (hb : b = k ∨ (y0 = 0 ∧ b = k + 1)) (hk60 : k < 60) (hk3 : kk < 3) (ho3 : oo < 3) (hmN : mN < q) :
    Code.wp Try.prog (.seq (caseOf Try.f3) (endOf Try.f3)) (Exit.then (Inv w lb s0 ab wb k (k + 1)) (fun _ _ _ => False)) ⟨t, []⟩ w5 := by
  refine act_next ?_ (fun a' w' => act_end hk60)
  by_cases hy1 : y0 = 1
  · subst hy1
    obtain rfl : b = k := hb.resolve_right (fun h => by omega)
    exact case_put mN _ F hn h5 hvv hqk htk hk60 hk3 ho3 hmN
  by_cases hy2 : y0 = 2
  · subst hy2
    obtain rfl : b = k := hb.resolve_right (fun h => by omega)
    exact case_unlink mN _ F hn h5 hvv hqk htk hk60 hk3 ho3 hmN
  by_cases hy3 : y0 = 3
  · subst hy3
    obtain rfl : b = k := hb.resolve_right (fun h => by omega)
    exact case_splice _ F hn h5 hvv hqk htk hk60 hk3 ho3
  by_cases hy4 : y0 = 4
  · subst hy4
    obtain rfl : b = k := hb.resolve_right (fun h => by omega)
    exact case_drain _ F hn h5 hvv hqk htk hk60 hk3 ho3
  have hb2 : b ≤ k + 1 := by omega
  exact case_none _ F hn h5 hvv (by omega) (Nat.le_trans htk hb2) hk60 hk3 ho3 (.inl hy1) (.inl hy2) hy3 hy4

set_option maxRecDepth 100000 in
set_option maxHeartbeats 0 in
theorem act_rest {w w5 : World} {lb : Nat → Nat} {s0 : Value} {ab wb k b tb kk oo : Nat} {y0 y1 y2 y3 : Int} {a : Act} (h : Mid w lb s0 ab wb k b tb kk oo (fun j => [y0, y1, y2, y3].getD j 0) a w5) (hb : b = k ∨ (y0 = 0 ∧ b = k + 1)) (hk60 : k < 60) (hk3 : kk < 3) (ho3 : oo < 3) :
    Code.wp Try.prog (restOf Try.f3) (Exit.then (Inv w lb s0 ab wb k (k + 1)) (fun _ _ _ => False)) a w5 := by
  obtain ⟨t, ds⟩ := a
  obtain ⟨q, M, R, nb, V, Val, L, ra, rc, va, vc, an, cn, hd, ⟨⟨hz, h0, h3, h4, h5s, h6⟩, h7, h8, h9⟩, h5, hvv, hqk, htk⟩ := h
  replace hd : ds = [] := hd
  subst hd
  rw [rest_eq]
  refine openFr (P := fun t => t.getD 0 undef = s0 → t.getD 3 undef = .pointer (some ⟨ab, 0, none⟩) → t.getD 4 undef = .slice an q cn → t.getD 5 undef = .pointer (some ⟨wb, 0, none⟩) → t.getD 6 undef = .int .i64 k → t.getD 7 undef = .pointer (some ⟨tb, 0, none⟩) → t.getD 8 undef = .int .i64 kk → t.getD 9 undef = .int .i64 oo → Code.wp Try.prog (.seq (fstC (restOf Try.f3)) (.seq (fstC (sndC (restOf Try.f3))) (.seq (caseOf Try.f3) (endOf Try.f3)))) (Exit.then (Inv w lb s0 ab wb k (k + 1)) (fun _ _ _ => False)) ⟨t, []⟩ w5) ?_ t hz h0 h3 h4 h5s h6 h7 h8 h9
  clear h0 h3 h4 h5s h6 h7 h8 h9 hz t
  intro c0 c1 c2 c3 c4 c5 c6 c7 c8 c9 c10 c11 c12 c13 c14 c15 c16 c17 c18 c19 c20 c21 c22 c23 c24 c25 c26 c27 c28 c29 c30 c31 c32 c33 c34 c35 c36 c37 c38 c39 c40 c41 c42 c43 c44 c45 c46 c47 c48 c49 c50 c51 c52 c53 c54 c55 c56 c57 c58 c59 c60 c61 c62 c63 c64 c65 c66 c67 c68 c69 c70 c71 c72 c73 c74 c75 c76 c77 c78 c79 c80 c81 c82 c83 c84 c85 c86 c87 c88 c89 c90 c91 c92 c93 c94 c95 c96 c97 c98 c99 c100 c101 c102 c103 c104 c105 c106 c107 c108 c109 c110 c111 c112 c113 c114 c115 c116 c117 c118 c119 c120 c121 c122 c123 c124 c125 c126 c127 c128 c129 c130 c131 c132 c133 c134 c135 c136 c137 c138 c139 c140 c141 c142 c143 c144 c145 c146 c147 c148 c149 c150 c151 c152 c153 c154 c155 c156 c157 c158 c159 c160 c161 c162 c163 c164 c165 c166 c167 c168 c169 c170 c171 c172 c173 c174 c175 c176 c177 c178 c179 c180 c181 c182 c183 c184 c185 c186 c187 c188 c189 c190 c191 c192 c193 c194 c195 c196 c197 c198 c199 c200 c201 c202 c203 c204 c205 c206 c207 c208 c209 c210 c211 c212 c213 c214 c215 c216 c217 c218 c219 c220 c221 c222 c223 c224 c225 c226 c227 c228 c229 c230 c231 c232 c233 c234 c235 c236 c237 c238 c239 c240 c241 c242 c243 c244 c245 c246 c247 c248 c249 c250 c251 h0 h3 h4 h5s h6 h7 h8 h9
  replace h0 : c0 = s0 := h0
  replace h3 : c3 = .pointer (some ⟨ab, 0, none⟩) := h3
  replace h4 : c4 = .slice an q cn := h4
  replace h5s : c5 = .pointer (some ⟨wb, 0, none⟩) := h5s
  replace h6 : c6 = .int .i64 k := h6
  replace h7 : c7 = .pointer (some ⟨tb, 0, none⟩) := h7
  replace h8 : c8 = .int .i64 kk := h8
  replace h9 : c9 = .int .i64 oo := h9
  subst h0
  subst h3
  subst h4
  subst h5s
  subst h6
  subst h7
  subst h8
  subst h9
  have H5 := Lib.hid h5
  have HVV := Lib.hid hvv
  have HTK := Lib.hid htk
  have b2 : w5.cell? ⟨tb, 2, none⟩ = some (.int .i64 y2) := h5.t 2 (by omega)
  clear h5 hvv htk
  refine wp_seq_k fun K hK => ?_
  have HK := Lib.hid hK
  clear hK
  conv => arg 2; whnf
  go_wp2
  refine HK.out _ _ ?_
  clear HK K
  refine wp_seq_k fun K hK => ?_
  have HK := Lib.hid hK
  clear hK
  conv => arg 2; whnf
  by_cases hq0 : q = 0
  · subst hq0
    go_wp2
    refine HK.out _ _ ?_
    clear HK K b2
    refine act_next ?_ (fun a' w' => act_end hk60)
    by_cases hy3 : y0 = 3
    · subst hy3
      obtain rfl : b = k := hb.resolve_right (fun h => by omega)
      exact case_splice _ ⟨⟨rfl, rfl, rfl, rfl, rfl, rfl⟩, rfl, rfl, rfl⟩ rfl H5.out HVV.out hqk HTK.out hk60 hk3 ho3
    by_cases hy4 : y0 = 4
    · subst hy4
      obtain rfl : b = k := hb.resolve_right (fun h => by omega)
      exact case_drain _ ⟨⟨rfl, rfl, rfl, rfl, rfl, rfl⟩, rfl, rfl, rfl⟩ rfl H5.out HVV.out hqk HTK.out hk60 hk3 ho3
    have hb2 : b ≤ k + 1 := by omega
    exact case_none _ ⟨⟨rfl, rfl, rfl, rfl, rfl, rfl⟩, rfl, rfl, rfl⟩ rfl H5.out HVV.out (by omega) (Nat.le_trans HTK.out hb2) hk60 hk3 ho3 (.inr (by decide)) (.inr (by decide)) hy3 hy4
  · have hqz : (0 : Int) < (q : Int) := by omega
    by_cases hy : 0 < y2
    · obtain ⟨mN, hmn, hmN⟩ := mod_u8 (n := q) (show 0 ≤ y2 by omega) (by omega)
      have HM := Lib.hid hmn
      clear hmn
      go_wp2
      refine HK.out _ _ ?_
      exact act_case mN _ ⟨⟨rfl, rfl, rfl, rfl, rfl, rfl⟩, rfl, rfl, rfl⟩ (val_eq HM.out) H5.out HVV.out hqk HTK.out hb hk60 hk3 ho3 hmN
    · have hy' : y2 ≤ 0 := by omega
      clear hy
      go_wp2
      refine HK.out _ _ ?_
      exact act_case 0 _ ⟨⟨rfl, rfl, rfl, rfl, rfl, rfl⟩, rfl, rfl, rfl⟩ (val_eq (by simp)) H5.out HVV.out hqk HTK.out hb hk60 hk3 ho3 (by omega)
end Go.Proofs.Ytmebkogkcnmkiaa
