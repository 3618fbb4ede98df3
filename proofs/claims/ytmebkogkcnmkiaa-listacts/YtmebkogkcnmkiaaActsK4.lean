/-
  ListActs, the case Drain: what the list drains is what the document says, and both are empty then.
-/
import Derived.Test.YtmebkogkcnmkiaaActsCode
import Derived.Test.YtmebkogkcnmkiaaHeld
import Derived.Deep.QuietTactic
import Derived.BigQuiet
import Derived.Deep.Cut
import Derived.Deep.CutRange
import Derived.Deep.CutBlock
import Derived.RegionTactic
import Derived.BigRegion
namespace Go.Proofs.Ytmebkogkcnmkiaa
open Go.RowKit Verge LI
set_option linter.unusedVariables false
set_option linter.unusedSimpArgs false
attribute [local go_sem] Oper.semAt_some

set_option maxRecDepth 100000 in
set_option maxHeartbeats 0 in
theorem case_drain {w w5 : World} {lb : Nat → Nat} {s0 : Value} {ab wb k tb kk oo q : Nat} {M R : Nat → Prop} {nb : Nat → Nat} {V Val : Nat → Int} {L : Nat → List Nat} {ra : Nat → Option Addr} {rc : Nat → Nat} {va : Option Addr} {vc : Nat} {an : Option Addr} {cn : Nat} {nz y1 y2 y3 : Int} (t : Array Value) (F : FrM s0 ab wb k tb kk oo (.slice an q cn) t) (hn : t.getD 11 undef = .int .i64 nz) (h5 : ActH w w5 lb ab wb tb 4 q q q (fun j => [4, y1, y2, y3].getD j 0) M R nb V Val L L ra rc va vc an cn) (hvv : ∀ j, j < q → V (nb j) = Val j) (hqk : q ≤ k) (htk : tot L ≤ k) (hk60 : k < 60) (hk3 : kk < 3) (ho3 : oo < 3) :
    Code.wp Try.prog (caseOf Try.f3) (Exit.then (Inv w lb s0 ab wb k (k + 1)) (fun _ _ _ => False)) ⟨t, []⟩ w5 := by
  obtain ⟨⟨hz, h0, h3, h4, h5s, h6⟩, h7, h8, h9⟩ := F
  refine openFr (P := fun t => t.getD 0 undef = s0 → t.getD 3 undef = .pointer (some ⟨ab, 0, none⟩) → t.getD 4 undef = .slice an q cn → t.getD 5 undef = .pointer (some ⟨wb, 0, none⟩) → t.getD 6 undef = .int .i64 k → t.getD 7 undef = .pointer (some ⟨tb, 0, none⟩) → t.getD 8 undef = .int .i64 kk → t.getD 9 undef = .int .i64 oo → t.getD 11 undef = .int .i64 nz → Code.wp Try.prog (caseOf Try.f3) (Exit.then (Inv w lb s0 ab wb k (k + 1)) (fun _ _ _ => False)) ⟨t, []⟩ w5) ?_ t hz h0 h3 h4 h5s h6 h7 h8 h9 hn
  clear h0 h3 h4 h5s h6 h7 h8 h9 hn hz t
  intro c0 c1 c2 c3 c4 c5 c6 c7 c8 c9 c10 c11 c12 c13 c14 c15 c16 c17 c18 c19 c20 c21 c22 c23 c24 c25 c26 c27 c28 c29 c30 c31 c32 c33 c34 c35 c36 c37 c38 c39 c40 c41 c42 c43 c44 c45 c46 c47 c48 c49 c50 c51 c52 c53 c54 c55 c56 c57 c58 c59 c60 c61 c62 c63 c64 c65 c66 c67 c68 c69 c70 c71 c72 c73 c74 c75 c76 c77 c78 c79 c80 c81 c82 c83 c84 c85 c86 c87 c88 c89 c90 c91 c92 c93 c94 c95 c96 c97 c98 c99 c100 c101 c102 c103 c104 c105 c106 c107 c108 c109 c110 c111 c112 c113 c114 c115 c116 c117 c118 c119 c120 c121 c122 c123 c124 c125 c126 c127 c128 c129 c130 c131 c132 c133 c134 c135 c136 c137 c138 c139 c140 c141 c142 c143 c144 c145 c146 c147 c148 c149 c150 c151 c152 c153 c154 c155 c156 c157 c158 c159 c160 c161 c162 c163 c164 c165 c166 c167 c168 c169 c170 c171 c172 c173 c174 c175 c176 c177 c178 c179 c180 c181 c182 c183 c184 c185 c186 c187 c188 c189 c190 c191 c192 c193 c194 c195 c196 c197 c198 c199 c200 c201 c202 c203 c204 c205 c206 c207 c208 c209 c210 c211 c212 c213 c214 c215 c216 c217 c218 c219 c220 c221 c222 c223 c224 c225 c226 c227 c228 c229 c230 c231 c232 c233 c234 c235 c236 c237 c238 c239 c240 c241 c242 c243 c244 c245 c246 c247 c248 c249 c250 c251 h0 h3 h4 h5s h6 h7 h8 h9 hn
  replace h0 : c0 = s0 := h0
  replace h3 : c3 = .pointer (some ⟨ab, 0, none⟩) := h3
  replace h4 : c4 = .slice an q cn := h4
  replace h5s : c5 = .pointer (some ⟨wb, 0, none⟩) := h5s
  replace h6 : c6 = .int .i64 k := h6
  replace h7 : c7 = .pointer (some ⟨tb, 0, none⟩) := h7
  replace h8 : c8 = .int .i64 kk := h8
  replace h9 : c9 = .int .i64 oo := h9
  replace hn : c11 = .int .i64 nz := hn
  subst h0
  subst h3
  subst h4
  subst h5s
  subst h6
  subst h7
  subst h8
  subst h9
  subst hn
  conv => arg 2; whnf
  have H5 := Lib.hid h5
  have HVV := Lib.hid hvv
  have HTK := Lib.hid htk
  clear h5 hvv htk
  have hkkz : (kk : Int) < 3 := by omega
  have hooz : (oo : Int) < 3 := by omega
  have hlk : (L kk).length ≤ 61 := by have := len_tot L hk3; have := HTK.out; omega
  have b0 : w5.cell? ⟨tb, 0, none⟩ = some (.int .i64 4) := H5.out.t 0 (by omega)
  have xk := H5.out.x kk hk3
  go_wp2_with fail
  refine (H5.out.m.drain hk3 (by omega) HVV.out).mono ?_
  rintro e w6 ⟨r6, c6', rfl, row6, own6, m6, c6⟩
  have R6 := Lib.hid row6
  have OW := Lib.hid own6
  have H6 := Lib.hid (H5.out.mach m6 (fun j hj => .inl hj) c6 (fun _ _ => rfl))
  clear row6 own6 m6 c6 H5 b0 xk
  go_wp2_with fail
  refine (H6.out.f.all hk3 (by omega)).mono ?_
  rintro e w7 ⟨r7, c7', rfl, row7, own7, c7⟩
  have R7 := Lib.hid row7
  have R6' := Lib.hid (R6.out.kept c7 (fun _ _ e => e))
  have H7 := Lib.hid (H6.out.nil c7)
  clear row7 own7 c7 H6 R6
  go_wp2_with fail
  refine (ints_same R6'.out R7.out (by omega)).mono ?_
  rintro e w8 ⟨rfl, c8⟩
  have H8 := Lib.hid (H7.out.nil c8)
  clear c8 H7 R6' R7
  obtain ⟨RE, hRE, fE, cE⟩ := H8.out.f.clear hk3
  have HE := Lib.hid (H8.out.ref fE hRE cE)
  have e1 := H8.out.f.c kk hk3
  have e2 := H8.out.f.b.fz kk
  clear fE hRE cE H8
  go_upto_region 49 with (fail)
  clear e1 e2
  generalize w8.setCell ⟨wb, kk, none⟩ (.slice none 0 0) = wE at HE ⊢
  have TK := Lib.hid ((by have := HTK.out; have h1 := tot_upd (L := L) hk3 []; simp only [List.length_nil] at h1; omega : tot (upd L kk []) ≤ k + 1))
  go_wp2
  exact ⟨q, _, _, _, _, _, _, _, _, _, _, _, _, rfl, ⟨rfl, rfl, rfl, rfl, rfl, rfl⟩, ⟨⟨tb, 4, _, HE.out⟩, HVV.out, by omega, TK.out⟩⟩
end Go.Proofs.Ytmebkogkcnmkiaa
