/-
  LevelActs, an act that does nothing.
-/
import Derived.Test.YtgaakhiapgmnbaaDoorLvCode
import Derived.Test.YtgaakhiapgmnbaaDoorHeld
import Derived.Deep.QuietTactic
import Derived.BigQuiet
import Derived.Deep.Cut
import Derived.Deep.CutRange
import Derived.Deep.CutBlock
import Derived.RegionTactic
import Derived.BigRegion
namespace Go.Proofs.YtgaakhiapgmnbaaDoor
open Go.RowKit Verge LI
set_option linter.unusedVariables false
set_option linter.unusedSimpArgs false
attribute [local go_sem] Oper.semAt_some

set_option maxRecDepth 100000 in
set_option maxHeartbeats 0 in
theorem act_none {w w5 : World} {vb : Nat} {hd nb : Nat → Nat} {ad : Option Addr} {cap : Nat} {V : Nat → Int} {rb k tb n : Nat} {s0 : Value} {L : Nat → List Nat} {R : Nat → Prop} {ra : Nat → Option Addr} {rc : Nat → Nat} {y0 y1 y2 : Int} {ok : Bool} (t : Array Value) (F : FrM s0 vb rb k cap ad tb n ok t) (h5 : DuoT w vb hd nb ad cap V rb k tb (fun j => [y0, y1, y2].getD j 0) L L R ra rc w5) (hk : k < 100) (hn : n < 12) (h0y : y0 ≠ 0) (h1y : y0 ≠ 1) (h2y : y0 ≠ 2) :
    Code.wp Tryd.prog (caseOf Tryd.f3) (Exit.then (Mid w vb hd nb ad cap V rb s0 k (k + 1) tb n ok (fun j => [y0, y1, y2].getD j 0)) (Qc (Inv w vb hd nb ad cap V rb s0 k (k + 1)))) ⟨t, []⟩ w5 := by
  obtain ⟨⟨hz, h0, h3, h4, h6, h7⟩, h8, h9, h10⟩ := F
  refine openFr (P := fun t => t.getD 0 undef = s0 → t.getD 3 undef = .pointer (some ⟨vb, 0, none⟩) → t.getD 4 undef = .slice ad 12 cap → t.getD 6 undef = .pointer (some ⟨rb, 0, none⟩) → t.getD 7 undef = .int .i64 k → t.getD 8 undef = .pointer (some ⟨tb, 0, none⟩) → t.getD 9 undef = .int .i64 n → t.getD 10 undef = .bool ok → Code.wp Tryd.prog (caseOf Tryd.f3) (Exit.then (Mid w vb hd nb ad cap V rb s0 k (k + 1) tb n ok (fun j => [y0, y1, y2].getD j 0)) (Qc (Inv w vb hd nb ad cap V rb s0 k (k + 1)))) ⟨t, []⟩ w5) ?_ t hz h0 h3 h4 h6 h7 h8 h9 h10
  clear h0 h3 h4 h6 h7 h8 h9 h10 hz t
  intro c0 c1 c2 c3 c4 c5 c6 c7 c8 c9 c10 c11 c12 c13 c14 c15 c16 c17 c18 c19 c20 c21 c22 c23 c24 c25 c26 c27 c28 c29 c30 c31 c32 c33 c34 c35 c36 c37 c38 c39 c40 c41 c42 c43 c44 c45 c46 c47 c48 c49 c50 c51 c52 c53 c54 c55 c56 c57 c58 c59 c60 c61 c62 c63 c64 c65 c66 c67 c68 c69 c70 c71 c72 c73 c74 c75 c76 c77 c78 c79 c80 c81 c82 c83 c84 c85 c86 c87 c88 c89 c90 c91 c92 c93 c94 c95 c96 c97 c98 c99 c100 c101 c102 c103 c104 c105 c106 c107 c108 c109 c110 c111 c112 c113 c114 c115 c116 c117 c118 c119 c120 c121 c122 c123 c124 c125 c126 c127 c128 c129 c130 c131 c132 c133 c134 c135 c136 c137 c138 c139 c140 c141 c142 c143 c144 c145 c146 c147 c148 c149 c150 c151 c152 c153 c154 c155 c156 c157 c158 c159 c160 c161 c162 c163 c164 c165 c166 c167 c168 c169 c170 c171 c172 c173 c174 c175 c176 c177 c178 c179 c180 c181 c182 c183 c184 c185 c186 c187 c188 c189 c190 c191 c192 c193 c194 c195 c196 c197 c198 c199 c200 c201 c202 c203 c204 c205 c206 c207 c208 c209 c210 c211 c212 c213 c214 c215 c216 c217 c218 c219 c220 c221 c222 c223 c224 c225 c226 c227 c228 c229 h0 h3 h4 h6 h7 h8 h9 h10
  replace h0 : c0 = s0 := h0
  replace h3 : c3 = .pointer (some ⟨vb, 0, none⟩) := h3
  replace h4 : c4 = .slice ad 12 cap := h4
  replace h6 : c6 = .pointer (some ⟨rb, 0, none⟩) := h6
  replace h7 : c7 = .int .i64 k := h7
  replace h8 : c8 = .pointer (some ⟨tb, 0, none⟩) := h8
  replace h9 : c9 = .int .i64 n := h9
  replace h10 : c10 = .bool ok := h10
  subst h0
  subst h3
  subst h4
  subst h6
  subst h7
  subst h8
  subst h9
  subst h10
  conv => arg 2; whnf
  have b0 : w5.cell? ⟨tb, 0, none⟩ = some (.int .i64 y0) := h5.t 0 (by omega)
  have e0 : (y0 == 0) = false := by rw [beq_eq_false_iff_ne]; exact h0y
  have e1 : (y0 == 1) = false := by rw [beq_eq_false_iff_ne]; exact h1y
  have e2 : (y0 == 2) = false := by rw [beq_eq_false_iff_ne]; exact h2y
  have H5 := Lib.hid h5
  clear h5 h0y h1y h2y
  go_wp2
  exact ⟨_, _, _, _, rfl, ⟨⟨rfl, rfl, rfl, rfl, rfl, rfl⟩, rfl, rfl, rfl⟩, H5.out.more⟩

end Go.Proofs.YtgaakhiapgmnbaaDoor
