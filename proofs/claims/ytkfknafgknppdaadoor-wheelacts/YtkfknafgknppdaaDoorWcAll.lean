/-
  Code taken apart: the body of a block by its number; how a piece is left.
  The frame of the statement WheelActs: 218 slots, opened by letters.
  WheelActs: what holds between its pieces; the acts that change nothing.
  WheelActs: an act that inserts.
  WheelActs: an act that removes.
  WheelActs: the loop that gathers what the document tells.
  WheelActs: the loop that ticks; an act that ticks.
  WheelActs: an act, whichever it is.
-/
import Derived.Test.YtkfknafgknppdaaDoorRows
import Derived.WalkKit
import Derived.Test.YtkfknafgknppdaaDoorWheelSames
import Derived.Test.YtkfknafgknppdaaDoorHeld
import Derived.Deep.QuietTactic
import Derived.BigQuiet
import Derived.Deep.Cut
import Derived.Deep.CutRange
import Derived.Deep.CutBlock
import Derived.RegionTactic
import Derived.BigRegion
namespace Go.Proofs.YtkfknafgknppdaaDoor
open Go.RowKit
set_option linter.unusedVariables false
/-- the body of the block of that number -/
def blockOf (n : Nat) : Code → Option Code
  | .block i c => if i = n then some c else blockOf n c
  | .seq a b => match blockOf n a with
    | some c => some c
    | none => blockOf n b
  | .cond _ a b => match blockOf n a with
    | some c => some c
    | none => blockOf n b
  | .loop c => blockOf n c
  | .scope c => blockOf n c
  | _ => none
def fstC : Code → Code
  | .seq a _ => a
  | c => c
def sndC : Code → Code
  | .seq _ b => b
  | c => c
def inL : Code → Code
  | .loop c => c
  | c => c
/-- the body of the loop in the block of that number -/
def loopIn (n : Nat) (f : Func) : Code := inL ((f.body.bind (blockOf n)).getD .skip)
/-- the code of the block of that number -/
def blkIn (n : Nat) (f : Func) : Code := (f.body.bind (blockOf n)).getD .skip
/-- the code that follows the block of that number -/
def aft (n : Nat) : Code → Option (Option Code)
  | .block i _ => if i = n then some none else none
  | .seq a b => match aft n a with
    | some none => some (some b)
    | some (some c) => some (some (.seq c b))
    | none => aft n b
  | _ => none
def aftIn (n : Nat) (f : Func) : Code := ((f.body.bind (aft n)).getD none).getD .skip
theorem cons_of {l : List Value} {n : Nat} (h : l.length = n + 1) : ∃ c l', l = c :: l' ∧ l'.length = n := by
  cases l with
  | nil => simp at h
  | cons c l' => exact ⟨c, l', rfl, by simpa using h⟩
/-- a loop is left by one exit alone -/
def Qx (id : Nat) (I : Act → World → Prop) : Exit → Act → World → Prop
  | .exit n, a, w => n = id ∧ I a w
  | _, _, _ => False
theorem Qx_inv {id : Nat} {I : Act → World → Prop} {e : Exit} {a : Act} {w : World} (h : Qx id I e a w) : e = .exit id ∧ I a w := by
  cases e with
  | exit n => obtain ⟨rfl, h⟩ := h; exact ⟨rfl, h⟩
  | _ => exact h.elim
theorem val_eq {z z' : Int} (h : z = z') : Value.int .i64 z = .int .i64 z' := by rw [h]
end Go.Proofs.YtkfknafgknppdaaDoor

namespace Go.Proofs.YtkfknafgknppdaaDoor
open Go.RowKit
set_option linter.unusedVariables false
set_option maxRecDepth 100000 in
set_option maxHeartbeats 0 in
theorem openFr218 {P : Array Value → Prop} (h : ∀ c0 c1 c2 c3 c4 c5 c6 c7 c8 c9 c10 c11 c12 c13 c14 c15 c16 c17 c18 c19 c20 c21 c22 c23 c24 c25 c26 c27 c28 c29 c30 c31 c32 c33 c34 c35 c36 c37 c38 c39 c40 c41 c42 c43 c44 c45 c46 c47 c48 c49 c50 c51 c52 c53 c54 c55 c56 c57 c58 c59 c60 c61 c62 c63 c64 c65 c66 c67 c68 c69 c70 c71 c72 c73 c74 c75 c76 c77 c78 c79 c80 c81 c82 c83 c84 c85 c86 c87 c88 c89 c90 c91 c92 c93 c94 c95 c96 c97 c98 c99 c100 c101 c102 c103 c104 c105 c106 c107 c108 c109 c110 c111 c112 c113 c114 c115 c116 c117 c118 c119 c120 c121 c122 c123 c124 c125 c126 c127 c128 c129 c130 c131 c132 c133 c134 c135 c136 c137 c138 c139 c140 c141 c142 c143 c144 c145 c146 c147 c148 c149 c150 c151 c152 c153 c154 c155 c156 c157 c158 c159 c160 c161 c162 c163 c164 c165 c166 c167 c168 c169 c170 c171 c172 c173 c174 c175 c176 c177 c178 c179 c180 c181 c182 c183 c184 c185 c186 c187 c188 c189 c190 c191 c192 c193 c194 c195 c196 c197 c198 c199 c200 c201 c202 c203 c204 c205 c206 c207 c208 c209 c210 c211 c212 c213 c214 c215 c216 c217 : Value, P (List.toArray (c0 :: c1 :: c2 :: c3 :: c4 :: c5 :: c6 :: c7 :: c8 :: c9 :: c10 :: c11 :: c12 :: c13 :: c14 :: c15 :: c16 :: c17 :: c18 :: c19 :: c20 :: c21 :: c22 :: c23 :: c24 :: c25 :: c26 :: c27 :: c28 :: c29 :: c30 :: c31 :: c32 :: c33 :: c34 :: c35 :: c36 :: c37 :: c38 :: c39 :: c40 :: c41 :: c42 :: c43 :: c44 :: c45 :: c46 :: c47 :: c48 :: c49 :: c50 :: c51 :: c52 :: c53 :: c54 :: c55 :: c56 :: c57 :: c58 :: c59 :: c60 :: c61 :: c62 :: c63 :: c64 :: c65 :: c66 :: c67 :: c68 :: c69 :: c70 :: c71 :: c72 :: c73 :: c74 :: c75 :: c76 :: c77 :: c78 :: c79 :: c80 :: c81 :: c82 :: c83 :: c84 :: c85 :: c86 :: c87 :: c88 :: c89 :: c90 :: c91 :: c92 :: c93 :: c94 :: c95 :: c96 :: c97 :: c98 :: c99 :: c100 :: c101 :: c102 :: c103 :: c104 :: c105 :: c106 :: c107 :: c108 :: c109 :: c110 :: c111 :: c112 :: c113 :: c114 :: c115 :: c116 :: c117 :: c118 :: c119 :: c120 :: c121 :: c122 :: c123 :: c124 :: c125 :: c126 :: c127 :: c128 :: c129 :: c130 :: c131 :: c132 :: c133 :: c134 :: c135 :: c136 :: c137 :: c138 :: c139 :: c140 :: c141 :: c142 :: c143 :: c144 :: c145 :: c146 :: c147 :: c148 :: c149 :: c150 :: c151 :: c152 :: c153 :: c154 :: c155 :: c156 :: c157 :: c158 :: c159 :: c160 :: c161 :: c162 :: c163 :: c164 :: c165 :: c166 :: c167 :: c168 :: c169 :: c170 :: c171 :: c172 :: c173 :: c174 :: c175 :: c176 :: c177 :: c178 :: c179 :: c180 :: c181 :: c182 :: c183 :: c184 :: c185 :: c186 :: c187 :: c188 :: c189 :: c190 :: c191 :: c192 :: c193 :: c194 :: c195 :: c196 :: c197 :: c198 :: c199 :: c200 :: c201 :: c202 :: c203 :: c204 :: c205 :: c206 :: c207 :: c208 :: c209 :: c210 :: c211 :: c212 :: c213 :: c214 :: c215 :: c216 :: c217 :: []))) (t : Array Value) (ht : t.size = 218) : P t := by
  obtain ⟨l⟩ := t
  have k : l.length = 218 := ht
  clear ht
  obtain ⟨c0, l0, e, k0⟩ := cons_of (n := 217) k; clear k; subst e
  obtain ⟨c1, l1, e, k1⟩ := cons_of (n := 216) k0; clear k0; subst e
  obtain ⟨c2, l2, e, k2⟩ := cons_of (n := 215) k1; clear k1; subst e
  obtain ⟨c3, l3, e, k3⟩ := cons_of (n := 214) k2; clear k2; subst e
  obtain ⟨c4, l4, e, k4⟩ := cons_of (n := 213) k3; clear k3; subst e
  obtain ⟨c5, l5, e, k5⟩ := cons_of (n := 212) k4; clear k4; subst e
  obtain ⟨c6, l6, e, k6⟩ := cons_of (n := 211) k5; clear k5; subst e
  obtain ⟨c7, l7, e, k7⟩ := cons_of (n := 210) k6; clear k6; subst e
  obtain ⟨c8, l8, e, k8⟩ := cons_of (n := 209) k7; clear k7; subst e
  obtain ⟨c9, l9, e, k9⟩ := cons_of (n := 208) k8; clear k8; subst e
  obtain ⟨c10, l10, e, k10⟩ := cons_of (n := 207) k9; clear k9; subst e
  obtain ⟨c11, l11, e, k11⟩ := cons_of (n := 206) k10; clear k10; subst e
  obtain ⟨c12, l12, e, k12⟩ := cons_of (n := 205) k11; clear k11; subst e
  obtain ⟨c13, l13, e, k13⟩ := cons_of (n := 204) k12; clear k12; subst e
  obtain ⟨c14, l14, e, k14⟩ := cons_of (n := 203) k13; clear k13; subst e
  obtain ⟨c15, l15, e, k15⟩ := cons_of (n := 202) k14; clear k14; subst e
  obtain ⟨c16, l16, e, k16⟩ := cons_of (n := 201) k15; clear k15; subst e
  obtain ⟨c17, l17, e, k17⟩ := cons_of (n := 200) k16; clear k16; subst e
  obtain ⟨c18, l18, e, k18⟩ := cons_of (n := 199) k17; clear k17; subst e
  obtain ⟨c19, l19, e, k19⟩ := cons_of (n := 198) k18; clear k18; subst e
  obtain ⟨c20, l20, e, k20⟩ := cons_of (n := 197) k19; clear k19; subst e
  obtain ⟨c21, l21, e, k21⟩ := cons_of (n := 196) k20; clear k20; subst e
  obtain ⟨c22, l22, e, k22⟩ := cons_of (n := 195) k21; clear k21; subst e
  obtain ⟨c23, l23, e, k23⟩ := cons_of (n := 194) k22; clear k22; subst e
  obtain ⟨c24, l24, e, k24⟩ := cons_of (n := 193) k23; clear k23; subst e
  obtain ⟨c25, l25, e, k25⟩ := cons_of (n := 192) k24; clear k24; subst e
  obtain ⟨c26, l26, e, k26⟩ := cons_of (n := 191) k25; clear k25; subst e
  obtain ⟨c27, l27, e, k27⟩ := cons_of (n := 190) k26; clear k26; subst e
  obtain ⟨c28, l28, e, k28⟩ := cons_of (n := 189) k27; clear k27; subst e
  obtain ⟨c29, l29, e, k29⟩ := cons_of (n := 188) k28; clear k28; subst e
  obtain ⟨c30, l30, e, k30⟩ := cons_of (n := 187) k29; clear k29; subst e
  obtain ⟨c31, l31, e, k31⟩ := cons_of (n := 186) k30; clear k30; subst e
  obtain ⟨c32, l32, e, k32⟩ := cons_of (n := 185) k31; clear k31; subst e
  obtain ⟨c33, l33, e, k33⟩ := cons_of (n := 184) k32; clear k32; subst e
  obtain ⟨c34, l34, e, k34⟩ := cons_of (n := 183) k33; clear k33; subst e
  obtain ⟨c35, l35, e, k35⟩ := cons_of (n := 182) k34; clear k34; subst e
  obtain ⟨c36, l36, e, k36⟩ := cons_of (n := 181) k35; clear k35; subst e
  obtain ⟨c37, l37, e, k37⟩ := cons_of (n := 180) k36; clear k36; subst e
  obtain ⟨c38, l38, e, k38⟩ := cons_of (n := 179) k37; clear k37; subst e
  obtain ⟨c39, l39, e, k39⟩ := cons_of (n := 178) k38; clear k38; subst e
  obtain ⟨c40, l40, e, k40⟩ := cons_of (n := 177) k39; clear k39; subst e
  obtain ⟨c41, l41, e, k41⟩ := cons_of (n := 176) k40; clear k40; subst e
  obtain ⟨c42, l42, e, k42⟩ := cons_of (n := 175) k41; clear k41; subst e
  obtain ⟨c43, l43, e, k43⟩ := cons_of (n := 174) k42; clear k42; subst e
  obtain ⟨c44, l44, e, k44⟩ := cons_of (n := 173) k43; clear k43; subst e
  obtain ⟨c45, l45, e, k45⟩ := cons_of (n := 172) k44; clear k44; subst e
  obtain ⟨c46, l46, e, k46⟩ := cons_of (n := 171) k45; clear k45; subst e
  obtain ⟨c47, l47, e, k47⟩ := cons_of (n := 170) k46; clear k46; subst e
  obtain ⟨c48, l48, e, k48⟩ := cons_of (n := 169) k47; clear k47; subst e
  obtain ⟨c49, l49, e, k49⟩ := cons_of (n := 168) k48; clear k48; subst e
  obtain ⟨c50, l50, e, k50⟩ := cons_of (n := 167) k49; clear k49; subst e
  obtain ⟨c51, l51, e, k51⟩ := cons_of (n := 166) k50; clear k50; subst e
  obtain ⟨c52, l52, e, k52⟩ := cons_of (n := 165) k51; clear k51; subst e
  obtain ⟨c53, l53, e, k53⟩ := cons_of (n := 164) k52; clear k52; subst e
  obtain ⟨c54, l54, e, k54⟩ := cons_of (n := 163) k53; clear k53; subst e
  obtain ⟨c55, l55, e, k55⟩ := cons_of (n := 162) k54; clear k54; subst e
  obtain ⟨c56, l56, e, k56⟩ := cons_of (n := 161) k55; clear k55; subst e
  obtain ⟨c57, l57, e, k57⟩ := cons_of (n := 160) k56; clear k56; subst e
  obtain ⟨c58, l58, e, k58⟩ := cons_of (n := 159) k57; clear k57; subst e
  obtain ⟨c59, l59, e, k59⟩ := cons_of (n := 158) k58; clear k58; subst e
  obtain ⟨c60, l60, e, k60⟩ := cons_of (n := 157) k59; clear k59; subst e
  obtain ⟨c61, l61, e, k61⟩ := cons_of (n := 156) k60; clear k60; subst e
  obtain ⟨c62, l62, e, k62⟩ := cons_of (n := 155) k61; clear k61; subst e
  obtain ⟨c63, l63, e, k63⟩ := cons_of (n := 154) k62; clear k62; subst e
  obtain ⟨c64, l64, e, k64⟩ := cons_of (n := 153) k63; clear k63; subst e
  obtain ⟨c65, l65, e, k65⟩ := cons_of (n := 152) k64; clear k64; subst e
  obtain ⟨c66, l66, e, k66⟩ := cons_of (n := 151) k65; clear k65; subst e
  obtain ⟨c67, l67, e, k67⟩ := cons_of (n := 150) k66; clear k66; subst e
  obtain ⟨c68, l68, e, k68⟩ := cons_of (n := 149) k67; clear k67; subst e
  obtain ⟨c69, l69, e, k69⟩ := cons_of (n := 148) k68; clear k68; subst e
  obtain ⟨c70, l70, e, k70⟩ := cons_of (n := 147) k69; clear k69; subst e
  obtain ⟨c71, l71, e, k71⟩ := cons_of (n := 146) k70; clear k70; subst e
  obtain ⟨c72, l72, e, k72⟩ := cons_of (n := 145) k71; clear k71; subst e
  obtain ⟨c73, l73, e, k73⟩ := cons_of (n := 144) k72; clear k72; subst e
  obtain ⟨c74, l74, e, k74⟩ := cons_of (n := 143) k73; clear k73; subst e
  obtain ⟨c75, l75, e, k75⟩ := cons_of (n := 142) k74; clear k74; subst e
  obtain ⟨c76, l76, e, k76⟩ := cons_of (n := 141) k75; clear k75; subst e
  obtain ⟨c77, l77, e, k77⟩ := cons_of (n := 140) k76; clear k76; subst e
  obtain ⟨c78, l78, e, k78⟩ := cons_of (n := 139) k77; clear k77; subst e
  obtain ⟨c79, l79, e, k79⟩ := cons_of (n := 138) k78; clear k78; subst e
  obtain ⟨c80, l80, e, k80⟩ := cons_of (n := 137) k79; clear k79; subst e
  obtain ⟨c81, l81, e, k81⟩ := cons_of (n := 136) k80; clear k80; subst e
  obtain ⟨c82, l82, e, k82⟩ := cons_of (n := 135) k81; clear k81; subst e
  obtain ⟨c83, l83, e, k83⟩ := cons_of (n := 134) k82; clear k82; subst e
  obtain ⟨c84, l84, e, k84⟩ := cons_of (n := 133) k83; clear k83; subst e
  obtain ⟨c85, l85, e, k85⟩ := cons_of (n := 132) k84; clear k84; subst e
  obtain ⟨c86, l86, e, k86⟩ := cons_of (n := 131) k85; clear k85; subst e
  obtain ⟨c87, l87, e, k87⟩ := cons_of (n := 130) k86; clear k86; subst e
  obtain ⟨c88, l88, e, k88⟩ := cons_of (n := 129) k87; clear k87; subst e
  obtain ⟨c89, l89, e, k89⟩ := cons_of (n := 128) k88; clear k88; subst e
  obtain ⟨c90, l90, e, k90⟩ := cons_of (n := 127) k89; clear k89; subst e
  obtain ⟨c91, l91, e, k91⟩ := cons_of (n := 126) k90; clear k90; subst e
  obtain ⟨c92, l92, e, k92⟩ := cons_of (n := 125) k91; clear k91; subst e
  obtain ⟨c93, l93, e, k93⟩ := cons_of (n := 124) k92; clear k92; subst e
  obtain ⟨c94, l94, e, k94⟩ := cons_of (n := 123) k93; clear k93; subst e
  obtain ⟨c95, l95, e, k95⟩ := cons_of (n := 122) k94; clear k94; subst e
  obtain ⟨c96, l96, e, k96⟩ := cons_of (n := 121) k95; clear k95; subst e
  obtain ⟨c97, l97, e, k97⟩ := cons_of (n := 120) k96; clear k96; subst e
  obtain ⟨c98, l98, e, k98⟩ := cons_of (n := 119) k97; clear k97; subst e
  obtain ⟨c99, l99, e, k99⟩ := cons_of (n := 118) k98; clear k98; subst e
  obtain ⟨c100, l100, e, k100⟩ := cons_of (n := 117) k99; clear k99; subst e
  obtain ⟨c101, l101, e, k101⟩ := cons_of (n := 116) k100; clear k100; subst e
  obtain ⟨c102, l102, e, k102⟩ := cons_of (n := 115) k101; clear k101; subst e
  obtain ⟨c103, l103, e, k103⟩ := cons_of (n := 114) k102; clear k102; subst e
  obtain ⟨c104, l104, e, k104⟩ := cons_of (n := 113) k103; clear k103; subst e
  obtain ⟨c105, l105, e, k105⟩ := cons_of (n := 112) k104; clear k104; subst e
  obtain ⟨c106, l106, e, k106⟩ := cons_of (n := 111) k105; clear k105; subst e
  obtain ⟨c107, l107, e, k107⟩ := cons_of (n := 110) k106; clear k106; subst e
  obtain ⟨c108, l108, e, k108⟩ := cons_of (n := 109) k107; clear k107; subst e
  obtain ⟨c109, l109, e, k109⟩ := cons_of (n := 108) k108; clear k108; subst e
  obtain ⟨c110, l110, e, k110⟩ := cons_of (n := 107) k109; clear k109; subst e
  obtain ⟨c111, l111, e, k111⟩ := cons_of (n := 106) k110; clear k110; subst e
  obtain ⟨c112, l112, e, k112⟩ := cons_of (n := 105) k111; clear k111; subst e
  obtain ⟨c113, l113, e, k113⟩ := cons_of (n := 104) k112; clear k112; subst e
  obtain ⟨c114, l114, e, k114⟩ := cons_of (n := 103) k113; clear k113; subst e
  obtain ⟨c115, l115, e, k115⟩ := cons_of (n := 102) k114; clear k114; subst e
  obtain ⟨c116, l116, e, k116⟩ := cons_of (n := 101) k115; clear k115; subst e
  obtain ⟨c117, l117, e, k117⟩ := cons_of (n := 100) k116; clear k116; subst e
  obtain ⟨c118, l118, e, k118⟩ := cons_of (n := 99) k117; clear k117; subst e
  obtain ⟨c119, l119, e, k119⟩ := cons_of (n := 98) k118; clear k118; subst e
  obtain ⟨c120, l120, e, k120⟩ := cons_of (n := 97) k119; clear k119; subst e
  obtain ⟨c121, l121, e, k121⟩ := cons_of (n := 96) k120; clear k120; subst e
  obtain ⟨c122, l122, e, k122⟩ := cons_of (n := 95) k121; clear k121; subst e
  obtain ⟨c123, l123, e, k123⟩ := cons_of (n := 94) k122; clear k122; subst e
  obtain ⟨c124, l124, e, k124⟩ := cons_of (n := 93) k123; clear k123; subst e
  obtain ⟨c125, l125, e, k125⟩ := cons_of (n := 92) k124; clear k124; subst e
  obtain ⟨c126, l126, e, k126⟩ := cons_of (n := 91) k125; clear k125; subst e
  obtain ⟨c127, l127, e, k127⟩ := cons_of (n := 90) k126; clear k126; subst e
  obtain ⟨c128, l128, e, k128⟩ := cons_of (n := 89) k127; clear k127; subst e
  obtain ⟨c129, l129, e, k129⟩ := cons_of (n := 88) k128; clear k128; subst e
  obtain ⟨c130, l130, e, k130⟩ := cons_of (n := 87) k129; clear k129; subst e
  obtain ⟨c131, l131, e, k131⟩ := cons_of (n := 86) k130; clear k130; subst e
  obtain ⟨c132, l132, e, k132⟩ := cons_of (n := 85) k131; clear k131; subst e
  obtain ⟨c133, l133, e, k133⟩ := cons_of (n := 84) k132; clear k132; subst e
  obtain ⟨c134, l134, e, k134⟩ := cons_of (n := 83) k133; clear k133; subst e
  obtain ⟨c135, l135, e, k135⟩ := cons_of (n := 82) k134; clear k134; subst e
  obtain ⟨c136, l136, e, k136⟩ := cons_of (n := 81) k135; clear k135; subst e
  obtain ⟨c137, l137, e, k137⟩ := cons_of (n := 80) k136; clear k136; subst e
  obtain ⟨c138, l138, e, k138⟩ := cons_of (n := 79) k137; clear k137; subst e
  obtain ⟨c139, l139, e, k139⟩ := cons_of (n := 78) k138; clear k138; subst e
  obtain ⟨c140, l140, e, k140⟩ := cons_of (n := 77) k139; clear k139; subst e
  obtain ⟨c141, l141, e, k141⟩ := cons_of (n := 76) k140; clear k140; subst e
  obtain ⟨c142, l142, e, k142⟩ := cons_of (n := 75) k141; clear k141; subst e
  obtain ⟨c143, l143, e, k143⟩ := cons_of (n := 74) k142; clear k142; subst e
  obtain ⟨c144, l144, e, k144⟩ := cons_of (n := 73) k143; clear k143; subst e
  obtain ⟨c145, l145, e, k145⟩ := cons_of (n := 72) k144; clear k144; subst e
  obtain ⟨c146, l146, e, k146⟩ := cons_of (n := 71) k145; clear k145; subst e
  obtain ⟨c147, l147, e, k147⟩ := cons_of (n := 70) k146; clear k146; subst e
  obtain ⟨c148, l148, e, k148⟩ := cons_of (n := 69) k147; clear k147; subst e
  obtain ⟨c149, l149, e, k149⟩ := cons_of (n := 68) k148; clear k148; subst e
  obtain ⟨c150, l150, e, k150⟩ := cons_of (n := 67) k149; clear k149; subst e
  obtain ⟨c151, l151, e, k151⟩ := cons_of (n := 66) k150; clear k150; subst e
  obtain ⟨c152, l152, e, k152⟩ := cons_of (n := 65) k151; clear k151; subst e
  obtain ⟨c153, l153, e, k153⟩ := cons_of (n := 64) k152; clear k152; subst e
  obtain ⟨c154, l154, e, k154⟩ := cons_of (n := 63) k153; clear k153; subst e
  obtain ⟨c155, l155, e, k155⟩ := cons_of (n := 62) k154; clear k154; subst e
  obtain ⟨c156, l156, e, k156⟩ := cons_of (n := 61) k155; clear k155; subst e
  obtain ⟨c157, l157, e, k157⟩ := cons_of (n := 60) k156; clear k156; subst e
  obtain ⟨c158, l158, e, k158⟩ := cons_of (n := 59) k157; clear k157; subst e
  obtain ⟨c159, l159, e, k159⟩ := cons_of (n := 58) k158; clear k158; subst e
  obtain ⟨c160, l160, e, k160⟩ := cons_of (n := 57) k159; clear k159; subst e
  obtain ⟨c161, l161, e, k161⟩ := cons_of (n := 56) k160; clear k160; subst e
  obtain ⟨c162, l162, e, k162⟩ := cons_of (n := 55) k161; clear k161; subst e
  obtain ⟨c163, l163, e, k163⟩ := cons_of (n := 54) k162; clear k162; subst e
  obtain ⟨c164, l164, e, k164⟩ := cons_of (n := 53) k163; clear k163; subst e
  obtain ⟨c165, l165, e, k165⟩ := cons_of (n := 52) k164; clear k164; subst e
  obtain ⟨c166, l166, e, k166⟩ := cons_of (n := 51) k165; clear k165; subst e
  obtain ⟨c167, l167, e, k167⟩ := cons_of (n := 50) k166; clear k166; subst e
  obtain ⟨c168, l168, e, k168⟩ := cons_of (n := 49) k167; clear k167; subst e
  obtain ⟨c169, l169, e, k169⟩ := cons_of (n := 48) k168; clear k168; subst e
  obtain ⟨c170, l170, e, k170⟩ := cons_of (n := 47) k169; clear k169; subst e
  obtain ⟨c171, l171, e, k171⟩ := cons_of (n := 46) k170; clear k170; subst e
  obtain ⟨c172, l172, e, k172⟩ := cons_of (n := 45) k171; clear k171; subst e
  obtain ⟨c173, l173, e, k173⟩ := cons_of (n := 44) k172; clear k172; subst e
  obtain ⟨c174, l174, e, k174⟩ := cons_of (n := 43) k173; clear k173; subst e
  obtain ⟨c175, l175, e, k175⟩ := cons_of (n := 42) k174; clear k174; subst e
  obtain ⟨c176, l176, e, k176⟩ := cons_of (n := 41) k175; clear k175; subst e
  obtain ⟨c177, l177, e, k177⟩ := cons_of (n := 40) k176; clear k176; subst e
  obtain ⟨c178, l178, e, k178⟩ := cons_of (n := 39) k177; clear k177; subst e
  obtain ⟨c179, l179, e, k179⟩ := cons_of (n := 38) k178; clear k178; subst e
  obtain ⟨c180, l180, e, k180⟩ := cons_of (n := 37) k179; clear k179; subst e
  obtain ⟨c181, l181, e, k181⟩ := cons_of (n := 36) k180; clear k180; subst e
  obtain ⟨c182, l182, e, k182⟩ := cons_of (n := 35) k181; clear k181; subst e
  obtain ⟨c183, l183, e, k183⟩ := cons_of (n := 34) k182; clear k182; subst e
  obtain ⟨c184, l184, e, k184⟩ := cons_of (n := 33) k183; clear k183; subst e
  obtain ⟨c185, l185, e, k185⟩ := cons_of (n := 32) k184; clear k184; subst e
  obtain ⟨c186, l186, e, k186⟩ := cons_of (n := 31) k185; clear k185; subst e
  obtain ⟨c187, l187, e, k187⟩ := cons_of (n := 30) k186; clear k186; subst e
  obtain ⟨c188, l188, e, k188⟩ := cons_of (n := 29) k187; clear k187; subst e
  obtain ⟨c189, l189, e, k189⟩ := cons_of (n := 28) k188; clear k188; subst e
  obtain ⟨c190, l190, e, k190⟩ := cons_of (n := 27) k189; clear k189; subst e
  obtain ⟨c191, l191, e, k191⟩ := cons_of (n := 26) k190; clear k190; subst e
  obtain ⟨c192, l192, e, k192⟩ := cons_of (n := 25) k191; clear k191; subst e
  obtain ⟨c193, l193, e, k193⟩ := cons_of (n := 24) k192; clear k192; subst e
  obtain ⟨c194, l194, e, k194⟩ := cons_of (n := 23) k193; clear k193; subst e
  obtain ⟨c195, l195, e, k195⟩ := cons_of (n := 22) k194; clear k194; subst e
  obtain ⟨c196, l196, e, k196⟩ := cons_of (n := 21) k195; clear k195; subst e
  obtain ⟨c197, l197, e, k197⟩ := cons_of (n := 20) k196; clear k196; subst e
  obtain ⟨c198, l198, e, k198⟩ := cons_of (n := 19) k197; clear k197; subst e
  obtain ⟨c199, l199, e, k199⟩ := cons_of (n := 18) k198; clear k198; subst e
  obtain ⟨c200, l200, e, k200⟩ := cons_of (n := 17) k199; clear k199; subst e
  obtain ⟨c201, l201, e, k201⟩ := cons_of (n := 16) k200; clear k200; subst e
  obtain ⟨c202, l202, e, k202⟩ := cons_of (n := 15) k201; clear k201; subst e
  obtain ⟨c203, l203, e, k203⟩ := cons_of (n := 14) k202; clear k202; subst e
  obtain ⟨c204, l204, e, k204⟩ := cons_of (n := 13) k203; clear k203; subst e
  obtain ⟨c205, l205, e, k205⟩ := cons_of (n := 12) k204; clear k204; subst e
  obtain ⟨c206, l206, e, k206⟩ := cons_of (n := 11) k205; clear k205; subst e
  obtain ⟨c207, l207, e, k207⟩ := cons_of (n := 10) k206; clear k206; subst e
  obtain ⟨c208, l208, e, k208⟩ := cons_of (n := 9) k207; clear k207; subst e
  obtain ⟨c209, l209, e, k209⟩ := cons_of (n := 8) k208; clear k208; subst e
  obtain ⟨c210, l210, e, k210⟩ := cons_of (n := 7) k209; clear k209; subst e
  obtain ⟨c211, l211, e, k211⟩ := cons_of (n := 6) k210; clear k210; subst e
  obtain ⟨c212, l212, e, k212⟩ := cons_of (n := 5) k211; clear k211; subst e
  obtain ⟨c213, l213, e, k213⟩ := cons_of (n := 4) k212; clear k212; subst e
  obtain ⟨c214, l214, e, k214⟩ := cons_of (n := 3) k213; clear k213; subst e
  obtain ⟨c215, l215, e, k215⟩ := cons_of (n := 2) k214; clear k214; subst e
  obtain ⟨c216, l216, e, k216⟩ := cons_of (n := 1) k215; clear k215; subst e
  obtain ⟨c217, l217, e, k217⟩ := cons_of (n := 0) k216; clear k216; subst e
  obtain rfl : l217 = [] := List.eq_nil_of_length_eq_zero k217
  exact h _ _ _ _ _ _ _ _ _ _ _ _ _ _ _ _ _ _ _ _ _ _ _ _ _ _ _ _ _ _ _ _ _ _ _ _ _ _ _ _ _ _ _ _ _ _ _ _ _ _ _ _ _ _ _ _ _ _ _ _ _ _ _ _ _ _ _ _ _ _ _ _ _ _ _ _ _ _ _ _ _ _ _ _ _ _ _ _ _ _ _ _ _ _ _ _ _ _ _ _ _ _ _ _ _ _ _ _ _ _ _ _ _ _ _ _ _ _ _ _ _ _ _ _ _ _ _ _ _ _ _ _ _ _ _ _ _ _ _ _ _ _ _ _ _ _ _ _ _ _ _ _ _ _ _ _ _ _ _ _ _ _ _ _ _ _ _ _ _ _ _ _ _ _ _ _ _ _ _ _ _ _ _ _ _ _ _ _ _ _ _ _ _ _ _ _ _ _ _ _ _ _ _ _ _ _ _ _ _ _ _ _ _ _ _ _ _ _
end Go.Proofs.YtkfknafgknppdaaDoor

namespace Go.Proofs.YtkfknafgknppdaaDoor
open Go.RowKit Verge LP
set_option linter.unusedVariables false
set_option linter.unusedSimpArgs false
attribute [local go_sem] Oper.semAt_some

/-- what holds between two parts of act k -/
def wcM (w : World) (g : Wh) (rb : Nat) (ad : Option Addr) (len cap : Nat) (lev slot : Int) (k c : Nat) (a : Act) (wr : World) : Prop :=
  ∃ (now : Nat) (Q P : List Ent) (l : List Dn) (ar ae : Option Addr) (cr ce : Nat), a.defers = [] ∧ a.tmps.size = 218 ∧ a.tmps.getD 1 undef = .slice ad len cap ∧ a.tmps.getD 2 undef = .int .i64 lev ∧ a.tmps.getD 3 undef = .int .i64 slot ∧ a.tmps.getD 9 undef = .pointer (some ⟨g.wb, 0, none⟩) ∧ a.tmps.getD 10 undef = .pointer (some ⟨rb, 0, none⟩) ∧ a.tmps.getD 11 undef = .slice ae P.length ce ∧ a.tmps.getD 12 undef = .int .i64 (k : Nat) ∧ AcR w wr g now Q P rb l ar cr ae ce c
/-- the act's own block -/
structure Box8 (w : World) (g : Wh) (P : List Ent) (rb : Nat) (ar ae : Option Addr) (bb : Nat) (y0 y1 : Int) (d2 : Nat) (W : World) : Prop where
  c0 : W.cell? ⟨bb, 0, none⟩ = some (.int .i64 y0)
  c1 : W.cell? ⟨bb, 1, none⟩ = some (.int .i64 y1)
  c2 : W.cell? ⟨bb, 2, none⟩ = some (.int .u64 (d2 : Nat))
  o : w.heap.size ≤ bb ∧ ¬ WS g P bb ∧ ¬ RS rb ar bb ∧ ¬ OwnS ae bb
/-- within act k -/
def wcT (w : World) (g : Wh) (rb : Nat) (ad : Option Addr) (len cap : Nat) (lev slot : Int) (k c bb : Nat) (y0 y1 : Int) (d2 : Nat) (a : Act) (wr : World) : Prop :=
  ∃ (now : Nat) (Q P : List Ent) (l : List Dn) (ar ae : Option Addr) (cr ce : Nat), a.defers = [] ∧ a.tmps.size = 218 ∧ a.tmps.getD 1 undef = .slice ad len cap ∧ a.tmps.getD 2 undef = .int .i64 lev ∧ a.tmps.getD 3 undef = .int .i64 slot ∧ a.tmps.getD 9 undef = .pointer (some ⟨g.wb, 0, none⟩) ∧ a.tmps.getD 10 undef = .pointer (some ⟨rb, 0, none⟩) ∧ a.tmps.getD 11 undef = .slice ae P.length ce ∧ a.tmps.getD 12 undef = .int .i64 (k : Nat) ∧ a.tmps.getD 13 undef = .pointer (some ⟨bb, 0, none⟩) ∧ AcR w wr g now Q P rb l ar cr ae ce c ∧ Box8 w g P rb ar ae bb y0 y1 d2 wr
set_option maxRecDepth 100000 in
set_option maxHeartbeats 0 in
theorem wc_other {k bb d2 : Nat} {y0 y1 : Int} (w : World) (g : Wh) (rb : Nat) (ad : Option Addr) (len cap : Nat) (lev slot : Int) (hv : IsTab [.i .i64, .i .i64, .i .u64] w ad len cap) (T : Tab w) (h60 : len ≤ 60) (hk : k < len) (hd2 : d2 < 18446744073709551616) (h0 : y0 ≠ 0) (h1 : y0 ≠ 1) (h2 : y0 ≠ 2) (a : Act) (wr : World) (H : wcT w g rb ad len cap lev slot k k bb y0 y1 d2 a wr) :
    Code.wp Tryd.prog (blkIn 2 Tryd.f3) (Exit.then (wcM w g rb ad len cap lev slot k (k + 1)) (Qx 1 (wcM w g rb ad len cap lev slot k (k + 1)))) a wr := by
  obtain ⟨t, ds⟩ := a
  obtain ⟨now, Q, P, l, ar, ae, cr, ce, hd', hz, h1, h2, h3, h9, h10, h11, h12, h13, rel⟩ := H
  replace hd' : ds = [] := hd'
  subst hd'
  replace hz : t.size = 218 := hz
  replace h1 : t.getD 1 undef = .slice ad len cap := h1
  replace h2 : t.getD 2 undef = .int .i64 lev := h2
  replace h3 : t.getD 3 undef = .int .i64 slot := h3
  replace h9 : t.getD 9 undef = .pointer (some ⟨g.wb, 0, none⟩) := h9
  replace h10 : t.getD 10 undef = .pointer (some ⟨rb, 0, none⟩) := h10
  replace h11 : t.getD 11 undef = .slice ae P.length ce := h11
  replace h12 : t.getD 12 undef = .int .i64 (k : Nat) := h12
  replace h13 : t.getD 13 undef = .pointer (some ⟨bb, 0, none⟩) := h13
  have REL := Lib.hid rel
  clear rel
  refine openFr218 (P := fun t => t.getD 1 undef = .slice ad len cap → t.getD 2 undef = .int .i64 lev → t.getD 3 undef = .int .i64 slot → t.getD 9 undef = .pointer (some ⟨g.wb, 0, none⟩) → t.getD 10 undef = .pointer (some ⟨rb, 0, none⟩) → t.getD 11 undef = .slice ae P.length ce → t.getD 12 undef = .int .i64 (k : Nat) → t.getD 13 undef = .pointer (some ⟨bb, 0, none⟩) → Code.wp Tryd.prog (blkIn 2 Tryd.f3) (Exit.then (wcM w g rb ad len cap lev slot k (k + 1)) (Qx 1 (wcM w g rb ad len cap lev slot k (k + 1)))) ⟨t, []⟩ wr) ?_ t hz h1 h2 h3 h9 h10 h11 h12 h13
  clear h1 h2 h3 h9 h10 h11 h12 h13 hz t
  intro c0 c1 c2 c3 c4 c5 c6 c7 c8 c9 c10 c11 c12 c13 c14 c15 c16 c17 c18 c19 c20 c21 c22 c23 c24 c25 c26 c27 c28 c29 c30 c31 c32 c33 c34 c35 c36 c37 c38 c39 c40 c41 c42 c43 c44 c45 c46 c47 c48 c49 c50 c51 c52 c53 c54 c55 c56 c57 c58 c59 c60 c61 c62 c63 c64 c65 c66 c67 c68 c69 c70 c71 c72 c73 c74 c75 c76 c77 c78 c79 c80 c81 c82 c83 c84 c85 c86 c87 c88 c89 c90 c91 c92 c93 c94 c95 c96 c97 c98 c99 c100 c101 c102 c103 c104 c105 c106 c107 c108 c109 c110 c111 c112 c113 c114 c115 c116 c117 c118 c119 c120 c121 c122 c123 c124 c125 c126 c127 c128 c129 c130 c131 c132 c133 c134 c135 c136 c137 c138 c139 c140 c141 c142 c143 c144 c145 c146 c147 c148 c149 c150 c151 c152 c153 c154 c155 c156 c157 c158 c159 c160 c161 c162 c163 c164 c165 c166 c167 c168 c169 c170 c171 c172 c173 c174 c175 c176 c177 c178 c179 c180 c181 c182 c183 c184 c185 c186 c187 c188 c189 c190 c191 c192 c193 c194 c195 c196 c197 c198 c199 c200 c201 c202 c203 c204 c205 c206 c207 c208 c209 c210 c211 c212 c213 c214 c215 c216 c217 h1 h2 h3 h9 h10 h11 h12 h13
  replace h1 : c1 = .slice ad len cap := h1
  replace h2 : c2 = .int .i64 lev := h2
  replace h3 : c3 = .int .i64 slot := h3
  replace h9 : c9 = .pointer (some ⟨g.wb, 0, none⟩) := h9
  replace h10 : c10 = .pointer (some ⟨rb, 0, none⟩) := h10
  replace h11 : c11 = .slice ae P.length ce := h11
  replace h12 : c12 = .int .i64 (k : Nat) := h12
  replace h13 : c13 = .pointer (some ⟨bb, 0, none⟩) := h13
  subst h1
  subst h2
  subst h3
  subst h9
  subst h10
  subst h11
  subst h12
  subst h13
  conv => arg 2; whnf
  have hb0 : (y0 == 0) = false := by rw [beq_eq_false_iff_ne]; exact h0
  have hb1 : (y0 == 1) = false := by rw [beq_eq_false_iff_ne]; exact h1
  have hb2 : (y0 == 2) = false := by rw [beq_eq_false_iff_ne]; exact h2
  have q0 := REL.out.2.c0
  have NX := Lib.hid (REL.out.1.mono (Nat.le_succ k))
  clear hv T
  go_wp2
  exact ⟨_, _, _, _, _, _, _, _, rfl, rfl, rfl, rfl, rfl, rfl, rfl, rfl, rfl, NX.out⟩
end Go.Proofs.YtkfknafgknppdaaDoor

namespace Go.Proofs.YtkfknafgknppdaaDoor
open Go.RowKit Verge LP
set_option linter.unusedVariables false
set_option linter.unusedSimpArgs false
attribute [local go_sem] Oper.semAt_some

theorem vsnoc {P : List Ent} {x : Ent} {i : Nat} (hi : i < P.length) : valAt ((P ++ [x]).map nd) pre i = valAt (P.map nd) pre i := by
  unfold valAt
  rw [List.getD_eq_getElem?_getD, List.getD_eq_getElem?_getD, List.map_append, List.getElem?_append_left (by simpa using hi)]
theorem vlast {P : List Ent} {x : Ent} : valAt ((P ++ [x]).map nd) pre P.length = .pointer (some ⟨x.e, 0, none⟩) := valAt_get (by simp)
set_option maxRecDepth 100000 in
set_option maxHeartbeats 0 in
theorem wc_ins {k bb d2 : Nat} {y0 y1 : Int} (w : World) (g : Wh) (rb : Nat) (ad : Option Addr) (len cap : Nat) (lev slot : Int) (hv : IsTab [.i .i64, .i .i64, .i .u64] w ad len cap) (T : Tab w) (h60 : len ≤ 60) (hk : k < len) (hd2 : d2 < 18446744073709551616)  (a : Act) (wr : World) (H : wcT w g rb ad len cap lev slot k k bb 0 y1 d2 a wr) :
    Code.wp Tryd.prog (blkIn 2 Tryd.f3) (Exit.then (wcM w g rb ad len cap lev slot k (k + 1)) (Qx 1 (wcM w g rb ad len cap lev slot k (k + 1)))) a wr := by
  obtain ⟨t, ds⟩ := a
  obtain ⟨now, Q, P, l, ar, ae, cr, ce, hd', hz, h1, h2, h3, h9, h10, h11, h12, h13, rel⟩ := H
  replace hd' : ds = [] := hd'
  subst hd'
  replace hz : t.size = 218 := hz
  replace h1 : t.getD 1 undef = .slice ad len cap := h1
  replace h2 : t.getD 2 undef = .int .i64 lev := h2
  replace h3 : t.getD 3 undef = .int .i64 slot := h3
  replace h9 : t.getD 9 undef = .pointer (some ⟨g.wb, 0, none⟩) := h9
  replace h10 : t.getD 10 undef = .pointer (some ⟨rb, 0, none⟩) := h10
  replace h11 : t.getD 11 undef = .slice ae P.length ce := h11
  replace h12 : t.getD 12 undef = .int .i64 (k : Nat) := h12
  replace h13 : t.getD 13 undef = .pointer (some ⟨bb, 0, none⟩) := h13
  have REL := Lib.hid rel
  clear rel
  refine openFr218 (P := fun t => t.getD 1 undef = .slice ad len cap → t.getD 2 undef = .int .i64 lev → t.getD 3 undef = .int .i64 slot → t.getD 9 undef = .pointer (some ⟨g.wb, 0, none⟩) → t.getD 10 undef = .pointer (some ⟨rb, 0, none⟩) → t.getD 11 undef = .slice ae P.length ce → t.getD 12 undef = .int .i64 (k : Nat) → t.getD 13 undef = .pointer (some ⟨bb, 0, none⟩) → Code.wp Tryd.prog (blkIn 2 Tryd.f3) (Exit.then (wcM w g rb ad len cap lev slot k (k + 1)) (Qx 1 (wcM w g rb ad len cap lev slot k (k + 1)))) ⟨t, []⟩ wr) ?_ t hz h1 h2 h3 h9 h10 h11 h12 h13
  clear h1 h2 h3 h9 h10 h11 h12 h13 hz t
  intro c0 c1 c2 c3 c4 c5 c6 c7 c8 c9 c10 c11 c12 c13 c14 c15 c16 c17 c18 c19 c20 c21 c22 c23 c24 c25 c26 c27 c28 c29 c30 c31 c32 c33 c34 c35 c36 c37 c38 c39 c40 c41 c42 c43 c44 c45 c46 c47 c48 c49 c50 c51 c52 c53 c54 c55 c56 c57 c58 c59 c60 c61 c62 c63 c64 c65 c66 c67 c68 c69 c70 c71 c72 c73 c74 c75 c76 c77 c78 c79 c80 c81 c82 c83 c84 c85 c86 c87 c88 c89 c90 c91 c92 c93 c94 c95 c96 c97 c98 c99 c100 c101 c102 c103 c104 c105 c106 c107 c108 c109 c110 c111 c112 c113 c114 c115 c116 c117 c118 c119 c120 c121 c122 c123 c124 c125 c126 c127 c128 c129 c130 c131 c132 c133 c134 c135 c136 c137 c138 c139 c140 c141 c142 c143 c144 c145 c146 c147 c148 c149 c150 c151 c152 c153 c154 c155 c156 c157 c158 c159 c160 c161 c162 c163 c164 c165 c166 c167 c168 c169 c170 c171 c172 c173 c174 c175 c176 c177 c178 c179 c180 c181 c182 c183 c184 c185 c186 c187 c188 c189 c190 c191 c192 c193 c194 c195 c196 c197 c198 c199 c200 c201 c202 c203 c204 c205 c206 c207 c208 c209 c210 c211 c212 c213 c214 c215 c216 c217 h1 h2 h3 h9 h10 h11 h12 h13
  replace h1 : c1 = .slice ad len cap := h1
  replace h2 : c2 = .int .i64 lev := h2
  replace h3 : c3 = .int .i64 slot := h3
  replace h9 : c9 = .pointer (some ⟨g.wb, 0, none⟩) := h9
  replace h10 : c10 = .pointer (some ⟨rb, 0, none⟩) := h10
  replace h11 : c11 = .slice ae P.length ce := h11
  replace h12 : c12 = .int .i64 (k : Nat) := h12
  replace h13 : c13 = .pointer (some ⟨bb, 0, none⟩) := h13
  subst h1
  subst h2
  subst h3
  subst h9
  subst h10
  subst h11
  subst h12
  subst h13
  conv => arg 2; whnf
  have q0 := REL.out.2.c0
  have q2 := REL.out.2.c2
  have pn := REL.out.1.n
  clear hv T
  go_wp2_with fail
  by_cases hlate : d2 ≤ now
  · refine (REL.out.1.u.d.late d2 (P.length : Int) hlate).mono ?_
    rintro e w5 ⟨rfl, rfl⟩
    have hle : (d2 : Int) ≤ (now : Int) := by omega
    go_upto_region 14 with (fail)
    have RD := Lib.hid (REL.out.1.quiet (Ch.refl _ _).drew)
    have qd : wr.drew.cell? ⟨bb, 2, none⟩ = some (.int .u64 (d2 : Nat)) := q2
    refine wp_region_held_drew (S := fun w' => w'.cell? ⟨bb, 2, none⟩ = some (.int .u64 (d2 : Nat)) ∧ w'.cell? ⟨rb, 0, none⟩ = some (.int .u64 (now : Nat))) (by kernel_rfl) ⟨qd, RD.out.u.r.t⟩ (fun hHeld => ?_)
    clear REL q0 q2
    generalize wr.drew = X at hHeld RD qd ⊢
    refine take_at (v := ?_) 0 (some 59) rfl (by kernel_rfl) (by kernel_rfl) (by kernel_rfl) (by kernel_rfl) (fun _ _ _ h => h) (Or.inl ⟨by rfl, ?_⟩) (by assumption) ?_
    rotate_left
    · intro w hSw; (try dsimp only at hSw); go_simp; try (with_reducible rfl)
    (try simp only [Act.put, List.setIfInBounds_toArray, List.set_cons_zero, List.set_cons_succ])
    refine take_at (v := ?_) 1 (some 60) rfl (by kernel_rfl) (by kernel_rfl) (by kernel_rfl) (by kernel_rfl) (fun _ _ _ h => h) (Or.inl ⟨by rfl, ?_⟩) (by assumption) ?_
    rotate_left
    · intro w hSw; (try dsimp only at hSw); go_simp; try (with_reducible rfl)
    (try simp only [Act.put, List.setIfInBounds_toArray, List.set_cons_zero, List.set_cons_succ])
    refine take_at (v := ?_) 2 (some 61) rfl (by kernel_rfl) (by kernel_rfl) (by kernel_rfl) (by kernel_rfl) (fun _ _ _ h => h) (Or.inl ⟨by rfl, ?_⟩) (by assumption) ?_
    rotate_left
    · intro w hSw; (try dsimp only at hSw); go_simp; try (with_reducible rfl)
    (try simp only [Act.put, List.setIfInBounds_toArray, List.set_cons_zero, List.set_cons_succ])
    refine take_at (v := ?_) 3 (some 62) rfl (by kernel_rfl) (by kernel_rfl) (by kernel_rfl) (by kernel_rfl) (fun _ _ _ h => h) (Or.inl ⟨by rfl, ?_⟩) (by assumption) ?_
    rotate_left
    · intro w hSw; (try dsimp only at hSw); go_simp; try (with_reducible rfl)
    (try simp only [Act.put, List.setIfInBounds_toArray, List.set_cons_zero, List.set_cons_succ])
    refine take_at (v := ?_) 4 (some 63) rfl (by kernel_rfl) (by kernel_rfl) (by kernel_rfl) (by kernel_rfl) (fun _ _ _ h => h) (Or.inl ⟨by rfl, ?_⟩) (by assumption) ?_
    rotate_left
    · intro w hSw; (try dsimp only at hSw); go_simp; try (with_reducible rfl)
    (try simp only [Act.put, List.setIfInBounds_toArray, List.set_cons_zero, List.set_cons_succ])
    refine take_at (v := ?_) 5 (some 64) rfl (by kernel_rfl) (by kernel_rfl) (by kernel_rfl) (by kernel_rfl) (fun _ _ _ h => h) (Or.inl ⟨by rfl, ?_⟩) (by assumption) ?_
    rotate_left
    · intro w hSw; (try dsimp only at hSw); go_simp; try (with_reducible rfl)
    (try simp only [Act.put, List.setIfInBounds_toArray, List.set_cons_zero, List.set_cons_succ])
    refine take_at (v := ?_) 6 (some 65) rfl (by kernel_rfl) (by kernel_rfl) (by kernel_rfl) (by kernel_rfl) (fun _ _ _ h => h) (Or.inl ⟨by rfl, ?_⟩) (by assumption) ?_
    rotate_left
    · intro w hSw; (try dsimp only at hSw); go_simp; try (with_reducible rfl)
    (try simp only [Act.put, List.setIfInBounds_toArray, List.set_cons_zero, List.set_cons_succ])
    refine wpAnyH_done (by kernel_rfl) ?_ _
    have NX := Lib.hid (RD.out.mono (Nat.le_succ k))
    clear RD hHeld qd
    go_wp2
    first | exact ⟨by first | rfl | trivial, ⟨_, _, _, _, _, _, _, _, rfl, rfl, rfl, rfl, rfl, rfl, rfl, rfl, rfl, NX.out⟩⟩ | exact ⟨_, _, _, _, _, _, _, _, rfl, rfl, rfl, rfl, rfl, rfl, rfl, rfl, rfl, NX.out⟩
  · have hold : ¬ WS g P bb := REL.out.2.o.2.1
    refine (REL.out.1.u.d.insert d2 (P.length : Int) (by omega) hd2 (by have := REL.out.1.ql; omega)).mono ?_
    rintro e w5 ⟨xb, rfl, hxb, d5, c5⟩
    have q5 := c5.keeps q2 hold
    have D5 := Lib.hid d5
    have C5 := Lib.hid c5
    have R5 := Lib.hid (REL.out.1.u.r.kept c5 (fun k hk e => REL.out.1.u.a k hk e))
    have hgt : ¬ (d2 : Int) ≤ (now : Int) := by omega
    have hgtd : decide ((d2 : Int) ≤ (now : Int)) = false := decide_eq_false hgt
    have E5 := Lib.hid (d5.q.w.e ⟨xb, d2, (P.length : Int)⟩ (by simp))
    clear d5 c5 q0 q2
    go_upto_region 14 with (fail)
    have qd : w5.drew.cell? ⟨bb, 2, none⟩ = some (.int .u64 (d2 : Nat)) := q5
    have td : w5.drew.cell? ⟨rb, 0, none⟩ = some (.int .u64 (now : Nat)) := R5.out.t
    refine wp_region_held_drew (S := fun w' => w'.cell? ⟨bb, 2, none⟩ = some (.int .u64 (d2 : Nat)) ∧ w'.cell? ⟨rb, 0, none⟩ = some (.int .u64 (now : Nat))) (by kernel_rfl) ⟨qd, td⟩ (fun hHeld => ?_)
    clear qd td
    refine take_at (v := ?_) 0 (some 59) rfl (by kernel_rfl) (by kernel_rfl) (by kernel_rfl) (by kernel_rfl) (fun _ _ _ h => h) (Or.inl ⟨by rfl, ?_⟩) (by assumption) ?_
    rotate_left
    · intro w hSw; (try dsimp only at hSw); go_simp; try (with_reducible rfl)
    (try simp only [Act.put, List.setIfInBounds_toArray, List.set_cons_zero, List.set_cons_succ])
    refine take_at (v := ?_) 1 (some 60) rfl (by kernel_rfl) (by kernel_rfl) (by kernel_rfl) (by kernel_rfl) (fun _ _ _ h => h) (Or.inl ⟨by rfl, ?_⟩) (by assumption) ?_
    rotate_left
    · intro w hSw; (try dsimp only at hSw); go_simp; try (with_reducible rfl)
    (try simp only [Act.put, List.setIfInBounds_toArray, List.set_cons_zero, List.set_cons_succ])
    refine take_at (v := ?_) 2 (some 61) rfl (by kernel_rfl) (by kernel_rfl) (by kernel_rfl) (by kernel_rfl) (fun _ _ _ h => h) (Or.inl ⟨by rfl, ?_⟩) (by assumption) ?_
    rotate_left
    · intro w hSw; (try dsimp only at hSw); go_simp; try (with_reducible rfl)
    (try simp only [Act.put, List.setIfInBounds_toArray, List.set_cons_zero, List.set_cons_succ])
    refine take_at (v := ?_) 3 (some 62) rfl (by kernel_rfl) (by kernel_rfl) (by kernel_rfl) (by kernel_rfl) (fun _ _ _ h => h) (Or.inl ⟨by rfl, ?_⟩) (by assumption) ?_
    rotate_left
    · intro w hSw; (try dsimp only at hSw); go_simp; try (with_reducible rfl)
    (try simp only [Act.put, List.setIfInBounds_toArray, List.set_cons_zero, List.set_cons_succ])
    refine take_at (v := ?_) 4 (some 63) rfl (by kernel_rfl) (by kernel_rfl) (by kernel_rfl) (by kernel_rfl) (fun _ _ _ h => h) (Or.inl ⟨by rfl, ?_⟩) (by assumption) ?_
    rotate_left
    · intro w hSw; (try dsimp only at hSw); go_simp; try (with_reducible rfl)
    (try simp only [Act.put, List.setIfInBounds_toArray, List.set_cons_zero, List.set_cons_succ])
    refine take_at (v := ?_) 5 (some 64) rfl (by kernel_rfl) (by kernel_rfl) (by kernel_rfl) (by kernel_rfl) (fun _ _ _ h => h) (Or.inl ⟨by rfl, ?_⟩) (by assumption) ?_
    rotate_left
    · intro w hSw; (try dsimp only at hSw); go_simp; try (with_reducible rfl)
    (try simp only [Act.put, List.setIfInBounds_toArray, List.set_cons_zero, List.set_cons_succ])
    refine take_at (v := ?_) 6 (some 65) rfl (by kernel_rfl) (by kernel_rfl) (by kernel_rfl) (by kernel_rfl) (fun _ _ _ h => h) (Or.inl ⟨by rfl, ?_⟩) (by assumption) ?_
    rotate_left
    · intro w hSw; (try dsimp only at hSw); go_simp; try (with_reducible rfl)
    (try simp only [Act.put, List.setIfInBounds_toArray, List.set_cons_zero, List.set_cons_succ])
    refine wpAnyH_done (by kernel_rfl) ?_ _
    clear hHeld
    obtain ⟨pl, hpl⟩ : ∃ pl, pl = P.length := ⟨_, rfl⟩
    have PL := Lib.hid hpl
    have e0 : w5.drew.cell? ⟨xb, 0, none⟩ = some (.int .u64 (d2 : Nat)) := E5.out.d
    have e1 : w5.drew.cell? ⟨xb, 1, none⟩ = some (.int .i64 (pl : Int)) := by rw [hpl]; exact E5.out.u
    have qd : w5.drew.cell? ⟨bb, 2, none⟩ = some (.int .u64 (d2 : Nat)) := q5
    rw [← hpl]
    have CD : Hid (Ch (WS g P) wr w5.drew) := Lib.hid C5.out.drew
    have DD := Lib.hid (D5.out.quiet (Ch.refl _ w5).drew)
    have RD := Lib.hid (R5.out.kept (S := Nil) (Ch.refl _ w5).drew (fun _ _ e => e))
    clear hpl E5 q5 D5 C5 R5
    generalize w5.drew = X at *
    go_upto_region 17 with (fail)
    have e0 : X.drew.cell? ⟨xb, 0, none⟩ = some (.int .u64 (d2 : Nat)) := e0
    have e1 : X.drew.cell? ⟨xb, 1, none⟩ = some (.int .i64 (pl : Int)) := e1
    have qd : X.drew.cell? ⟨bb, 2, none⟩ = some (.int .u64 (d2 : Nat)) := qd
    refine wp_region_held_drew (S := fun w' => w'.cell? ⟨xb, 0, none⟩ = some (.int .u64 (d2 : Nat)) ∧ w'.cell? ⟨xb, 1, none⟩ = some (.int .i64 (pl : Int)) ∧ w'.cell? ⟨bb, 2, none⟩ = some (.int .u64 (d2 : Nat))) (by kernel_rfl) ⟨e0, e1, qd⟩ (fun hHeld => ?_)
    have C6 : Hid (Ch (WS g P) wr X.drew) := Lib.hid CD.out.drew
    have D6 := Lib.hid (DD.out.quiet (Ch.refl _ X).drew)
    have R6 := Lib.hid (RD.out.kept (S := Nil) (Ch.refl _ X).drew (fun _ _ e => e))
    clear CD DD RD
    generalize X.drew = Y at *
    refine take_at (v := ?_) 0 (some 72) rfl (by kernel_rfl) (by kernel_rfl) (by kernel_rfl) (by kernel_rfl) (fun _ _ _ h => h) (Or.inl ⟨by rfl, ?_⟩) (by assumption) ?_
    rotate_left
    · intro w hSw; (try dsimp only at hSw); go_simp; try (with_reducible rfl)
    (try simp only [Act.put, List.setIfInBounds_toArray, List.set_cons_zero, List.set_cons_succ])
    refine take_at (v := ?_) 1 (some 73) rfl (by kernel_rfl) (by kernel_rfl) (by kernel_rfl) (by kernel_rfl) (fun _ _ _ h => h) (Or.inl ⟨by rfl, ?_⟩) (by assumption) ?_
    rotate_left
    · intro w hSw; (try dsimp only at hSw); go_simp; try (with_reducible rfl)
    (try simp only [Act.put, List.setIfInBounds_toArray, List.set_cons_zero, List.set_cons_succ])
    refine take_at (v := ?_) 2 (some 74) rfl (by kernel_rfl) (by kernel_rfl) (by kernel_rfl) (by kernel_rfl) (fun _ _ _ h => h) (Or.inl ⟨by rfl, ?_⟩) (by assumption) ?_
    rotate_left
    · intro w hSw; (try dsimp only at hSw); go_simp; try (with_reducible rfl)
    (try simp only [Act.put, List.setIfInBounds_toArray, List.set_cons_zero, List.set_cons_succ])
    refine take_at (v := ?_) 3 (some 75) rfl (by kernel_rfl) (by kernel_rfl) (by kernel_rfl) (by kernel_rfl) (fun _ _ _ h => h) (Or.inl ⟨by rfl, ?_⟩) (by assumption) ?_
    rotate_left
    · intro w hSw; (try dsimp only at hSw); go_simp; try (with_reducible rfl)
    (try simp only [Act.put, List.setIfInBounds_toArray, List.set_cons_zero, List.set_cons_succ])
    refine take_at (v := ?_) 4 (some 76) rfl (by kernel_rfl) (by kernel_rfl) (by kernel_rfl) (by kernel_rfl) (fun _ _ _ h => h) (Or.inl ⟨by rfl, ?_⟩) (by assumption) ?_
    rotate_left
    · intro w hSw; (try dsimp only at hSw); go_simp; try (with_reducible rfl)
    (try simp only [Act.put, List.setIfInBounds_toArray, List.set_cons_zero, List.set_cons_succ])
    refine take_at (v := ?_) 5 (some 77) rfl (by kernel_rfl) (by kernel_rfl) (by kernel_rfl) (by kernel_rfl) (fun _ _ _ h => h) (Or.inl ⟨by rfl, ?_⟩) (by assumption) ?_
    rotate_left
    · intro w hSw; (try dsimp only at hSw); go_simp; try (with_reducible rfl)
    (try simp only [Act.put, List.setIfInBounds_toArray, List.set_cons_zero, List.set_cons_succ])
    refine take_at (v := ?_) 6 (some 78) rfl (by kernel_rfl) (by kernel_rfl) (by kernel_rfl) (by kernel_rfl) (fun _ _ _ h => h) (Or.inl ⟨by rfl, ?_⟩) (by assumption) ?_
    rotate_left
    · intro w hSw; (try dsimp only at hSw); go_simp; try (with_reducible rfl)
    (try simp only [Act.put, List.setIfInBounds_toArray, List.set_cons_zero, List.set_cons_succ])
    refine take_at (v := ?_) 7 (some 79) rfl (by kernel_rfl) (by kernel_rfl) (by kernel_rfl) (by kernel_rfl) (fun _ _ _ h => h) (Or.inl ⟨by rfl, ?_⟩) (by assumption) ?_
    rotate_left
    · intro w hSw; (try dsimp only at hSw); go_simp; try (with_reducible rfl)
    (try simp only [Act.put, List.setIfInBounds_toArray, List.set_cons_zero, List.set_cons_succ])
    refine take_at (v := ?_) 8 (some 80) rfl (by kernel_rfl) (by kernel_rfl) (by kernel_rfl) (by kernel_rfl) (fun _ _ _ h => h) (Or.inl ⟨by rfl, ?_⟩) (by assumption) ?_
    rotate_left
    · intro w hSw; (try dsimp only at hSw); go_simp; try (with_reducible rfl)
    (try simp only [Act.put, List.setIfInBounds_toArray, List.set_cons_zero, List.set_cons_succ])
    refine take_at (v := ?_) 9 (some 81) rfl (by kernel_rfl) (by kernel_rfl) (by kernel_rfl) (by kernel_rfl) (fun _ _ _ h => h) (Or.inl ⟨by rfl, ?_⟩) (by assumption) ?_
    rotate_left
    · intro w hSw; (try dsimp only at hSw); go_simp; try (with_reducible rfl)
    (try simp only [Act.put, List.setIfInBounds_toArray, List.set_cons_zero, List.set_cons_succ])
    refine take_at (v := ?_) 10 (some 82) rfl (by kernel_rfl) (by kernel_rfl) (by kernel_rfl) (by kernel_rfl) (fun _ _ _ h => h) (Or.inl ⟨by rfl, ?_⟩) (by assumption) ?_
    rotate_left
    · intro w hSw; (try dsimp only at hSw); go_simp; try (with_reducible rfl)
    (try simp only [Act.put, List.setIfInBounds_toArray, List.set_cons_zero, List.set_cons_succ])
    refine take_at (v := ?_) 11 (some 83) rfl (by kernel_rfl) (by kernel_rfl) (by kernel_rfl) (by kernel_rfl) (fun _ _ _ h => h) (Or.inl ⟨by rfl, ?_⟩) (by assumption) ?_
    rotate_left
    · intro w hSw; (try dsimp only at hSw); go_simp; try (with_reducible rfl)
    (try simp only [Act.put, List.setIfInBounds_toArray, List.set_cons_zero, List.set_cons_succ])
    refine take_at (v := ?_) 12 (some 84) rfl (by kernel_rfl) (by kernel_rfl) (by kernel_rfl) (by kernel_rfl) (fun _ _ _ h => h) (Or.inl ⟨by rfl, ?_⟩) (by assumption) ?_
    rotate_left
    · intro w hSw; (try dsimp only at hSw); go_simp; try (with_reducible rfl)
    (try simp only [Act.put, List.setIfInBounds_toArray, List.set_cons_zero, List.set_cons_succ])
    refine take_at (v := ?_) 13 (some 85) rfl (by kernel_rfl) (by kernel_rfl) (by kernel_rfl) (by kernel_rfl) (fun _ _ _ h => h) (Or.inl ⟨by rfl, ?_⟩) (by assumption) ?_
    rotate_left
    · intro w hSw; (try dsimp only at hSw); go_simp; try (with_reducible rfl)
    (try simp only [Act.put, List.setIfInBounds_toArray, List.set_cons_zero, List.set_cons_succ])
    refine take_at (v := ?_) 14 (some 86) rfl (by kernel_rfl) (by kernel_rfl) (by kernel_rfl) (by kernel_rfl) (fun _ _ _ h => h) (Or.inl ⟨by rfl, ?_⟩) (by assumption) ?_
    rotate_left
    · intro w hSw; (try dsimp only at hSw); go_simp; try (with_reducible rfl)
    (try simp only [Act.put, List.setIfInBounds_toArray, List.set_cons_zero, List.set_cons_succ])
    refine take_at (v := ?_) 15 (some 87) rfl (by kernel_rfl) (by kernel_rfl) (by kernel_rfl) (by kernel_rfl) (fun _ _ _ h => h) (Or.inl ⟨by rfl, ?_⟩) (by assumption) ?_
    rotate_left
    · intro w hSw; (try dsimp only at hSw); go_simp; try (with_reducible rfl)
    (try simp only [Act.put, List.setIfInBounds_toArray, List.set_cons_zero, List.set_cons_succ])
    refine take_at (v := ?_) 16 (some 88) rfl (by kernel_rfl) (by kernel_rfl) (by kernel_rfl) (by kernel_rfl) (fun _ _ _ h => h) (Or.inl ⟨by rfl, ?_⟩) (by assumption) ?_
    rotate_left
    · intro w hSw; (try dsimp only at hSw); go_simp; try (with_reducible rfl)
    (try simp only [Act.put, List.setIfInBounds_toArray, List.set_cons_zero, List.set_cons_succ])
    refine take_at (v := ?_) 17 (some 89) rfl (by kernel_rfl) (by kernel_rfl) (by kernel_rfl) (by kernel_rfl) (fun _ _ _ h => h) (Or.inl ⟨by rfl, ?_⟩) (by assumption) ?_
    rotate_left
    · intro w hSw; (try dsimp only at hSw); go_simp; try (with_reducible rfl)
    (try simp only [Act.put, List.setIfInBounds_toArray, List.set_cons_zero, List.set_cons_succ])
    refine take_at (v := ?_) 18 (some 90) rfl (by kernel_rfl) (by kernel_rfl) (by kernel_rfl) (by kernel_rfl) (fun _ _ _ h => h) (Or.inl ⟨by rfl, ?_⟩) (by assumption) ?_
    rotate_left
    · intro w hSw; (try dsimp only at hSw); go_simp; try (with_reducible rfl)
    (try simp only [Act.put, List.setIfInBounds_toArray, List.set_cons_zero, List.set_cons_succ])
    refine take_at (v := ?_) 19 (some 91) rfl (by kernel_rfl) (by kernel_rfl) (by kernel_rfl) (by kernel_rfl) (fun _ _ _ h => h) (Or.inl ⟨by rfl, ?_⟩) (by assumption) ?_
    rotate_left
    · intro w hSw; (try dsimp only at hSw); go_simp; try (with_reducible rfl)
    (try simp only [Act.put, List.setIfInBounds_toArray, List.set_cons_zero, List.set_cons_succ])
    refine take_at (v := ?_) 20 (some 92) rfl (by kernel_rfl) (by kernel_rfl) (by kernel_rfl) (by kernel_rfl) (fun _ _ _ h => h) (Or.inl ⟨by rfl, ?_⟩) (by assumption) ?_
    rotate_left
    · intro w hSw; (try dsimp only at hSw); go_simp; try (with_reducible rfl)
    (try simp only [Act.put, List.setIfInBounds_toArray, List.set_cons_zero, List.set_cons_succ])
    refine take_at (v := ?_) 21 (some 93) rfl (by kernel_rfl) (by kernel_rfl) (by kernel_rfl) (by kernel_rfl) (fun _ _ _ h => h) (Or.inl ⟨by rfl, ?_⟩) (by assumption) ?_
    rotate_left
    · intro w hSw; (try dsimp only at hSw); go_simp; try (with_reducible rfl)
    (try simp only [Act.put, List.setIfInBounds_toArray, List.set_cons_zero, List.set_cons_succ])
    refine take_at (v := ?_) 22 (some 94) rfl (by kernel_rfl) (by kernel_rfl) (by kernel_rfl) (by kernel_rfl) (fun _ _ _ h => h) (Or.inl ⟨by rfl, ?_⟩) (by assumption) ?_
    rotate_left
    · intro w hSw; (try dsimp only at hSw); go_simp; try (with_reducible rfl)
    (try simp only [Act.put, List.setIfInBounds_toArray, List.set_cons_zero, List.set_cons_succ])
    refine take_at (v := ?_) 23 (some 95) rfl (by kernel_rfl) (by kernel_rfl) (by kernel_rfl) (by kernel_rfl) (fun _ _ _ h => h) (Or.inl ⟨by rfl, ?_⟩) (by assumption) ?_
    rotate_left
    · intro w hSw; (try dsimp only at hSw); go_simp; try (with_reducible rfl)
    (try simp only [Act.put, List.setIfInBounds_toArray, List.set_cons_zero, List.set_cons_succ])
    refine wpAnyH_done (by kernel_rfl) ?_ _
    clear hHeld e0 e1
    go_wp2_with fail
    refine (refPlace_of R6.out (pl : Int) d2 hd2 D6.out.q.w.nl (by have := REL.out.1.u.q.len; have := REL.out.1.ql; omega)).mono ?_
    rintro e w7 ⟨⟨r, rfl⟩, ar7, cr7, r7, o7, c7⟩
    have R7 := Lib.hid r7
    have O7 := Lib.hid o7
    have C7 := Lib.hid c7
    have E7 := Lib.hid (Row.kept (S := Nil) (Row.kept (Row.kept REL.out.1.e C6.out (fun j hj => (REL.out.1.eo j hj).2.1)) c7 (fun j hj => (REL.out.1.eo j hj).2.2)) ((Ch.refl Nil w7).alloc (Obj.cells #[.pointer (some ⟨xb, 0, none⟩)] 34)) (fun _ _ e => e))
    rw [← PL.out] at E7
    obtain ⟨P2, hP2⟩ : ∃ P2, P2 = P ++ [(⟨xb, d2, (pl : Int)⟩ : Ent)] := ⟨_, rfl⟩
    have HP2 := Lib.hid hP2
    have V1 : Hid (∀ i, i < pl * 1 → valAt (P2.map nd) pre i = valAt (P.map nd) pre i) := Lib.hid fun i hi => by rw [HP2.out]; exact vsnoc (by rw [← PL.out]; omega)
    have V2 : Hid (∀ (j : Nat) (u : Value), ([.pointer (some ⟨xb, 0, none⟩)] : List Value)[j]? = some u → valAt (P2.map nd) pre (pl * 1 + j) = u) := Lib.hid (by
      intro j u hu
      rw [HP2.out]
      obtain rfl : j = 0 := (by cases j; rfl; simp at hu)
      simp at hu
      subst hu
      have := vlast (P := P) (x := ⟨xb, d2, (pl : Int)⟩)
      rw [← PL.out] at this
      simpa using this)
    clear r7 o7 c7 hP2 qd
    have hpl2 : pl ≤ 70 := by have h1 := PL.out; have h2 := REL.out.1.n; have h3 := REL.out.1.u.q.len; have h4 := REL.out.1.ql; omega
    go_wp2_with (at_builtin; refine append_row _ rfl _ _ _ rfl 34 (.pointer none) 1 8 Tryd.underlying31 (by kernel_rfl) rfl (by omega) (by omega) rfl E7.out (by omega) w7.heap.size 1 [.pointer (some ⟨xb, 0, none⟩)] 34 rfl rfl (heap_alloc_new w7 _) (by simp [Value.oneCell']) (valAt (P2.map nd) pre) V1.out V2.out _ rfl ?_)
    intro gb cp8 w8 row8 ch8 at8 lt8
    rw [HP2.out] at row8
    have c8 : Ch (OwnS ae) w7 w8 := (((Ch.refl Nil w7).alloc _).mono (fun _ _ e => e.elim)).trans ch8
    have d6 := D6.out
    have r7 := R7.out
    have NX := Lib.hid (REL.out.1.more (x := ⟨xb, d2, (pl : Int)⟩) (ar' := ar7) (cr' := cr7) hxb (by rw [PL.out]) (by rw [← PL.out] at d6; exact d6) C6.out r7 O7.out C7.out c8 (by rw [← PL.out]; exact row8) (by rcases at8 with h | h; exact .inl h; exact .inr (by (try simp at h); omega)))
    clear ch8 row8 at8 lt8 E7 c8 d6 r7 D6 C6 R6 R7 O7 C7
    go_wp2
    exact ⟨_, _, P ++ [⟨xb, d2, (pl : Int)⟩], _, _, _, _, _, rfl, rfl, rfl, rfl, rfl, rfl, rfl, by rw [List.length_append, ← PL.out]; rfl, rfl, NX.out⟩
end Go.Proofs.YtkfknafgknppdaaDoor

namespace Go.Proofs.YtkfknafgknppdaaDoor
open Go.RowKit Verge LP
set_option linter.unusedVariables false
set_option linter.unusedSimpArgs false
attribute [local go_sem] Oper.semAt_some

theorem filter_lt {α : Type} (f : α → Bool) : ∀ l : List α, (∃ x, x ∈ l ∧ f x = false) → (l.filter f).length < l.length
  | [], h => by obtain ⟨x, hx, -⟩ := h; cases hx
  | y :: l, h => by
    have hl := List.length_filter_le f l
    rw [List.filter_cons]
    cases hy : f y with
    | false => rw [if_neg (by simp)]; simp; omega
    | true =>
      rw [if_pos rfl]
      obtain ⟨x, hx, hf⟩ := h
      rcases List.mem_cons.1 hx with e | e
      · subst e; rw [hy] at hf; cases hf
      · have := filter_lt f l ⟨x, e, hf⟩
        simp only [List.length_cons]; omega
theorem RQ.mem2 {l : List Dn} {Q : List Ent} {s : Nat} {y : Ent} (h : RQ l Q s) (hy : y ∈ Q) : ∃ x, x ∈ l ∧ x.u = y.u := by
  have h1 : kE y ∈ (rowsOf Q s (spotN y.d s)).map kE := List.mem_map_of_mem (mem_rowsOf.2 ⟨hy, rfl⟩)
  rw [← h.r] at h1
  obtain ⟨x, hx, e⟩ := List.mem_map.1 h1
  refine ⟨x, (List.mem_filter.1 hx).1, ?_⟩
  unfold kD kE at e
  simp only [Prod.mk.injEq] at e
  exact e.1
section
variable {w0 w wa wb : World} {g : Wh} {now now' : Nat} {Q Q' P : List Ent} {rb : Nat} {l l' : List Dn} {ar ar' ae : Option Addr} {cr cr' ce c : Nat}
/-- both wheels have turned -/
theorem AcR.turn (h : AcR w0 w g now Q P rb l ar cr ae ce c) (da : Drv w0 wa g now' Q' P) (ca : Ch (WS g P) w wa) (rw' : RefW wb rb now' l' ar' cr') (ob : ∀ k, OwnS ar' k → OwnS ar k ∨ wa.heap.size ≤ k) (cb : Ch (RS rb ar) wa wb) (q : RQ l' Q' now') (hl : Q'.length ≤ Q.length) : AcR w0 wb g now' Q' P rb l' ar' cr' ae ce c := by
  have hw := h.u.d.c.size
  have sa := ca.size
  have rs' : ∀ k, RS rb ar' k → RS rb ar k ∨ wa.heap.size ≤ k := fun k hk => by
    rcases hk with hk | hk
    · exact .inl (.inl hk)
    · rcases ob k hk with h1 | h1
      · exact .inl (.inr h1)
      · exact .inr h1
  refine ⟨⟨da.later cb (fun k hk e => h.u.a k e hk) h.u.o, rw', q, fun k hk e => ?_, fun k hk => ?_⟩, Row.kept (Row.kept h.e ca (fun j hj => (h.eo j hj).2.1)) cb (fun j hj => (h.eo j hj).2.2), h.pe, fun k hk => ⟨(h.eo k hk).1, (h.eo k hk).2.1, fun e => ?_⟩, h.n, by have := h.ql; omega⟩
  · rcases rs' k hk with h1 | h1
    · exact h.u.a k h1 e
    · have := da.lt e; omega
  · rcases rs' k hk with h1 | h1
    · exact h.u.o k h1
    · omega
  · rcases rs' k e with h1 | h1
    · exact (h.eo k hk).2.2 h1
    · have := Row.lt h.e k hk; omega
theorem Box8.turn {bb d2 : Nat} {y0 y1 : Int} (h : Box8 w0 g P rb ar ae bb y0 y1 d2 w) (ca : Ch (WS g P) w wa) (cb : Ch (RS rb ar) wa wb) (ob : ∀ k, OwnS ar' k → OwnS ar k ∨ wa.heap.size ≤ k) : Box8 w0 g P rb ar' ae bb y0 y1 d2 wb := by
  have hb := lt_of_cell h.c0
  have sa := ca.size
  simp only at hb
  refine ⟨cb.keeps (ca.keeps h.c0 h.o.2.1) h.o.2.2.1, cb.keeps (ca.keeps h.c1 h.o.2.1) h.o.2.2.1, cb.keeps (ca.keeps h.c2 h.o.2.1) h.o.2.2.1, h.o.1, h.o.2.1, fun e => ?_, h.o.2.2.2⟩
  rcases e with e | e
  · exact h.o.2.2.1 (.inl e)
  · rcases ob _ e with e | e
    · exact h.o.2.2.1 (.inr e)
    · omega
theorem Box8.quiet {bb d2 : Nat} {y0 y1 : Int} (h : Box8 w0 g P rb ar ae bb y0 y1 d2 w) (c : Ch Nil w wa) : Box8 w0 g P rb ar ae bb y0 y1 d2 wa :=
  ⟨c.keeps h.c0 (fun e => e), c.keeps h.c1 (fun e => e), c.keeps h.c2 (fun e => e), h.o⟩
end
theorem nat_of_max (y : Int) : ∃ mm : Nat, (if 0 < y then y else 0) = (mm : Int) := ⟨(if 0 < y then y else 0).toNat, by split <;> omega⟩
theorem tmod_nat8 (a n : Nat) : ((a : Int)).tmod (n : Int) = ((a % n : Nat) : Int) := (Int.ofNat_tmod a n).symm
set_option maxRecDepth 100000 in
set_option maxHeartbeats 0 in
theorem wc_rem {k bb d2 : Nat} {y0 y1 : Int} (w : World) (g : Wh) (rb : Nat) (ad : Option Addr) (len cap : Nat) (lev slot : Int) (hv : IsTab [.i .i64, .i .i64, .i .u64] w ad len cap) (T : Tab w) (h60 : len ≤ 60) (hk : k < len) (hd2 : d2 < 18446744073709551616)  (a : Act) (wr : World) (H : wcT w g rb ad len cap lev slot k k bb 1 y1 d2 a wr) :
    Code.wp Tryd.prog (blkIn 2 Tryd.f3) (Exit.then (wcM w g rb ad len cap lev slot k (k + 1)) (Qx 1 (wcM w g rb ad len cap lev slot k (k + 1)))) a wr := by
  obtain ⟨t, ds⟩ := a
  obtain ⟨now, Q, P, l, ar, ae, cr, ce, hd', hz, h1, h2, h3, h9, h10, h11, h12, h13, rel⟩ := H
  replace hd' : ds = [] := hd'
  subst hd'
  replace hz : t.size = 218 := hz
  replace h1 : t.getD 1 undef = .slice ad len cap := h1
  replace h2 : t.getD 2 undef = .int .i64 lev := h2
  replace h3 : t.getD 3 undef = .int .i64 slot := h3
  replace h9 : t.getD 9 undef = .pointer (some ⟨g.wb, 0, none⟩) := h9
  replace h10 : t.getD 10 undef = .pointer (some ⟨rb, 0, none⟩) := h10
  replace h11 : t.getD 11 undef = .slice ae P.length ce := h11
  replace h12 : t.getD 12 undef = .int .i64 (k : Nat) := h12
  replace h13 : t.getD 13 undef = .pointer (some ⟨bb, 0, none⟩) := h13
  have REL := Lib.hid rel
  clear rel
  refine openFr218 (P := fun t => t.getD 1 undef = .slice ad len cap → t.getD 2 undef = .int .i64 lev → t.getD 3 undef = .int .i64 slot → t.getD 9 undef = .pointer (some ⟨g.wb, 0, none⟩) → t.getD 10 undef = .pointer (some ⟨rb, 0, none⟩) → t.getD 11 undef = .slice ae P.length ce → t.getD 12 undef = .int .i64 (k : Nat) → t.getD 13 undef = .pointer (some ⟨bb, 0, none⟩) → Code.wp Tryd.prog (blkIn 2 Tryd.f3) (Exit.then (wcM w g rb ad len cap lev slot k (k + 1)) (Qx 1 (wcM w g rb ad len cap lev slot k (k + 1)))) ⟨t, []⟩ wr) ?_ t hz h1 h2 h3 h9 h10 h11 h12 h13
  clear h1 h2 h3 h9 h10 h11 h12 h13 hz t
  intro c0 c1 c2 c3 c4 c5 c6 c7 c8 c9 c10 c11 c12 c13 c14 c15 c16 c17 c18 c19 c20 c21 c22 c23 c24 c25 c26 c27 c28 c29 c30 c31 c32 c33 c34 c35 c36 c37 c38 c39 c40 c41 c42 c43 c44 c45 c46 c47 c48 c49 c50 c51 c52 c53 c54 c55 c56 c57 c58 c59 c60 c61 c62 c63 c64 c65 c66 c67 c68 c69 c70 c71 c72 c73 c74 c75 c76 c77 c78 c79 c80 c81 c82 c83 c84 c85 c86 c87 c88 c89 c90 c91 c92 c93 c94 c95 c96 c97 c98 c99 c100 c101 c102 c103 c104 c105 c106 c107 c108 c109 c110 c111 c112 c113 c114 c115 c116 c117 c118 c119 c120 c121 c122 c123 c124 c125 c126 c127 c128 c129 c130 c131 c132 c133 c134 c135 c136 c137 c138 c139 c140 c141 c142 c143 c144 c145 c146 c147 c148 c149 c150 c151 c152 c153 c154 c155 c156 c157 c158 c159 c160 c161 c162 c163 c164 c165 c166 c167 c168 c169 c170 c171 c172 c173 c174 c175 c176 c177 c178 c179 c180 c181 c182 c183 c184 c185 c186 c187 c188 c189 c190 c191 c192 c193 c194 c195 c196 c197 c198 c199 c200 c201 c202 c203 c204 c205 c206 c207 c208 c209 c210 c211 c212 c213 c214 c215 c216 c217 h1 h2 h3 h9 h10 h11 h12 h13
  replace h1 : c1 = .slice ad len cap := h1
  replace h2 : c2 = .int .i64 lev := h2
  replace h3 : c3 = .int .i64 slot := h3
  replace h9 : c9 = .pointer (some ⟨g.wb, 0, none⟩) := h9
  replace h10 : c10 = .pointer (some ⟨rb, 0, none⟩) := h10
  replace h11 : c11 = .slice ae P.length ce := h11
  replace h12 : c12 = .int .i64 (k : Nat) := h12
  replace h13 : c13 = .pointer (some ⟨bb, 0, none⟩) := h13
  subst h1
  subst h2
  subst h3
  subst h9
  subst h10
  subst h11
  subst h12
  subst h13
  conv => arg 2; whnf
  have q0 := REL.out.2.c0
  have q1 := REL.out.2.c1
  have pn := REL.out.1.n
  clear hv T
  by_cases hp0 : P = []
  · have pl0 : P.length = 0 := by rw [hp0]; rfl
    have NX := Lib.hid (REL.out.1.mono (Nat.le_succ k))
    obtain ⟨pl, hpl⟩ : ∃ pl, pl = P.length := ⟨_, rfl⟩
    have PL := Lib.hid hpl
    rw [← hpl] at pl0 ⊢
    clear hpl hp0 REL
    subst pl0
    go_wp2
    exact ⟨_, _, _, _, _, _, _, _, rfl, rfl, rfl, rfl, rfl, rfl, rfl, by rw [← PL.out]; rfl, rfl, NX.out⟩
  · have pl0 : 0 < P.length := List.length_pos_iff.2 hp0
    obtain ⟨mm, hm1⟩ := nat_of_max y1
    have hj := Nat.mod_lt mm pl0
    obtain ⟨j, hjj⟩ : ∃ j, j = mm % P.length := ⟨_, rfl⟩
    have tm := tmod_nat8 mm P.length
    rw [← hjj] at hj tm
    obtain ⟨x, hx⟩ : ∃ x, P[j]? = some x := ⟨_, List.getElem?_eq_getElem hj⟩
    have hxP : x ∈ P := List.mem_of_getElem? hx
    have hxu := REL.out.1.pe j x hx
    obtain ⟨gb, hgb, -⟩ := Row.form REL.out.1.e pl0
    have q4 : wr.cell? ⟨gb, j, none⟩ = some (.pointer (some ⟨x.e, 0, none⟩)) := RowX.cell (by rw [← hgb]; exact REL.out.1.e) hj hx
    have lc := Row.len_cap REL.out.1.e
    subst hgb
    have PM : Hid (x ∈ P) := Lib.hid hxP
    have XU := Lib.hid hxu
    have hem : (mm : Int) % (P.length : Int) = (j : Int) := by rw [hjj, Int.natCast_emod]
    obtain ⟨pl, hpl⟩ : ∃ pl, pl = P.length := ⟨_, rfl⟩
    have PL := Lib.hid hpl
    rw [← hpl] at pl0 hj tm hem lc ⊢
    clear hpl hjj hx hxP hxu hp0
    have hjz : (j : Int) < (pl : Int) := by omega
    have hjz0 : (0 : Int) ≤ (j : Int) := by omega
    have plz : (0 : Int) < (pl : Int) := by omega
    have pl00 : ¬ pl = 0 := by omega
    have e0 : ((j : Int)).toNat = j := by omega
    by_cases hq : x ∈ Q
    · have RQN : Hid (RQ (l.filter fun y => !decide (y.u = (j : Int))) (woQ Q x) now) := Lib.hid (by
        have := REL.out.1.u.q.wo (x := x) (fun y hy => ⟨fun e => REL.out.1.inj (REL.out.1.u.d.q.p y hy) PM.out e, fun e => by rw [e]⟩)
        rw [XU.out] at this
        exact this)
      have LT : Hid ((l.filter fun y => !decide (y.u = (j : Int))).length < l.length) := Lib.hid (by
        obtain ⟨y, hy, hu⟩ := RQ.mem2 REL.out.1.u.q hq
        exact filter_lt _ _ ⟨y, hy, by simp [hu, XU.out]⟩)
      have HQ := Lib.hid hq
      clear hq
      go_wp2_with fail
      refine (REL.out.1.u.d.remove_in HQ.out (by have := REL.out.1.ql; omega)).mono ?_
      rintro e w5 ⟨rfl, d5, c5⟩
      have D5 := Lib.hid d5
      have C5 := Lib.hid c5
      have R5 := Lib.hid (REL.out.1.u.r.kept c5 (fun k hk e => REL.out.1.u.a k hk e))
      clear d5 c5 q4
      go_wp2_with fail
      refine (refRemove_of R5.out (j : Int) (by have := REL.out.1.u.q.len; have := REL.out.1.ql; omega)).mono ?_
      rintro e w6 ⟨ar6, cr6, rfl, r6, o6, c6⟩
      rw [decide_eq_true LT.out]
      have NX := Lib.hid ((REL.out.1.turn (Q' := woQ Q x) D5.out C5.out r6 (fun k hk => .inr (o6 k hk)) (c6.mono fun _ _ e => .inl e) RQN.out (by first | exact Nat.le_refl _ | exact List.length_filter_le _ _)).mono (Nat.le_succ k))
      clear r6 o6 c6 REL D5 C5 R5
      go_wp2
      rw [PL.out]
      exact ⟨_, _, _, _, _, _, _, _, rfl, rfl, rfl, rfl, rfl, rfl, rfl, rfl, rfl, NX.out⟩
    · have FE : Hid ((l.filter fun y => !decide (y.u = (j : Int))) = l) := Lib.hid (by
        refine List.filter_eq_self.2 fun y hy => ?_
        obtain ⟨y2, h1, h2, -⟩ := REL.out.1.u.q.mem hy
        simp only [Bool.not_eq_true', decide_eq_false_iff_not]
        intro hu
        have := REL.out.1.inj (REL.out.1.u.d.q.p y2 h1) PM.out (by rw [h2, hu, XU.out])
        subst this
        exact hq h1)
      have RQN : Hid (RQ (l.filter fun y => !decide (y.u = (j : Int))) Q now) := Lib.hid (by rw [FE.out]; exact REL.out.1.u.q)
      have HQ := Lib.hid hq
      clear hq
      go_wp2_with fail
      refine (REL.out.1.u.d.remove_out PM.out HQ.out (by have := REL.out.1.ql; omega)).mono ?_
      rintro e w5 ⟨rfl, d5, c5⟩
      have D5 := Lib.hid d5
      have C5 := Lib.hid c5
      have R5 := Lib.hid (REL.out.1.u.r.kept c5 (fun k hk e => REL.out.1.u.a k hk e))
      clear d5 c5 q4
      go_wp2_with fail
      refine (refRemove_of R5.out (j : Int) (by have := REL.out.1.u.q.len; have := REL.out.1.ql; omega)).mono ?_
      rintro e w6 ⟨ar6, cr6, rfl, r6, o6, c6⟩
      rw [decide_eq_false (by rw [FE.out]; omega)]
      have NX := Lib.hid ((REL.out.1.turn (Q' := Q) D5.out C5.out r6 (fun k hk => .inr (o6 k hk)) (c6.mono fun _ _ e => .inl e) RQN.out (by first | exact Nat.le_refl _ | exact List.length_filter_le _ _)).mono (Nat.le_succ k))
      clear r6 o6 c6 REL D5 C5 R5
      go_wp2
      rw [PL.out]
      exact ⟨_, _, _, _, _, _, _, _, rfl, rfl, rfl, rfl, rfl, rfl, rfl, rfl, rfl, NX.out⟩
end Go.Proofs.YtkfknafgknppdaaDoor

namespace Go.Proofs.YtkfknafgknppdaaDoor
open Go.RowKit Verge LP
set_option linter.unusedVariables false
set_option linter.unusedSimpArgs false
attribute [local go_sem] Oper.semAt_some

/-- the i-th number -/
def uD (F : List Dn) (i : Nat) : Int := (F.getD i ⟨0, 0, 0⟩).u
/-- what holds at the head of the loop -/
def wcEI (w6 : World) (F : List Dn) (ao : Option Addr) (m co : Nat) (V01 V02 V03 V09 V10 V11 V12 V13 V18 V19 V20 : Value) (k : Nat) (a : Act) (wr : World) : Prop :=
  ∃ (aw : Option Addr) (cw : Nat), a.defers = [] ∧ a.tmps.size = 218 ∧ a.tmps.getD 1 undef = V01 ∧ a.tmps.getD 2 undef = V02 ∧ a.tmps.getD 3 undef = V03 ∧ a.tmps.getD 9 undef = V09 ∧ a.tmps.getD 10 undef = V10 ∧ a.tmps.getD 11 undef = V11 ∧ a.tmps.getD 12 undef = V12 ∧ a.tmps.getD 13 undef = V13 ∧ a.tmps.getD 18 undef = V18 ∧ a.tmps.getD 19 undef = V19 ∧ a.tmps.getD 20 undef = V20 ∧ a.tmps.getD 21 undef = .slice ao m co ∧ a.tmps.getD 22 undef = .slice aw k cw ∧ a.tmps.getD 23 undef = .int .i64 (k : Nat) ∧ (Ch Nil w6 wr ∧ RowI wr aw k cw (uD F) ∧ ∀ j, OwnS aw j → w6.heap.size ≤ j)
theorem wcEI_ctr {k : Nat} (w6 : World) (F : List Dn) (ao : Option Addr) (m co : Nat) (V01 V02 V03 V09 V10 V11 V12 V13 V18 V19 V20 : Value) {a : Act} {wr : World} (H : wcEI w6 F ao m co V01 V02 V03 V09 V10 V11 V12 V13 V18 V19 V20 k a wr) : a.tmps.getD 23 undef = .int .i64 (k : Nat) := by
  obtain ⟨aw, cw, -, -, -, -, -, -, -, -, -, -, -, -, -, -, -, h, -⟩ := H
  exact h
set_option maxRecDepth 100000 in
set_option maxHeartbeats 0 in
theorem wcE_round {k : Nat} (w6 : World) (F : List Dn) (ao : Option Addr) (m co : Nat) (V01 V02 V03 V09 V10 V11 V12 V13 V18 V19 V20 : Value) (rF : RowD w6 ao m co F) (hm : m = F.length) (hm2 : m ≤ 1000) (a : Act) (wr : World) (hk : k ≤ m) (H : wcEI w6 F ao m co V01 V02 V03 V09 V10 V11 V12 V13 V18 V19 V20 k a wr) :
    Code.wp Tryd.prog (loopIn 5 Tryd.f3) (Exit.then (fun a' w' => wcEI w6 F ao m co V01 V02 V03 V09 V10 V11 V12 V13 V18 V19 V20 (k + 1) a' w' ∧ k < m) (Qx 5 (fun a' w' => wcEI w6 F ao m co V01 V02 V03 V09 V10 V11 V12 V13 V18 V19 V20 k a' w' ∧ k = m))) a wr := by
  obtain ⟨t, ds⟩ := a
  obtain ⟨aw, cw, hd', hz, h1, h2, h3, h9, h10, h11, h12, h13, h18, h19, h20, h21, h22, h23, rel⟩ := H
  replace hd' : ds = [] := hd'
  subst hd'
  replace hz : t.size = 218 := hz
  replace h1 : t.getD 1 undef = V01 := h1
  replace h2 : t.getD 2 undef = V02 := h2
  replace h3 : t.getD 3 undef = V03 := h3
  replace h9 : t.getD 9 undef = V09 := h9
  replace h10 : t.getD 10 undef = V10 := h10
  replace h11 : t.getD 11 undef = V11 := h11
  replace h12 : t.getD 12 undef = V12 := h12
  replace h13 : t.getD 13 undef = V13 := h13
  replace h18 : t.getD 18 undef = V18 := h18
  replace h19 : t.getD 19 undef = V19 := h19
  replace h20 : t.getD 20 undef = V20 := h20
  replace h21 : t.getD 21 undef = .slice ao m co := h21
  replace h22 : t.getD 22 undef = .slice aw k cw := h22
  replace h23 : t.getD 23 undef = .int .i64 (k : Nat) := h23
  have REL := Lib.hid rel
  clear rel
  refine openFr218 (P := fun t => t.getD 1 undef = V01 → t.getD 2 undef = V02 → t.getD 3 undef = V03 → t.getD 9 undef = V09 → t.getD 10 undef = V10 → t.getD 11 undef = V11 → t.getD 12 undef = V12 → t.getD 13 undef = V13 → t.getD 18 undef = V18 → t.getD 19 undef = V19 → t.getD 20 undef = V20 → t.getD 21 undef = .slice ao m co → t.getD 22 undef = .slice aw k cw → t.getD 23 undef = .int .i64 (k : Nat) → Code.wp Tryd.prog (loopIn 5 Tryd.f3) (Exit.then (fun a' w' => wcEI w6 F ao m co V01 V02 V03 V09 V10 V11 V12 V13 V18 V19 V20 (k + 1) a' w' ∧ k < m) (Qx 5 (fun a' w' => wcEI w6 F ao m co V01 V02 V03 V09 V10 V11 V12 V13 V18 V19 V20 k a' w' ∧ k = m))) ⟨t, []⟩ wr) ?_ t hz h1 h2 h3 h9 h10 h11 h12 h13 h18 h19 h20 h21 h22 h23
  clear h1 h2 h3 h9 h10 h11 h12 h13 h18 h19 h20 h21 h22 h23 hz t
  intro c0 c1 c2 c3 c4 c5 c6 c7 c8 c9 c10 c11 c12 c13 c14 c15 c16 c17 c18 c19 c20 c21 c22 c23 c24 c25 c26 c27 c28 c29 c30 c31 c32 c33 c34 c35 c36 c37 c38 c39 c40 c41 c42 c43 c44 c45 c46 c47 c48 c49 c50 c51 c52 c53 c54 c55 c56 c57 c58 c59 c60 c61 c62 c63 c64 c65 c66 c67 c68 c69 c70 c71 c72 c73 c74 c75 c76 c77 c78 c79 c80 c81 c82 c83 c84 c85 c86 c87 c88 c89 c90 c91 c92 c93 c94 c95 c96 c97 c98 c99 c100 c101 c102 c103 c104 c105 c106 c107 c108 c109 c110 c111 c112 c113 c114 c115 c116 c117 c118 c119 c120 c121 c122 c123 c124 c125 c126 c127 c128 c129 c130 c131 c132 c133 c134 c135 c136 c137 c138 c139 c140 c141 c142 c143 c144 c145 c146 c147 c148 c149 c150 c151 c152 c153 c154 c155 c156 c157 c158 c159 c160 c161 c162 c163 c164 c165 c166 c167 c168 c169 c170 c171 c172 c173 c174 c175 c176 c177 c178 c179 c180 c181 c182 c183 c184 c185 c186 c187 c188 c189 c190 c191 c192 c193 c194 c195 c196 c197 c198 c199 c200 c201 c202 c203 c204 c205 c206 c207 c208 c209 c210 c211 c212 c213 c214 c215 c216 c217 h1 h2 h3 h9 h10 h11 h12 h13 h18 h19 h20 h21 h22 h23
  replace h1 : c1 = V01 := h1
  replace h2 : c2 = V02 := h2
  replace h3 : c3 = V03 := h3
  replace h9 : c9 = V09 := h9
  replace h10 : c10 = V10 := h10
  replace h11 : c11 = V11 := h11
  replace h12 : c12 = V12 := h12
  replace h13 : c13 = V13 := h13
  replace h18 : c18 = V18 := h18
  replace h19 : c19 = V19 := h19
  replace h20 : c20 = V20 := h20
  replace h21 : c21 = .slice ao m co := h21
  replace h22 : c22 = .slice aw k cw := h22
  replace h23 : c23 = .int .i64 (k : Nat) := h23
  subst h1
  subst h2
  subst h3
  subst h9
  subst h10
  subst h11
  subst h12
  subst h13
  subst h18
  subst h19
  subst h20
  subst h21
  subst h22
  subst h23
  conv => arg 2; whnf
  have RF := Lib.hid rF
  have HM := Lib.hid hm
  clear rF hm
  by_cases hlt : k < m
  · have hkz : (k : Int) < (m : Int) := by omega
    have hkz0 : (0 : Int) ≤ (k : Int) := by omega
    have e0 : ((k : Int)).toNat = k := by omega
    obtain ⟨go, hgo, -⟩ := Row.form RF.out (by omega)
    subst hgo
    have lc := Row.len_cap RF.out
    obtain ⟨x, hx⟩ : ∃ x, F[k]? = some x := ⟨_, List.getElem?_eq_getElem (by have := HM.out; omega)⟩
    obtain ⟨q0, -, -, -⟩ := RowD.cells RF.out hlt hx
    have q1 := REL.out.1.keeps q0 (fun e => e)
    obtain ⟨u, hu⟩ : ∃ u, u = x.u := ⟨_, rfl⟩
    rw [← hu] at q1
    have UX : Hid (uD F k = u) := Lib.hid (by unfold uD; rw [List.getD_eq_getElem?_getD, hx, hu]; rfl)
    clear hu hx q0
    have hsz := REL.out.1.size
    have lw := Row.len_cap REL.out.2.1
    have E7 := Lib.hid (Row.kept (S := Nil) REL.out.2.1 ((Ch.refl Nil wr).alloc (Obj.cells #[.int .i64 u] 3)) (fun _ _ e => e))
    have V2 : Hid (∀ (j : Nat) (v : Value), ([.int .i64 u] : List Value)[j]? = some v → (fun i => Value.int .i64 (uD F i)) (k * 1 + j) = v) := Lib.hid (by
      intro j v hv
      obtain rfl : j = 0 := (by cases j; rfl; simp at hv)
      simp at hv
      subst hv
      simp only [Nat.mul_one, Nat.add_zero]
      rw [UX.out])
    go_wp2_with (at_builtin; refine append_row _ rfl _ _ _ rfl 3 (.int .i64 0) 1 8 Tryd.underlying47 (by kernel_rfl) rfl (by omega) (by omega) rfl E7.out (by omega) wr.heap.size 1 [.int .i64 u] 3 rfl rfl (heap_alloc_new wr _) (by simp [Value.oneCell']) (fun i => Value.int .i64 (uD F i)) (fun _ _ => rfl) V2.out _ rfl ?_)
    intro gb cp8 w8 row8 ch8 at8 lt8
    have c8 : Ch (OwnS aw) wr w8 := (((Ch.refl Nil wr).alloc _).mono (fun _ _ e => e.elim)).trans ch8
    have NX : Hid (Ch Nil w6 w8 ∧ RowI w8 (some ⟨gb, 0, none⟩) (k + 1) cp8 (uD F) ∧ ∀ j, OwnS (some ⟨gb, 0, none⟩) j → w6.heap.size ≤ j) := Lib.hid ⟨REL.out.1.then c8 (fun j hj e => by have := REL.out.2.2 j e; omega), row8, fun j hj => by
      obtain rfl : gb = j := by simpa [OwnS] using hj
      rcases at8 with h | h
      · exact REL.out.2.2 _ h
      · (try simp at h); omega⟩
    clear row8 ch8 at8 lt8 c8 E7 V2 REL q1
    go_wp2
    first | exact ⟨⟨_, _, rfl, rfl, rfl, rfl, rfl, rfl, rfl, rfl, rfl, rfl, rfl, rfl, rfl, rfl, rfl, rfl, NX.out⟩, hlt⟩ | exact ⟨_, _, rfl, rfl, rfl, rfl, rfl, rfl, rfl, rfl, rfl, rfl, rfl, rfl, rfl, rfl, rfl, rfl, NX.out⟩
  · obtain rfl : k = m := by omega
    have hkz : ¬ (k : Int) < (k : Int) := by omega
    go_wp2
    first | exact ⟨by first | rfl | trivial, ⟨_, _, rfl, rfl, rfl, rfl, rfl, rfl, rfl, rfl, rfl, rfl, rfl, rfl, rfl, rfl, rfl, rfl, REL.out⟩, by first | rfl | trivial⟩ | exact ⟨by first | rfl | trivial, ⟨_, _, rfl, rfl, rfl, rfl, rfl, rfl, rfl, rfl, rfl, rfl, rfl, rfl, rfl, rfl, rfl, rfl, REL.out⟩⟩ | exact ⟨_, _, rfl, rfl, rfl, rfl, rfl, rfl, rfl, rfl, rfl, rfl, rfl, rfl, rfl, rfl, rfl, rfl, REL.out⟩ | exact ⟨⟨_, _, rfl, rfl, rfl, rfl, rfl, rfl, rfl, rfl, rfl, rfl, rfl, rfl, rfl, rfl, rfl, rfl, REL.out⟩, by first | rfl | trivial⟩
theorem wcE_loop (w6 : World) (F : List Dn) (ao : Option Addr) (m co : Nat) (V01 V02 V03 V09 V10 V11 V12 V13 V18 V19 V20 : Value) (rF : RowD w6 ao m co F) (hm : m = F.length) (hm2 : m ≤ 1000) (a : Act) (wr : World) (hb : 0 ≤ m) (H : wcEI w6 F ao m co V01 V02 V03 V09 V10 V11 V12 V13 V18 V19 V20 0 a wr) :
    Code.wp Tryd.prog (.loop (loopIn 5 Tryd.f3)) (Qx 5 (fun a' w' => wcEI w6 F ao m co V01 V02 V03 V09 V10 V11 V12 V13 V18 V19 V20 m a' w')) a wr := by
  refine wp_loop (fun a' wr => ∃ k, k ≤ m ∧ wcEI w6 F ao m co V01 V02 V03 V09 V10 V11 V12 V13 V18 V19 V20 k a' wr) (fun a' _ => m - (intOf (a'.tmps.getD 23 undef)).toNat) ⟨0, hb, H⟩ ?_
  rintro a' wr ⟨k, hk, h⟩
  refine wp_mono (wcE_round w6 F ao m co V01 V02 V03 V09 V10 V11 V12 V13 V18 V19 V20 rF hm hm2 a' wr hk h) ?_
  intro e a2 w2 hp
  cases e with
  | normal =>
    refine ⟨⟨k + 1, by have := hp.2; omega, hp.1⟩, ?_⟩
    rw [wcEI_ctr w6 F ao m co V01 V02 V03 V09 V10 V11 V12 V13 V18 V19 V20 h, wcEI_ctr w6 F ao m co V01 V02 V03 V09 V10 V11 V12 V13 V18 V19 V20 hp.1]
    have := hp.2
    simp only [intOf, Int.toNat_natCast]
    omega
  | exit n => exact ⟨hp.1, hp.2.2 ▸ hp.2.1⟩
  | _ => exact hp.elim
end Go.Proofs.YtkfknafgknppdaaDoor

namespace Go.Proofs.YtkfknafgknppdaaDoor
open Go.RowKit Verge LP
set_option linter.unusedVariables false
set_option linter.unusedSimpArgs false
attribute [local go_sem] Oper.semAt_some

theorem kD_len {F : List Dn} {ys : List Ent} (h : F.map kD = ys.map kE) : F.length = ys.length := by
  have := congrArg List.length h
  simpa using this
theorem kD_u {F : List Dn} {ys : List Ent} (h : F.map kD = ys.map kE) (i : Nat) (hi : i < F.length) : uAt ys i = uD F i := by
  have h1 : (F.map kD)[i]? = (ys.map kE)[i]? := by rw [h]
  have hy : i < ys.length := by rw [← kD_len h]; exact hi
  rw [List.getElem?_map, List.getElem?_map, List.getElem?_eq_getElem hi, List.getElem?_eq_getElem hy] at h1
  simp only [Option.map_some, Option.some.injEq, kD, kE, Prod.mk.injEq] at h1
  unfold uAt uD
  rw [List.getD_eq_getElem?_getD, List.getD_eq_getElem?_getD, List.getElem?_eq_getElem hi, List.getElem?_eq_getElem hy]
  exact h1.1.symm
/-- what holds at the head of the loop -/
def wcTI (w : World) (g : Wh) (rb : Nat) (ad : Option Addr) (len cap : Nat) (lev slot : Int) (k0 bb d2 n0 mm tk mx : Nat) (y1 : Int) (k : Nat) (a : Act) (wr : World) : Prop :=
  ∃ (Q P : List Ent) (l : List Dn) (ar ae : Option Addr) (cr ce : Nat), a.defers = [] ∧ a.tmps.size = 218 ∧ a.tmps.getD 1 undef = .slice ad len cap ∧ a.tmps.getD 2 undef = .int .i64 lev ∧ a.tmps.getD 3 undef = .int .i64 slot ∧ a.tmps.getD 9 undef = .pointer (some ⟨g.wb, 0, none⟩) ∧ a.tmps.getD 10 undef = .pointer (some ⟨rb, 0, none⟩) ∧ a.tmps.getD 11 undef = .slice ae P.length ce ∧ a.tmps.getD 12 undef = .int .i64 (k0 : Nat) ∧ a.tmps.getD 13 undef = .pointer (some ⟨bb, 0, none⟩) ∧ a.tmps.getD 18 undef = .int .i64 (k : Nat) ∧ (AcR w wr g (n0 + k) Q P rb l ar cr ae ce k0 ∧ Box8 w g P rb ar ae bb 2 y1 d2 wr)
theorem wcTI_ctr {k : Nat} (w : World) (g : Wh) (rb : Nat) (ad : Option Addr) (len cap : Nat) (lev slot : Int) (k0 bb d2 n0 mm tk mx : Nat) (y1 : Int) {a : Act} {wr : World} (H : wcTI w g rb ad len cap lev slot k0 bb d2 n0 mm tk mx y1 k a wr) : a.tmps.getD 18 undef = .int .i64 (k : Nat) := by
  obtain ⟨Q, P, l, ar, ae, cr, ce, -, -, -, -, -, -, -, -, -, -, h, -⟩ := H
  exact h
set_option maxRecDepth 100000 in
set_option maxHeartbeats 0 in
theorem wcT_round {k : Nat} (w : World) (g : Wh) (rb : Nat) (ad : Option Addr) (len cap : Nat) (lev slot : Int) (k0 bb d2 n0 mm tk mx : Nat) (y1 : Int) (hv : IsTab [.i .i64, .i .i64, .i .u64] w ad len cap) (T : Tab w) (h60 : len ≤ 60) (hk0 : k0 < len) (hm1 : (if 0 < y1 then y1 else 0) = (mm : Int)) (htk : ((mm : Int)).tmod 130 = (tk : Int)) (hmx : mx ≤ tk ∧ n0 + mx ≤ 18446744073709551615 ∧ (mx = tk ∨ n0 + mx = 18446744073709551615)) (htk2 : tk < 130) (a : Act) (wr : World) (hk : k ≤ mx) (H : wcTI w g rb ad len cap lev slot k0 bb d2 n0 mm tk mx y1 k a wr) :
    Code.wp Tryd.prog (loopIn 3 Tryd.f3) (Exit.then (fun a' w' => wcTI w g rb ad len cap lev slot k0 bb d2 n0 mm tk mx y1 (k + 1) a' w' ∧ k < mx) (Qx 3 (fun a' w' => wcTI w g rb ad len cap lev slot k0 bb d2 n0 mm tk mx y1 k a' w' ∧ k = mx))) a wr := by
  obtain ⟨t, ds⟩ := a
  obtain ⟨Q, P, l, ar, ae, cr, ce, hd', hz, h1, h2, h3, h9, h10, h11, h12, h13, h18, rel⟩ := H
  replace hd' : ds = [] := hd'
  subst hd'
  replace hz : t.size = 218 := hz
  replace h1 : t.getD 1 undef = .slice ad len cap := h1
  replace h2 : t.getD 2 undef = .int .i64 lev := h2
  replace h3 : t.getD 3 undef = .int .i64 slot := h3
  replace h9 : t.getD 9 undef = .pointer (some ⟨g.wb, 0, none⟩) := h9
  replace h10 : t.getD 10 undef = .pointer (some ⟨rb, 0, none⟩) := h10
  replace h11 : t.getD 11 undef = .slice ae P.length ce := h11
  replace h12 : t.getD 12 undef = .int .i64 (k0 : Nat) := h12
  replace h13 : t.getD 13 undef = .pointer (some ⟨bb, 0, none⟩) := h13
  replace h18 : t.getD 18 undef = .int .i64 (k : Nat) := h18
  have REL := Lib.hid rel
  clear rel
  refine openFr218 (P := fun t => t.getD 1 undef = .slice ad len cap → t.getD 2 undef = .int .i64 lev → t.getD 3 undef = .int .i64 slot → t.getD 9 undef = .pointer (some ⟨g.wb, 0, none⟩) → t.getD 10 undef = .pointer (some ⟨rb, 0, none⟩) → t.getD 11 undef = .slice ae P.length ce → t.getD 12 undef = .int .i64 (k0 : Nat) → t.getD 13 undef = .pointer (some ⟨bb, 0, none⟩) → t.getD 18 undef = .int .i64 (k : Nat) → Code.wp Tryd.prog (loopIn 3 Tryd.f3) (Exit.then (fun a' w' => wcTI w g rb ad len cap lev slot k0 bb d2 n0 mm tk mx y1 (k + 1) a' w' ∧ k < mx) (Qx 3 (fun a' w' => wcTI w g rb ad len cap lev slot k0 bb d2 n0 mm tk mx y1 k a' w' ∧ k = mx))) ⟨t, []⟩ wr) ?_ t hz h1 h2 h3 h9 h10 h11 h12 h13 h18
  clear h1 h2 h3 h9 h10 h11 h12 h13 h18 hz t
  intro c0 c1 c2 c3 c4 c5 c6 c7 c8 c9 c10 c11 c12 c13 c14 c15 c16 c17 c18 c19 c20 c21 c22 c23 c24 c25 c26 c27 c28 c29 c30 c31 c32 c33 c34 c35 c36 c37 c38 c39 c40 c41 c42 c43 c44 c45 c46 c47 c48 c49 c50 c51 c52 c53 c54 c55 c56 c57 c58 c59 c60 c61 c62 c63 c64 c65 c66 c67 c68 c69 c70 c71 c72 c73 c74 c75 c76 c77 c78 c79 c80 c81 c82 c83 c84 c85 c86 c87 c88 c89 c90 c91 c92 c93 c94 c95 c96 c97 c98 c99 c100 c101 c102 c103 c104 c105 c106 c107 c108 c109 c110 c111 c112 c113 c114 c115 c116 c117 c118 c119 c120 c121 c122 c123 c124 c125 c126 c127 c128 c129 c130 c131 c132 c133 c134 c135 c136 c137 c138 c139 c140 c141 c142 c143 c144 c145 c146 c147 c148 c149 c150 c151 c152 c153 c154 c155 c156 c157 c158 c159 c160 c161 c162 c163 c164 c165 c166 c167 c168 c169 c170 c171 c172 c173 c174 c175 c176 c177 c178 c179 c180 c181 c182 c183 c184 c185 c186 c187 c188 c189 c190 c191 c192 c193 c194 c195 c196 c197 c198 c199 c200 c201 c202 c203 c204 c205 c206 c207 c208 c209 c210 c211 c212 c213 c214 c215 c216 c217 h1 h2 h3 h9 h10 h11 h12 h13 h18
  replace h1 : c1 = .slice ad len cap := h1
  replace h2 : c2 = .int .i64 lev := h2
  replace h3 : c3 = .int .i64 slot := h3
  replace h9 : c9 = .pointer (some ⟨g.wb, 0, none⟩) := h9
  replace h10 : c10 = .pointer (some ⟨rb, 0, none⟩) := h10
  replace h11 : c11 = .slice ae P.length ce := h11
  replace h12 : c12 = .int .i64 (k0 : Nat) := h12
  replace h13 : c13 = .pointer (some ⟨bb, 0, none⟩) := h13
  replace h18 : c18 = .int .i64 (k : Nat) := h18
  subst h1
  subst h2
  subst h3
  subst h9
  subst h10
  subst h11
  subst h12
  subst h13
  subst h18
  conv => arg 2; whnf
  have htkz : (tk : Int) < 130 := by omega
  have n0z : (n0 : Int) ≤ 18446744073709551615 := by omega
  have q1 := REL.out.2.c1
  have qn := REL.out.1.ql
  have mx1 := hmx.1
  have mx2 := hmx.2.1
  have MX := Lib.hid hmx.2.2
  clear hv T hmx
  by_cases hlt : k < mx
  · have hkz : (k : Int) < (tk : Int) := by omega
    have hkz0 : (0 : Int) ≤ (k : Int) := by omega
    obtain ⟨tt, htt⟩ : ∃ tt, tt = n0 + k := ⟨_, rfl⟩
    have TT := Lib.hid htt
    have ttb : tt + 1 < 18446744073709551616 := by omega
    have ttz : ((tt : Int) == 18446744073709551615) = false := by rw [beq_eq_false_iff_ne]; omega
    rw [← htt] at REL
    clear htt
    have RR := REL
    go_wp2_with fail
    refine (REL.out.1.u.d.advance ttb (by omega)).mono ?_
    rintro e w5 ⟨a5, cap5, rfl, r5, g5, d5, c5⟩
    have R5 := Lib.hid (REL.out.1.u.r.kept c5 (fun k hk e => REL.out.1.u.a k hk e))
    have D5 := Lib.hid d5
    have C5 := Lib.hid c5
    have X5 := Lib.hid r5
    have G5 := Lib.hid g5
    have t5 := R5.out.t
    clear r5 g5 d5 c5 q1
    obtain ⟨m5, hm5⟩ : ∃ m5, m5 = (dueQ Q (tt + 1)).length := ⟨_, rfl⟩
    have HM5 := Lib.hid hm5
    have hd5 := due_len (Q := Q) (t := tt + 1)
    rw [← hm5] at X5 hd5 ⊢
    clear hm5
    go_wp2_with fail
    refine (refAdvance_of R5.out REL.out.1.u.q REL.out.1.u.d.q.a (fun x hx => REL.out.1.u.d.q.w.dl x (REL.out.1.u.d.q.p x hx)) ttb (by have := REL.out.1.u.q.len; omega)).mono ?_
    rintro e w6 ⟨ao, co, F, l', ar', cr', rfl, rF, hF, rW, rq, hl', ho, hao, c6⟩
    have C6 := Lib.hid c6
    have NR := Lib.hid (REL.out.1.turn (Q' := leftQ Q (tt + 1)) D5.out C5.out rW ho c6 rq (left_len (Q := Q) (t := tt + 1)))
    have NB := Lib.hid (REL.out.2.turn C5.out c6 ho)
    have X6 := Lib.hid (Row.kept X5.out c6 (fun j hj e => by have h1 := G5.out j hj; have h2 := REL.out.1.u.r.lt e; omega))
    have RF := Lib.hid rF
    have HF := Lib.hid hF
    have fl := kD_len hF
    rw [← HM5.out] at fl
    obtain ⟨m, hm⟩ : ∃ m, m = F.length := ⟨_, rfl⟩
    have HM := Lib.hid hm
    have mm5 : Hid (m = m5) := Lib.hid (by omega)
    have QM : Hid (∀ x, x ∈ dueQ Q (tt + 1) → x ∈ P) := Lib.hid (fun x hx => REL.out.1.u.d.q.p x (due_mem x hx))
    rw [← hm] at RF ⊢
    have START : Hid (Ch Nil w6 w6 ∧ RowI w6 none 0 0 (uD F) ∧ ∀ j, OwnS none j → w6.heap.size ≤ j) := Lib.hid ⟨Ch.refl _ _, Row.nil _ _ _ _, fun j hj => by simp [OwnS] at hj⟩
    clear rF hF rW rq hl' ho hao c6 fl hm REL R5 D5 X5 G5 t5 C5 C6
    go_wp2
    refine wp_mono (wcE_loop w6 F ao m co (.slice ad len cap) (.int .i64 lev) (.int .i64 slot) (.pointer (some ⟨g.wb, 0, none⟩)) (.pointer (some ⟨rb, 0, none⟩)) (.slice ae P.length ce) (.int .i64 (k0 : Nat)) (.pointer (some ⟨bb, 0, none⟩)) (.int .i64 (k : Nat)) (.slice a5 m5 cap5) (.int .i64 0) RF.out HM.out (by have := mm5.out; omega) _ _ (by omega) ?hI) ?_
    case hI => exact ⟨_, _, rfl, rfl, rfl, rfl, rfl, rfl, rfl, rfl, rfl, rfl, rfl, rfl, rfl, rfl, rfl, rfl, START.out⟩
    clear START
    intro e a' w8 hp
    obtain ⟨rfl, H⟩ := Qx_inv hp
    clear hp
    obtain ⟨t, ds⟩ := a'
    obtain ⟨aw, cw, hd', hz, h1, h2, h3, h9, h10, h11, h12, h13, h18, h19, h20, h21, h22, h23, rel⟩ := H
    replace hd' : ds = [] := hd'
    subst hd'
    replace hz : t.size = 218 := hz
    replace h1 : t.getD 1 undef = .slice ad len cap := h1
    replace h2 : t.getD 2 undef = .int .i64 lev := h2
    replace h3 : t.getD 3 undef = .int .i64 slot := h3
    replace h9 : t.getD 9 undef = .pointer (some ⟨g.wb, 0, none⟩) := h9
    replace h10 : t.getD 10 undef = .pointer (some ⟨rb, 0, none⟩) := h10
    replace h11 : t.getD 11 undef = .slice ae P.length ce := h11
    replace h12 : t.getD 12 undef = .int .i64 (k0 : Nat) := h12
    replace h13 : t.getD 13 undef = .pointer (some ⟨bb, 0, none⟩) := h13
    replace h18 : t.getD 18 undef = .int .i64 (k : Nat) := h18
    replace h19 : t.getD 19 undef = .slice a5 m5 cap5 := h19
    replace h20 : t.getD 20 undef = .int .i64 0 := h20
    replace h21 : t.getD 21 undef = .slice ao m co := h21
    replace h22 : t.getD 22 undef = .slice aw m cw := h22
    replace h23 : t.getD 23 undef = .int .i64 (m : Nat) := h23
    have REL := Lib.hid rel
    clear rel
    refine openFr218 (P := fun t => t.getD 1 undef = .slice ad len cap → t.getD 2 undef = .int .i64 lev → t.getD 3 undef = .int .i64 slot → t.getD 9 undef = .pointer (some ⟨g.wb, 0, none⟩) → t.getD 10 undef = .pointer (some ⟨rb, 0, none⟩) → t.getD 11 undef = .slice ae P.length ce → t.getD 12 undef = .int .i64 (k0 : Nat) → t.getD 13 undef = .pointer (some ⟨bb, 0, none⟩) → t.getD 18 undef = .int .i64 (k : Nat) → t.getD 19 undef = .slice a5 m5 cap5 → t.getD 20 undef = .int .i64 0 → t.getD 21 undef = .slice ao m co → t.getD 22 undef = .slice aw m cw → t.getD 23 undef = .int .i64 (m : Nat) → Exit.inBlock 5 _ (.exit 5) ⟨t, []⟩ w8) ?_ t hz h1 h2 h3 h9 h10 h11 h12 h13 h18 h19 h20 h21 h22 h23
    clear h1 h2 h3 h9 h10 h11 h12 h13 h18 h19 h20 h21 h22 h23 hz t
    intro c0 c1 c2 c3 c4 c5 c6 c7 c8 c9 c10 c11 c12 c13 c14 c15 c16 c17 c18 c19 c20 c21 c22 c23 c24 c25 c26 c27 c28 c29 c30 c31 c32 c33 c34 c35 c36 c37 c38 c39 c40 c41 c42 c43 c44 c45 c46 c47 c48 c49 c50 c51 c52 c53 c54 c55 c56 c57 c58 c59 c60 c61 c62 c63 c64 c65 c66 c67 c68 c69 c70 c71 c72 c73 c74 c75 c76 c77 c78 c79 c80 c81 c82 c83 c84 c85 c86 c87 c88 c89 c90 c91 c92 c93 c94 c95 c96 c97 c98 c99 c100 c101 c102 c103 c104 c105 c106 c107 c108 c109 c110 c111 c112 c113 c114 c115 c116 c117 c118 c119 c120 c121 c122 c123 c124 c125 c126 c127 c128 c129 c130 c131 c132 c133 c134 c135 c136 c137 c138 c139 c140 c141 c142 c143 c144 c145 c146 c147 c148 c149 c150 c151 c152 c153 c154 c155 c156 c157 c158 c159 c160 c161 c162 c163 c164 c165 c166 c167 c168 c169 c170 c171 c172 c173 c174 c175 c176 c177 c178 c179 c180 c181 c182 c183 c184 c185 c186 c187 c188 c189 c190 c191 c192 c193 c194 c195 c196 c197 c198 c199 c200 c201 c202 c203 c204 c205 c206 c207 c208 c209 c210 c211 c212 c213 c214 c215 c216 c217 h1 h2 h3 h9 h10 h11 h12 h13 h18 h19 h20 h21 h22 h23
    replace h1 : c1 = .slice ad len cap := h1
    replace h2 : c2 = .int .i64 lev := h2
    replace h3 : c3 = .int .i64 slot := h3
    replace h9 : c9 = .pointer (some ⟨g.wb, 0, none⟩) := h9
    replace h10 : c10 = .pointer (some ⟨rb, 0, none⟩) := h10
    replace h11 : c11 = .slice ae P.length ce := h11
    replace h12 : c12 = .int .i64 (k0 : Nat) := h12
    replace h13 : c13 = .pointer (some ⟨bb, 0, none⟩) := h13
    replace h18 : c18 = .int .i64 (k : Nat) := h18
    replace h19 : c19 = .slice a5 m5 cap5 := h19
    replace h20 : c20 = .int .i64 0 := h20
    replace h21 : c21 = .slice ao m co := h21
    replace h22 : c22 = .slice aw m cw := h22
    replace h23 : c23 = .int .i64 (m : Nat) := h23
    subst h1
    subst h2
    subst h3
    subst h9
    subst h10
    subst h11
    subst h12
    subst h13
    subst h18
    subst h19
    subst h20
    subst h21
    subst h22
    subst h23

    have C8 := Lib.hid REL.out.1
    have W8 : Hid (RowI w8 aw m5 cw (uAt (dueQ Q (tt + 1)))) := Lib.hid (by
      have := REL.out.2.1
      rw [mm5.out] at this
      exact Row.congr this _ (fun i hi => by rw [kD_u HF.out i (by have := HM.out; have := mm5.out; omega)]))
    have NR8 := Lib.hid (NR.out.quiet C8.out)
    have NB8 := Lib.hid (NB.out.quiet C8.out)
    have X8 := Lib.hid (Row.kept X6.out C8.out (fun _ _ e => e))
    have t8 := NR8.out.u.r.t
    rw [show ((tt + 1 : Nat) : Int) = (tt : Int) + 1 by omega] at t8
    have ND := Drv.numbers (t := tt + 1) NR8.out.u.d X8.out HM5.out QM.out (fun x hx => due_at x hx) (by rw [← HM5.out]; omega)
    rw [show ((tt + 1 : Nat) : Int) = (tt : Int) + 1 by omega] at ND
    have NDH := Lib.hid ND
    clear ND NR NB X6 REL RF
    rw [mm5.out]
    go_wp2_with fail
    refine NDH.out.mono ?_
    rintro e w9 ⟨a9, cap9, rfl, r9, g9, c9⟩
    have W9 := Lib.hid (Row.kept W8.out c9 (fun _ _ e => e))
    have R9 := Lib.hid r9
    have NR9 := Lib.hid (NR8.out.quiet c9)
    have NB9 := Lib.hid (NB8.out.quiet c9)
    clear r9 g9 c9 t8 NDH W8 NR8 NB8 X8
    go_wp2_with fail
    refine (ints_same R9.out W9.out (by omega)).mono ?_
    rintro e w10 ⟨rfl, c10⟩
    have NX : Hid (AcR w w10 g (n0 + (k + 1)) (leftQ Q (tt + 1)) P rb l' ar' cr' ae ce k0 ∧ Box8 w g P rb ar' ae bb 2 y1 d2 w10) := Lib.hid (by
      have h1 := NR9.out.quiet c10
      rw [TT.out, show n0 + k + 1 = n0 + (k + 1) by omega] at h1 ⊢
      exact ⟨h1, NB9.out.quiet c10⟩)
    clear c10 NR9 NB9 W9 R9
    go_wp2
    first | exact ⟨⟨_, _, _, _, _, _, _, rfl, rfl, rfl, rfl, rfl, rfl, rfl, rfl, rfl, rfl, rfl, NX.out⟩, hlt⟩ | exact ⟨_, _, _, _, _, _, _, rfl, rfl, rfl, rfl, rfl, rfl, rfl, rfl, rfl, rfl, rfl, NX.out⟩
  · obtain rfl : k = mx := by omega
    by_cases he : k = tk
    · have hkz : ¬ (k : Int) < (tk : Int) := by omega
      have hkz2 : (tk : Int) ≤ (k : Int) := by omega
      have RR := REL
      clear he
      go_wp2
      first | exact ⟨by first | rfl | trivial, ⟨_, _, _, _, _, _, _, rfl, rfl, rfl, rfl, rfl, rfl, rfl, rfl, rfl, rfl, rfl, RR.out⟩, by first | rfl | trivial⟩ | exact ⟨by first | rfl | trivial, ⟨_, _, _, _, _, _, _, rfl, rfl, rfl, rfl, rfl, rfl, rfl, rfl, rfl, rfl, rfl, RR.out⟩⟩ | exact ⟨_, _, _, _, _, _, _, rfl, rfl, rfl, rfl, rfl, rfl, rfl, rfl, rfl, rfl, rfl, RR.out⟩ | exact ⟨⟨_, _, _, _, _, _, _, rfl, rfl, rfl, rfl, rfl, rfl, rfl, rfl, rfl, rfl, rfl, RR.out⟩, by first | rfl | trivial⟩
    · have hkz : (k : Int) < (tk : Int) := by omega
      have hgr : n0 + k = 18446744073709551615 := by rcases MX.out with h | h; exact absurd h he; exact h
      have RR := REL
      have ov := REL.out.1.u.d
      have rt := REL.out.1.u.r.t
      rw [hgr] at ov rt
      replace rt : wr.cell? ⟨rb, 0, none⟩ = some (.int .u64 18446744073709551615) := rt
      have OV := Lib.hid ov.over
      have GR := Lib.hid hgr
      clear ov hgr REL
      go_wp2_with fail
      refine OV.out.mono ?_
      rintro e w5 ⟨rfl, rfl⟩
      go_wp2
      first | exact ⟨by first | rfl | trivial, ⟨_, _, _, _, _, _, _, rfl, rfl, rfl, rfl, rfl, rfl, rfl, rfl, rfl, rfl, rfl, RR.out⟩, by first | rfl | trivial⟩ | exact ⟨by first | rfl | trivial, ⟨_, _, _, _, _, _, _, rfl, rfl, rfl, rfl, rfl, rfl, rfl, rfl, rfl, rfl, rfl, RR.out⟩⟩ | exact ⟨_, _, _, _, _, _, _, rfl, rfl, rfl, rfl, rfl, rfl, rfl, rfl, rfl, rfl, rfl, RR.out⟩ | exact ⟨⟨_, _, _, _, _, _, _, rfl, rfl, rfl, rfl, rfl, rfl, rfl, rfl, rfl, rfl, rfl, RR.out⟩, by first | rfl | trivial⟩
theorem wcT_loop (w : World) (g : Wh) (rb : Nat) (ad : Option Addr) (len cap : Nat) (lev slot : Int) (k0 bb d2 n0 mm tk mx : Nat) (y1 : Int) (hv : IsTab [.i .i64, .i .i64, .i .u64] w ad len cap) (T : Tab w) (h60 : len ≤ 60) (hk0 : k0 < len) (hm1 : (if 0 < y1 then y1 else 0) = (mm : Int)) (htk : ((mm : Int)).tmod 130 = (tk : Int)) (hmx : mx ≤ tk ∧ n0 + mx ≤ 18446744073709551615 ∧ (mx = tk ∨ n0 + mx = 18446744073709551615)) (htk2 : tk < 130) (a : Act) (wr : World) (hb : 0 ≤ mx) (H : wcTI w g rb ad len cap lev slot k0 bb d2 n0 mm tk mx y1 0 a wr) :
    Code.wp Tryd.prog (.loop (loopIn 3 Tryd.f3)) (Qx 3 (fun a' w' => wcTI w g rb ad len cap lev slot k0 bb d2 n0 mm tk mx y1 mx a' w')) a wr := by
  refine wp_loop (fun a' wr => ∃ k, k ≤ mx ∧ wcTI w g rb ad len cap lev slot k0 bb d2 n0 mm tk mx y1 k a' wr) (fun a' _ => mx - (intOf (a'.tmps.getD 18 undef)).toNat) ⟨0, hb, H⟩ ?_
  rintro a' wr ⟨k, hk, h⟩
  refine wp_mono (wcT_round w g rb ad len cap lev slot k0 bb d2 n0 mm tk mx y1 hv T h60 hk0 hm1 htk hmx htk2 a' wr hk h) ?_
  intro e a2 w2 hp
  cases e with
  | normal =>
    refine ⟨⟨k + 1, by have := hp.2; omega, hp.1⟩, ?_⟩
    rw [wcTI_ctr w g rb ad len cap lev slot k0 bb d2 n0 mm tk mx y1 h, wcTI_ctr w g rb ad len cap lev slot k0 bb d2 n0 mm tk mx y1 hp.1]
    have := hp.2
    simp only [intOf, Int.toNat_natCast]
    omega
  | exit n => exact ⟨hp.1, hp.2.2 ▸ hp.2.1⟩
  | _ => exact hp.elim
set_option maxRecDepth 100000 in
set_option maxHeartbeats 0 in
theorem wc_ticks {k bb d2 : Nat} {y0 y1 : Int} (w : World) (g : Wh) (rb : Nat) (ad : Option Addr) (len cap : Nat) (lev slot : Int) (hv : IsTab [.i .i64, .i .i64, .i .u64] w ad len cap) (T : Tab w) (h60 : len ≤ 60) (hk : k < len) (hd2 : d2 < 18446744073709551616)  (a : Act) (wr : World) (H : wcT w g rb ad len cap lev slot k k bb 2 y1 d2 a wr) :
    Code.wp Tryd.prog (blkIn 2 Tryd.f3) (Exit.then (wcM w g rb ad len cap lev slot k (k + 1)) (Qx 1 (wcM w g rb ad len cap lev slot k (k + 1)))) a wr := by
  obtain ⟨t, ds⟩ := a
  obtain ⟨now, Q, P, l, ar, ae, cr, ce, hd', hz, h1, h2, h3, h9, h10, h11, h12, h13, rel⟩ := H
  replace hd' : ds = [] := hd'
  subst hd'
  replace hz : t.size = 218 := hz
  replace h1 : t.getD 1 undef = .slice ad len cap := h1
  replace h2 : t.getD 2 undef = .int .i64 lev := h2
  replace h3 : t.getD 3 undef = .int .i64 slot := h3
  replace h9 : t.getD 9 undef = .pointer (some ⟨g.wb, 0, none⟩) := h9
  replace h10 : t.getD 10 undef = .pointer (some ⟨rb, 0, none⟩) := h10
  replace h11 : t.getD 11 undef = .slice ae P.length ce := h11
  replace h12 : t.getD 12 undef = .int .i64 (k : Nat) := h12
  replace h13 : t.getD 13 undef = .pointer (some ⟨bb, 0, none⟩) := h13
  have REL := Lib.hid rel
  clear rel
  refine openFr218 (P := fun t => t.getD 1 undef = .slice ad len cap → t.getD 2 undef = .int .i64 lev → t.getD 3 undef = .int .i64 slot → t.getD 9 undef = .pointer (some ⟨g.wb, 0, none⟩) → t.getD 10 undef = .pointer (some ⟨rb, 0, none⟩) → t.getD 11 undef = .slice ae P.length ce → t.getD 12 undef = .int .i64 (k : Nat) → t.getD 13 undef = .pointer (some ⟨bb, 0, none⟩) → Code.wp Tryd.prog (blkIn 2 Tryd.f3) (Exit.then (wcM w g rb ad len cap lev slot k (k + 1)) (Qx 1 (wcM w g rb ad len cap lev slot k (k + 1)))) ⟨t, []⟩ wr) ?_ t hz h1 h2 h3 h9 h10 h11 h12 h13
  clear h1 h2 h3 h9 h10 h11 h12 h13 hz t
  intro c0 c1 c2 c3 c4 c5 c6 c7 c8 c9 c10 c11 c12 c13 c14 c15 c16 c17 c18 c19 c20 c21 c22 c23 c24 c25 c26 c27 c28 c29 c30 c31 c32 c33 c34 c35 c36 c37 c38 c39 c40 c41 c42 c43 c44 c45 c46 c47 c48 c49 c50 c51 c52 c53 c54 c55 c56 c57 c58 c59 c60 c61 c62 c63 c64 c65 c66 c67 c68 c69 c70 c71 c72 c73 c74 c75 c76 c77 c78 c79 c80 c81 c82 c83 c84 c85 c86 c87 c88 c89 c90 c91 c92 c93 c94 c95 c96 c97 c98 c99 c100 c101 c102 c103 c104 c105 c106 c107 c108 c109 c110 c111 c112 c113 c114 c115 c116 c117 c118 c119 c120 c121 c122 c123 c124 c125 c126 c127 c128 c129 c130 c131 c132 c133 c134 c135 c136 c137 c138 c139 c140 c141 c142 c143 c144 c145 c146 c147 c148 c149 c150 c151 c152 c153 c154 c155 c156 c157 c158 c159 c160 c161 c162 c163 c164 c165 c166 c167 c168 c169 c170 c171 c172 c173 c174 c175 c176 c177 c178 c179 c180 c181 c182 c183 c184 c185 c186 c187 c188 c189 c190 c191 c192 c193 c194 c195 c196 c197 c198 c199 c200 c201 c202 c203 c204 c205 c206 c207 c208 c209 c210 c211 c212 c213 c214 c215 c216 c217 h1 h2 h3 h9 h10 h11 h12 h13
  replace h1 : c1 = .slice ad len cap := h1
  replace h2 : c2 = .int .i64 lev := h2
  replace h3 : c3 = .int .i64 slot := h3
  replace h9 : c9 = .pointer (some ⟨g.wb, 0, none⟩) := h9
  replace h10 : c10 = .pointer (some ⟨rb, 0, none⟩) := h10
  replace h11 : c11 = .slice ae P.length ce := h11
  replace h12 : c12 = .int .i64 (k : Nat) := h12
  replace h13 : c13 = .pointer (some ⟨bb, 0, none⟩) := h13
  subst h1
  subst h2
  subst h3
  subst h9
  subst h10
  subst h11
  subst h12
  subst h13
  conv => arg 2; whnf
  have HV := Lib.hid hv
  have TB := Lib.hid T
  have q0 := REL.out.2.c0
  have q1 := REL.out.2.c1
  have hnow := REL.out.1.u.d.q.w.nl
  obtain ⟨mm, hm1⟩ := nat_of_max y1
  have htk : ((mm : Int)).tmod 130 = ((mm % 130 : Nat) : Int) := tmod_nat8 mm 130
  have HM1 := Lib.hid hm1
  have htk2 := Nat.mod_lt mm (show 0 < 130 by decide)
  obtain ⟨tk, htke⟩ : ∃ tk, tk = mm % 130 := ⟨_, rfl⟩
  rw [← htke] at htk htk2
  have HTK := Lib.hid htk
  obtain ⟨mx, hmx⟩ : ∃ mx : Nat, mx ≤ tk ∧ now + mx ≤ 18446744073709551615 ∧ (mx = tk ∨ now + mx = 18446744073709551615) := by
    by_cases h : now + tk ≤ 18446744073709551615
    · exact ⟨tk, Nat.le_refl _, h, .inl rfl⟩
    · exact ⟨18446744073709551615 - now, by omega, by omega, .inr (by omega)⟩
  have RR := REL
  clear hv T htk htke hm1 REL
  go_wp2
  refine wp_mono (wcT_loop w g rb ad len cap lev slot k bb d2 now mm tk mx y1 HV.out TB.out h60 hk HM1.out HTK.out hmx htk2 _ _ (by omega) ?hI) ?_
  case hI => exact ⟨_, _, _, _, _, _, _, rfl, rfl, rfl, rfl, rfl, rfl, rfl, rfl, rfl, rfl, rfl, RR.out⟩
  clear RR q0 q1
  clear Q P l ar ae cr ce
  intro e a' w9 hp
  obtain ⟨rfl, H⟩ := Qx_inv hp
  clear hp
  obtain ⟨t, ds⟩ := a'
  obtain ⟨Q, P, l, ar, ae, cr, ce, hd', hz, h1, h2, h3, h9, h10, h11, h12, h13, h18, rel⟩ := H
  replace hd' : ds = [] := hd'
  subst hd'
  replace hz : t.size = 218 := hz
  replace h1 : t.getD 1 undef = .slice ad len cap := h1
  replace h2 : t.getD 2 undef = .int .i64 lev := h2
  replace h3 : t.getD 3 undef = .int .i64 slot := h3
  replace h9 : t.getD 9 undef = .pointer (some ⟨g.wb, 0, none⟩) := h9
  replace h10 : t.getD 10 undef = .pointer (some ⟨rb, 0, none⟩) := h10
  replace h11 : t.getD 11 undef = .slice ae P.length ce := h11
  replace h12 : t.getD 12 undef = .int .i64 (k : Nat) := h12
  replace h13 : t.getD 13 undef = .pointer (some ⟨bb, 0, none⟩) := h13
  replace h18 : t.getD 18 undef = .int .i64 (mx : Nat) := h18
  have REL := Lib.hid rel
  clear rel
  refine openFr218 (P := fun t => t.getD 1 undef = .slice ad len cap → t.getD 2 undef = .int .i64 lev → t.getD 3 undef = .int .i64 slot → t.getD 9 undef = .pointer (some ⟨g.wb, 0, none⟩) → t.getD 10 undef = .pointer (some ⟨rb, 0, none⟩) → t.getD 11 undef = .slice ae P.length ce → t.getD 12 undef = .int .i64 (k : Nat) → t.getD 13 undef = .pointer (some ⟨bb, 0, none⟩) → t.getD 18 undef = .int .i64 (mx : Nat) → Exit.inBlock 3 _ (.exit 3) ⟨t, []⟩ w9) ?_ t hz h1 h2 h3 h9 h10 h11 h12 h13 h18
  clear h1 h2 h3 h9 h10 h11 h12 h13 h18 hz t
  intro c0 c1 c2 c3 c4 c5 c6 c7 c8 c9 c10 c11 c12 c13 c14 c15 c16 c17 c18 c19 c20 c21 c22 c23 c24 c25 c26 c27 c28 c29 c30 c31 c32 c33 c34 c35 c36 c37 c38 c39 c40 c41 c42 c43 c44 c45 c46 c47 c48 c49 c50 c51 c52 c53 c54 c55 c56 c57 c58 c59 c60 c61 c62 c63 c64 c65 c66 c67 c68 c69 c70 c71 c72 c73 c74 c75 c76 c77 c78 c79 c80 c81 c82 c83 c84 c85 c86 c87 c88 c89 c90 c91 c92 c93 c94 c95 c96 c97 c98 c99 c100 c101 c102 c103 c104 c105 c106 c107 c108 c109 c110 c111 c112 c113 c114 c115 c116 c117 c118 c119 c120 c121 c122 c123 c124 c125 c126 c127 c128 c129 c130 c131 c132 c133 c134 c135 c136 c137 c138 c139 c140 c141 c142 c143 c144 c145 c146 c147 c148 c149 c150 c151 c152 c153 c154 c155 c156 c157 c158 c159 c160 c161 c162 c163 c164 c165 c166 c167 c168 c169 c170 c171 c172 c173 c174 c175 c176 c177 c178 c179 c180 c181 c182 c183 c184 c185 c186 c187 c188 c189 c190 c191 c192 c193 c194 c195 c196 c197 c198 c199 c200 c201 c202 c203 c204 c205 c206 c207 c208 c209 c210 c211 c212 c213 c214 c215 c216 c217 h1 h2 h3 h9 h10 h11 h12 h13 h18
  replace h1 : c1 = .slice ad len cap := h1
  replace h2 : c2 = .int .i64 lev := h2
  replace h3 : c3 = .int .i64 slot := h3
  replace h9 : c9 = .pointer (some ⟨g.wb, 0, none⟩) := h9
  replace h10 : c10 = .pointer (some ⟨rb, 0, none⟩) := h10
  replace h11 : c11 = .slice ae P.length ce := h11
  replace h12 : c12 = .int .i64 (k : Nat) := h12
  replace h13 : c13 = .pointer (some ⟨bb, 0, none⟩) := h13
  replace h18 : c18 = .int .i64 (mx : Nat) := h18
  subst h1
  subst h2
  subst h3
  subst h9
  subst h10
  subst h11
  subst h12
  subst h13
  subst h18
  have NX := Lib.hid (REL.out.1.mono (Nat.le_succ k))
  go_wp2
  exact ⟨_, _, _, _, _, _, _, _, rfl, rfl, rfl, rfl, rfl, rfl, rfl, rfl, rfl, NX.out⟩
end Go.Proofs.YtkfknafgknppdaaDoor

namespace Go.Proofs.YtkfknafgknppdaaDoor
open Go.RowKit Verge LP
set_option linter.unusedVariables false
set_option linter.unusedSimpArgs false
attribute [local go_sem] Oper.semAt_some

section
variable {w : World}
theorem tab_act {ad : Option Addr} {len cap k : Nat} (hv : IsTab [.i .i64, .i .i64, .i .u64] w ad len cap) (hk : k < len) : ∃ (x : Addr) (y0 y1 : Int) (d2 : Nat), ad = some x ∧ len ≤ cap ∧ cap ≤ maxLen ∧ w.cell? (x.add (k * 3)) = some (.int .i64 y0) ∧ w.cell? ⟨(x.add (k * 3)).block, (x.add (k * 3)).off + 1, none⟩ = some (.int .i64 y1) ∧ w.cell? ⟨(x.add (k * 3)).block, (x.add (k * 3)).off + 2, none⟩ = some (.int .u64 (d2 : Nat)) ∧ d2 < 18446744073709551616 ∧ y1 ≤ 9223372036854775807 := by
  rcases hv with ⟨-, h0, -⟩ | ⟨x, rfl, hcap1, hcap2, hx⟩
  · omega
  obtain ⟨_, q0, y0, rfl, -⟩ := hx k hk 0 _ rfl
  obtain ⟨_, q1, y1, rfl, wy1⟩ := hx k hk 1 _ rfl
  obtain ⟨_, q2, y2, rfl, wy2⟩ := hx k hk 2 _ rfl
  obtain ⟨a1, a2⟩ := bounds_u64 wy2
  obtain ⟨b1, b2⟩ := bounds_i64 wy1
  obtain ⟨d2, rfl⟩ := Int.eq_ofNat_of_zero_le a1
  exact ⟨x, y0, y1, d2, rfl, hcap1, hcap2, q0, cell_at (k * 3) 1 q1, cell_at (k * 3) 2 q2, by omega, b2⟩
end
set_option maxRecDepth 100000 in
set_option maxHeartbeats 0 in
theorem wc_box {k : Nat} (w : World) (g : Wh) (rb : Nat) (ad : Option Addr) (len cap : Nat) (lev slot : Int) (hv : IsTab [.i .i64, .i .i64, .i .u64] w ad len cap) (T : Tab w) (h60 : len ≤ 60) (hk : k < len) (a : Act) (wr : World) (H : wcM w g rb ad len cap lev slot k k a wr) :
    Code.wp Tryd.prog (fstC (blkIn 1 Tryd.f3)) (Exit.then (fun a' w' => ∃ (bb d2 : Nat) (y0 y1 : Int), d2 < 18446744073709551616 ∧ wcT w g rb ad len cap lev slot k k bb y0 y1 d2 a' w') (fun _ _ _ => False)) a wr := by
  obtain ⟨t, ds⟩ := a
  obtain ⟨now, Q, P, l, ar, ae, cr, ce, hd', hz, h1, h2, h3, h9, h10, h11, h12, rel⟩ := H
  replace hd' : ds = [] := hd'
  subst hd'
  replace hz : t.size = 218 := hz
  replace h1 : t.getD 1 undef = .slice ad len cap := h1
  replace h2 : t.getD 2 undef = .int .i64 lev := h2
  replace h3 : t.getD 3 undef = .int .i64 slot := h3
  replace h9 : t.getD 9 undef = .pointer (some ⟨g.wb, 0, none⟩) := h9
  replace h10 : t.getD 10 undef = .pointer (some ⟨rb, 0, none⟩) := h10
  replace h11 : t.getD 11 undef = .slice ae P.length ce := h11
  replace h12 : t.getD 12 undef = .int .i64 (k : Nat) := h12
  have REL := Lib.hid rel
  clear rel
  refine openFr218 (P := fun t => t.getD 1 undef = .slice ad len cap → t.getD 2 undef = .int .i64 lev → t.getD 3 undef = .int .i64 slot → t.getD 9 undef = .pointer (some ⟨g.wb, 0, none⟩) → t.getD 10 undef = .pointer (some ⟨rb, 0, none⟩) → t.getD 11 undef = .slice ae P.length ce → t.getD 12 undef = .int .i64 (k : Nat) → Code.wp Tryd.prog (fstC (blkIn 1 Tryd.f3)) (Exit.then (fun a' w' => ∃ (bb d2 : Nat) (y0 y1 : Int), d2 < 18446744073709551616 ∧ wcT w g rb ad len cap lev slot k k bb y0 y1 d2 a' w') (fun _ _ _ => False)) ⟨t, []⟩ wr) ?_ t hz h1 h2 h3 h9 h10 h11 h12
  clear h1 h2 h3 h9 h10 h11 h12 hz t
  intro c0 c1 c2 c3 c4 c5 c6 c7 c8 c9 c10 c11 c12 c13 c14 c15 c16 c17 c18 c19 c20 c21 c22 c23 c24 c25 c26 c27 c28 c29 c30 c31 c32 c33 c34 c35 c36 c37 c38 c39 c40 c41 c42 c43 c44 c45 c46 c47 c48 c49 c50 c51 c52 c53 c54 c55 c56 c57 c58 c59 c60 c61 c62 c63 c64 c65 c66 c67 c68 c69 c70 c71 c72 c73 c74 c75 c76 c77 c78 c79 c80 c81 c82 c83 c84 c85 c86 c87 c88 c89 c90 c91 c92 c93 c94 c95 c96 c97 c98 c99 c100 c101 c102 c103 c104 c105 c106 c107 c108 c109 c110 c111 c112 c113 c114 c115 c116 c117 c118 c119 c120 c121 c122 c123 c124 c125 c126 c127 c128 c129 c130 c131 c132 c133 c134 c135 c136 c137 c138 c139 c140 c141 c142 c143 c144 c145 c146 c147 c148 c149 c150 c151 c152 c153 c154 c155 c156 c157 c158 c159 c160 c161 c162 c163 c164 c165 c166 c167 c168 c169 c170 c171 c172 c173 c174 c175 c176 c177 c178 c179 c180 c181 c182 c183 c184 c185 c186 c187 c188 c189 c190 c191 c192 c193 c194 c195 c196 c197 c198 c199 c200 c201 c202 c203 c204 c205 c206 c207 c208 c209 c210 c211 c212 c213 c214 c215 c216 c217 h1 h2 h3 h9 h10 h11 h12
  replace h1 : c1 = .slice ad len cap := h1
  replace h2 : c2 = .int .i64 lev := h2
  replace h3 : c3 = .int .i64 slot := h3
  replace h9 : c9 = .pointer (some ⟨g.wb, 0, none⟩) := h9
  replace h10 : c10 = .pointer (some ⟨rb, 0, none⟩) := h10
  replace h11 : c11 = .slice ae P.length ce := h11
  replace h12 : c12 = .int .i64 (k : Nat) := h12
  subst h1
  subst h2
  subst h3
  subst h9
  subst h10
  subst h11
  subst h12
  conv => arg 2; whnf
  obtain ⟨x, y0, y1, d2, rfl, hc1, hc2, q0, q1, q2, hd2, hy1⟩ := tab_act hv hk
  have p0 := REL.out.u.d.c.keeps q0 (fun e => e)
  have p1 := REL.out.u.d.c.keeps q1 (fun e => e)
  have p2 := REL.out.u.d.c.keeps q2 (fun e => e)
  have hkz : (k : Int) < (len : Int) := by omega
  have hkz0 : (0 : Int) ≤ (k : Int) := by omega
  have HD2 := Lib.hid hd2
  clear hv T q0 q1 q2 hd2 hy1
  have cA : Ch Nil wr (wr.alloc (.cells #[.int .i64 y0, .int .i64 y1, .int .u64 (d2 : Nat)] 33)) := (Ch.refl _ _).alloc _
  have RA := Lib.hid (REL.out.quiet cA)
  have BX : Hid (Box8 w g P rb ar ae wr.heap.size y0 y1 d2 (wr.alloc (.cells #[.int .i64 y0, .int .i64 y1, .int .u64 (d2 : Nat)] 33))) := Lib.hid ⟨by simp [go_sem], by simp [go_sem], by simp [go_sem], REL.out.u.d.c.size, fun e => by have := REL.out.u.d.lt e; omega, fun e => by have := REL.out.u.r.lt e; omega, fun e => by have := Row.lt REL.out.e _ e; omega⟩
  clear cA REL
  go_wp2
  exact ⟨_, d2, y0, y1, HD2.out, ⟨_, _, _, _, _, _, _, _, rfl, rfl, rfl, rfl, rfl, rfl, rfl, rfl, rfl, rfl, ⟨RA.out, BX.out⟩⟩⟩
theorem wc_kinds {k bb d2 : Nat} {y0 y1 : Int} (w : World) (g : Wh) (rb : Nat) (ad : Option Addr) (len cap : Nat) (lev slot : Int) (hv : IsTab [.i .i64, .i .i64, .i .u64] w ad len cap) (T : Tab w) (h60 : len ≤ 60) (hk : k < len) (hd2 : d2 < 18446744073709551616) (a : Act) (wr : World) (H : wcT w g rb ad len cap lev slot k k bb y0 y1 d2 a wr) :
    Code.wp Tryd.prog (blkIn 2 Tryd.f3) (Exit.then (wcM w g rb ad len cap lev slot k (k + 1)) (Qx 1 (wcM w g rb ad len cap lev slot k (k + 1)))) a wr := by
  by_cases h0 : y0 = 0
  · subst h0; exact wc_ins (y0 := 0) w g rb ad len cap lev slot hv T h60 hk hd2 a wr H
  · by_cases h1 : y0 = 1
    · subst h1; exact wc_rem (y0 := 0) w g rb ad len cap lev slot hv T h60 hk hd2 a wr H
    · by_cases h2 : y0 = 2
      · subst h2; exact wc_ticks (y0 := 0) w g rb ad len cap lev slot hv T h60 hk hd2 a wr H
      · exact wc_other w g rb ad len cap lev slot hv T h60 hk hd2 h0 h1 h2 a wr H
set_option maxRecDepth 100000 in
set_option maxHeartbeats 0 in
theorem wc_chk {k : Nat} (w : World) (g : Wh) (rb : Nat) (ad : Option Addr) (len cap : Nat) (lev slot : Int) (hv : IsTab [.i .i64, .i .i64, .i .u64] w ad len cap) (T : Tab w) (h60 : len ≤ 60) (hk : k < len) (a : Act) (wr : World) (H : wcM w g rb ad len cap lev slot k (k + 1) a wr) :
    Code.wp Tryd.prog (sndC (sndC (blkIn 1 Tryd.f3))) (Exit.then (wcM w g rb ad len cap lev slot k (k + 1)) (Qx 1 (wcM w g rb ad len cap lev slot k (k + 1)))) a wr := by
  obtain ⟨t, ds⟩ := a
  obtain ⟨now, Q, P, l, ar, ae, cr, ce, hd', hz, h1, h2, h3, h9, h10, h11, h12, rel⟩ := H
  replace hd' : ds = [] := hd'
  subst hd'
  replace hz : t.size = 218 := hz
  replace h1 : t.getD 1 undef = .slice ad len cap := h1
  replace h2 : t.getD 2 undef = .int .i64 lev := h2
  replace h3 : t.getD 3 undef = .int .i64 slot := h3
  replace h9 : t.getD 9 undef = .pointer (some ⟨g.wb, 0, none⟩) := h9
  replace h10 : t.getD 10 undef = .pointer (some ⟨rb, 0, none⟩) := h10
  replace h11 : t.getD 11 undef = .slice ae P.length ce := h11
  replace h12 : t.getD 12 undef = .int .i64 (k : Nat) := h12
  have REL := Lib.hid rel
  clear rel
  refine openFr218 (P := fun t => t.getD 1 undef = .slice ad len cap → t.getD 2 undef = .int .i64 lev → t.getD 3 undef = .int .i64 slot → t.getD 9 undef = .pointer (some ⟨g.wb, 0, none⟩) → t.getD 10 undef = .pointer (some ⟨rb, 0, none⟩) → t.getD 11 undef = .slice ae P.length ce → t.getD 12 undef = .int .i64 (k : Nat) → Code.wp Tryd.prog (sndC (sndC (blkIn 1 Tryd.f3))) (Exit.then (wcM w g rb ad len cap lev slot k (k + 1)) (Qx 1 (wcM w g rb ad len cap lev slot k (k + 1)))) ⟨t, []⟩ wr) ?_ t hz h1 h2 h3 h9 h10 h11 h12
  clear h1 h2 h3 h9 h10 h11 h12 hz t
  intro c0 c1 c2 c3 c4 c5 c6 c7 c8 c9 c10 c11 c12 c13 c14 c15 c16 c17 c18 c19 c20 c21 c22 c23 c24 c25 c26 c27 c28 c29 c30 c31 c32 c33 c34 c35 c36 c37 c38 c39 c40 c41 c42 c43 c44 c45 c46 c47 c48 c49 c50 c51 c52 c53 c54 c55 c56 c57 c58 c59 c60 c61 c62 c63 c64 c65 c66 c67 c68 c69 c70 c71 c72 c73 c74 c75 c76 c77 c78 c79 c80 c81 c82 c83 c84 c85 c86 c87 c88 c89 c90 c91 c92 c93 c94 c95 c96 c97 c98 c99 c100 c101 c102 c103 c104 c105 c106 c107 c108 c109 c110 c111 c112 c113 c114 c115 c116 c117 c118 c119 c120 c121 c122 c123 c124 c125 c126 c127 c128 c129 c130 c131 c132 c133 c134 c135 c136 c137 c138 c139 c140 c141 c142 c143 c144 c145 c146 c147 c148 c149 c150 c151 c152 c153 c154 c155 c156 c157 c158 c159 c160 c161 c162 c163 c164 c165 c166 c167 c168 c169 c170 c171 c172 c173 c174 c175 c176 c177 c178 c179 c180 c181 c182 c183 c184 c185 c186 c187 c188 c189 c190 c191 c192 c193 c194 c195 c196 c197 c198 c199 c200 c201 c202 c203 c204 c205 c206 c207 c208 c209 c210 c211 c212 c213 c214 c215 c216 c217 h1 h2 h3 h9 h10 h11 h12
  replace h1 : c1 = .slice ad len cap := h1
  replace h2 : c2 = .int .i64 lev := h2
  replace h3 : c3 = .int .i64 slot := h3
  replace h9 : c9 = .pointer (some ⟨g.wb, 0, none⟩) := h9
  replace h10 : c10 = .pointer (some ⟨rb, 0, none⟩) := h10
  replace h11 : c11 = .slice ae P.length ce := h11
  replace h12 : c12 = .int .i64 (k : Nat) := h12
  subst h1
  subst h2
  subst h3
  subst h9
  subst h10
  subst h11
  subst h12
  conv => arg 2; whnf
  have TB := Lib.hid T
  have ql := REL.out.ql
  clear hv T
  go_wp2_with fail
  refine (same_of REL.out.u TB.out (by omega) lev slot).mono ?_
  rintro e w5 ⟨rfl, c5⟩
  have NX := Lib.hid (REL.out.quiet c5)
  clear c5 REL
  go_wp2
  exact ⟨_, _, _, _, _, _, _, _, rfl, rfl, rfl, rfl, rfl, rfl, rfl, rfl, rfl, NX.out⟩
theorem wc_blk_eq : (blkIn 1 Tryd.f3) = .seq (fstC (blkIn 1 Tryd.f3)) (.seq (.block 2 (blkIn 2 Tryd.f3)) (sndC (sndC (blkIn 1 Tryd.f3)))) := by kernel_rfl
theorem wc_act {k : Nat} (w : World) (g : Wh) (rb : Nat) (ad : Option Addr) (len cap : Nat) (lev slot : Int) (hv : IsTab [.i .i64, .i .i64, .i .u64] w ad len cap) (T : Tab w) (h60 : len ≤ 60) (hk : k < len) (a : Act) (wr : World) (H : wcM w g rb ad len cap lev slot k k a wr) :
    Code.wp Tryd.prog (blkIn 1 Tryd.f3) (Exit.then (wcM w g rb ad len cap lev slot k (k + 1)) (Qx 1 (wcM w g rb ad len cap lev slot k (k + 1)))) a wr := by
  rw [wc_blk_eq]
  refine wp_seq (wp_mono (wc_box w g rb ad len cap lev slot hv T h60 hk a wr H) ?_)
  intro e a1 w1 hp
  cases e with
  | normal =>
    obtain ⟨bb, d2, y0, y1, hd2, h1⟩ := hp
    refine wp_seq (wp_block (wp_mono (wc_kinds w g rb ad len cap lev slot hv T h60 hk hd2 a1 w1 h1) ?_))
    intro e a2 w2 hp2
    cases e with
    | normal => exact wc_chk w g rb ad len cap lev slot hv T h60 hk a2 w2 hp2
    | exit n =>
      obtain ⟨rfl, h2⟩ := hp2
      exact ⟨rfl, h2⟩
    | _ => exact hp2.elim
  | _ => exact hp.elim
/-- what holds at the head of the loop -/
def wcOI (w : World) (g : Wh) (rb : Nat) (ad : Option Addr) (len cap : Nat) (lev slot : Int) (k : Nat) (a : Act) (wr : World) : Prop :=
  ∃ (now : Nat) (Q P : List Ent) (l : List Dn) (ar ae : Option Addr) (cr ce : Nat), a.defers = [] ∧ a.tmps.size = 218 ∧ a.tmps.getD 1 undef = .slice ad len cap ∧ a.tmps.getD 2 undef = .int .i64 lev ∧ a.tmps.getD 3 undef = .int .i64 slot ∧ a.tmps.getD 9 undef = .pointer (some ⟨g.wb, 0, none⟩) ∧ a.tmps.getD 10 undef = .pointer (some ⟨rb, 0, none⟩) ∧ a.tmps.getD 11 undef = .slice ae P.length ce ∧ a.tmps.getD 12 undef = .int .i64 (k : Nat) ∧ AcR w wr g now Q P rb l ar cr ae ce k
theorem wcOI_ctr {k : Nat} (w : World) (g : Wh) (rb : Nat) (ad : Option Addr) (len cap : Nat) (lev slot : Int) {a : Act} {wr : World} (H : wcOI w g rb ad len cap lev slot k a wr) : a.tmps.getD 12 undef = .int .i64 (k : Nat) := by
  obtain ⟨now, Q, P, l, ar, ae, cr, ce, -, -, -, -, -, -, -, -, h, -⟩ := H
  exact h
theorem wc_body_eq : loopIn 0 Tryd.f3 = (.seq (fstC (loopIn 0 Tryd.f3)) (.seq (.block 1 (blkIn 1 Tryd.f3)) (sndC (sndC (loopIn 0 Tryd.f3))))) := by kernel_rfl
set_option maxRecDepth 100000 in
set_option maxHeartbeats 0 in
theorem wc_step {k : Nat} (w : World) (g : Wh) (rb : Nat) (ad : Option Addr) (len cap : Nat) (lev slot : Int) (h60 : len ≤ 60) (hk : k < len) (a : Act) (wr : World) (H : wcM w g rb ad len cap lev slot k (k + 1) a wr) :
    Code.wp Tryd.prog (sndC (sndC (loopIn 0 Tryd.f3))) (Exit.then (fun a' w' => wcOI w g rb ad len cap lev slot (k + 1) a' w' ∧ k < len) (Qx 0 (fun a' w' => wcOI w g rb ad len cap lev slot k a' w' ∧ k = len))) a wr := by
  obtain ⟨t, ds⟩ := a
  obtain ⟨now, Q, P, l, ar, ae, cr, ce, hd', hz, h1, h2, h3, h9, h10, h11, h12, rel⟩ := H
  replace hd' : ds = [] := hd'
  subst hd'
  replace hz : t.size = 218 := hz
  replace h1 : t.getD 1 undef = .slice ad len cap := h1
  replace h2 : t.getD 2 undef = .int .i64 lev := h2
  replace h3 : t.getD 3 undef = .int .i64 slot := h3
  replace h9 : t.getD 9 undef = .pointer (some ⟨g.wb, 0, none⟩) := h9
  replace h10 : t.getD 10 undef = .pointer (some ⟨rb, 0, none⟩) := h10
  replace h11 : t.getD 11 undef = .slice ae P.length ce := h11
  replace h12 : t.getD 12 undef = .int .i64 (k : Nat) := h12
  have REL := Lib.hid rel
  clear rel
  refine openFr218 (P := fun t => t.getD 1 undef = .slice ad len cap → t.getD 2 undef = .int .i64 lev → t.getD 3 undef = .int .i64 slot → t.getD 9 undef = .pointer (some ⟨g.wb, 0, none⟩) → t.getD 10 undef = .pointer (some ⟨rb, 0, none⟩) → t.getD 11 undef = .slice ae P.length ce → t.getD 12 undef = .int .i64 (k : Nat) → Code.wp Tryd.prog (sndC (sndC (loopIn 0 Tryd.f3))) (Exit.then (fun a' w' => wcOI w g rb ad len cap lev slot (k + 1) a' w' ∧ k < len) (Qx 0 (fun a' w' => wcOI w g rb ad len cap lev slot k a' w' ∧ k = len))) ⟨t, []⟩ wr) ?_ t hz h1 h2 h3 h9 h10 h11 h12
  clear h1 h2 h3 h9 h10 h11 h12 hz t
  intro c0 c1 c2 c3 c4 c5 c6 c7 c8 c9 c10 c11 c12 c13 c14 c15 c16 c17 c18 c19 c20 c21 c22 c23 c24 c25 c26 c27 c28 c29 c30 c31 c32 c33 c34 c35 c36 c37 c38 c39 c40 c41 c42 c43 c44 c45 c46 c47 c48 c49 c50 c51 c52 c53 c54 c55 c56 c57 c58 c59 c60 c61 c62 c63 c64 c65 c66 c67 c68 c69 c70 c71 c72 c73 c74 c75 c76 c77 c78 c79 c80 c81 c82 c83 c84 c85 c86 c87 c88 c89 c90 c91 c92 c93 c94 c95 c96 c97 c98 c99 c100 c101 c102 c103 c104 c105 c106 c107 c108 c109 c110 c111 c112 c113 c114 c115 c116 c117 c118 c119 c120 c121 c122 c123 c124 c125 c126 c127 c128 c129 c130 c131 c132 c133 c134 c135 c136 c137 c138 c139 c140 c141 c142 c143 c144 c145 c146 c147 c148 c149 c150 c151 c152 c153 c154 c155 c156 c157 c158 c159 c160 c161 c162 c163 c164 c165 c166 c167 c168 c169 c170 c171 c172 c173 c174 c175 c176 c177 c178 c179 c180 c181 c182 c183 c184 c185 c186 c187 c188 c189 c190 c191 c192 c193 c194 c195 c196 c197 c198 c199 c200 c201 c202 c203 c204 c205 c206 c207 c208 c209 c210 c211 c212 c213 c214 c215 c216 c217 h1 h2 h3 h9 h10 h11 h12
  replace h1 : c1 = .slice ad len cap := h1
  replace h2 : c2 = .int .i64 lev := h2
  replace h3 : c3 = .int .i64 slot := h3
  replace h9 : c9 = .pointer (some ⟨g.wb, 0, none⟩) := h9
  replace h10 : c10 = .pointer (some ⟨rb, 0, none⟩) := h10
  replace h11 : c11 = .slice ae P.length ce := h11
  replace h12 : c12 = .int .i64 (k : Nat) := h12
  subst h1
  subst h2
  subst h3
  subst h9
  subst h10
  subst h11
  subst h12
  conv => arg 2; whnf
  have hkb : (k : Int) < 60 := by omega
  go_wp2
  first | exact ⟨⟨_, _, _, _, _, _, _, _, rfl, rfl, rfl, rfl, rfl, rfl, rfl, rfl, rfl, REL.out⟩, hk⟩ | exact ⟨_, _, _, _, _, _, _, _, rfl, rfl, rfl, rfl, rfl, rfl, rfl, rfl, rfl, REL.out⟩
set_option maxRecDepth 100000 in
set_option maxHeartbeats 0 in
theorem wcO_round {k : Nat} (w : World) (g : Wh) (rb : Nat) (ad : Option Addr) (len cap : Nat) (lev slot : Int) (hv : IsTab [.i .i64, .i .i64, .i .u64] w ad len cap) (T : Tab w) (h60 : len ≤ 60) (a : Act) (wr : World) (hk : k ≤ len) (H : wcOI w g rb ad len cap lev slot k a wr) :
    Code.wp Tryd.prog (loopIn 0 Tryd.f3) (Exit.then (fun a' w' => wcOI w g rb ad len cap lev slot (k + 1) a' w' ∧ k < len) (Qx 0 (fun a' w' => wcOI w g rb ad len cap lev slot k a' w' ∧ k = len))) a wr := by
  obtain ⟨t, ds⟩ := a
  obtain ⟨now, Q, P, l, ar, ae, cr, ce, hd', hz, h1, h2, h3, h9, h10, h11, h12, rel⟩ := H
  replace hd' : ds = [] := hd'
  subst hd'
  replace hz : t.size = 218 := hz
  replace h1 : t.getD 1 undef = .slice ad len cap := h1
  replace h2 : t.getD 2 undef = .int .i64 lev := h2
  replace h3 : t.getD 3 undef = .int .i64 slot := h3
  replace h9 : t.getD 9 undef = .pointer (some ⟨g.wb, 0, none⟩) := h9
  replace h10 : t.getD 10 undef = .pointer (some ⟨rb, 0, none⟩) := h10
  replace h11 : t.getD 11 undef = .slice ae P.length ce := h11
  replace h12 : t.getD 12 undef = .int .i64 (k : Nat) := h12
  have REL := Lib.hid rel
  clear rel
  rw [wc_body_eq]
  refine openFr218 (P := fun t => t.getD 1 undef = .slice ad len cap → t.getD 2 undef = .int .i64 lev → t.getD 3 undef = .int .i64 slot → t.getD 9 undef = .pointer (some ⟨g.wb, 0, none⟩) → t.getD 10 undef = .pointer (some ⟨rb, 0, none⟩) → t.getD 11 undef = .slice ae P.length ce → t.getD 12 undef = .int .i64 (k : Nat) → Code.wp Tryd.prog (.seq (fstC (loopIn 0 Tryd.f3)) (.seq (.block 1 (blkIn 1 Tryd.f3)) (sndC (sndC (loopIn 0 Tryd.f3))))) (Exit.then (fun a' w' => wcOI w g rb ad len cap lev slot (k + 1) a' w' ∧ k < len) (Qx 0 (fun a' w' => wcOI w g rb ad len cap lev slot k a' w' ∧ k = len))) ⟨t, []⟩ wr) ?_ t hz h1 h2 h3 h9 h10 h11 h12
  clear h1 h2 h3 h9 h10 h11 h12 hz t
  intro c0 c1 c2 c3 c4 c5 c6 c7 c8 c9 c10 c11 c12 c13 c14 c15 c16 c17 c18 c19 c20 c21 c22 c23 c24 c25 c26 c27 c28 c29 c30 c31 c32 c33 c34 c35 c36 c37 c38 c39 c40 c41 c42 c43 c44 c45 c46 c47 c48 c49 c50 c51 c52 c53 c54 c55 c56 c57 c58 c59 c60 c61 c62 c63 c64 c65 c66 c67 c68 c69 c70 c71 c72 c73 c74 c75 c76 c77 c78 c79 c80 c81 c82 c83 c84 c85 c86 c87 c88 c89 c90 c91 c92 c93 c94 c95 c96 c97 c98 c99 c100 c101 c102 c103 c104 c105 c106 c107 c108 c109 c110 c111 c112 c113 c114 c115 c116 c117 c118 c119 c120 c121 c122 c123 c124 c125 c126 c127 c128 c129 c130 c131 c132 c133 c134 c135 c136 c137 c138 c139 c140 c141 c142 c143 c144 c145 c146 c147 c148 c149 c150 c151 c152 c153 c154 c155 c156 c157 c158 c159 c160 c161 c162 c163 c164 c165 c166 c167 c168 c169 c170 c171 c172 c173 c174 c175 c176 c177 c178 c179 c180 c181 c182 c183 c184 c185 c186 c187 c188 c189 c190 c191 c192 c193 c194 c195 c196 c197 c198 c199 c200 c201 c202 c203 c204 c205 c206 c207 c208 c209 c210 c211 c212 c213 c214 c215 c216 c217 h1 h2 h3 h9 h10 h11 h12
  replace h1 : c1 = .slice ad len cap := h1
  replace h2 : c2 = .int .i64 lev := h2
  replace h3 : c3 = .int .i64 slot := h3
  replace h9 : c9 = .pointer (some ⟨g.wb, 0, none⟩) := h9
  replace h10 : c10 = .pointer (some ⟨rb, 0, none⟩) := h10
  replace h11 : c11 = .slice ae P.length ce := h11
  replace h12 : c12 = .int .i64 (k : Nat) := h12
  subst h1
  subst h2
  subst h3
  subst h9
  subst h10
  subst h11
  subst h12
  refine wp_seq_k fun K hK => ?_
  have HK := Lib.hid hK
  clear hK
  conv => arg 2; whnf
  by_cases hlt : k < len
  · have hkz : (k : Int) < (len : Int) := by omega
    go_wp2
    refine HK.out _ _ ?_
    clear HK K
    refine wp_seq (wp_block (wp_mono (wc_act w g rb ad len cap lev slot hv T h60 hlt _ _ ⟨_, _, _, _, _, _, _, _, rfl, rfl, rfl, rfl, rfl, rfl, rfl, rfl, rfl, REL.out⟩) ?_))
    intro e a' w' hp
    cases e with
    | normal => exact wc_step w g rb ad len cap lev slot h60 hlt a' w' hp
    | exit n =>
      obtain ⟨rfl, h2⟩ := hp
      exact wc_step w g rb ad len cap lev slot h60 hlt a' w' h2
    | _ => exact hp.elim
  · obtain rfl : k = len := by omega
    go_wp2
    first | exact ⟨by first | rfl | trivial, ⟨_, _, _, _, _, _, _, _, rfl, rfl, rfl, rfl, rfl, rfl, rfl, rfl, rfl, REL.out⟩, by first | rfl | trivial⟩ | exact ⟨by first | rfl | trivial, ⟨_, _, _, _, _, _, _, _, rfl, rfl, rfl, rfl, rfl, rfl, rfl, rfl, rfl, REL.out⟩⟩ | exact ⟨_, _, _, _, _, _, _, _, rfl, rfl, rfl, rfl, rfl, rfl, rfl, rfl, rfl, REL.out⟩ | exact ⟨⟨_, _, _, _, _, _, _, _, rfl, rfl, rfl, rfl, rfl, rfl, rfl, rfl, rfl, REL.out⟩, by first | rfl | trivial⟩
theorem wcO_loop (w : World) (g : Wh) (rb : Nat) (ad : Option Addr) (len cap : Nat) (lev slot : Int) (hv : IsTab [.i .i64, .i .i64, .i .u64] w ad len cap) (T : Tab w) (h60 : len ≤ 60) (a : Act) (wr : World) (hb : 0 ≤ len) (H : wcOI w g rb ad len cap lev slot 0 a wr) :
    Code.wp Tryd.prog (.loop (loopIn 0 Tryd.f3)) (Qx 0 (fun a' w' => wcOI w g rb ad len cap lev slot len a' w')) a wr := by
  refine wp_loop (fun a' wr => ∃ k, k ≤ len ∧ wcOI w g rb ad len cap lev slot k a' wr) (fun a' _ => len - (intOf (a'.tmps.getD 12 undef)).toNat) ⟨0, hb, H⟩ ?_
  rintro a' wr ⟨k, hk, h⟩
  refine wp_mono (wcO_round w g rb ad len cap lev slot hv T h60 a' wr hk h) ?_
  intro e a2 w2 hp
  cases e with
  | normal =>
    refine ⟨⟨k + 1, by have := hp.2; omega, hp.1⟩, ?_⟩
    rw [wcOI_ctr w g rb ad len cap lev slot h, wcOI_ctr w g rb ad len cap lev slot hp.1]
    have := hp.2
    simp only [intOf, Int.toNat_natCast]
    omega
  | exit n => exact ⟨hp.1, hp.2.2 ▸ hp.2.1⟩
  | _ => exact hp.elim
set_option maxRecDepth 100000 in
set_option maxHeartbeats 0 in
theorem wc_end (w : World) (g : Wh) (rb : Nat) (ad : Option Addr) (len cap : Nat) (lev slot : Int) (hv : IsTab [.i .i64, .i .i64, .i .u64] w ad len cap) (T : Tab w) (h60 : len ≤ 60)  (a : Act) (wr : World) (H : wcOI w g rb ad len cap lev slot len a wr) :
    Code.wp Tryd.prog (aftIn 0 Tryd.f3) (bodyPost Tryd.prog Tryd.f3 (fun e w' => e = .returned (.bool true) ∧ Below w.heap.size w w')) a wr := by
  obtain ⟨t, ds⟩ := a
  obtain ⟨now, Q, P, l, ar, ae, cr, ce, hd', hz, h1, h2, h3, h9, h10, h11, h12, rel⟩ := H
  replace hd' : ds = [] := hd'
  subst hd'
  replace hz : t.size = 218 := hz
  replace h1 : t.getD 1 undef = .slice ad len cap := h1
  replace h2 : t.getD 2 undef = .int .i64 lev := h2
  replace h3 : t.getD 3 undef = .int .i64 slot := h3
  replace h9 : t.getD 9 undef = .pointer (some ⟨g.wb, 0, none⟩) := h9
  replace h10 : t.getD 10 undef = .pointer (some ⟨rb, 0, none⟩) := h10
  replace h11 : t.getD 11 undef = .slice ae P.length ce := h11
  replace h12 : t.getD 12 undef = .int .i64 (len : Nat) := h12
  have REL := Lib.hid rel
  clear rel
  refine openFr218 (P := fun t => t.getD 1 undef = .slice ad len cap → t.getD 2 undef = .int .i64 lev → t.getD 3 undef = .int .i64 slot → t.getD 9 undef = .pointer (some ⟨g.wb, 0, none⟩) → t.getD 10 undef = .pointer (some ⟨rb, 0, none⟩) → t.getD 11 undef = .slice ae P.length ce → t.getD 12 undef = .int .i64 (len : Nat) → Code.wp Tryd.prog (aftIn 0 Tryd.f3) (bodyPost Tryd.prog Tryd.f3 (fun e w' => e = .returned (.bool true) ∧ Below w.heap.size w w')) ⟨t, []⟩ wr) ?_ t hz h1 h2 h3 h9 h10 h11 h12
  clear h1 h2 h3 h9 h10 h11 h12 hz t
  intro c0 c1 c2 c3 c4 c5 c6 c7 c8 c9 c10 c11 c12 c13 c14 c15 c16 c17 c18 c19 c20 c21 c22 c23 c24 c25 c26 c27 c28 c29 c30 c31 c32 c33 c34 c35 c36 c37 c38 c39 c40 c41 c42 c43 c44 c45 c46 c47 c48 c49 c50 c51 c52 c53 c54 c55 c56 c57 c58 c59 c60 c61 c62 c63 c64 c65 c66 c67 c68 c69 c70 c71 c72 c73 c74 c75 c76 c77 c78 c79 c80 c81 c82 c83 c84 c85 c86 c87 c88 c89 c90 c91 c92 c93 c94 c95 c96 c97 c98 c99 c100 c101 c102 c103 c104 c105 c106 c107 c108 c109 c110 c111 c112 c113 c114 c115 c116 c117 c118 c119 c120 c121 c122 c123 c124 c125 c126 c127 c128 c129 c130 c131 c132 c133 c134 c135 c136 c137 c138 c139 c140 c141 c142 c143 c144 c145 c146 c147 c148 c149 c150 c151 c152 c153 c154 c155 c156 c157 c158 c159 c160 c161 c162 c163 c164 c165 c166 c167 c168 c169 c170 c171 c172 c173 c174 c175 c176 c177 c178 c179 c180 c181 c182 c183 c184 c185 c186 c187 c188 c189 c190 c191 c192 c193 c194 c195 c196 c197 c198 c199 c200 c201 c202 c203 c204 c205 c206 c207 c208 c209 c210 c211 c212 c213 c214 c215 c216 c217 h1 h2 h3 h9 h10 h11 h12
  replace h1 : c1 = .slice ad len cap := h1
  replace h2 : c2 = .int .i64 lev := h2
  replace h3 : c3 = .int .i64 slot := h3
  replace h9 : c9 = .pointer (some ⟨g.wb, 0, none⟩) := h9
  replace h10 : c10 = .pointer (some ⟨rb, 0, none⟩) := h10
  replace h11 : c11 = .slice ae P.length ce := h11
  replace h12 : c12 = .int .i64 (len : Nat) := h12
  subst h1
  subst h2
  subst h3
  subst h9
  subst h10
  subst h11
  subst h12
  conv => arg 2; whnf
  have TB := Lib.hid T
  have ql := REL.out.ql
  clear hv T
  go_wp2_with fail
  refine (same_of REL.out.u TB.out (by omega) lev slot).mono ?_
  rintro e w5 ⟨rfl, c5⟩
  have C5 := Lib.hid (REL.out.u.d.c.trans c5)
  clear c5 REL
  go_wp2
  go_ret
  exact ⟨rfl, C5.out.below (Nat.le_refl _) (fun _ _ e => e.elim)⟩
end Go.Proofs.YtkfknafgknppdaaDoor
