/-
  The code of the statement LevelActs, taken apart; a frame of 230 slots, opened by letters; what holds between its pieces.
-/
import Derived.Test.YtgaakhiapgmnbaaDoorLevelActA
import Derived.Test.YtgaakhiapgmnbaaDoorIsTab
namespace Go.Proofs.YtgaakhiapgmnbaaDoor
open Go.RowKit Verge LI
set_option linter.unusedVariables false

/-- the body of the block of that number -/
def blockOf (n : Nat) : Code → Option Code
  | .block i c => if i = n then some c else blockOf n c
  | .seq a b => match blockOf n a with
    | some c => some c
    | none => blockOf n b
  | .cond _ a b => match blockOf n a with
    | some c => some c
    | none => blockOf n b
  | .loop c => blockOf n c
  | .scope c => blockOf n c
  | _ => none
def fstC : Code → Code
  | .seq a _ => a
  | c => c
def sndC : Code → Code
  | .seq _ b => b
  | c => c
def inL : Code → Code
  | .loop c => c
  | c => c
/-- the second loop's body -/
def bodyOf (f : Func) : Code := inL ((f.body.bind (blockOf 2)).getD .skip)
/-- an act: all of it; its case; its end -/
def actOf (f : Func) : Code := (f.body.bind (blockOf 3)).getD .skip
def caseOf (f : Func) : Code := fstC (sndC (sndC (sndC (actOf f))))
def endOf (f : Func) : Code := sndC (sndC (sndC (sndC (actOf f))))

theorem cons_of {l : List Value} {n : Nat} (h : l.length = n + 1) : ∃ c l', l = c :: l' ∧ l'.length = n := by
  cases l with
  | nil => simp at h
  | cons c l' => exact ⟨c, l', rfl, by simpa using h⟩
set_option maxRecDepth 100000 in
set_option maxHeartbeats 4000000 in
theorem openFr {P : Array Value → Prop} (h : ∀ c0 c1 c2 c3 c4 c5 c6 c7 c8 c9 c10 c11 c12 c13 c14 c15 c16 c17 c18 c19 c20 c21 c22 c23 c24 c25 c26 c27 c28 c29 c30 c31 c32 c33 c34 c35 c36 c37 c38 c39 c40 c41 c42 c43 c44 c45 c46 c47 c48 c49 c50 c51 c52 c53 c54 c55 c56 c57 c58 c59 c60 c61 c62 c63 c64 c65 c66 c67 c68 c69 c70 c71 c72 c73 c74 c75 c76 c77 c78 c79 c80 c81 c82 c83 c84 c85 c86 c87 c88 c89 c90 c91 c92 c93 c94 c95 c96 c97 c98 c99 c100 c101 c102 c103 c104 c105 c106 c107 c108 c109 c110 c111 c112 c113 c114 c115 c116 c117 c118 c119 c120 c121 c122 c123 c124 c125 c126 c127 c128 c129 c130 c131 c132 c133 c134 c135 c136 c137 c138 c139 c140 c141 c142 c143 c144 c145 c146 c147 c148 c149 c150 c151 c152 c153 c154 c155 c156 c157 c158 c159 c160 c161 c162 c163 c164 c165 c166 c167 c168 c169 c170 c171 c172 c173 c174 c175 c176 c177 c178 c179 c180 c181 c182 c183 c184 c185 c186 c187 c188 c189 c190 c191 c192 c193 c194 c195 c196 c197 c198 c199 c200 c201 c202 c203 c204 c205 c206 c207 c208 c209 c210 c211 c212 c213 c214 c215 c216 c217 c218 c219 c220 c221 c222 c223 c224 c225 c226 c227 c228 c229 : Value, P (List.toArray (c0 :: c1 :: c2 :: c3 :: c4 :: c5 :: c6 :: c7 :: c8 :: c9 :: c10 :: c11 :: c12 :: c13 :: c14 :: c15 :: c16 :: c17 :: c18 :: c19 :: c20 :: c21 :: c22 :: c23 :: c24 :: c25 :: c26 :: c27 :: c28 :: c29 :: c30 :: c31 :: c32 :: c33 :: c34 :: c35 :: c36 :: c37 :: c38 :: c39 :: c40 :: c41 :: c42 :: c43 :: c44 :: c45 :: c46 :: c47 :: c48 :: c49 :: c50 :: c51 :: c52 :: c53 :: c54 :: c55 :: c56 :: c57 :: c58 :: c59 :: c60 :: c61 :: c62 :: c63 :: c64 :: c65 :: c66 :: c67 :: c68 :: c69 :: c70 :: c71 :: c72 :: c73 :: c74 :: c75 :: c76 :: c77 :: c78 :: c79 :: c80 :: c81 :: c82 :: c83 :: c84 :: c85 :: c86 :: c87 :: c88 :: c89 :: c90 :: c91 :: c92 :: c93 :: c94 :: c95 :: c96 :: c97 :: c98 :: c99 :: c100 :: c101 :: c102 :: c103 :: c104 :: c105 :: c106 :: c107 :: c108 :: c109 :: c110 :: c111 :: c112 :: c113 :: c114 :: c115 :: c116 :: c117 :: c118 :: c119 :: c120 :: c121 :: c122 :: c123 :: c124 :: c125 :: c126 :: c127 :: c128 :: c129 :: c130 :: c131 :: c132 :: c133 :: c134 :: c135 :: c136 :: c137 :: c138 :: c139 :: c140 :: c141 :: c142 :: c143 :: c144 :: c145 :: c146 :: c147 :: c148 :: c149 :: c150 :: c151 :: c152 :: c153 :: c154 :: c155 :: c156 :: c157 :: c158 :: c159 :: c160 :: c161 :: c162 :: c163 :: c164 :: c165 :: c166 :: c167 :: c168 :: c169 :: c170 :: c171 :: c172 :: c173 :: c174 :: c175 :: c176 :: c177 :: c178 :: c179 :: c180 :: c181 :: c182 :: c183 :: c184 :: c185 :: c186 :: c187 :: c188 :: c189 :: c190 :: c191 :: c192 :: c193 :: c194 :: c195 :: c196 :: c197 :: c198 :: c199 :: c200 :: c201 :: c202 :: c203 :: c204 :: c205 :: c206 :: c207 :: c208 :: c209 :: c210 :: c211 :: c212 :: c213 :: c214 :: c215 :: c216 :: c217 :: c218 :: c219 :: c220 :: c221 :: c222 :: c223 :: c224 :: c225 :: c226 :: c227 :: c228 :: c229 :: []))) (t : Array Value) (ht : t.size = 230) : P t := by
  obtain ⟨l⟩ := t
  have k : l.length = 230 := ht
  clear ht
  obtain ⟨c0, l0, e, k0⟩ := cons_of (n := 229) k; clear k; subst e
  obtain ⟨c1, l1, e, k1⟩ := cons_of (n := 228) k0; clear k0; subst e
  obtain ⟨c2, l2, e, k2⟩ := cons_of (n := 227) k1; clear k1; subst e
  obtain ⟨c3, l3, e, k3⟩ := cons_of (n := 226) k2; clear k2; subst e
  obtain ⟨c4, l4, e, k4⟩ := cons_of (n := 225) k3; clear k3; subst e
  obtain ⟨c5, l5, e, k5⟩ := cons_of (n := 224) k4; clear k4; subst e
  obtain ⟨c6, l6, e, k6⟩ := cons_of (n := 223) k5; clear k5; subst e
  obtain ⟨c7, l7, e, k7⟩ := cons_of (n := 222) k6; clear k6; subst e
  obtain ⟨c8, l8, e, k8⟩ := cons_of (n := 221) k7; clear k7; subst e
  obtain ⟨c9, l9, e, k9⟩ := cons_of (n := 220) k8; clear k8; subst e
  obtain ⟨c10, l10, e, k10⟩ := cons_of (n := 219) k9; clear k9; subst e
  obtain ⟨c11, l11, e, k11⟩ := cons_of (n := 218) k10; clear k10; subst e
  obtain ⟨c12, l12, e, k12⟩ := cons_of (n := 217) k11; clear k11; subst e
  obtain ⟨c13, l13, e, k13⟩ := cons_of (n := 216) k12; clear k12; subst e
  obtain ⟨c14, l14, e, k14⟩ := cons_of (n := 215) k13; clear k13; subst e
  obtain ⟨c15, l15, e, k15⟩ := cons_of (n := 214) k14; clear k14; subst e
  obtain ⟨c16, l16, e, k16⟩ := cons_of (n := 213) k15; clear k15; subst e
  obtain ⟨c17, l17, e, k17⟩ := cons_of (n := 212) k16; clear k16; subst e
  obtain ⟨c18, l18, e, k18⟩ := cons_of (n := 211) k17; clear k17; subst e
  obtain ⟨c19, l19, e, k19⟩ := cons_of (n := 210) k18; clear k18; subst e
  obtain ⟨c20, l20, e, k20⟩ := cons_of (n := 209) k19; clear k19; subst e
  obtain ⟨c21, l21, e, k21⟩ := cons_of (n := 208) k20; clear k20; subst e
  obtain ⟨c22, l22, e, k22⟩ := cons_of (n := 207) k21; clear k21; subst e
  obtain ⟨c23, l23, e, k23⟩ := cons_of (n := 206) k22; clear k22; subst e
  obtain ⟨c24, l24, e, k24⟩ := cons_of (n := 205) k23; clear k23; subst e
  obtain ⟨c25, l25, e, k25⟩ := cons_of (n := 204) k24; clear k24; subst e
  obtain ⟨c26, l26, e, k26⟩ := cons_of (n := 203) k25; clear k25; subst e
  obtain ⟨c27, l27, e, k27⟩ := cons_of (n := 202) k26; clear k26; subst e
  obtain ⟨c28, l28, e, k28⟩ := cons_of (n := 201) k27; clear k27; subst e
  obtain ⟨c29, l29, e, k29⟩ := cons_of (n := 200) k28; clear k28; subst e
  obtain ⟨c30, l30, e, k30⟩ := cons_of (n := 199) k29; clear k29; subst e
  obtain ⟨c31, l31, e, k31⟩ := cons_of (n := 198) k30; clear k30; subst e
  obtain ⟨c32, l32, e, k32⟩ := cons_of (n := 197) k31; clear k31; subst e
  obtain ⟨c33, l33, e, k33⟩ := cons_of (n := 196) k32; clear k32; subst e
  obtain ⟨c34, l34, e, k34⟩ := cons_of (n := 195) k33; clear k33; subst e
  obtain ⟨c35, l35, e, k35⟩ := cons_of (n := 194) k34; clear k34; subst e
  obtain ⟨c36, l36, e, k36⟩ := cons_of (n := 193) k35; clear k35; subst e
  obtain ⟨c37, l37, e, k37⟩ := cons_of (n := 192) k36; clear k36; subst e
  obtain ⟨c38, l38, e, k38⟩ := cons_of (n := 191) k37; clear k37; subst e
  obtain ⟨c39, l39, e, k39⟩ := cons_of (n := 190) k38; clear k38; subst e
  obtain ⟨c40, l40, e, k40⟩ := cons_of (n := 189) k39; clear k39; subst e
  obtain ⟨c41, l41, e, k41⟩ := cons_of (n := 188) k40; clear k40; subst e
  obtain ⟨c42, l42, e, k42⟩ := cons_of (n := 187) k41; clear k41; subst e
  obtain ⟨c43, l43, e, k43⟩ := cons_of (n := 186) k42; clear k42; subst e
  obtain ⟨c44, l44, e, k44⟩ := cons_of (n := 185) k43; clear k43; subst e
  obtain ⟨c45, l45, e, k45⟩ := cons_of (n := 184) k44; clear k44; subst e
  obtain ⟨c46, l46, e, k46⟩ := cons_of (n := 183) k45; clear k45; subst e
  obtain ⟨c47, l47, e, k47⟩ := cons_of (n := 182) k46; clear k46; subst e
  obtain ⟨c48, l48, e, k48⟩ := cons_of (n := 181) k47; clear k47; subst e
  obtain ⟨c49, l49, e, k49⟩ := cons_of (n := 180) k48; clear k48; subst e
  obtain ⟨c50, l50, e, k50⟩ := cons_of (n := 179) k49; clear k49; subst e
  obtain ⟨c51, l51, e, k51⟩ := cons_of (n := 178) k50; clear k50; subst e
  obtain ⟨c52, l52, e, k52⟩ := cons_of (n := 177) k51; clear k51; subst e
  obtain ⟨c53, l53, e, k53⟩ := cons_of (n := 176) k52; clear k52; subst e
  obtain ⟨c54, l54, e, k54⟩ := cons_of (n := 175) k53; clear k53; subst e
  obtain ⟨c55, l55, e, k55⟩ := cons_of (n := 174) k54; clear k54; subst e
  obtain ⟨c56, l56, e, k56⟩ := cons_of (n := 173) k55; clear k55; subst e
  obtain ⟨c57, l57, e, k57⟩ := cons_of (n := 172) k56; clear k56; subst e
  obtain ⟨c58, l58, e, k58⟩ := cons_of (n := 171) k57; clear k57; subst e
  obtain ⟨c59, l59, e, k59⟩ := cons_of (n := 170) k58; clear k58; subst e
  obtain ⟨c60, l60, e, k60⟩ := cons_of (n := 169) k59; clear k59; subst e
  obtain ⟨c61, l61, e, k61⟩ := cons_of (n := 168) k60; clear k60; subst e
  obtain ⟨c62, l62, e, k62⟩ := cons_of (n := 167) k61; clear k61; subst e
  obtain ⟨c63, l63, e, k63⟩ := cons_of (n := 166) k62; clear k62; subst e
  obtain ⟨c64, l64, e, k64⟩ := cons_of (n := 165) k63; clear k63; subst e
  obtain ⟨c65, l65, e, k65⟩ := cons_of (n := 164) k64; clear k64; subst e
  obtain ⟨c66, l66, e, k66⟩ := cons_of (n := 163) k65; clear k65; subst e
  obtain ⟨c67, l67, e, k67⟩ := cons_of (n := 162) k66; clear k66; subst e
  obtain ⟨c68, l68, e, k68⟩ := cons_of (n := 161) k67; clear k67; subst e
  obtain ⟨c69, l69, e, k69⟩ := cons_of (n := 160) k68; clear k68; subst e
  obtain ⟨c70, l70, e, k70⟩ := cons_of (n := 159) k69; clear k69; subst e
  obtain ⟨c71, l71, e, k71⟩ := cons_of (n := 158) k70; clear k70; subst e
  obtain ⟨c72, l72, e, k72⟩ := cons_of (n := 157) k71; clear k71; subst e
  obtain ⟨c73, l73, e, k73⟩ := cons_of (n := 156) k72; clear k72; subst e
  obtain ⟨c74, l74, e, k74⟩ := cons_of (n := 155) k73; clear k73; subst e
  obtain ⟨c75, l75, e, k75⟩ := cons_of (n := 154) k74; clear k74; subst e
  obtain ⟨c76, l76, e, k76⟩ := cons_of (n := 153) k75; clear k75; subst e
  obtain ⟨c77, l77, e, k77⟩ := cons_of (n := 152) k76; clear k76; subst e
  obtain ⟨c78, l78, e, k78⟩ := cons_of (n := 151) k77; clear k77; subst e
  obtain ⟨c79, l79, e, k79⟩ := cons_of (n := 150) k78; clear k78; subst e
  obtain ⟨c80, l80, e, k80⟩ := cons_of (n := 149) k79; clear k79; subst e
  obtain ⟨c81, l81, e, k81⟩ := cons_of (n := 148) k80; clear k80; subst e
  obtain ⟨c82, l82, e, k82⟩ := cons_of (n := 147) k81; clear k81; subst e
  obtain ⟨c83, l83, e, k83⟩ := cons_of (n := 146) k82; clear k82; subst e
  obtain ⟨c84, l84, e, k84⟩ := cons_of (n := 145) k83; clear k83; subst e
  obtain ⟨c85, l85, e, k85⟩ := cons_of (n := 144) k84; clear k84; subst e
  obtain ⟨c86, l86, e, k86⟩ := cons_of (n := 143) k85; clear k85; subst e
  obtain ⟨c87, l87, e, k87⟩ := cons_of (n := 142) k86; clear k86; subst e
  obtain ⟨c88, l88, e, k88⟩ := cons_of (n := 141) k87; clear k87; subst e
  obtain ⟨c89, l89, e, k89⟩ := cons_of (n := 140) k88; clear k88; subst e
  obtain ⟨c90, l90, e, k90⟩ := cons_of (n := 139) k89; clear k89; subst e
  obtain ⟨c91, l91, e, k91⟩ := cons_of (n := 138) k90; clear k90; subst e
  obtain ⟨c92, l92, e, k92⟩ := cons_of (n := 137) k91; clear k91; subst e
  obtain ⟨c93, l93, e, k93⟩ := cons_of (n := 136) k92; clear k92; subst e
  obtain ⟨c94, l94, e, k94⟩ := cons_of (n := 135) k93; clear k93; subst e
  obtain ⟨c95, l95, e, k95⟩ := cons_of (n := 134) k94; clear k94; subst e
  obtain ⟨c96, l96, e, k96⟩ := cons_of (n := 133) k95; clear k95; subst e
  obtain ⟨c97, l97, e, k97⟩ := cons_of (n := 132) k96; clear k96; subst e
  obtain ⟨c98, l98, e, k98⟩ := cons_of (n := 131) k97; clear k97; subst e
  obtain ⟨c99, l99, e, k99⟩ := cons_of (n := 130) k98; clear k98; subst e
  obtain ⟨c100, l100, e, k100⟩ := cons_of (n := 129) k99; clear k99; subst e
  obtain ⟨c101, l101, e, k101⟩ := cons_of (n := 128) k100; clear k100; subst e
  obtain ⟨c102, l102, e, k102⟩ := cons_of (n := 127) k101; clear k101; subst e
  obtain ⟨c103, l103, e, k103⟩ := cons_of (n := 126) k102; clear k102; subst e
  obtain ⟨c104, l104, e, k104⟩ := cons_of (n := 125) k103; clear k103; subst e
  obtain ⟨c105, l105, e, k105⟩ := cons_of (n := 124) k104; clear k104; subst e
  obtain ⟨c106, l106, e, k106⟩ := cons_of (n := 123) k105; clear k105; subst e
  obtain ⟨c107, l107, e, k107⟩ := cons_of (n := 122) k106; clear k106; subst e
  obtain ⟨c108, l108, e, k108⟩ := cons_of (n := 121) k107; clear k107; subst e
  obtain ⟨c109, l109, e, k109⟩ := cons_of (n := 120) k108; clear k108; subst e
  obtain ⟨c110, l110, e, k110⟩ := cons_of (n := 119) k109; clear k109; subst e
  obtain ⟨c111, l111, e, k111⟩ := cons_of (n := 118) k110; clear k110; subst e
  obtain ⟨c112, l112, e, k112⟩ := cons_of (n := 117) k111; clear k111; subst e
  obtain ⟨c113, l113, e, k113⟩ := cons_of (n := 116) k112; clear k112; subst e
  obtain ⟨c114, l114, e, k114⟩ := cons_of (n := 115) k113; clear k113; subst e
  obtain ⟨c115, l115, e, k115⟩ := cons_of (n := 114) k114; clear k114; subst e
  obtain ⟨c116, l116, e, k116⟩ := cons_of (n := 113) k115; clear k115; subst e
  obtain ⟨c117, l117, e, k117⟩ := cons_of (n := 112) k116; clear k116; subst e
  obtain ⟨c118, l118, e, k118⟩ := cons_of (n := 111) k117; clear k117; subst e
  obtain ⟨c119, l119, e, k119⟩ := cons_of (n := 110) k118; clear k118; subst e
  obtain ⟨c120, l120, e, k120⟩ := cons_of (n := 109) k119; clear k119; subst e
  obtain ⟨c121, l121, e, k121⟩ := cons_of (n := 108) k120; clear k120; subst e
  obtain ⟨c122, l122, e, k122⟩ := cons_of (n := 107) k121; clear k121; subst e
  obtain ⟨c123, l123, e, k123⟩ := cons_of (n := 106) k122; clear k122; subst e
  obtain ⟨c124, l124, e, k124⟩ := cons_of (n := 105) k123; clear k123; subst e
  obtain ⟨c125, l125, e, k125⟩ := cons_of (n := 104) k124; clear k124; subst e
  obtain ⟨c126, l126, e, k126⟩ := cons_of (n := 103) k125; clear k125; subst e
  obtain ⟨c127, l127, e, k127⟩ := cons_of (n := 102) k126; clear k126; subst e
  obtain ⟨c128, l128, e, k128⟩ := cons_of (n := 101) k127; clear k127; subst e
  obtain ⟨c129, l129, e, k129⟩ := cons_of (n := 100) k128; clear k128; subst e
  obtain ⟨c130, l130, e, k130⟩ := cons_of (n := 99) k129; clear k129; subst e
  obtain ⟨c131, l131, e, k131⟩ := cons_of (n := 98) k130; clear k130; subst e
  obtain ⟨c132, l132, e, k132⟩ := cons_of (n := 97) k131; clear k131; subst e
  obtain ⟨c133, l133, e, k133⟩ := cons_of (n := 96) k132; clear k132; subst e
  obtain ⟨c134, l134, e, k134⟩ := cons_of (n := 95) k133; clear k133; subst e
  obtain ⟨c135, l135, e, k135⟩ := cons_of (n := 94) k134; clear k134; subst e
  obtain ⟨c136, l136, e, k136⟩ := cons_of (n := 93) k135; clear k135; subst e
  obtain ⟨c137, l137, e, k137⟩ := cons_of (n := 92) k136; clear k136; subst e
  obtain ⟨c138, l138, e, k138⟩ := cons_of (n := 91) k137; clear k137; subst e
  obtain ⟨c139, l139, e, k139⟩ := cons_of (n := 90) k138; clear k138; subst e
  obtain ⟨c140, l140, e, k140⟩ := cons_of (n := 89) k139; clear k139; subst e
  obtain ⟨c141, l141, e, k141⟩ := cons_of (n := 88) k140; clear k140; subst e
  obtain ⟨c142, l142, e, k142⟩ := cons_of (n := 87) k141; clear k141; subst e
  obtain ⟨c143, l143, e, k143⟩ := cons_of (n := 86) k142; clear k142; subst e
  obtain ⟨c144, l144, e, k144⟩ := cons_of (n := 85) k143; clear k143; subst e
  obtain ⟨c145, l145, e, k145⟩ := cons_of (n := 84) k144; clear k144; subst e
  obtain ⟨c146, l146, e, k146⟩ := cons_of (n := 83) k145; clear k145; subst e
  obtain ⟨c147, l147, e, k147⟩ := cons_of (n := 82) k146; clear k146; subst e
  obtain ⟨c148, l148, e, k148⟩ := cons_of (n := 81) k147; clear k147; subst e
  obtain ⟨c149, l149, e, k149⟩ := cons_of (n := 80) k148; clear k148; subst e
  obtain ⟨c150, l150, e, k150⟩ := cons_of (n := 79) k149; clear k149; subst e
  obtain ⟨c151, l151, e, k151⟩ := cons_of (n := 78) k150; clear k150; subst e
  obtain ⟨c152, l152, e, k152⟩ := cons_of (n := 77) k151; clear k151; subst e
  obtain ⟨c153, l153, e, k153⟩ := cons_of (n := 76) k152; clear k152; subst e
  obtain ⟨c154, l154, e, k154⟩ := cons_of (n := 75) k153; clear k153; subst e
  obtain ⟨c155, l155, e, k155⟩ := cons_of (n := 74) k154; clear k154; subst e
  obtain ⟨c156, l156, e, k156⟩ := cons_of (n := 73) k155; clear k155; subst e
  obtain ⟨c157, l157, e, k157⟩ := cons_of (n := 72) k156; clear k156; subst e
  obtain ⟨c158, l158, e, k158⟩ := cons_of (n := 71) k157; clear k157; subst e
  obtain ⟨c159, l159, e, k159⟩ := cons_of (n := 70) k158; clear k158; subst e
  obtain ⟨c160, l160, e, k160⟩ := cons_of (n := 69) k159; clear k159; subst e
  obtain ⟨c161, l161, e, k161⟩ := cons_of (n := 68) k160; clear k160; subst e
  obtain ⟨c162, l162, e, k162⟩ := cons_of (n := 67) k161; clear k161; subst e
  obtain ⟨c163, l163, e, k163⟩ := cons_of (n := 66) k162; clear k162; subst e
  obtain ⟨c164, l164, e, k164⟩ := cons_of (n := 65) k163; clear k163; subst e
  obtain ⟨c165, l165, e, k165⟩ := cons_of (n := 64) k164; clear k164; subst e
  obtain ⟨c166, l166, e, k166⟩ := cons_of (n := 63) k165; clear k165; subst e
  obtain ⟨c167, l167, e, k167⟩ := cons_of (n := 62) k166; clear k166; subst e
  obtain ⟨c168, l168, e, k168⟩ := cons_of (n := 61) k167; clear k167; subst e
  obtain ⟨c169, l169, e, k169⟩ := cons_of (n := 60) k168; clear k168; subst e
  obtain ⟨c170, l170, e, k170⟩ := cons_of (n := 59) k169; clear k169; subst e
  obtain ⟨c171, l171, e, k171⟩ := cons_of (n := 58) k170; clear k170; subst e
  obtain ⟨c172, l172, e, k172⟩ := cons_of (n := 57) k171; clear k171; subst e
  obtain ⟨c173, l173, e, k173⟩ := cons_of (n := 56) k172; clear k172; subst e
  obtain ⟨c174, l174, e, k174⟩ := cons_of (n := 55) k173; clear k173; subst e
  obtain ⟨c175, l175, e, k175⟩ := cons_of (n := 54) k174; clear k174; subst e
  obtain ⟨c176, l176, e, k176⟩ := cons_of (n := 53) k175; clear k175; subst e
  obtain ⟨c177, l177, e, k177⟩ := cons_of (n := 52) k176; clear k176; subst e
  obtain ⟨c178, l178, e, k178⟩ := cons_of (n := 51) k177; clear k177; subst e
  obtain ⟨c179, l179, e, k179⟩ := cons_of (n := 50) k178; clear k178; subst e
  obtain ⟨c180, l180, e, k180⟩ := cons_of (n := 49) k179; clear k179; subst e
  obtain ⟨c181, l181, e, k181⟩ := cons_of (n := 48) k180; clear k180; subst e
  obtain ⟨c182, l182, e, k182⟩ := cons_of (n := 47) k181; clear k181; subst e
  obtain ⟨c183, l183, e, k183⟩ := cons_of (n := 46) k182; clear k182; subst e
  obtain ⟨c184, l184, e, k184⟩ := cons_of (n := 45) k183; clear k183; subst e
  obtain ⟨c185, l185, e, k185⟩ := cons_of (n := 44) k184; clear k184; subst e
  obtain ⟨c186, l186, e, k186⟩ := cons_of (n := 43) k185; clear k185; subst e
  obtain ⟨c187, l187, e, k187⟩ := cons_of (n := 42) k186; clear k186; subst e
  obtain ⟨c188, l188, e, k188⟩ := cons_of (n := 41) k187; clear k187; subst e
  obtain ⟨c189, l189, e, k189⟩ := cons_of (n := 40) k188; clear k188; subst e
  obtain ⟨c190, l190, e, k190⟩ := cons_of (n := 39) k189; clear k189; subst e
  obtain ⟨c191, l191, e, k191⟩ := cons_of (n := 38) k190; clear k190; subst e
  obtain ⟨c192, l192, e, k192⟩ := cons_of (n := 37) k191; clear k191; subst e
  obtain ⟨c193, l193, e, k193⟩ := cons_of (n := 36) k192; clear k192; subst e
  obtain ⟨c194, l194, e, k194⟩ := cons_of (n := 35) k193; clear k193; subst e
  obtain ⟨c195, l195, e, k195⟩ := cons_of (n := 34) k194; clear k194; subst e
  obtain ⟨c196, l196, e, k196⟩ := cons_of (n := 33) k195; clear k195; subst e
  obtain ⟨c197, l197, e, k197⟩ := cons_of (n := 32) k196; clear k196; subst e
  obtain ⟨c198, l198, e, k198⟩ := cons_of (n := 31) k197; clear k197; subst e
  obtain ⟨c199, l199, e, k199⟩ := cons_of (n := 30) k198; clear k198; subst e
  obtain ⟨c200, l200, e, k200⟩ := cons_of (n := 29) k199; clear k199; subst e
  obtain ⟨c201, l201, e, k201⟩ := cons_of (n := 28) k200; clear k200; subst e
  obtain ⟨c202, l202, e, k202⟩ := cons_of (n := 27) k201; clear k201; subst e
  obtain ⟨c203, l203, e, k203⟩ := cons_of (n := 26) k202; clear k202; subst e
  obtain ⟨c204, l204, e, k204⟩ := cons_of (n := 25) k203; clear k203; subst e
  obtain ⟨c205, l205, e, k205⟩ := cons_of (n := 24) k204; clear k204; subst e
  obtain ⟨c206, l206, e, k206⟩ := cons_of (n := 23) k205; clear k205; subst e
  obtain ⟨c207, l207, e, k207⟩ := cons_of (n := 22) k206; clear k206; subst e
  obtain ⟨c208, l208, e, k208⟩ := cons_of (n := 21) k207; clear k207; subst e
  obtain ⟨c209, l209, e, k209⟩ := cons_of (n := 20) k208; clear k208; subst e
  obtain ⟨c210, l210, e, k210⟩ := cons_of (n := 19) k209; clear k209; subst e
  obtain ⟨c211, l211, e, k211⟩ := cons_of (n := 18) k210; clear k210; subst e
  obtain ⟨c212, l212, e, k212⟩ := cons_of (n := 17) k211; clear k211; subst e
  obtain ⟨c213, l213, e, k213⟩ := cons_of (n := 16) k212; clear k212; subst e
  obtain ⟨c214, l214, e, k214⟩ := cons_of (n := 15) k213; clear k213; subst e
  obtain ⟨c215, l215, e, k215⟩ := cons_of (n := 14) k214; clear k214; subst e
  obtain ⟨c216, l216, e, k216⟩ := cons_of (n := 13) k215; clear k215; subst e
  obtain ⟨c217, l217, e, k217⟩ := cons_of (n := 12) k216; clear k216; subst e
  obtain ⟨c218, l218, e, k218⟩ := cons_of (n := 11) k217; clear k217; subst e
  obtain ⟨c219, l219, e, k219⟩ := cons_of (n := 10) k218; clear k218; subst e
  obtain ⟨c220, l220, e, k220⟩ := cons_of (n := 9) k219; clear k219; subst e
  obtain ⟨c221, l221, e, k221⟩ := cons_of (n := 8) k220; clear k220; subst e
  obtain ⟨c222, l222, e, k222⟩ := cons_of (n := 7) k221; clear k221; subst e
  obtain ⟨c223, l223, e, k223⟩ := cons_of (n := 6) k222; clear k222; subst e
  obtain ⟨c224, l224, e, k224⟩ := cons_of (n := 5) k223; clear k223; subst e
  obtain ⟨c225, l225, e, k225⟩ := cons_of (n := 4) k224; clear k224; subst e
  obtain ⟨c226, l226, e, k226⟩ := cons_of (n := 3) k225; clear k225; subst e
  obtain ⟨c227, l227, e, k227⟩ := cons_of (n := 2) k226; clear k226; subst e
  obtain ⟨c228, l228, e, k228⟩ := cons_of (n := 1) k227; clear k227; subst e
  obtain ⟨c229, l229, e, k229⟩ := cons_of (n := 0) k228; clear k228; subst e
  obtain rfl : l229 = [] := List.eq_nil_of_length_eq_zero k229
  exact h _ _ _ _ _ _ _ _ _ _ _ _ _ _ _ _ _ _ _ _ _ _ _ _ _ _ _ _ _ _ _ _ _ _ _ _ _ _ _ _ _ _ _ _ _ _ _ _ _ _ _ _ _ _ _ _ _ _ _ _ _ _ _ _ _ _ _ _ _ _ _ _ _ _ _ _ _ _ _ _ _ _ _ _ _ _ _ _ _ _ _ _ _ _ _ _ _ _ _ _ _ _ _ _ _ _ _ _ _ _ _ _ _ _ _ _ _ _ _ _ _ _ _ _ _ _ _ _ _ _ _ _ _ _ _ _ _ _ _ _ _ _ _ _ _ _ _ _ _ _ _ _ _ _ _ _ _ _ _ _ _ _ _ _ _ _ _ _ _ _ _ _ _ _ _ _ _ _ _ _ _ _ _ _ _ _ _ _ _ _ _ _ _ _ _ _ _ _ _ _ _ _ _ _ _ _ _ _ _ _ _ _ _ _ _ _ _ _ _ _ _ _ _ _ _ _ _ _ _ _

/-- the slots that are read later: the acts, the level, the nodes, the document's level, the act's number -/
structure Fr (s0 : Value) (vb rb k cap : Nat) (ad : Option Addr) (t : Array Value) : Prop where
  z : t.size = 230
  a : t.getD 0 undef = s0
  l : t.getD 3 undef = .pointer (some ⟨vb, 0, none⟩)
  n : t.getD 4 undef = .slice ad 12 cap
  w : t.getD 6 undef = .pointer (some ⟨rb, 0, none⟩)
  i : t.getD 7 undef = .int .i64 k
/-- all stands as the document says: at act k, k' acts done -/
def Inv (w : World) (vb : Nat) (hd nb : Nat → Nat) (ad : Option Addr) (cap : Nat) (V : Nat → Int) (rb : Nat) (s0 : Value) (k k' : Nat) (a : Act) (wr : World) : Prop :=
  ∃ (L : Nat → List Nat) (R : Nat → Prop) (ra : Nat → Option Addr) (rc : Nat → Nat), a.defers = [] ∧ Fr s0 vb rb k cap ad a.tmps ∧ Duo w vb hd nb ad cap V rb k' L L R ra rc wr
/-- within an act: with its block, its node's number, whether its slot is right; in the case's end also the act's block's cells -/
structure FrM (s0 : Value) (vb rb k cap : Nat) (ad : Option Addr) (tb n : Nat) (ok : Bool) (t : Array Value) : Prop where
  f : Fr s0 vb rb k cap ad t
  tp : t.getD 8 undef = .pointer (some ⟨tb, 0, none⟩)
  np : t.getD 9 undef = .int .i64 n
  rp : t.getD 10 undef = .bool ok
def Mid (w : World) (vb : Nat) (hd nb : Nat → Nat) (ad : Option Addr) (cap : Nat) (V : Nat → Int) (rb : Nat) (s0 : Value) (k k' tb n : Nat) (ok : Bool) (Tv : Nat → Int) (a : Act) (wr : World) : Prop :=
  ∃ (L : Nat → List Nat) (R : Nat → Prop) (ra : Nat → Option Addr) (rc : Nat → Nat), a.defers = [] ∧ FrM s0 vb rb k cap ad tb n ok a.tmps ∧ DuoT w vb hd nb ad cap V rb k' tb Tv L L R ra rc wr
/-- what a piece may leave by: 'continue' -/
def Qc (I : Act → World → Prop) : Exit → Act → World → Prop
  | .exit 3, a, w => I a w
  | _, _, _ => False
end Go.Proofs.YtgaakhiapgmnbaaDoor
