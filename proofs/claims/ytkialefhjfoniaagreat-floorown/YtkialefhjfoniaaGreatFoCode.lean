/-
  The frame of the statement FloorOwn: 150 slots, opened by letters.
-/
import Derived.Test.YtkialefhjfoniaaGreatFlOwnB
import Derived.Test.YtkialefhjfoniaaGreatPieceCode
namespace Go.Proofs.YtkialefhjfoniaaGreat
open Go.RowKit
set_option linter.unusedVariables false
set_option maxRecDepth 100000 in
set_option maxHeartbeats 0 in
theorem openFr150 {P : Array Value → Prop} (h : ∀ c0 c1 c2 c3 c4 c5 c6 c7 c8 c9 c10 c11 c12 c13 c14 c15 c16 c17 c18 c19 c20 c21 c22 c23 c24 c25 c26 c27 c28 c29 c30 c31 c32 c33 c34 c35 c36 c37 c38 c39 c40 c41 c42 c43 c44 c45 c46 c47 c48 c49 c50 c51 c52 c53 c54 c55 c56 c57 c58 c59 c60 c61 c62 c63 c64 c65 c66 c67 c68 c69 c70 c71 c72 c73 c74 c75 c76 c77 c78 c79 c80 c81 c82 c83 c84 c85 c86 c87 c88 c89 c90 c91 c92 c93 c94 c95 c96 c97 c98 c99 c100 c101 c102 c103 c104 c105 c106 c107 c108 c109 c110 c111 c112 c113 c114 c115 c116 c117 c118 c119 c120 c121 c122 c123 c124 c125 c126 c127 c128 c129 c130 c131 c132 c133 c134 c135 c136 c137 c138 c139 c140 c141 c142 c143 c144 c145 c146 c147 c148 c149 : Value, P (List.toArray (c0 :: c1 :: c2 :: c3 :: c4 :: c5 :: c6 :: c7 :: c8 :: c9 :: c10 :: c11 :: c12 :: c13 :: c14 :: c15 :: c16 :: c17 :: c18 :: c19 :: c20 :: c21 :: c22 :: c23 :: c24 :: c25 :: c26 :: c27 :: c28 :: c29 :: c30 :: c31 :: c32 :: c33 :: c34 :: c35 :: c36 :: c37 :: c38 :: c39 :: c40 :: c41 :: c42 :: c43 :: c44 :: c45 :: c46 :: c47 :: c48 :: c49 :: c50 :: c51 :: c52 :: c53 :: c54 :: c55 :: c56 :: c57 :: c58 :: c59 :: c60 :: c61 :: c62 :: c63 :: c64 :: c65 :: c66 :: c67 :: c68 :: c69 :: c70 :: c71 :: c72 :: c73 :: c74 :: c75 :: c76 :: c77 :: c78 :: c79 :: c80 :: c81 :: c82 :: c83 :: c84 :: c85 :: c86 :: c87 :: c88 :: c89 :: c90 :: c91 :: c92 :: c93 :: c94 :: c95 :: c96 :: c97 :: c98 :: c99 :: c100 :: c101 :: c102 :: c103 :: c104 :: c105 :: c106 :: c107 :: c108 :: c109 :: c110 :: c111 :: c112 :: c113 :: c114 :: c115 :: c116 :: c117 :: c118 :: c119 :: c120 :: c121 :: c122 :: c123 :: c124 :: c125 :: c126 :: c127 :: c128 :: c129 :: c130 :: c131 :: c132 :: c133 :: c134 :: c135 :: c136 :: c137 :: c138 :: c139 :: c140 :: c141 :: c142 :: c143 :: c144 :: c145 :: c146 :: c147 :: c148 :: c149 :: []))) (t : Array Value) (ht : t.size = 150) : P t := by
  obtain ⟨l⟩ := t
  have k : l.length = 150 := ht
  clear ht
  obtain ⟨c0, l0, e, k0⟩ := cons_of (n := 149) k; clear k; subst e
  obtain ⟨c1, l1, e, k1⟩ := cons_of (n := 148) k0; clear k0; subst e
  obtain ⟨c2, l2, e, k2⟩ := cons_of (n := 147) k1; clear k1; subst e
  obtain ⟨c3, l3, e, k3⟩ := cons_of (n := 146) k2; clear k2; subst e
  obtain ⟨c4, l4, e, k4⟩ := cons_of (n := 145) k3; clear k3; subst e
  obtain ⟨c5, l5, e, k5⟩ := cons_of (n := 144) k4; clear k4; subst e
  obtain ⟨c6, l6, e, k6⟩ := cons_of (n := 143) k5; clear k5; subst e
  obtain ⟨c7, l7, e, k7⟩ := cons_of (n := 142) k6; clear k6; subst e
  obtain ⟨c8, l8, e, k8⟩ := cons_of (n := 141) k7; clear k7; subst e
  obtain ⟨c9, l9, e, k9⟩ := cons_of (n := 140) k8; clear k8; subst e
  obtain ⟨c10, l10, e, k10⟩ := cons_of (n := 139) k9; clear k9; subst e
  obtain ⟨c11, l11, e, k11⟩ := cons_of (n := 138) k10; clear k10; subst e
  obtain ⟨c12, l12, e, k12⟩ := cons_of (n := 137) k11; clear k11; subst e
  obtain ⟨c13, l13, e, k13⟩ := cons_of (n := 136) k12; clear k12; subst e
  obtain ⟨c14, l14, e, k14⟩ := cons_of (n := 135) k13; clear k13; subst e
  obtain ⟨c15, l15, e, k15⟩ := cons_of (n := 134) k14; clear k14; subst e
  obtain ⟨c16, l16, e, k16⟩ := cons_of (n := 133) k15; clear k15; subst e
  obtain ⟨c17, l17, e, k17⟩ := cons_of (n := 132) k16; clear k16; subst e
  obtain ⟨c18, l18, e, k18⟩ := cons_of (n := 131) k17; clear k17; subst e
  obtain ⟨c19, l19, e, k19⟩ := cons_of (n := 130) k18; clear k18; subst e
  obtain ⟨c20, l20, e, k20⟩ := cons_of (n := 129) k19; clear k19; subst e
  obtain ⟨c21, l21, e, k21⟩ := cons_of (n := 128) k20; clear k20; subst e
  obtain ⟨c22, l22, e, k22⟩ := cons_of (n := 127) k21; clear k21; subst e
  obtain ⟨c23, l23, e, k23⟩ := cons_of (n := 126) k22; clear k22; subst e
  obtain ⟨c24, l24, e, k24⟩ := cons_of (n := 125) k23; clear k23; subst e
  obtain ⟨c25, l25, e, k25⟩ := cons_of (n := 124) k24; clear k24; subst e
  obtain ⟨c26, l26, e, k26⟩ := cons_of (n := 123) k25; clear k25; subst e
  obtain ⟨c27, l27, e, k27⟩ := cons_of (n := 122) k26; clear k26; subst e
  obtain ⟨c28, l28, e, k28⟩ := cons_of (n := 121) k27; clear k27; subst e
  obtain ⟨c29, l29, e, k29⟩ := cons_of (n := 120) k28; clear k28; subst e
  obtain ⟨c30, l30, e, k30⟩ := cons_of (n := 119) k29; clear k29; subst e
  obtain ⟨c31, l31, e, k31⟩ := cons_of (n := 118) k30; clear k30; subst e
  obtain ⟨c32, l32, e, k32⟩ := cons_of (n := 117) k31; clear k31; subst e
  obtain ⟨c33, l33, e, k33⟩ := cons_of (n := 116) k32; clear k32; subst e
  obtain ⟨c34, l34, e, k34⟩ := cons_of (n := 115) k33; clear k33; subst e
  obtain ⟨c35, l35, e, k35⟩ := cons_of (n := 114) k34; clear k34; subst e
  obtain ⟨c36, l36, e, k36⟩ := cons_of (n := 113) k35; clear k35; subst e
  obtain ⟨c37, l37, e, k37⟩ := cons_of (n := 112) k36; clear k36; subst e
  obtain ⟨c38, l38, e, k38⟩ := cons_of (n := 111) k37; clear k37; subst e
  obtain ⟨c39, l39, e, k39⟩ := cons_of (n := 110) k38; clear k38; subst e
  obtain ⟨c40, l40, e, k40⟩ := cons_of (n := 109) k39; clear k39; subst e
  obtain ⟨c41, l41, e, k41⟩ := cons_of (n := 108) k40; clear k40; subst e
  obtain ⟨c42, l42, e, k42⟩ := cons_of (n := 107) k41; clear k41; subst e
  obtain ⟨c43, l43, e, k43⟩ := cons_of (n := 106) k42; clear k42; subst e
  obtain ⟨c44, l44, e, k44⟩ := cons_of (n := 105) k43; clear k43; subst e
  obtain ⟨c45, l45, e, k45⟩ := cons_of (n := 104) k44; clear k44; subst e
  obtain ⟨c46, l46, e, k46⟩ := cons_of (n := 103) k45; clear k45; subst e
  obtain ⟨c47, l47, e, k47⟩ := cons_of (n := 102) k46; clear k46; subst e
  obtain ⟨c48, l48, e, k48⟩ := cons_of (n := 101) k47; clear k47; subst e
  obtain ⟨c49, l49, e, k49⟩ := cons_of (n := 100) k48; clear k48; subst e
  obtain ⟨c50, l50, e, k50⟩ := cons_of (n := 99) k49; clear k49; subst e
  obtain ⟨c51, l51, e, k51⟩ := cons_of (n := 98) k50; clear k50; subst e
  obtain ⟨c52, l52, e, k52⟩ := cons_of (n := 97) k51; clear k51; subst e
  obtain ⟨c53, l53, e, k53⟩ := cons_of (n := 96) k52; clear k52; subst e
  obtain ⟨c54, l54, e, k54⟩ := cons_of (n := 95) k53; clear k53; subst e
  obtain ⟨c55, l55, e, k55⟩ := cons_of (n := 94) k54; clear k54; subst e
  obtain ⟨c56, l56, e, k56⟩ := cons_of (n := 93) k55; clear k55; subst e
  obtain ⟨c57, l57, e, k57⟩ := cons_of (n := 92) k56; clear k56; subst e
  obtain ⟨c58, l58, e, k58⟩ := cons_of (n := 91) k57; clear k57; subst e
  obtain ⟨c59, l59, e, k59⟩ := cons_of (n := 90) k58; clear k58; subst e
  obtain ⟨c60, l60, e, k60⟩ := cons_of (n := 89) k59; clear k59; subst e
  obtain ⟨c61, l61, e, k61⟩ := cons_of (n := 88) k60; clear k60; subst e
  obtain ⟨c62, l62, e, k62⟩ := cons_of (n := 87) k61; clear k61; subst e
  obtain ⟨c63, l63, e, k63⟩ := cons_of (n := 86) k62; clear k62; subst e
  obtain ⟨c64, l64, e, k64⟩ := cons_of (n := 85) k63; clear k63; subst e
  obtain ⟨c65, l65, e, k65⟩ := cons_of (n := 84) k64; clear k64; subst e
  obtain ⟨c66, l66, e, k66⟩ := cons_of (n := 83) k65; clear k65; subst e
  obtain ⟨c67, l67, e, k67⟩ := cons_of (n := 82) k66; clear k66; subst e
  obtain ⟨c68, l68, e, k68⟩ := cons_of (n := 81) k67; clear k67; subst e
  obtain ⟨c69, l69, e, k69⟩ := cons_of (n := 80) k68; clear k68; subst e
  obtain ⟨c70, l70, e, k70⟩ := cons_of (n := 79) k69; clear k69; subst e
  obtain ⟨c71, l71, e, k71⟩ := cons_of (n := 78) k70; clear k70; subst e
  obtain ⟨c72, l72, e, k72⟩ := cons_of (n := 77) k71; clear k71; subst e
  obtain ⟨c73, l73, e, k73⟩ := cons_of (n := 76) k72; clear k72; subst e
  obtain ⟨c74, l74, e, k74⟩ := cons_of (n := 75) k73; clear k73; subst e
  obtain ⟨c75, l75, e, k75⟩ := cons_of (n := 74) k74; clear k74; subst e
  obtain ⟨c76, l76, e, k76⟩ := cons_of (n := 73) k75; clear k75; subst e
  obtain ⟨c77, l77, e, k77⟩ := cons_of (n := 72) k76; clear k76; subst e
  obtain ⟨c78, l78, e, k78⟩ := cons_of (n := 71) k77; clear k77; subst e
  obtain ⟨c79, l79, e, k79⟩ := cons_of (n := 70) k78; clear k78; subst e
  obtain ⟨c80, l80, e, k80⟩ := cons_of (n := 69) k79; clear k79; subst e
  obtain ⟨c81, l81, e, k81⟩ := cons_of (n := 68) k80; clear k80; subst e
  obtain ⟨c82, l82, e, k82⟩ := cons_of (n := 67) k81; clear k81; subst e
  obtain ⟨c83, l83, e, k83⟩ := cons_of (n := 66) k82; clear k82; subst e
  obtain ⟨c84, l84, e, k84⟩ := cons_of (n := 65) k83; clear k83; subst e
  obtain ⟨c85, l85, e, k85⟩ := cons_of (n := 64) k84; clear k84; subst e
  obtain ⟨c86, l86, e, k86⟩ := cons_of (n := 63) k85; clear k85; subst e
  obtain ⟨c87, l87, e, k87⟩ := cons_of (n := 62) k86; clear k86; subst e
  obtain ⟨c88, l88, e, k88⟩ := cons_of (n := 61) k87; clear k87; subst e
  obtain ⟨c89, l89, e, k89⟩ := cons_of (n := 60) k88; clear k88; subst e
  obtain ⟨c90, l90, e, k90⟩ := cons_of (n := 59) k89; clear k89; subst e
  obtain ⟨c91, l91, e, k91⟩ := cons_of (n := 58) k90; clear k90; subst e
  obtain ⟨c92, l92, e, k92⟩ := cons_of (n := 57) k91; clear k91; subst e
  obtain ⟨c93, l93, e, k93⟩ := cons_of (n := 56) k92; clear k92; subst e
  obtain ⟨c94, l94, e, k94⟩ := cons_of (n := 55) k93; clear k93; subst e
  obtain ⟨c95, l95, e, k95⟩ := cons_of (n := 54) k94; clear k94; subst e
  obtain ⟨c96, l96, e, k96⟩ := cons_of (n := 53) k95; clear k95; subst e
  obtain ⟨c97, l97, e, k97⟩ := cons_of (n := 52) k96; clear k96; subst e
  obtain ⟨c98, l98, e, k98⟩ := cons_of (n := 51) k97; clear k97; subst e
  obtain ⟨c99, l99, e, k99⟩ := cons_of (n := 50) k98; clear k98; subst e
  obtain ⟨c100, l100, e, k100⟩ := cons_of (n := 49) k99; clear k99; subst e
  obtain ⟨c101, l101, e, k101⟩ := cons_of (n := 48) k100; clear k100; subst e
  obtain ⟨c102, l102, e, k102⟩ := cons_of (n := 47) k101; clear k101; subst e
  obtain ⟨c103, l103, e, k103⟩ := cons_of (n := 46) k102; clear k102; subst e
  obtain ⟨c104, l104, e, k104⟩ := cons_of (n := 45) k103; clear k103; subst e
  obtain ⟨c105, l105, e, k105⟩ := cons_of (n := 44) k104; clear k104; subst e
  obtain ⟨c106, l106, e, k106⟩ := cons_of (n := 43) k105; clear k105; subst e
  obtain ⟨c107, l107, e, k107⟩ := cons_of (n := 42) k106; clear k106; subst e
  obtain ⟨c108, l108, e, k108⟩ := cons_of (n := 41) k107; clear k107; subst e
  obtain ⟨c109, l109, e, k109⟩ := cons_of (n := 40) k108; clear k108; subst e
  obtain ⟨c110, l110, e, k110⟩ := cons_of (n := 39) k109; clear k109; subst e
  obtain ⟨c111, l111, e, k111⟩ := cons_of (n := 38) k110; clear k110; subst e
  obtain ⟨c112, l112, e, k112⟩ := cons_of (n := 37) k111; clear k111; subst e
  obtain ⟨c113, l113, e, k113⟩ := cons_of (n := 36) k112; clear k112; subst e
  obtain ⟨c114, l114, e, k114⟩ := cons_of (n := 35) k113; clear k113; subst e
  obtain ⟨c115, l115, e, k115⟩ := cons_of (n := 34) k114; clear k114; subst e
  obtain ⟨c116, l116, e, k116⟩ := cons_of (n := 33) k115; clear k115; subst e
  obtain ⟨c117, l117, e, k117⟩ := cons_of (n := 32) k116; clear k116; subst e
  obtain ⟨c118, l118, e, k118⟩ := cons_of (n := 31) k117; clear k117; subst e
  obtain ⟨c119, l119, e, k119⟩ := cons_of (n := 30) k118; clear k118; subst e
  obtain ⟨c120, l120, e, k120⟩ := cons_of (n := 29) k119; clear k119; subst e
  obtain ⟨c121, l121, e, k121⟩ := cons_of (n := 28) k120; clear k120; subst e
  obtain ⟨c122, l122, e, k122⟩ := cons_of (n := 27) k121; clear k121; subst e
  obtain ⟨c123, l123, e, k123⟩ := cons_of (n := 26) k122; clear k122; subst e
  obtain ⟨c124, l124, e, k124⟩ := cons_of (n := 25) k123; clear k123; subst e
  obtain ⟨c125, l125, e, k125⟩ := cons_of (n := 24) k124; clear k124; subst e
  obtain ⟨c126, l126, e, k126⟩ := cons_of (n := 23) k125; clear k125; subst e
  obtain ⟨c127, l127, e, k127⟩ := cons_of (n := 22) k126; clear k126; subst e
  obtain ⟨c128, l128, e, k128⟩ := cons_of (n := 21) k127; clear k127; subst e
  obtain ⟨c129, l129, e, k129⟩ := cons_of (n := 20) k128; clear k128; subst e
  obtain ⟨c130, l130, e, k130⟩ := cons_of (n := 19) k129; clear k129; subst e
  obtain ⟨c131, l131, e, k131⟩ := cons_of (n := 18) k130; clear k130; subst e
  obtain ⟨c132, l132, e, k132⟩ := cons_of (n := 17) k131; clear k131; subst e
  obtain ⟨c133, l133, e, k133⟩ := cons_of (n := 16) k132; clear k132; subst e
  obtain ⟨c134, l134, e, k134⟩ := cons_of (n := 15) k133; clear k133; subst e
  obtain ⟨c135, l135, e, k135⟩ := cons_of (n := 14) k134; clear k134; subst e
  obtain ⟨c136, l136, e, k136⟩ := cons_of (n := 13) k135; clear k135; subst e
  obtain ⟨c137, l137, e, k137⟩ := cons_of (n := 12) k136; clear k136; subst e
  obtain ⟨c138, l138, e, k138⟩ := cons_of (n := 11) k137; clear k137; subst e
  obtain ⟨c139, l139, e, k139⟩ := cons_of (n := 10) k138; clear k138; subst e
  obtain ⟨c140, l140, e, k140⟩ := cons_of (n := 9) k139; clear k139; subst e
  obtain ⟨c141, l141, e, k141⟩ := cons_of (n := 8) k140; clear k140; subst e
  obtain ⟨c142, l142, e, k142⟩ := cons_of (n := 7) k141; clear k141; subst e
  obtain ⟨c143, l143, e, k143⟩ := cons_of (n := 6) k142; clear k142; subst e
  obtain ⟨c144, l144, e, k144⟩ := cons_of (n := 5) k143; clear k143; subst e
  obtain ⟨c145, l145, e, k145⟩ := cons_of (n := 4) k144; clear k144; subst e
  obtain ⟨c146, l146, e, k146⟩ := cons_of (n := 3) k145; clear k145; subst e
  obtain ⟨c147, l147, e, k147⟩ := cons_of (n := 2) k146; clear k146; subst e
  obtain ⟨c148, l148, e, k148⟩ := cons_of (n := 1) k147; clear k147; subst e
  obtain ⟨c149, l149, e, k149⟩ := cons_of (n := 0) k148; clear k148; subst e
  obtain rfl : l149 = [] := List.eq_nil_of_length_eq_zero k149
  exact h _ _ _ _ _ _ _ _ _ _ _ _ _ _ _ _ _ _ _ _ _ _ _ _ _ _ _ _ _ _ _ _ _ _ _ _ _ _ _ _ _ _ _ _ _ _ _ _ _ _ _ _ _ _ _ _ _ _ _ _ _ _ _ _ _ _ _ _ _ _ _ _ _ _ _ _ _ _ _ _ _ _ _ _ _ _ _ _ _ _ _ _ _ _ _ _ _ _ _ _ _ _ _ _ _ _ _ _ _ _ _ _ _ _ _ _ _ _ _ _ _ _ _ _ _ _ _ _ _ _ _ _ _ _ _ _ _ _ _ _ _ _ _ _ _ _ _ _ _ _
end Go.Proofs.YtkialefhjfoniaaGreat
