/-
  The frame of the statement PipeMost: 59 slots, opened by letters.
-/
import Derived.Test.YtpddiphknpplcaaPipeR
import Derived.Test.YtpddiphknpplcaaPipeAlive
import Derived.Test.YtpddiphknpplcaaIsBools
import Derived.Test.YtpddiphknpplcaaPieceCode
namespace Go.Proofs.Ytpddiphknpplcaa
open Go.RowKit
set_option linter.unusedVariables false
set_option maxRecDepth 100000 in
set_option maxHeartbeats 0 in
theorem openFr59 {P : Array Value → Prop} (h : ∀ c0 c1 c2 c3 c4 c5 c6 c7 c8 c9 c10 c11 c12 c13 c14 c15 c16 c17 c18 c19 c20 c21 c22 c23 c24 c25 c26 c27 c28 c29 c30 c31 c32 c33 c34 c35 c36 c37 c38 c39 c40 c41 c42 c43 c44 c45 c46 c47 c48 c49 c50 c51 c52 c53 c54 c55 c56 c57 c58 : Value, P (List.toArray (c0 :: c1 :: c2 :: c3 :: c4 :: c5 :: c6 :: c7 :: c8 :: c9 :: c10 :: c11 :: c12 :: c13 :: c14 :: c15 :: c16 :: c17 :: c18 :: c19 :: c20 :: c21 :: c22 :: c23 :: c24 :: c25 :: c26 :: c27 :: c28 :: c29 :: c30 :: c31 :: c32 :: c33 :: c34 :: c35 :: c36 :: c37 :: c38 :: c39 :: c40 :: c41 :: c42 :: c43 :: c44 :: c45 :: c46 :: c47 :: c48 :: c49 :: c50 :: c51 :: c52 :: c53 :: c54 :: c55 :: c56 :: c57 :: c58 :: []))) (t : Array Value) (ht : t.size = 59) : P t := by
  obtain ⟨l⟩ := t
  have k : l.length = 59 := ht
  clear ht
  obtain ⟨c0, l0, e, k0⟩ := cons_of (n := 58) k; clear k; subst e
  obtain ⟨c1, l1, e, k1⟩ := cons_of (n := 57) k0; clear k0; subst e
  obtain ⟨c2, l2, e, k2⟩ := cons_of (n := 56) k1; clear k1; subst e
  obtain ⟨c3, l3, e, k3⟩ := cons_of (n := 55) k2; clear k2; subst e
  obtain ⟨c4, l4, e, k4⟩ := cons_of (n := 54) k3; clear k3; subst e
  obtain ⟨c5, l5, e, k5⟩ := cons_of (n := 53) k4; clear k4; subst e
  obtain ⟨c6, l6, e, k6⟩ := cons_of (n := 52) k5; clear k5; subst e
  obtain ⟨c7, l7, e, k7⟩ := cons_of (n := 51) k6; clear k6; subst e
  obtain ⟨c8, l8, e, k8⟩ := cons_of (n := 50) k7; clear k7; subst e
  obtain ⟨c9, l9, e, k9⟩ := cons_of (n := 49) k8; clear k8; subst e
  obtain ⟨c10, l10, e, k10⟩ := cons_of (n := 48) k9; clear k9; subst e
  obtain ⟨c11, l11, e, k11⟩ := cons_of (n := 47) k10; clear k10; subst e
  obtain ⟨c12, l12, e, k12⟩ := cons_of (n := 46) k11; clear k11; subst e
  obtain ⟨c13, l13, e, k13⟩ := cons_of (n := 45) k12; clear k12; subst e
  obtain ⟨c14, l14, e, k14⟩ := cons_of (n := 44) k13; clear k13; subst e
  obtain ⟨c15, l15, e, k15⟩ := cons_of (n := 43) k14; clear k14; subst e
  obtain ⟨c16, l16, e, k16⟩ := cons_of (n := 42) k15; clear k15; subst e
  obtain ⟨c17, l17, e, k17⟩ := cons_of (n := 41) k16; clear k16; subst e
  obtain ⟨c18, l18, e, k18⟩ := cons_of (n := 40) k17; clear k17; subst e
  obtain ⟨c19, l19, e, k19⟩ := cons_of (n := 39) k18; clear k18; subst e
  obtain ⟨c20, l20, e, k20⟩ := cons_of (n := 38) k19; clear k19; subst e
  obtain ⟨c21, l21, e, k21⟩ := cons_of (n := 37) k20; clear k20; subst e
  obtain ⟨c22, l22, e, k22⟩ := cons_of (n := 36) k21; clear k21; subst e
  obtain ⟨c23, l23, e, k23⟩ := cons_of (n := 35) k22; clear k22; subst e
  obtain ⟨c24, l24, e, k24⟩ := cons_of (n := 34) k23; clear k23; subst e
  obtain ⟨c25, l25, e, k25⟩ := cons_of (n := 33) k24; clear k24; subst e
  obtain ⟨c26, l26, e, k26⟩ := cons_of (n := 32) k25; clear k25; subst e
  obtain ⟨c27, l27, e, k27⟩ := cons_of (n := 31) k26; clear k26; subst e
  obtain ⟨c28, l28, e, k28⟩ := cons_of (n := 30) k27; clear k27; subst e
  obtain ⟨c29, l29, e, k29⟩ := cons_of (n := 29) k28; clear k28; subst e
  obtain ⟨c30, l30, e, k30⟩ := cons_of (n := 28) k29; clear k29; subst e
  obtain ⟨c31, l31, e, k31⟩ := cons_of (n := 27) k30; clear k30; subst e
  obtain ⟨c32, l32, e, k32⟩ := cons_of (n := 26) k31; clear k31; subst e
  obtain ⟨c33, l33, e, k33⟩ := cons_of (n := 25) k32; clear k32; subst e
  obtain ⟨c34, l34, e, k34⟩ := cons_of (n := 24) k33; clear k33; subst e
  obtain ⟨c35, l35, e, k35⟩ := cons_of (n := 23) k34; clear k34; subst e
  obtain ⟨c36, l36, e, k36⟩ := cons_of (n := 22) k35; clear k35; subst e
  obtain ⟨c37, l37, e, k37⟩ := cons_of (n := 21) k36; clear k36; subst e
  obtain ⟨c38, l38, e, k38⟩ := cons_of (n := 20) k37; clear k37; subst e
  obtain ⟨c39, l39, e, k39⟩ := cons_of (n := 19) k38; clear k38; subst e
  obtain ⟨c40, l40, e, k40⟩ := cons_of (n := 18) k39; clear k39; subst e
  obtain ⟨c41, l41, e, k41⟩ := cons_of (n := 17) k40; clear k40; subst e
  obtain ⟨c42, l42, e, k42⟩ := cons_of (n := 16) k41; clear k41; subst e
  obtain ⟨c43, l43, e, k43⟩ := cons_of (n := 15) k42; clear k42; subst e
  obtain ⟨c44, l44, e, k44⟩ := cons_of (n := 14) k43; clear k43; subst e
  obtain ⟨c45, l45, e, k45⟩ := cons_of (n := 13) k44; clear k44; subst e
  obtain ⟨c46, l46, e, k46⟩ := cons_of (n := 12) k45; clear k45; subst e
  obtain ⟨c47, l47, e, k47⟩ := cons_of (n := 11) k46; clear k46; subst e
  obtain ⟨c48, l48, e, k48⟩ := cons_of (n := 10) k47; clear k47; subst e
  obtain ⟨c49, l49, e, k49⟩ := cons_of (n := 9) k48; clear k48; subst e
  obtain ⟨c50, l50, e, k50⟩ := cons_of (n := 8) k49; clear k49; subst e
  obtain ⟨c51, l51, e, k51⟩ := cons_of (n := 7) k50; clear k50; subst e
  obtain ⟨c52, l52, e, k52⟩ := cons_of (n := 6) k51; clear k51; subst e
  obtain ⟨c53, l53, e, k53⟩ := cons_of (n := 5) k52; clear k52; subst e
  obtain ⟨c54, l54, e, k54⟩ := cons_of (n := 4) k53; clear k53; subst e
  obtain ⟨c55, l55, e, k55⟩ := cons_of (n := 3) k54; clear k54; subst e
  obtain ⟨c56, l56, e, k56⟩ := cons_of (n := 2) k55; clear k55; subst e
  obtain ⟨c57, l57, e, k57⟩ := cons_of (n := 1) k56; clear k56; subst e
  obtain ⟨c58, l58, e, k58⟩ := cons_of (n := 0) k57; clear k57; subst e
  obtain rfl : l58 = [] := List.eq_nil_of_length_eq_zero k58
  exact h _ _ _ _ _ _ _ _ _ _ _ _ _ _ _ _ _ _ _ _ _ _ _ _ _ _ _ _ _ _ _ _ _ _ _ _ _ _ _ _ _ _ _ _ _ _ _ _ _ _ _ _ _ _ _ _ _ _ _
end Go.Proofs.Ytpddiphknpplcaa
