/-
  LevelActs, one round: an act, whatever it is, leaves all as the document says.
-/
import Derived.Test.YtgaakhiapgmnbaaDoorLvPut
import Derived.Test.YtgaakhiapgmnbaaDoorLvRem
import Derived.Test.YtgaakhiapgmnbaaDoorLvTake
import Derived.Test.YtgaakhiapgmnbaaDoorLvNone
import Derived.Test.YtgaakhiapgmnbaaDoorLvEnd
import Derived.Test.YtgaakhiapgmnbaaDoorLvCode
import Derived.Test.YtgaakhiapgmnbaaDoorHeld
import Derived.Deep.QuietTactic
import Derived.BigQuiet
import Derived.Deep.Cut
import Derived.Deep.CutRange
import Derived.Deep.CutBlock
import Derived.RegionTactic
import Derived.BigRegion
namespace Go.Proofs.YtgaakhiapgmnbaaDoor
open Go.RowKit Verge LI
set_option linter.unusedVariables false
set_option linter.unusedSimpArgs false
attribute [local go_sem] Oper.semAt_some

theorem act_eq : actOf Tryd.f3 = .seq (fstC (actOf Tryd.f3)) (.seq (fstC (sndC (actOf Tryd.f3))) (.seq (fstC (sndC (sndC (actOf Tryd.f3)))) (.seq (caseOf Tryd.f3) (endOf Tryd.f3)))) := by kernel_rfl
theorem act_next {P : Program} {x y : Code} {I I' : Act → World → Prop} {a : Act} {w : World} (h : Code.wp P x (Exit.then I (Qc I')) a w) (h' : ∀ a w, I a w → Code.wp P y (Exit.then I' (Qc I')) a w) : Code.wp P (.seq x y) (Exit.then I' (Qc I')) a w := by
  refine wp_seq (wp_mono h ?_)
  intro e a' w' hp
  cases e with
  | normal => exact h' a' w' hp
  | exit j => exact hp
  | _ => exact hp.elim
theorem val_eq {z z' : Int} (h : z = z') : Value.int .i64 z = .int .i64 z' := by rw [h]
theorem end_midR {w wr : World} {vb : Nat} {hd nb : Nat → Nat} {ad : Option Addr} {cap : Nat} {V : Nat → Int} {rb k tb n s : Nat} {s0 : Value} {y0 y2 : Int} {a : Act} (h : Mid w vb hd nb ad cap V rb s0 k (k + 1) tb n true (fun j => [y0, (s : Int), y2].getD j 0) a wr) (hk : k < 100) (hn : n < 12) (T : Tab w) (hs : s < 64) :
    Code.wp Tryd.prog (endOf Tryd.f3) (Exit.then (Inv w vb hd nb ad cap V rb s0 k (k + 1)) (Qc (Inv w vb hd nb ad cap V rb s0 k (k + 1)))) a wr := by
  obtain ⟨t, ds⟩ := a
  obtain ⟨L, R, ra, rc, hd', F, h5⟩ := h
  replace hd' : ds = [] := hd'
  subst hd'
  exact end_right t F h5 hk hn T hs
theorem end_midN {w wr : World} {vb : Nat} {hd nb : Nat → Nat} {ad : Option Addr} {cap : Nat} {V : Nat → Int} {rb k tb n : Nat} {s0 : Value} {y0 y1 y2 : Int} {a : Act} (h : Mid w vb hd nb ad cap V rb s0 k (k + 1) tb n false (fun j => [y0, y1, y2].getD j 0) a wr) (hk : k < 100) (hn : n < 12) (T : Tab w) (hz : y1 < 0 ∨ 64 ≤ y1) :
    Code.wp Tryd.prog (endOf Tryd.f3) (Exit.then (Inv w vb hd nb ad cap V rb s0 k (k + 1)) (Qc (Inv w vb hd nb ad cap V rb s0 k (k + 1)))) a wr := by
  obtain ⟨t, ds⟩ := a
  obtain ⟨L, R, ra, rc, hd', F, h5⟩ := h
  replace hd' : ds = [] := hd'
  subst hd'
  exact end_range t F h5 hk hn T hz
/-- the case and the end, the slot right -/
theorem act_right {w w5 : World} {vb : Nat} {hd nb : Nat → Nat} {ad : Option Addr} {cap : Nat} {V : Nat → Int} {rb k tb n : Nat} {s0 : Value} {L : Nat → List Nat} {R : Nat → Prop} {ra : Nat → Option Addr} {rc : Nat → Nat} {y0 y2 : Int} {s : Nat} (t : Array Value) (F : FrM s0 vb rb k cap ad tb n true t) (h5 : DuoT w vb hd nb ad cap V rb k tb (fun j => [y0, (s : Int), y2].getD j 0) L L R ra rc w5) (hk : k < 100) (hn : n < 12) (T : Tab w) (hs : s < 64) :
    Code.wp Tryd.prog (.seq (caseOf Tryd.f3) (endOf Tryd.f3)) (Exit.then (Inv w vb hd nb ad cap V rb s0 k (k + 1)) (Qc (Inv w vb hd nb ad cap V rb s0 k (k + 1)))) ⟨t, []⟩ w5 := by
  refine act_next (I := Mid w vb hd nb ad cap V rb s0 k (k + 1) tb n true (fun j => [y0, (s : Int), y2].getD j 0)) ?_ (fun a' w' hm => end_midR hm hk hn T hs)
  by_cases h0 : y0 = 0
  · subst h0
    by_cases hf : ∀ u, u < 64 → n ∉ L u
    · exact put_free t F h5 hk hn hs hf
    · simp only [Classical.not_forall, Classical.not_not] at hf
      obtain ⟨u, hu, hm⟩ := hf
      exact put_state t F h5 hk hn hs hu hm
  by_cases h1 : y0 = 1
  · subst h1
    by_cases hm : n ∈ L s
    · exact rem_there t F h5 hk hn hs hm
    · exact rem_none t F h5 hk hn hs hm
  by_cases h2 : y0 = 2
  · subst h2
    exact take_right t F h5 hk hn hs
  exact act_none t F h5 hk hn h0 h1 h2
theorem act_wrong {w w5 : World} {vb : Nat} {hd nb : Nat → Nat} {ad : Option Addr} {cap : Nat} {V : Nat → Int} {rb k tb n : Nat} {s0 : Value} {L : Nat → List Nat} {R : Nat → Prop} {ra : Nat → Option Addr} {rc : Nat → Nat} {y0 y1 y2 : Int} (t : Array Value) (F : FrM s0 vb rb k cap ad tb n false t) (h5 : DuoT w vb hd nb ad cap V rb k tb (fun j => [y0, y1, y2].getD j 0) L L R ra rc w5) (hk : k < 100) (hn : n < 12) (T : Tab w) (hz : y1 < 0 ∨ 64 ≤ y1) :
    Code.wp Tryd.prog (.seq (caseOf Tryd.f3) (endOf Tryd.f3)) (Exit.then (Inv w vb hd nb ad cap V rb s0 k (k + 1)) (Qc (Inv w vb hd nb ad cap V rb s0 k (k + 1)))) ⟨t, []⟩ w5 := by
  refine act_next (I := Mid w vb hd nb ad cap V rb s0 k (k + 1) tb n false (fun j => [y0, y1, y2].getD j 0)) ?_ (fun a' w' hm => end_midN hm hk hn T hz)
  by_cases h0 : y0 = 0
  · subst h0; exact put_range t F h5 hk hn hz
  by_cases h1 : y0 = 1
  · subst h1; exact rem_range t F h5 hk hn hz
  by_cases h2 : y0 = 2
  · subst h2; exact take_range t F h5 hk hn hz
  exact act_none t F h5 hk hn h0 h1 h2

set_option maxRecDepth 100000 in
set_option maxHeartbeats 0 in
theorem act_all {w : World} {vb : Nat} {hd nb : Nat → Nat} {ad : Option Addr} {cap : Nat} {V : Nat → Int} {rb k : Nat} {wr : World} {x : Addr} {len lc : Nat} {a : Act} (hv : IsTab [.i .i64, .i .i64, .i .i64] w (some x) len lc) (hlt : k < len) (hl : len ≤ 100) (hcap : len ≤ lc ∧ lc ≤ maxLen) (T : Tab w) (h : Inv w vb hd nb ad cap V rb (.slice (some x) len lc) k k a wr) :
    Code.wp Tryd.prog (actOf Tryd.f3) (Exit.then (Inv w vb hd nb ad cap V rb (.slice (some x) len lc) k (k + 1)) (Qc (Inv w vb hd nb ad cap V rb (.slice (some x) len lc) k (k + 1)))) a wr := by
  obtain ⟨t, ds⟩ := a
  obtain ⟨L, R, ra, rc, hd', ⟨hz, h0, h3, h4, h6, h7⟩, hH⟩ := h
  replace hd' : ds = [] := hd'
  subst hd'
  rw [act_eq]
  refine openFr (P := fun t => t.getD 0 undef = .slice (some x) len lc → t.getD 3 undef = .pointer (some ⟨vb, 0, none⟩) → t.getD 4 undef = .slice ad 12 cap → t.getD 6 undef = .pointer (some ⟨rb, 0, none⟩) → t.getD 7 undef = .int .i64 k → Code.wp Tryd.prog (.seq (fstC (actOf Tryd.f3)) (.seq (fstC (sndC (actOf Tryd.f3))) (.seq (fstC (sndC (sndC (actOf Tryd.f3)))) (.seq (caseOf Tryd.f3) (endOf Tryd.f3))))) (Exit.then (Inv w vb hd nb ad cap V rb (.slice (some x) len lc) k (k + 1)) (Qc (Inv w vb hd nb ad cap V rb (.slice (some x) len lc) k (k + 1)))) ⟨t, []⟩ wr) ?_ t hz h0 h3 h4 h6 h7
  clear h0 h3 h4 h6 h7 hz t
  intro c0 c1 c2 c3 c4 c5 c6 c7 c8 c9 c10 c11 c12 c13 c14 c15 c16 c17 c18 c19 c20 c21 c22 c23 c24 c25 c26 c27 c28 c29 c30 c31 c32 c33 c34 c35 c36 c37 c38 c39 c40 c41 c42 c43 c44 c45 c46 c47 c48 c49 c50 c51 c52 c53 c54 c55 c56 c57 c58 c59 c60 c61 c62 c63 c64 c65 c66 c67 c68 c69 c70 c71 c72 c73 c74 c75 c76 c77 c78 c79 c80 c81 c82 c83 c84 c85 c86 c87 c88 c89 c90 c91 c92 c93 c94 c95 c96 c97 c98 c99 c100 c101 c102 c103 c104 c105 c106 c107 c108 c109 c110 c111 c112 c113 c114 c115 c116 c117 c118 c119 c120 c121 c122 c123 c124 c125 c126 c127 c128 c129 c130 c131 c132 c133 c134 c135 c136 c137 c138 c139 c140 c141 c142 c143 c144 c145 c146 c147 c148 c149 c150 c151 c152 c153 c154 c155 c156 c157 c158 c159 c160 c161 c162 c163 c164 c165 c166 c167 c168 c169 c170 c171 c172 c173 c174 c175 c176 c177 c178 c179 c180 c181 c182 c183 c184 c185 c186 c187 c188 c189 c190 c191 c192 c193 c194 c195 c196 c197 c198 c199 c200 c201 c202 c203 c204 c205 c206 c207 c208 c209 c210 c211 c212 c213 c214 c215 c216 c217 c218 c219 c220 c221 c222 c223 c224 c225 c226 c227 c228 c229 h0 h3 h4 h6 h7
  replace h0 : c0 = .slice (some x) len lc := h0
  replace h3 : c3 = .pointer (some ⟨vb, 0, none⟩) := h3
  replace h4 : c4 = .slice ad 12 cap := h4
  replace h6 : c6 = .pointer (some ⟨rb, 0, none⟩) := h6
  replace h7 : c7 = .int .i64 k := h7
  subst h0
  subst h3
  subst h4
  subst h6
  subst h7
  have hsm := hv.small
  have HTB := Lib.hid T
  clear T
  rcases hv with ⟨hv, -⟩ | ⟨x', hx', -, -, hx⟩
  · cases hv
  cases hx'
  obtain ⟨_, q0, y0, rfl, -⟩ := hx k hlt 0 _ rfl
  obtain ⟨_, q1, y1, rfl, wy1⟩ := hx k hlt 1 _ rfl
  obtain ⟨_, q2, y2, rfl, wy2⟩ := hx k hlt 2 _ rfl
  clear hx
  have q0' := hH.c.keeps q0 (fun e => e)
  have q1' := cell_at (k * 3) 1 (hH.c.keeps q1 (fun e => e))
  have q2' := cell_at (k * 3) 2 (hH.c.keeps q2 (fun e => e))
  rw [show k * [Leaf.i .i64, .i .i64, .i .i64].length + 0 = k * 3 from rfl] at q0'
  have hkz : (k : Int) < (len : Int) := by omega
  have hkz0 : (0 : Int) ≤ (k : Int) := by omega
  obtain ⟨hc1, hc2⟩ := hcap
  clear q0 q1 q2 wy1 wy2
  have HH := Lib.hid hH
  clear hH
  refine wp_seq_k fun K hK => ?_
  have HK := Lib.hid hK
  clear hK
  conv => arg 2; whnf
  go_wp2
  refine HK.out _ _ ?_
  clear HK K q0' q1' q2'
  have H4 := Lib.hid (HH.out.act y0 y1 y2 36)
  clear HH
  generalize wr.alloc (.cells #[.int .i64 y0, .int .i64 y1, .int .i64 y2] 36) = w4 at H4 ⊢
  obtain ⟨tb, htb⟩ : ∃ tb, tb = wr.heap.size := ⟨_, rfl⟩
  rw [← htb] at H4 ⊢
  clear htb
  have b1 : w4.cell? ⟨tb, 1, none⟩ = some (.int .i64 y1) := H4.out.t 1 (by omega)
  have b2 : w4.cell? ⟨tb, 2, none⟩ = some (.int .i64 y2) := H4.out.t 2 (by omega)
  have hk100 : k < 100 := by omega
  refine wp_seq_k fun K hK => ?_
  have HK := Lib.hid hK
  clear hK
  conv => arg 2; whnf
  by_cases hy : 0 < y2
  · obtain ⟨n, hn1, hn2⟩ : ∃ n : Nat, y2 % 12 = (n : Int) ∧ n < 12 := ⟨(y2 % 12).toNat, by omega, by omega⟩
    have HN := Lib.hid hn1
    clear hn1
    go_wp2
    refine HK.out _ _ ?_
    clear HK K b2 hy
    refine wp_seq_k fun K hK => ?_
    have HK := Lib.hid hK
    clear hK
    conv => arg 2; whnf
    by_cases hr : 0 ≤ y1 ∧ y1 < 64
    · obtain ⟨hr0, hr1⟩ := hr
      obtain ⟨s, rfl⟩ := Int.eq_ofNat_of_zero_le hr0
      go_wp2
      refine HK.out _ _ ?_
      exact act_right _ ⟨⟨rfl, rfl, rfl, rfl, rfl, rfl⟩, rfl, val_eq HN.out, rfl⟩ H4.out hk100 hn2 HTB.out (by omega)
    · have hz : y1 < 0 ∨ 64 ≤ y1 := by omega
      rcases hz with hz | hz
      · go_wp2
        refine HK.out _ _ ?_
        exact act_wrong _ ⟨⟨rfl, rfl, rfl, rfl, rfl, rfl⟩, rfl, val_eq HN.out, rfl⟩ H4.out hk100 hn2 HTB.out (.inl hz)
      · have hz0 : 0 ≤ y1 := by omega
        have hz1 : decide (y1 < 64) = false := by rw [decide_eq_false_iff_not]; omega
        go_wp2
        refine HK.out _ _ ?_
        exact act_wrong _ ⟨⟨rfl, rfl, rfl, rfl, rfl, rfl⟩, rfl, val_eq HN.out, rfl⟩ H4.out hk100 hn2 HTB.out (.inr hz)
  · have hy' : y2 ≤ 0 := by omega
    clear hy
    go_wp2
    refine HK.out _ _ ?_
    clear HK K b2 hy'
    refine wp_seq_k fun K hK => ?_
    have HK := Lib.hid hK
    clear hK
    conv => arg 2; whnf
    by_cases hr : 0 ≤ y1 ∧ y1 < 64
    · obtain ⟨hr0, hr1⟩ := hr
      obtain ⟨s, rfl⟩ := Int.eq_ofNat_of_zero_le hr0
      go_wp2
      refine HK.out _ _ ?_
      exact act_right (n := 0) _ ⟨⟨rfl, rfl, rfl, rfl, rfl, rfl⟩, rfl, val_eq (by simp), rfl⟩ H4.out hk100 (by omega) HTB.out (by omega)
    · have hz : y1 < 0 ∨ 64 ≤ y1 := by omega
      rcases hz with hz | hz
      · go_wp2
        refine HK.out _ _ ?_
        exact act_wrong (n := 0) _ ⟨⟨rfl, rfl, rfl, rfl, rfl, rfl⟩, rfl, val_eq (by simp), rfl⟩ H4.out hk100 (by omega) HTB.out (.inl hz)
      · have hz0 : 0 ≤ y1 := by omega
        have hz1 : decide (y1 < 64) = false := by rw [decide_eq_false_iff_not]; omega
        go_wp2
        refine HK.out _ _ ?_
        exact act_wrong (n := 0) _ ⟨⟨rfl, rfl, rfl, rfl, rfl, rfl⟩, rfl, val_eq (by simp), rfl⟩ H4.out hk100 (by omega) HTB.out (.inr hz)
end Go.Proofs.YtgaakhiapgmnbaaDoor
