/-
  PipeOrder: the loop over the picks.
-/
import Derived.Test.YtpddiphknpplcaaPoCode
import Derived.Test.YtpddiphknpplcaaHeld
import Derived.Deep.QuietTactic
import Derived.BigQuiet
import Derived.Deep.Cut
import Derived.Deep.CutRange
import Derived.Deep.CutBlock
import Derived.RegionTactic
import Derived.BigRegion
namespace Go.Proofs.Ytpddiphknpplcaa
open Go.RowKit Verge PI
set_option linter.unusedVariables false
set_option linter.unusedSimpArgs false
attribute [local go_sem] Oper.semAt_some

/-- so many numbers in a row -/
def seqI (g c : Nat) : List Int := (List.range' g c).map fun i => ((i : Nat) : Int)
theorem seqI_len (g c : Nat) : (seqI g c).length = c := by simp [seqI]
theorem seqI_zero (g : Nat) : seqI g 0 = [] := rfl
theorem seqI_snoc {g p : Nat} (h : g ≤ p) : seqI g (p - g) ++ [(p : Int)] = seqI g (p + 1 - g) := by
  rw [show p + 1 - g = (p - g) + 1 by omega, seqI, seqI, List.range'_concat, List.map_append]
  simp; omega
theorem seqI_cons {g p : Nat} (h : g < p) : seqI g (p - g) = (g : Int) :: seqI (g + 1) (p - (g + 1)) := by
  rw [show p - g = (p - (g + 1)) + 1 by omega, seqI, List.range'_succ, List.map_cons]; rfl
/-- the pipe in the loop: what was put and not taken yet -/
structure PoR (w wr : World) (pb cb n u g m : Nat) (S : Nat → Prop) (k : Nat) : Prop where
  p : PRS w wr pb cb n (seqI g (u - g)) m false S
  b : g ≤ u
  x : u ≤ k
  y : m ≤ k
/-- what holds at the head of the loop -/
def poAI (w : World) (pb cb n : Nat) (ad : Option Addr) (len cap : Nat) (B : Nat → Bool) (k : Nat) (a : Act) (wr : World) : Prop :=
  ∃ (u g m : Nat) (S : Nat → Prop), a.defers = [] ∧ a.tmps.size = 165 ∧ a.tmps.getD 1 undef = .slice ad len cap ∧ a.tmps.getD 5 undef = .int .i64 (n : Nat) ∧ a.tmps.getD 6 undef = .pointer (some ⟨pb, 0, none⟩) ∧ a.tmps.getD 8 undef = .int .i64 (u : Nat) ∧ a.tmps.getD 9 undef = .int .i64 (g : Nat) ∧ a.tmps.getD 10 undef = .int .i64 (k : Nat) ∧ PoR w wr pb cb n u g m S k
theorem poAI_ctr {k : Nat} (w : World) (pb cb n : Nat) (ad : Option Addr) (len cap : Nat) (B : Nat → Bool) {a : Act} {wr : World} (H : poAI w pb cb n ad len cap B k a wr) : a.tmps.getD 10 undef = .int .i64 (k : Nat) := by
  obtain ⟨u, g, m, S, -, -, -, -, -, -, -, h, -⟩ := H
  exact h
set_option maxRecDepth 100000 in
set_option maxHeartbeats 0 in
theorem poA_round {k : Nat} (w : World) (pb cb n : Nat) (ad : Option Addr) (len cap : Nat) (B : Nat → Bool) (hv : IsBools w ad len cap B) (h200 : len ≤ 200) (hn1 : 1 ≤ n) (hn2 : n ≤ 16) (a : Act) (wr : World) (hk : k ≤ len) (H : poAI w pb cb n ad len cap B k a wr) :
    Code.wp Try.prog (loopIn 0 Try.f4) (Exit.then (fun a' w' => poAI w pb cb n ad len cap B (k + 1) a' w' ∧ k < len) (Qx 0 (fun a' w' => poAI w pb cb n ad len cap B k a' w' ∧ k = len))) a wr := by
  obtain ⟨t, ds⟩ := a
  obtain ⟨u, g, m, S, hd', hz, h1, h5, h6, h8, h9, h10, rel⟩ := H
  replace hd' : ds = [] := hd'
  subst hd'
  replace hz : t.size = 165 := hz
  replace h1 : t.getD 1 undef = .slice ad len cap := h1
  replace h5 : t.getD 5 undef = .int .i64 (n : Nat) := h5
  replace h6 : t.getD 6 undef = .pointer (some ⟨pb, 0, none⟩) := h6
  replace h8 : t.getD 8 undef = .int .i64 (u : Nat) := h8
  replace h9 : t.getD 9 undef = .int .i64 (g : Nat) := h9
  replace h10 : t.getD 10 undef = .int .i64 (k : Nat) := h10
  have REL := Lib.hid rel
  clear rel
  refine openFr165 (P := fun t => t.getD 1 undef = .slice ad len cap → t.getD 5 undef = .int .i64 (n : Nat) → t.getD 6 undef = .pointer (some ⟨pb, 0, none⟩) → t.getD 8 undef = .int .i64 (u : Nat) → t.getD 9 undef = .int .i64 (g : Nat) → t.getD 10 undef = .int .i64 (k : Nat) → Code.wp Try.prog (loopIn 0 Try.f4) (Exit.then (fun a' w' => poAI w pb cb n ad len cap B (k + 1) a' w' ∧ k < len) (Qx 0 (fun a' w' => poAI w pb cb n ad len cap B k a' w' ∧ k = len))) ⟨t, []⟩ wr) ?_ t hz h1 h5 h6 h8 h9 h10
  clear h1 h5 h6 h8 h9 h10 hz t
  intro c0 c1 c2 c3 c4 c5 c6 c7 c8 c9 c10 c11 c12 c13 c14 c15 c16 c17 c18 c19 c20 c21 c22 c23 c24 c25 c26 c27 c28 c29 c30 c31 c32 c33 c34 c35 c36 c37 c38 c39 c40 c41 c42 c43 c44 c45 c46 c47 c48 c49 c50 c51 c52 c53 c54 c55 c56 c57 c58 c59 c60 c61 c62 c63 c64 c65 c66 c67 c68 c69 c70 c71 c72 c73 c74 c75 c76 c77 c78 c79 c80 c81 c82 c83 c84 c85 c86 c87 c88 c89 c90 c91 c92 c93 c94 c95 c96 c97 c98 c99 c100 c101 c102 c103 c104 c105 c106 c107 c108 c109 c110 c111 c112 c113 c114 c115 c116 c117 c118 c119 c120 c121 c122 c123 c124 c125 c126 c127 c128 c129 c130 c131 c132 c133 c134 c135 c136 c137 c138 c139 c140 c141 c142 c143 c144 c145 c146 c147 c148 c149 c150 c151 c152 c153 c154 c155 c156 c157 c158 c159 c160 c161 c162 c163 c164 h1 h5 h6 h8 h9 h10
  replace h1 : c1 = .slice ad len cap := h1
  replace h5 : c5 = .int .i64 (n : Nat) := h5
  replace h6 : c6 = .pointer (some ⟨pb, 0, none⟩) := h6
  replace h8 : c8 = .int .i64 (u : Nat) := h8
  replace h9 : c9 = .int .i64 (g : Nat) := h9
  replace h10 : c10 = .int .i64 (k : Nat) := h10
  subst h1
  subst h5
  subst h6
  subst h8
  subst h9
  subst h10
  conv => arg 2; whnf
  by_cases hlt : k < len
  · obtain ⟨x, hx, cp1, cp2, q0⟩ := hv.item hlt
    subst hx
    replace q0 := REL.out.p.c.keeps q0 (fun e => e)
    have hltz : (k : Int) < (len : Int) := by omega
    have e0 : ((k : Int)).toNat = k := by omega
    have hk0 : (0 : Int) ≤ (k : Int) := by omega
    cases hB : B k with
    | false =>
      rw [hB] at q0
      obtain ⟨P, hpg, hpk, hm⟩ := REL.out
      by_cases hc : u = g
      · subst hc
        rw [Nat.sub_self] at P
        have TK := Lib.hid P.takeNone
        have NX := Lib.hid P
        clear P
        go_wp2_with fail
        refine TK.out.mono ?_
        rintro e w5 ⟨rfl, rfl⟩
        clear TK q0
        have Z0 : ∀ W, PRS w W pb cb n (seqI u 0) m false S → Calls Try.prog 14 #[.pointer (some ⟨pb, 0, none⟩)] W fun e W' => e = .returned (.int .i64 0) ∧ PRS w W' pb cb n (seqI u 0) m false S := fun W h => (h.len (by simp [seqI])).mono fun e W' ⟨a, b, _⟩ => ⟨a, b⟩
        have Z1 : ∀ W, PRS w W pb cb n (seqI u 0) m false S → Calls Try.prog 15 #[.pointer (some ⟨pb, 0, none⟩)] W fun e W' => e = .returned (.int .i64 0) ∧ W = W' := fun W h => by
          have := h.spilled
          rw [show (seqI u 0).length - n = 0 by rw [seqI_len]; omega] at this
          exact this
        have HZ0 := Lib.hid Z0
        have HZ1 := Lib.hid Z1
        have g1 : ¬ ((n : Int) < 0) := by omega
        clear Z0 Z1
        go_wp2_with fail
        refine (HZ0.out _ NX.out).mono ?_
        rintro e w6 ⟨rfl, p6⟩
        have N6 := Lib.hid p6
        clear p6
        go_wp2_with fail
        refine (HZ1.out _ N6.out).mono ?_
        rintro e w7 ⟨rfl, rfl⟩
        go_wp2_with fail
        refine (HZ0.out _ N6.out).mono ?_
        rintro e w8 ⟨rfl, p8⟩
        have N8 := Lib.hid p8
        clear p8 N6
        go_wp2_with fail
        refine (HZ1.out _ N8.out).mono ?_
        rintro e w9 ⟨rfl, rfl⟩
        go_wp2
        first | exact ⟨⟨u, u, m, S, rfl, rfl, rfl, rfl, rfl, rfl, rfl, rfl, ⟨by rw [Nat.sub_self]; exact N8.out, Nat.le_refl _, by omega, by omega⟩⟩, hlt⟩ | exact ⟨u, u, m, S, rfl, rfl, rfl, rfl, rfl, rfl, rfl, rfl, ⟨by rw [Nat.sub_self]; exact N8.out, Nat.le_refl _, by omega, by omega⟩⟩
      · have hgu : g < u := by omega
        have hgu' : (g : Int) < (u : Int) := by omega
        rw [seqI_cons hgu] at P
        have TK := Lib.hid (P.take hn1 (by rw [seqI_len]; omega))
        clear P
        obtain ⟨c5, hc5'⟩ : ∃ c : Nat, c = u - (g + 1) := ⟨_, rfl⟩
        have hsub : (u : Int) - ((g : Int) + 1) = (c5 : Int) := by omega
        have hc5 : c5 ≤ 200 := by omega
        have hwc : IntKind.i64.wrap (c5 : Int) = (c5 : Int) := IntWalk.i64_in _ (by omega)
        have HC5 := Lib.hid hc5'
        have yz : ∀ z : Nat, ((z : Int) != (z : Int)) = false := fun z => by rw [bne_eq_false_iff_eq]
        by_cases hcn : c5 ≤ n
        · have g1 : ¬ ((n : Int) < (c5 : Int)) := by omega
          have g2 : ¬ (n < c5) := by omega
          go_wp2_with fail
          refine TK.out.mono ?_
          rintro e w5 ⟨rfl, S5, p5, nx5⟩
          rw [← hc5'] at p5
          have NX := Lib.hid p5
          clear TK q0 p5 nx5 hc5'
          have LE := Lib.hid (NX.out.len (by rw [seqI_len]; omega))
          rw [seqI_len] at LE
          go_wp2_with fail
          refine LE.out.mono ?_
          rintro e w6 ⟨rfl, px, nx⟩
          have N6 := Lib.hid px
          clear px nx LE NX
          have SP := Lib.hid N6.out.spilled
          rw [seqI_len, show c5 - n = 0 by omega] at SP
          go_wp2_with fail
          refine SP.out.mono ?_
          rintro e wx ⟨rfl, rfl⟩
          clear SP
          have LE := Lib.hid (N6.out.len (by rw [seqI_len]; omega))
          rw [seqI_len] at LE
          go_wp2_with fail
          refine LE.out.mono ?_
          rintro e w7 ⟨rfl, px, nx⟩
          have N7 := Lib.hid px
          clear px nx LE N6
          have SP := Lib.hid N7.out.spilled
          rw [seqI_len, show c5 - n = 0 by omega] at SP
          go_wp2_with fail
          refine SP.out.mono ?_
          rintro e wx ⟨rfl, rfl⟩
          clear SP
          go_wp2
          first | exact ⟨⟨u, g + 1, m, S5, rfl, rfl, rfl, rfl, rfl, rfl, rfl, rfl, ⟨by have h := N7.out; rw [HC5.out] at h; exact h, by omega, by omega, by omega⟩⟩, hlt⟩ | exact ⟨u, g + 1, m, S5, rfl, rfl, rfl, rfl, rfl, rfl, rfl, rfl, ⟨by have h := N7.out; rw [HC5.out] at h; exact h, by omega, by omega, by omega⟩⟩
        · obtain ⟨sp, hsp⟩ : ∃ sp : Nat, c5 - n = sp := ⟨_, rfl⟩
          have g1 : (0 : Int) < (sp : Int) := by omega
          have g2 : 0 < sp := by omega
          have g3 : (c5 : Int) - (sp : Int) = (n : Int) := by omega
          have g4 : (n : Int) < (c5 : Int) := by omega
          have g5 : n < c5 := by omega
          have hwn : IntKind.i64.wrap (n : Int) = (n : Int) := IntWalk.i64_in _ (by omega)
          have HSP := Lib.hid hsp
          clear hsp
          go_wp2_with fail
          refine TK.out.mono ?_
          rintro e w5 ⟨rfl, S5, p5, nx5⟩
          rw [← hc5'] at p5
          have NX := Lib.hid p5
          clear TK q0 p5 nx5 hc5'
          have LE := Lib.hid (NX.out.len (by rw [seqI_len]; omega))
          rw [seqI_len] at LE
          go_wp2_with fail
          refine LE.out.mono ?_
          rintro e w6 ⟨rfl, px, nx⟩
          have N6 := Lib.hid px
          clear px nx LE NX
          have SP := Lib.hid N6.out.spilled
          rw [seqI_len, HSP.out] at SP
          go_wp2_with fail
          refine SP.out.mono ?_
          rintro e wx ⟨rfl, rfl⟩
          clear SP
          have LE := Lib.hid (N6.out.len (by rw [seqI_len]; omega))
          rw [seqI_len] at LE
          go_wp2_with fail
          refine LE.out.mono ?_
          rintro e w7 ⟨rfl, px, nx⟩
          have N7 := Lib.hid px
          clear px nx LE N6
          have SP := Lib.hid N7.out.spilled
          rw [seqI_len, HSP.out] at SP
          go_wp2_with fail
          refine SP.out.mono ?_
          rintro e wx ⟨rfl, rfl⟩
          clear SP
          have LE := Lib.hid (N7.out.len (by rw [seqI_len]; omega))
          rw [seqI_len] at LE
          go_wp2_with fail
          refine LE.out.mono ?_
          rintro e w8 ⟨rfl, px, nx⟩
          have N8 := Lib.hid px
          clear px nx LE N7
          have SP := Lib.hid N8.out.spilled
          rw [seqI_len, HSP.out] at SP
          go_wp2_with fail
          refine SP.out.mono ?_
          rintro e wx ⟨rfl, rfl⟩
          clear SP
          go_wp2
          first | exact ⟨⟨u, g + 1, m, S5, rfl, rfl, rfl, rfl, rfl, rfl, rfl, rfl, ⟨by have h := N8.out; rw [HC5.out] at h; exact h, by omega, by omega, by omega⟩⟩, hlt⟩ | exact ⟨u, g + 1, m, S5, rfl, rfl, rfl, rfl, rfl, rfl, rfl, rfl, ⟨by have h := N8.out; rw [HC5.out] at h; exact h, by omega, by omega, by omega⟩⟩
    | true =>
      rw [hB] at q0
      obtain ⟨P, hpg, hpk, hm⟩ := REL.out
      have TK := Lib.hid (P.put (u : Int) (by rw [seqI_len]; omega) (by omega))
      rw [seqI_len] at TK
      clear P
      have e1 : seqI g (u - g) ++ [(u : Int)] = seqI g (u + 1 - g) := seqI_snoc hpg
      obtain ⟨c5, hc5'⟩ : ∃ c : Nat, c = u + 1 - g := ⟨_, rfl⟩
      have hsub : (u : Int) + 1 - (g : Int) = (c5 : Int) := by omega
      have hc5 : c5 ≤ 200 := by omega
      have hwc : IntKind.i64.wrap (c5 : Int) = (c5 : Int) := IntWalk.i64_in _ (by omega)
      have HC5 := Lib.hid hc5'
      have yz : ∀ z : Nat, ((z : Int) != (z : Int)) = false := fun z => by rw [bne_eq_false_iff_eq]
      by_cases hcn : c5 ≤ n
      · have g1 : ¬ ((n : Int) < (c5 : Int)) := by omega
        have g2 : ¬ (n < c5) := by omega
        rw [decide_eq_false (show ¬ n ≤ u - g by omega)] at TK
        go_wp2_with fail
        refine TK.out.mono ?_
        rintro e w5 ⟨rfl, S5, p5, nx5⟩
        rw [e1, ← hc5'] at p5
        have NX := Lib.hid p5
        clear TK q0 p5 nx5 e1 hc5'
        have LE := Lib.hid (NX.out.len (by rw [seqI_len]; omega))
        rw [seqI_len] at LE
        go_wp2_with fail
        refine LE.out.mono ?_
        rintro e w6 ⟨rfl, px, nx⟩
        have N6 := Lib.hid px
        clear px nx LE NX
        have SP := Lib.hid N6.out.spilled
        rw [seqI_len, show c5 - n = 0 by omega] at SP
        go_wp2_with fail
        refine SP.out.mono ?_
        rintro e wx ⟨rfl, rfl⟩
        clear SP
        have LE := Lib.hid (N6.out.len (by rw [seqI_len]; omega))
        rw [seqI_len] at LE
        go_wp2_with fail
        refine LE.out.mono ?_
        rintro e w7 ⟨rfl, px, nx⟩
        have N7 := Lib.hid px
        clear px nx LE N6
        have SP := Lib.hid N7.out.spilled
        rw [seqI_len, show c5 - n = 0 by omega] at SP
        go_wp2_with fail
        refine SP.out.mono ?_
        rintro e wx ⟨rfl, rfl⟩
        clear SP
        go_wp2
        first | exact ⟨⟨u + 1, g, _, S5, rfl, rfl, rfl, rfl, rfl, rfl, rfl, rfl, ⟨by have h := N7.out; rw [HC5.out] at h; exact h, by omega, by omega, by omega⟩⟩, hlt⟩ | exact ⟨u + 1, g, _, S5, rfl, rfl, rfl, rfl, rfl, rfl, rfl, rfl, ⟨by have h := N7.out; rw [HC5.out] at h; exact h, by omega, by omega, by omega⟩⟩
      · obtain ⟨sp, hsp⟩ : ∃ sp : Nat, c5 - n = sp := ⟨_, rfl⟩
        have g1 : (0 : Int) < (sp : Int) := by omega
        have g2 : 0 < sp := by omega
        have g3 : (c5 : Int) - (sp : Int) = (n : Int) := by omega
        have g4 : (n : Int) < (c5 : Int) := by omega
        have g5 : n < c5 := by omega
        have hwn : IntKind.i64.wrap (n : Int) = (n : Int) := IntWalk.i64_in _ (by omega)
        have HSP := Lib.hid hsp
        clear hsp
        rw [decide_eq_true (show n ≤ u - g by omega)] at TK
        go_wp2_with fail
        refine TK.out.mono ?_
        rintro e w5 ⟨rfl, S5, p5, nx5⟩
        rw [e1, ← hc5'] at p5
        have NX := Lib.hid p5
        clear TK q0 p5 nx5 e1 hc5'
        have LE := Lib.hid (NX.out.len (by rw [seqI_len]; omega))
        rw [seqI_len] at LE
        go_wp2_with fail
        refine LE.out.mono ?_
        rintro e w6 ⟨rfl, px, nx⟩
        have N6 := Lib.hid px
        clear px nx LE NX
        have SP := Lib.hid N6.out.spilled
        rw [seqI_len, HSP.out] at SP
        go_wp2_with fail
        refine SP.out.mono ?_
        rintro e wx ⟨rfl, rfl⟩
        clear SP
        have LE := Lib.hid (N6.out.len (by rw [seqI_len]; omega))
        rw [seqI_len] at LE
        go_wp2_with fail
        refine LE.out.mono ?_
        rintro e w7 ⟨rfl, px, nx⟩
        have N7 := Lib.hid px
        clear px nx LE N6
        have SP := Lib.hid N7.out.spilled
        rw [seqI_len, HSP.out] at SP
        go_wp2_with fail
        refine SP.out.mono ?_
        rintro e wx ⟨rfl, rfl⟩
        clear SP
        have LE := Lib.hid (N7.out.len (by rw [seqI_len]; omega))
        rw [seqI_len] at LE
        go_wp2_with fail
        refine LE.out.mono ?_
        rintro e w8 ⟨rfl, px, nx⟩
        have N8 := Lib.hid px
        clear px nx LE N7
        have SP := Lib.hid N8.out.spilled
        rw [seqI_len, HSP.out] at SP
        go_wp2_with fail
        refine SP.out.mono ?_
        rintro e wx ⟨rfl, rfl⟩
        clear SP
        go_wp2
        first | exact ⟨⟨u + 1, g, _, S5, rfl, rfl, rfl, rfl, rfl, rfl, rfl, rfl, ⟨by have h := N8.out; rw [HC5.out] at h; exact h, by omega, by omega, by omega⟩⟩, hlt⟩ | exact ⟨u + 1, g, _, S5, rfl, rfl, rfl, rfl, rfl, rfl, rfl, rfl, ⟨by have h := N8.out; rw [HC5.out] at h; exact h, by omega, by omega, by omega⟩⟩
  · have hge : ¬ (k : Int) < (len : Int) := by omega
    obtain rfl : k = len := by omega
    go_wp2
    first | exact ⟨by first | rfl | trivial, ⟨_, _, _, _, rfl, rfl, rfl, rfl, rfl, rfl, rfl, rfl, REL.out⟩, by first | rfl | trivial⟩ | exact ⟨by first | rfl | trivial, ⟨_, _, _, _, rfl, rfl, rfl, rfl, rfl, rfl, rfl, rfl, REL.out⟩⟩ | exact ⟨_, _, _, _, rfl, rfl, rfl, rfl, rfl, rfl, rfl, rfl, REL.out⟩ | exact ⟨⟨_, _, _, _, rfl, rfl, rfl, rfl, rfl, rfl, rfl, rfl, REL.out⟩, by first | rfl | trivial⟩
theorem poA_loop (w : World) (pb cb n : Nat) (ad : Option Addr) (len cap : Nat) (B : Nat → Bool) (hv : IsBools w ad len cap B) (h200 : len ≤ 200) (hn1 : 1 ≤ n) (hn2 : n ≤ 16) (a : Act) (wr : World) (hb : 0 ≤ len) (H : poAI w pb cb n ad len cap B 0 a wr) :
    Code.wp Try.prog (.loop (loopIn 0 Try.f4)) (Qx 0 (fun a' w' => poAI w pb cb n ad len cap B len a' w')) a wr := by
  refine wp_loop (fun a' wr => ∃ k, k ≤ len ∧ poAI w pb cb n ad len cap B k a' wr) (fun a' _ => len - (intOf (a'.tmps.getD 10 undef)).toNat) ⟨0, hb, H⟩ ?_
  rintro a' wr ⟨k, hk, h⟩
  refine wp_mono (poA_round w pb cb n ad len cap B hv h200 hn1 hn2 a' wr hk h) ?_
  intro e a2 w2 hp
  cases e with
  | normal =>
    refine ⟨⟨k + 1, by have := hp.2; omega, hp.1⟩, ?_⟩
    rw [poAI_ctr w pb cb n ad len cap B h, poAI_ctr w pb cb n ad len cap B hp.1]
    have := hp.2
    simp only [intOf, Int.toNat_natCast]
    omega
  | exit n => exact ⟨hp.1, hp.2.2 ▸ hp.2.1⟩
  | _ => exact hp.elim
end Go.Proofs.Ytpddiphknpplcaa
