import Derived.Test.YtldnmpiaofppgaaDoorCSyCode
import Derived.Test.YtldnmpiaofppgaaDoorK07
import Derived.Deep.QuietTactic
import Derived.BigQuiet
import Derived.Deep.Cut
import Derived.Deep.CutRange
import Derived.Deep.CutBlock
import Derived.RegionTactic
import Derived.BigRegion
/-
  ShardActs: the loop that turns.
-/
namespace Go.Proofs.YtldnmpiaofppgaaDoor
open Go.RowKit Verge Go.Proofs.YtldnmpiaofppgaaDoor.LT
set_option linter.unusedVariables false
set_option linter.unusedSimpArgs false
attribute [local go_sem] Oper.semAt_some

/-- what holds at the head of the loop -/
def syBI (w : World) (s : Nat) (g : Wh) (rb : Nat) (ad : Option Addr) (len cap : Nat) (A : List Ac) (P : List Ent) (L : List Tk) (tb : Option Addr) (tcp i now0 tk B : Nat) (x : Ac) (k : Nat) (a : Act) (wr : World) : Prop :=
  ∃ (Q : List Ent) (l : List Dn) (ar : Option Addr) (cr : Nat), a.defers = [] ∧ a.tmps.size = 155 ∧ a.tmps.getD 1 undef = .slice ad len cap ∧ a.tmps.getD 5 undef = .pointer (some ⟨s, 0, none⟩) ∧ a.tmps.getD 7 undef = .pointer (some ⟨rb, 0, none⟩) ∧ a.tmps.getD 8 undef = .int .i64 (i : Nat) ∧ a.tmps.getD 9 undef = .pointer (some ⟨B, 0, none⟩) ∧ a.tmps.getD 14 undef = .int .i64 (k : Nat) ∧ AcB w wr s g (now0 + k) Q P rb l L ar cr tb tcp B x
theorem syBI_ctr {k : Nat} (w : World) (s : Nat) (g : Wh) (rb : Nat) (ad : Option Addr) (len cap : Nat) (A : List Ac) (P : List Ent) (L : List Tk) (tb : Option Addr) (tcp i now0 tk B : Nat) (x : Ac) {a : Act} {wr : World} (H : syBI w s g rb ad len cap A P L tb tcp i now0 tk B x k a wr) : a.tmps.getD 14 undef = .int .i64 (k : Nat) := by
  obtain ⟨Q, l, ar, cr, -, -, -, -, -, -, -, h, -⟩ := H
  exact h
set_option maxRecDepth 100000 in
set_option maxHeartbeats 0 in
theorem syB_round {k : Nat} (w : World) (s : Nat) (g : Wh) (rb : Nat) (ad : Option Addr) (len cap : Nat) (A : List Ac) (P : List Ent) (L : List Tk) (tb : Option Addr) (tcp i now0 tk B : Nat) (x : Ac) (hs : ASrc w ad A) (hA : A.length = len) (ok : ∀ x, x ∈ A → x.ok) (h60 : len ≤ 60) (hc : len ≤ cap ∧ cap ≤ maxLen) (T : Tab w) (htk : ∃ mm : Nat, (if 0 < x.n then x.n else 0) = (mm : Int) ∧ ((x.k = 1 ∧ ((mm : Int)).tmod 130 = (tk : Int)) ∨ (x.k ≠ 1 ∧ tk = 0))) (htk2 : tk < 130) (hn0 : now0 ≤ 10000) (hL : L.length ≤ 60) (a : Act) (wr : World) (hk : k ≤ tk) (H : syBI w s g rb ad len cap A P L tb tcp i now0 tk B x k a wr) :
    Code.wp Tryd.prog (loopIn 2 Tryd.f3) (Exit.then (fun a' w' => syBI w s g rb ad len cap A P L tb tcp i now0 tk B x (k + 1) a' w' ∧ k < tk) (Qx 2 (fun a' w' => syBI w s g rb ad len cap A P L tb tcp i now0 tk B x k a' w' ∧ k = tk))) a wr := by
  obtain ⟨t, ds⟩ := a
  obtain ⟨Q, l, ar, cr, hd', hz, h1, h5, h7, h8, h9, h14, rel⟩ := H
  replace hd' : ds = [] := hd'
  subst hd'
  replace hz : t.size = 155 := hz
  replace h1 : t.getD 1 undef = .slice ad len cap := h1
  replace h5 : t.getD 5 undef = .pointer (some ⟨s, 0, none⟩) := h5
  replace h7 : t.getD 7 undef = .pointer (some ⟨rb, 0, none⟩) := h7
  replace h8 : t.getD 8 undef = .int .i64 (i : Nat) := h8
  replace h9 : t.getD 9 undef = .pointer (some ⟨B, 0, none⟩) := h9
  replace h14 : t.getD 14 undef = .int .i64 (k : Nat) := h14
  have REL := Lib.hid rel
  clear rel
  refine openFr155 (P := fun t => t.getD 1 undef = .slice ad len cap → t.getD 5 undef = .pointer (some ⟨s, 0, none⟩) → t.getD 7 undef = .pointer (some ⟨rb, 0, none⟩) → t.getD 8 undef = .int .i64 (i : Nat) → t.getD 9 undef = .pointer (some ⟨B, 0, none⟩) → t.getD 14 undef = .int .i64 (k : Nat) → Code.wp Tryd.prog (loopIn 2 Tryd.f3) (Exit.then (fun a' w' => syBI w s g rb ad len cap A P L tb tcp i now0 tk B x (k + 1) a' w' ∧ k < tk) (Qx 2 (fun a' w' => syBI w s g rb ad len cap A P L tb tcp i now0 tk B x k a' w' ∧ k = tk))) ⟨t, []⟩ wr) ?_ t hz h1 h5 h7 h8 h9 h14
  clear h1 h5 h7 h8 h9 h14 hz t
  intro c0 c1 c2 c3 c4 c5 c6 c7 c8 c9 c10 c11 c12 c13 c14 c15 c16 c17 c18 c19 c20 c21 c22 c23 c24 c25 c26 c27 c28 c29 c30 c31 c32 c33 c34 c35 c36 c37 c38 c39 c40 c41 c42 c43 c44 c45 c46 c47 c48 c49 c50 c51 c52 c53 c54 c55 c56 c57 c58 c59 c60 c61 c62 c63 c64 c65 c66 c67 c68 c69 c70 c71 c72 c73 c74 c75 c76 c77 c78 c79 c80 c81 c82 c83 c84 c85 c86 c87 c88 c89 c90 c91 c92 c93 c94 c95 c96 c97 c98 c99 c100 c101 c102 c103 c104 c105 c106 c107 c108 c109 c110 c111 c112 c113 c114 c115 c116 c117 c118 c119 c120 c121 c122 c123 c124 c125 c126 c127 c128 c129 c130 c131 c132 c133 c134 c135 c136 c137 c138 c139 c140 c141 c142 c143 c144 c145 c146 c147 c148 c149 c150 c151 c152 c153 c154 h1 h5 h7 h8 h9 h14
  replace h1 : c1 = .slice ad len cap := h1
  replace h5 : c5 = .pointer (some ⟨s, 0, none⟩) := h5
  replace h7 : c7 = .pointer (some ⟨rb, 0, none⟩) := h7
  replace h8 : c8 = .int .i64 (i : Nat) := h8
  replace h9 : c9 = .pointer (some ⟨B, 0, none⟩) := h9
  replace h14 : c14 = .int .i64 (k : Nat) := h14
  subst h1
  subst h5
  subst h7
  subst h8
  subst h9
  subst h14
  conv => arg 2; whnf
  have htkz : (tk : Int) < 130 := by omega
  have q0 := REL.out.x.k
  have q1 := REL.out.x.n
  obtain ⟨mm, hm1, hcase⟩ := htk
  clear hs hA ok T
  by_cases hlt : k < tk
  · have hkz : (k : Int) < (tk : Int) := by omega
    have hkz0 : (0 : Int) ≤ (k : Int) := by omega
    obtain ⟨hk1, htk⟩ : x.k = 1 ∧ ((mm : Int)).tmod 130 = (tk : Int) := by
      rcases hcase with h | h
      · exact h
      · omega
    have hkb : (x.k == 1) = true := by rw [beq_iff_eq]; exact hk1
    rw [hk1] at q0
    clear hcase hkb
    go_wp2_with fail
    refine (REL.out.a.h.turn (by omega) (by have := REL.out.a.b; omega)).mono ?_
    rintro e w5 ⟨a5, cap5, rfl, r5, g5, h5, c5⟩
    have H5 := Lib.hid h5
    have C5 := Lib.hid c5
    have R5 := Lib.hid r5
    have G5 := Lib.hid g5
    have RR := Lib.hid (REL.out.a.ref c5)
    clear h5 c5 r5 g5 q0 q1
    go_wp2_with fail
    refine (refTurn_of RR.out REL.out.a.q REL.out.a.h.d.q.a (fun y hy => (REL.out.a.u y hy).2) (fun y hy => (REL.out.a.u y hy).1) (by omega) (by rw [REL.out.a.q.len]; have := REL.out.a.b; omega) (by have := REL.out.a.b; omega)).mono ?_
    rintro e w6 ⟨a6, cap6, l', ar', cr', rfl, r6, g6, rr6, q6, o6, c6⟩
    have NX := Lib.hid (REL.out.turn H5.out C5.out rr6 q6 o6 c6)
    have S5 : Hid (TSrc w6 a5 ((dueQ Q (now0 + k + 1)).map (·.u))) := Lib.hid (TRow.src (Row.kept R5.out c6 (fun j hj e => by
      have := G5.out j hj
      have := REL.out.a.r.lt (.inl e); omega)))
    have S6 := Lib.hid (TRow.src r6)
    have hdl : ((dueQ Q (now0 + k + 1)).map (·.u)).length ≤ 1000000 := by
      have : (dueQ Q (now0 + k + 1)).length ≤ Q.length := due_le
      rw [List.length_map]; have := REL.out.a.b; omega
    clear REL RR R5 G5 H5 C5 r6 g6 rr6 q6 o6 c6
    obtain ⟨dn, hdn⟩ : ∃ dn, dn = (dueQ Q (now0 + k + 1)).length := ⟨_, rfl⟩
    have hdn2 : ((dueQ Q (now0 + k + 1)).map (·.u)).length = dn := by rw [List.length_map, hdn]
    rw [← hdn]
    clear hdn
    generalize (dueQ Q (now0 + k + 1)).map (·.u) = due at *
    generalize leftQ Q (now0 + k + 1) = lq at *
    have SM := Lib.hid (same_of (c1 := cap5) (c2 := cap6) S5.out S6.out hdl hdl)
    simp only [decide_true] at SM
    rw [hdn2] at SM ⊢
    clear hdn2 hdl
    go_wp2_with fail
    refine SM.out.mono ?_
    rintro e w7 ⟨rfl, c7⟩
    have N7 := Lib.hid (NX.out.quiet c7)
    clear c7 NX S5 S6 SM
    go_wp2
    first | exact ⟨⟨_, _, _, _, rfl, rfl, rfl, rfl, rfl, rfl, rfl, rfl, N7.out⟩, hlt⟩ | exact ⟨_, _, _, _, rfl, rfl, rfl, rfl, rfl, rfl, rfl, rfl, N7.out⟩
  · obtain rfl : k = tk := by omega
    by_cases hk1 : x.k = 1
    · have htk : ((mm : Int)).tmod 130 = (k : Int) := by
        rcases hcase with h | h
        · exact h.2
        · exact absurd hk1 h.1
      rw [hk1] at q0
      clear hcase
      go_wp2
      exact ⟨by first | rfl | trivial, ⟨_, _, _, _, rfl, rfl, rfl, rfl, rfl, rfl, rfl, rfl, REL.out⟩, by first | rfl | trivial⟩
    · have hkb : (x.k == 1) = false := by rw [beq_eq_false_iff_ne]; exact hk1
      clear hcase hm1
      go_wp2
      exact ⟨by first | rfl | trivial, ⟨_, _, _, _, rfl, rfl, rfl, rfl, rfl, rfl, rfl, rfl, REL.out⟩, by first | rfl | trivial⟩
theorem syB_loop (w : World) (s : Nat) (g : Wh) (rb : Nat) (ad : Option Addr) (len cap : Nat) (A : List Ac) (P : List Ent) (L : List Tk) (tb : Option Addr) (tcp i now0 tk B : Nat) (x : Ac) (hs : ASrc w ad A) (hA : A.length = len) (ok : ∀ x, x ∈ A → x.ok) (h60 : len ≤ 60) (hc : len ≤ cap ∧ cap ≤ maxLen) (T : Tab w) (htk : ∃ mm : Nat, (if 0 < x.n then x.n else 0) = (mm : Int) ∧ ((x.k = 1 ∧ ((mm : Int)).tmod 130 = (tk : Int)) ∨ (x.k ≠ 1 ∧ tk = 0))) (htk2 : tk < 130) (hn0 : now0 ≤ 10000) (hL : L.length ≤ 60) (a : Act) (wr : World) (hb : 0 ≤ tk) (H : syBI w s g rb ad len cap A P L tb tcp i now0 tk B x 0 a wr) :
    Code.wp Tryd.prog (.loop (loopIn 2 Tryd.f3)) (Qx 2 (fun a' w' => syBI w s g rb ad len cap A P L tb tcp i now0 tk B x tk a' w')) a wr := by
  refine wp_loop (fun a' wr => ∃ k, k ≤ tk ∧ syBI w s g rb ad len cap A P L tb tcp i now0 tk B x k a' wr) (fun a' _ => tk - (intOf (a'.tmps.getD 14 undef)).toNat) ⟨0, hb, H⟩ ?_
  rintro a' wr ⟨k, hk, h⟩
  refine wp_mono (syB_round w s g rb ad len cap A P L tb tcp i now0 tk B x hs hA ok h60 hc T htk htk2 hn0 hL a' wr hk h) ?_
  intro e a2 w2 hp
  cases e with
  | normal =>
    refine ⟨⟨k + 1, by have := hp.2; omega, hp.1⟩, ?_⟩
    rw [syBI_ctr w s g rb ad len cap A P L tb tcp i now0 tk B x h, syBI_ctr w s g rb ad len cap A P L tb tcp i now0 tk B x hp.1]
    have := hp.2
    simp only [intOf, Int.toNat_natCast]
    omega
  | exit n => exact ⟨hp.1, hp.2.2 ▸ hp.2.1⟩
  | _ => exact hp.elim
end Go.Proofs.YtldnmpiaofppgaaDoor
