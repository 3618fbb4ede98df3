/-
  WheelAhead: the loop that ticks.
-/
import Derived.Test.YtkdkkgbjfabifaaDoorWaCode
import Derived.Test.YtkdkkgbjfabifaaDoorHeld
import Derived.Deep.QuietTactic
import Derived.BigQuiet
import Derived.Deep.Cut
import Derived.Deep.CutRange
import Derived.Deep.CutBlock
import Derived.RegionTactic
import Derived.BigRegion
namespace Go.Proofs.YtkdkkgbjfabifaaDoor
open Go.RowKit Verge LQ
set_option linter.unusedVariables false
set_option linter.unusedSimpArgs false
attribute [local go_sem] Oper.semAt_some

/-- what holds at the head of the loop -/
def waTI (w : World) (g : Wh) (ad : Option Addr) (len cap : Nat) (k0 : Nat) (mx : Nat) (k : Nat) (a : Act) (wr : World) : Prop :=
  ∃ (now : Nat) (Q P : List Ent), a.defers = [] ∧ a.tmps.size = 150 ∧ a.tmps.getD 1 undef = .slice ad len cap ∧ a.tmps.getD 5 undef = .pointer (some ⟨g.wb, 0, none⟩) ∧ a.tmps.getD 6 undef = .int .i64 (k0 : Nat) ∧ a.tmps.getD 7 undef = .int .i64 (k : Nat) ∧ AhR w g (k0 + 1) now Q P wr
theorem waTI_ctr {k : Nat} (w : World) (g : Wh) (ad : Option Addr) (len cap : Nat) (k0 : Nat) (mx : Nat) {a : Act} {wr : World} (H : waTI w g ad len cap k0 mx k a wr) : a.tmps.getD 7 undef = .int .i64 (k : Nat) := by
  obtain ⟨now, Q, P, -, -, -, -, -, h, -⟩ := H
  exact h
set_option maxRecDepth 100000 in
set_option maxHeartbeats 0 in
theorem waT_round {k : Nat} (w : World) (g : Wh) (ad : Option Addr) (len cap : Nat) (k0 : Nat) (mx : Nat) (hv : IsTab [.i .i64, .i .i64, .i .u64] w ad len cap) (T : Tab w) (h60 : len ≤ 60) (hk0 : k0 < len) (x : Addr) (y1 : Int) (hxa : ad = some x) (hy : w.cell? ⟨(x.add (k0 * 3)).block, (x.add (k0 * 3)).off + 1, none⟩ = some (.int .i64 y1)) (hmx : ((if 0 < y1 then y1 else 0) : Int).tmod 130 = (mx : Int)) (hc : len ≤ cap ∧ cap ≤ maxLen) (hmb : mx < 130) (a : Act) (wr : World) (hk : k ≤ mx) (H : waTI w g ad len cap k0 mx k a wr) :
    Code.wp Tryd.prog (loopIn 2 Tryd.f5) (Exit.then (fun a' w' => waTI w g ad len cap k0 mx (k + 1) a' w' ∧ k < mx) (Qx 2 (fun a' w' => waTI w g ad len cap k0 mx k a' w' ∧ k = mx))) a wr := by
  obtain ⟨t, ds⟩ := a
  obtain ⟨now, Q, P, hd', hz, h1, h5, h6, h7, rel⟩ := H
  replace hd' : ds = [] := hd'
  subst hd'
  replace hz : t.size = 150 := hz
  replace h1 : t.getD 1 undef = .slice ad len cap := h1
  replace h5 : t.getD 5 undef = .pointer (some ⟨g.wb, 0, none⟩) := h5
  replace h6 : t.getD 6 undef = .int .i64 (k0 : Nat) := h6
  replace h7 : t.getD 7 undef = .int .i64 (k : Nat) := h7
  have REL := Lib.hid rel
  clear rel
  refine openFr150 (P := fun t => t.getD 1 undef = .slice ad len cap → t.getD 5 undef = .pointer (some ⟨g.wb, 0, none⟩) → t.getD 6 undef = .int .i64 (k0 : Nat) → t.getD 7 undef = .int .i64 (k : Nat) → Code.wp Tryd.prog (loopIn 2 Tryd.f5) (Exit.then (fun a' w' => waTI w g ad len cap k0 mx (k + 1) a' w' ∧ k < mx) (Qx 2 (fun a' w' => waTI w g ad len cap k0 mx k a' w' ∧ k = mx))) ⟨t, []⟩ wr) ?_ t hz h1 h5 h6 h7
  clear h1 h5 h6 h7 hz t
  intro c0 c1 c2 c3 c4 c5 c6 c7 c8 c9 c10 c11 c12 c13 c14 c15 c16 c17 c18 c19 c20 c21 c22 c23 c24 c25 c26 c27 c28 c29 c30 c31 c32 c33 c34 c35 c36 c37 c38 c39 c40 c41 c42 c43 c44 c45 c46 c47 c48 c49 c50 c51 c52 c53 c54 c55 c56 c57 c58 c59 c60 c61 c62 c63 c64 c65 c66 c67 c68 c69 c70 c71 c72 c73 c74 c75 c76 c77 c78 c79 c80 c81 c82 c83 c84 c85 c86 c87 c88 c89 c90 c91 c92 c93 c94 c95 c96 c97 c98 c99 c100 c101 c102 c103 c104 c105 c106 c107 c108 c109 c110 c111 c112 c113 c114 c115 c116 c117 c118 c119 c120 c121 c122 c123 c124 c125 c126 c127 c128 c129 c130 c131 c132 c133 c134 c135 c136 c137 c138 c139 c140 c141 c142 c143 c144 c145 c146 c147 c148 c149 h1 h5 h6 h7
  replace h1 : c1 = .slice ad len cap := h1
  replace h5 : c5 = .pointer (some ⟨g.wb, 0, none⟩) := h5
  replace h6 : c6 = .int .i64 (k0 : Nat) := h6
  replace h7 : c7 = .int .i64 (k : Nat) := h7
  subst h1
  subst h5
  subst h6
  subst h7
  conv => arg 2; whnf
  subst hxa
  have q1 := REL.out.d.c.keeps hy (fun e => e)
  have hkk : (k0 : Int) < (len : Int) := by omega
  have hkk0 : (0 : Int) ≤ (k0 : Int) := by omega
  clear hv T hy
  by_cases hlt : k < mx
  · have hkz : (k : Int) < (mx : Int) := by omega
    have hkb : (k : Int) < 130 := by omega
    by_cases hp : 0 < y1
    · rw [if_pos hp] at hmx
      by_cases hov : now + 1 < 18446744073709551616
      · go_wp2_with fail
        refine (REL.out.d.advance hov (by have := REL.out.n; omega)).mono ?_
        rintro e w5 ⟨a5, cap5, rfl, -, -, d5, -⟩
        have NX : Hid (AhR w g (k0 + 1) (now + 1) (leftQ Q (now + 1)) P w5) := Lib.hid ⟨d5, Nat.le_trans (List.length_filter_le _ _) REL.out.n, fun x hx => REL.out.u x (List.mem_filter.1 hx).1⟩
        clear d5 REL
        go_wp2
        first | exact ⟨⟨now + 1, _, _, rfl, rfl, rfl, rfl, rfl, rfl, NX.out⟩, hlt⟩ | exact ⟨now + 1, _, _, rfl, rfl, rfl, rfl, rfl, rfl, NX.out⟩
      · obtain rfl : now = 18446744073709551615 := by have := REL.out.d.q.w.nl; omega
        go_wp2_with fail
        refine REL.out.d.over.mono ?_
        rintro e w5 ⟨rfl, rfl⟩
        go_wp2
        first | exact ⟨⟨_, _, _, rfl, rfl, rfl, rfl, rfl, rfl, REL.out⟩, hlt⟩ | exact ⟨_, _, _, rfl, rfl, rfl, rfl, rfl, rfl, REL.out⟩
    · rw [if_neg hp] at hmx
      have : mx = 0 := by have h0 : (0 : Int).tmod 130 = 0 := rfl
                          omega
      omega
  · obtain rfl : k = mx := by omega
    by_cases hp : 0 < y1
    · rw [if_pos hp] at hmx
      go_wp2
      first | exact ⟨by first | rfl | trivial, ⟨_, _, _, rfl, rfl, rfl, rfl, rfl, rfl, REL.out⟩, by first | rfl | trivial⟩ | exact ⟨by first | rfl | trivial, ⟨_, _, _, rfl, rfl, rfl, rfl, rfl, rfl, REL.out⟩⟩ | exact ⟨_, _, _, rfl, rfl, rfl, rfl, rfl, rfl, REL.out⟩
    · rw [if_neg hp] at hmx
      have hle : y1 ≤ 0 := by omega
      obtain rfl : k = 0 := by have h0 : (0 : Int).tmod 130 = 0 := rfl
                               omega
      go_wp2
      first | exact ⟨by first | rfl | trivial, ⟨_, _, _, rfl, rfl, rfl, rfl, rfl, rfl, REL.out⟩, by first | rfl | trivial⟩ | exact ⟨by first | rfl | trivial, ⟨_, _, _, rfl, rfl, rfl, rfl, rfl, rfl, REL.out⟩⟩ | exact ⟨_, _, _, rfl, rfl, rfl, rfl, rfl, rfl, REL.out⟩
theorem waT_loop (w : World) (g : Wh) (ad : Option Addr) (len cap : Nat) (k0 : Nat) (mx : Nat) (hv : IsTab [.i .i64, .i .i64, .i .u64] w ad len cap) (T : Tab w) (h60 : len ≤ 60) (hk0 : k0 < len) (x : Addr) (y1 : Int) (hxa : ad = some x) (hy : w.cell? ⟨(x.add (k0 * 3)).block, (x.add (k0 * 3)).off + 1, none⟩ = some (.int .i64 y1)) (hmx : ((if 0 < y1 then y1 else 0) : Int).tmod 130 = (mx : Int)) (hc : len ≤ cap ∧ cap ≤ maxLen) (hmb : mx < 130) (a : Act) (wr : World) (hb : 0 ≤ mx) (H : waTI w g ad len cap k0 mx 0 a wr) :
    Code.wp Tryd.prog (.loop (loopIn 2 Tryd.f5)) (Qx 2 (fun a' w' => waTI w g ad len cap k0 mx mx a' w')) a wr := by
  refine wp_loop (fun a' wr => ∃ k, k ≤ mx ∧ waTI w g ad len cap k0 mx k a' wr) (fun a' _ => mx - (intOf (a'.tmps.getD 7 undef)).toNat) ⟨0, hb, H⟩ ?_
  rintro a' wr ⟨k, hk, h⟩
  refine wp_mono (waT_round w g ad len cap k0 mx hv T h60 hk0 x y1 hxa hy hmx hc hmb a' wr hk h) ?_
  intro e a2 w2 hp
  cases e with
  | normal =>
    refine ⟨⟨k + 1, by have := hp.2; omega, hp.1⟩, ?_⟩
    rw [waTI_ctr w g ad len cap k0 mx h, waTI_ctr w g ad len cap k0 mx hp.1]
    have := hp.2
    simp only [intOf, Int.toNat_natCast]
    omega
  | exit n => exact ⟨hp.1, hp.2.2 ▸ hp.2.1⟩
  | _ => exact hp.elim
end Go.Proofs.YtkdkkgbjfabifaaDoor
