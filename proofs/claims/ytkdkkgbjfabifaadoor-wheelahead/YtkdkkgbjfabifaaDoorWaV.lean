/-
  WheelAhead: the loop over the levels.
-/
import Derived.Test.YtkdkkgbjfabifaaDoorWaS
import Derived.Test.YtkdkkgbjfabifaaDoorHeld
import Derived.Deep.QuietTactic
import Derived.BigQuiet
import Derived.Deep.Cut
import Derived.Deep.CutRange
import Derived.Deep.CutBlock
import Derived.RegionTactic
import Derived.BigRegion
namespace Go.Proofs.YtkdkkgbjfabifaaDoor
open Go.RowKit Verge LQ
set_option linter.unusedVariables false
set_option linter.unusedSimpArgs false
attribute [local go_sem] Oper.semAt_some

/-- what holds at the head of the loop -/
def waVI (w : World) (g : Wh) (ad : Option Addr) (len cap : Nat) (k0 : Nat) (now : Nat) (Q P : List Ent) (k : Nat) (a : Act) (wr : World) : Prop :=
  a.defers = [] ∧ a.tmps.size = 150 ∧ a.tmps.getD 1 undef = .slice ad len cap ∧ a.tmps.getD 5 undef = .pointer (some ⟨g.wb, 0, none⟩) ∧ a.tmps.getD 6 undef = .int .i64 (k0 : Nat) ∧ a.tmps.getD 8 undef = .int .i64 ((nS Q now (64 * k) : Nat) : Int) ∧ a.tmps.getD 9 undef = .int .i64 (k : Nat) ∧ AhR w g (k0 + 1) now Q P wr
theorem waVI_ctr {k : Nat} (w : World) (g : Wh) (ad : Option Addr) (len cap : Nat) (k0 : Nat) (now : Nat) (Q P : List Ent) {a : Act} {wr : World} (H : waVI w g ad len cap k0 now Q P k a wr) : a.tmps.getD 9 undef = .int .i64 (k : Nat) := by
  obtain ⟨-, -, -, -, -, -, h, -⟩ := H
  exact h
set_option maxRecDepth 100000 in
set_option maxHeartbeats 0 in
theorem waV_round {k : Nat} (w : World) (g : Wh) (ad : Option Addr) (len cap : Nat) (k0 : Nat) (now : Nat) (Q P : List Ent) (hv : IsTab [.i .i64, .i .i64, .i .u64] w ad len cap) (T : Tab w) (h60 : len ≤ 60) (hk0 : k0 < len) (a : Act) (wr : World) (hk : k ≤ 4) (H : waVI w g ad len cap k0 now Q P k a wr) :
    Code.wp Tryd.prog (loopIn 4 Tryd.f5) (Exit.then (fun a' w' => waVI w g ad len cap k0 now Q P (k + 1) a' w' ∧ k < 4) (Qx 4 (fun a' w' => waVI w g ad len cap k0 now Q P k a' w' ∧ k = 4))) a wr := by
  obtain ⟨t, ds⟩ := a
  obtain ⟨hd', hz, h1, h5, h6, h8, h9, rel⟩ := H
  replace hd' : ds = [] := hd'
  subst hd'
  replace hz : t.size = 150 := hz
  replace h1 : t.getD 1 undef = .slice ad len cap := h1
  replace h5 : t.getD 5 undef = .pointer (some ⟨g.wb, 0, none⟩) := h5
  replace h6 : t.getD 6 undef = .int .i64 (k0 : Nat) := h6
  replace h8 : t.getD 8 undef = .int .i64 ((nS Q now (64 * k) : Nat) : Int) := h8
  replace h9 : t.getD 9 undef = .int .i64 (k : Nat) := h9
  have REL := Lib.hid rel
  clear rel
  refine openFr150 (P := fun t => t.getD 1 undef = .slice ad len cap → t.getD 5 undef = .pointer (some ⟨g.wb, 0, none⟩) → t.getD 6 undef = .int .i64 (k0 : Nat) → t.getD 8 undef = .int .i64 ((nS Q now (64 * k) : Nat) : Int) → t.getD 9 undef = .int .i64 (k : Nat) → Code.wp Tryd.prog (loopIn 4 Tryd.f5) (Exit.then (fun a' w' => waVI w g ad len cap k0 now Q P (k + 1) a' w' ∧ k < 4) (Qx 4 (fun a' w' => waVI w g ad len cap k0 now Q P k a' w' ∧ k = 4))) ⟨t, []⟩ wr) ?_ t hz h1 h5 h6 h8 h9
  clear h1 h5 h6 h8 h9 hz t
  intro c0 c1 c2 c3 c4 c5 c6 c7 c8 c9 c10 c11 c12 c13 c14 c15 c16 c17 c18 c19 c20 c21 c22 c23 c24 c25 c26 c27 c28 c29 c30 c31 c32 c33 c34 c35 c36 c37 c38 c39 c40 c41 c42 c43 c44 c45 c46 c47 c48 c49 c50 c51 c52 c53 c54 c55 c56 c57 c58 c59 c60 c61 c62 c63 c64 c65 c66 c67 c68 c69 c70 c71 c72 c73 c74 c75 c76 c77 c78 c79 c80 c81 c82 c83 c84 c85 c86 c87 c88 c89 c90 c91 c92 c93 c94 c95 c96 c97 c98 c99 c100 c101 c102 c103 c104 c105 c106 c107 c108 c109 c110 c111 c112 c113 c114 c115 c116 c117 c118 c119 c120 c121 c122 c123 c124 c125 c126 c127 c128 c129 c130 c131 c132 c133 c134 c135 c136 c137 c138 c139 c140 c141 c142 c143 c144 c145 c146 c147 c148 c149 h1 h5 h6 h8 h9
  replace h1 : c1 = .slice ad len cap := h1
  replace h5 : c5 = .pointer (some ⟨g.wb, 0, none⟩) := h5
  replace h6 : c6 = .int .i64 (k0 : Nat) := h6
  replace h8 : c8 = .int .i64 ((nS Q now (64 * k) : Nat) : Int) := h8
  replace h9 : c9 = .int .i64 (k : Nat) := h9
  subst h1
  subst h5
  subst h6
  subst h8
  subst h9
  conv => arg 2; whnf
  have HV := Lib.hid hv
  have TB := Lib.hid T
  clear hv T
  by_cases hlt : k < 4
  · have hkz : (k : Int) < 4 := by omega
    have R0 := REL
    clear REL
    go_wp2
    refine wp_mono (waS_loop w g ad len cap k0 now Q P k HV.out TB.out h60 hk0 hlt _ _ (by omega) ?hI) ?_
    case hI => exact ⟨rfl, rfl, rfl, rfl, rfl, rfl, rfl, rfl, R0.out⟩
    clear R0
    intro e a' w9 hp
    obtain ⟨rfl, H⟩ := Qx_inv hp
    clear hp
    obtain ⟨t, ds⟩ := a'
    obtain ⟨hd', hz, h1, h5, h6, h8, h9, h10, rel⟩ := H
    replace hd' : ds = [] := hd'
    subst hd'
    replace hz : t.size = 150 := hz
    replace h1 : t.getD 1 undef = .slice ad len cap := h1
    replace h5 : t.getD 5 undef = .pointer (some ⟨g.wb, 0, none⟩) := h5
    replace h6 : t.getD 6 undef = .int .i64 (k0 : Nat) := h6
    replace h8 : t.getD 8 undef = .int .i64 ((nS Q now (64 * k + 64) : Nat) : Int) := h8
    replace h9 : t.getD 9 undef = .int .i64 (k : Nat) := h9
    replace h10 : t.getD 10 undef = .int .i64 (64 : Nat) := h10
    have REL := Lib.hid rel
    clear rel
    refine openFr150 (P := fun t => t.getD 1 undef = .slice ad len cap → t.getD 5 undef = .pointer (some ⟨g.wb, 0, none⟩) → t.getD 6 undef = .int .i64 (k0 : Nat) → t.getD 8 undef = .int .i64 ((nS Q now (64 * k + 64) : Nat) : Int) → t.getD 9 undef = .int .i64 (k : Nat) → t.getD 10 undef = .int .i64 (64 : Nat) → Exit.inBlock 6 _ (.exit 6) ⟨t, []⟩ w9) ?_ t hz h1 h5 h6 h8 h9 h10
    clear h1 h5 h6 h8 h9 h10 hz t
    intro c0 c1 c2 c3 c4 c5 c6 c7 c8 c9 c10 c11 c12 c13 c14 c15 c16 c17 c18 c19 c20 c21 c22 c23 c24 c25 c26 c27 c28 c29 c30 c31 c32 c33 c34 c35 c36 c37 c38 c39 c40 c41 c42 c43 c44 c45 c46 c47 c48 c49 c50 c51 c52 c53 c54 c55 c56 c57 c58 c59 c60 c61 c62 c63 c64 c65 c66 c67 c68 c69 c70 c71 c72 c73 c74 c75 c76 c77 c78 c79 c80 c81 c82 c83 c84 c85 c86 c87 c88 c89 c90 c91 c92 c93 c94 c95 c96 c97 c98 c99 c100 c101 c102 c103 c104 c105 c106 c107 c108 c109 c110 c111 c112 c113 c114 c115 c116 c117 c118 c119 c120 c121 c122 c123 c124 c125 c126 c127 c128 c129 c130 c131 c132 c133 c134 c135 c136 c137 c138 c139 c140 c141 c142 c143 c144 c145 c146 c147 c148 c149 h1 h5 h6 h8 h9 h10
    replace h1 : c1 = .slice ad len cap := h1
    replace h5 : c5 = .pointer (some ⟨g.wb, 0, none⟩) := h5
    replace h6 : c6 = .int .i64 (k0 : Nat) := h6
    replace h8 : c8 = .int .i64 ((nS Q now (64 * k + 64) : Nat) : Int) := h8
    replace h9 : c9 = .int .i64 (k : Nat) := h9
    replace h10 : c10 = .int .i64 (64 : Nat) := h10
    subst h1
    subst h5
    subst h6
    subst h8
    subst h9
    subst h10
    have R9 := REL
    clear REL
    go_wp2
    first | exact ⟨⟨rfl, rfl, rfl, rfl, rfl, rfl, rfl, R9.out⟩, hlt⟩ | exact ⟨rfl, rfl, rfl, rfl, rfl, rfl, rfl, R9.out⟩
  · obtain rfl : k = 4 := by omega
    go_wp2
    first | exact ⟨by first | rfl | trivial, ⟨rfl, rfl, rfl, rfl, rfl, rfl, rfl, REL.out⟩, by first | rfl | trivial⟩ | exact ⟨by first | rfl | trivial, ⟨rfl, rfl, rfl, rfl, rfl, rfl, rfl, REL.out⟩⟩ | exact ⟨rfl, rfl, rfl, rfl, rfl, rfl, rfl, REL.out⟩
theorem waV_loop (w : World) (g : Wh) (ad : Option Addr) (len cap : Nat) (k0 : Nat) (now : Nat) (Q P : List Ent) (hv : IsTab [.i .i64, .i .i64, .i .u64] w ad len cap) (T : Tab w) (h60 : len ≤ 60) (hk0 : k0 < len) (a : Act) (wr : World) (hb : 0 ≤ 4) (H : waVI w g ad len cap k0 now Q P 0 a wr) :
    Code.wp Tryd.prog (.loop (loopIn 4 Tryd.f5)) (Qx 4 (fun a' w' => waVI w g ad len cap k0 now Q P 4 a' w')) a wr := by
  refine wp_loop (fun a' wr => ∃ k, k ≤ 4 ∧ waVI w g ad len cap k0 now Q P k a' wr) (fun a' _ => 4 - (intOf (a'.tmps.getD 9 undef)).toNat) ⟨0, hb, H⟩ ?_
  rintro a' wr ⟨k, hk, h⟩
  refine wp_mono (waV_round w g ad len cap k0 now Q P hv T h60 hk0 a' wr hk h) ?_
  intro e a2 w2 hp
  cases e with
  | normal =>
    refine ⟨⟨k + 1, by have := hp.2; omega, hp.1⟩, ?_⟩
    rw [waVI_ctr w g ad len cap k0 now Q P h, waVI_ctr w g ad len cap k0 now Q P hp.1]
    have := hp.2
    simp only [intOf, Int.toNat_natCast]
    omega
  | exit n => exact ⟨hp.1, hp.2.2 ▸ hp.2.1⟩
  | _ => exact hp.elim
end Go.Proofs.YtkdkkgbjfabifaaDoor
