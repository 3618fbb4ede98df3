/-
  WheelAhead: the loop over the acts; what follows it.
-/
import Derived.Test.YtkdkkgbjfabifaaDoorWaP
import Derived.Test.YtkdkkgbjfabifaaDoorHeld
import Derived.Deep.QuietTactic
import Derived.BigQuiet
import Derived.Deep.Cut
import Derived.Deep.CutRange
import Derived.Deep.CutBlock
import Derived.RegionTactic
import Derived.BigRegion
namespace Go.Proofs.YtkdkkgbjfabifaaDoor
open Go.RowKit Verge LQ
set_option linter.unusedVariables false
set_option linter.unusedSimpArgs false
attribute [local go_sem] Oper.semAt_some

/-- what holds at the head of the loop -/
def waOI (w : World) (g : Wh) (ad : Option Addr) (len cap : Nat) (k : Nat) (a : Act) (wr : World) : Prop :=
  ∃ (now : Nat) (Q P : List Ent), a.defers = [] ∧ a.tmps.size = 150 ∧ a.tmps.getD 1 undef = .slice ad len cap ∧ a.tmps.getD 5 undef = .pointer (some ⟨g.wb, 0, none⟩) ∧ a.tmps.getD 6 undef = .int .i64 (k : Nat) ∧ AhR w g k now Q P wr
theorem waOI_ctr {k : Nat} (w : World) (g : Wh) (ad : Option Addr) (len cap : Nat) {a : Act} {wr : World} (H : waOI w g ad len cap k a wr) : a.tmps.getD 6 undef = .int .i64 (k : Nat) := by
  obtain ⟨now, Q, P, -, -, -, -, h, -⟩ := H
  exact h
theorem wa_body_eq : loopIn 0 Tryd.f5 = (.seq (fstC (loopIn 0 Tryd.f5)) (.seq (.block 1 (blkIn 1 Tryd.f5)) (sndC (sndC (loopIn 0 Tryd.f5))))) := by kernel_rfl
set_option maxRecDepth 100000 in
set_option maxHeartbeats 0 in
theorem wa_step {k : Nat} (w : World) (g : Wh) (ad : Option Addr) (len cap : Nat) (h60 : len ≤ 60) (hk : k < len) (a : Act) (wr : World) (H : waM w g ad len cap k (k + 1) a wr) :
    Code.wp Tryd.prog (sndC (sndC (loopIn 0 Tryd.f5))) (Exit.then (fun a' w' => waOI w g ad len cap (k + 1) a' w' ∧ k < len) (Qx 0 (fun a' w' => waOI w g ad len cap k a' w' ∧ k = len))) a wr := by
  obtain ⟨t, ds⟩ := a
  obtain ⟨now, Q, P, hd', hz, h1, h5, h6, rel⟩ := H
  replace hd' : ds = [] := hd'
  subst hd'
  replace hz : t.size = 150 := hz
  replace h1 : t.getD 1 undef = .slice ad len cap := h1
  replace h5 : t.getD 5 undef = .pointer (some ⟨g.wb, 0, none⟩) := h5
  replace h6 : t.getD 6 undef = .int .i64 (k : Nat) := h6
  have REL := Lib.hid rel
  clear rel
  refine openFr150 (P := fun t => t.getD 1 undef = .slice ad len cap → t.getD 5 undef = .pointer (some ⟨g.wb, 0, none⟩) → t.getD 6 undef = .int .i64 (k : Nat) → Code.wp Tryd.prog (sndC (sndC (loopIn 0 Tryd.f5))) (Exit.then (fun a' w' => waOI w g ad len cap (k + 1) a' w' ∧ k < len) (Qx 0 (fun a' w' => waOI w g ad len cap k a' w' ∧ k = len))) ⟨t, []⟩ wr) ?_ t hz h1 h5 h6
  clear h1 h5 h6 hz t
  intro c0 c1 c2 c3 c4 c5 c6 c7 c8 c9 c10 c11 c12 c13 c14 c15 c16 c17 c18 c19 c20 c21 c22 c23 c24 c25 c26 c27 c28 c29 c30 c31 c32 c33 c34 c35 c36 c37 c38 c39 c40 c41 c42 c43 c44 c45 c46 c47 c48 c49 c50 c51 c52 c53 c54 c55 c56 c57 c58 c59 c60 c61 c62 c63 c64 c65 c66 c67 c68 c69 c70 c71 c72 c73 c74 c75 c76 c77 c78 c79 c80 c81 c82 c83 c84 c85 c86 c87 c88 c89 c90 c91 c92 c93 c94 c95 c96 c97 c98 c99 c100 c101 c102 c103 c104 c105 c106 c107 c108 c109 c110 c111 c112 c113 c114 c115 c116 c117 c118 c119 c120 c121 c122 c123 c124 c125 c126 c127 c128 c129 c130 c131 c132 c133 c134 c135 c136 c137 c138 c139 c140 c141 c142 c143 c144 c145 c146 c147 c148 c149 h1 h5 h6
  replace h1 : c1 = .slice ad len cap := h1
  replace h5 : c5 = .pointer (some ⟨g.wb, 0, none⟩) := h5
  replace h6 : c6 = .int .i64 (k : Nat) := h6
  subst h1
  subst h5
  subst h6
  conv => arg 2; whnf
  have hkb : (k : Int) < 60 := by omega
  go_wp2
  first | exact ⟨⟨_, _, _, rfl, rfl, rfl, rfl, rfl, REL.out⟩, hk⟩ | exact ⟨_, _, _, rfl, rfl, rfl, rfl, rfl, REL.out⟩
set_option maxRecDepth 100000 in
set_option maxHeartbeats 0 in
theorem waO_round {k : Nat} (w : World) (g : Wh) (ad : Option Addr) (len cap : Nat) (hv : IsTab [.i .i64, .i .i64, .i .u64] w ad len cap) (T : Tab w) (h60 : len ≤ 60) (a : Act) (wr : World) (hk : k ≤ len) (H : waOI w g ad len cap k a wr) :
    Code.wp Tryd.prog (loopIn 0 Tryd.f5) (Exit.then (fun a' w' => waOI w g ad len cap (k + 1) a' w' ∧ k < len) (Qx 0 (fun a' w' => waOI w g ad len cap k a' w' ∧ k = len))) a wr := by
  obtain ⟨t, ds⟩ := a
  obtain ⟨now, Q, P, hd', hz, h1, h5, h6, rel⟩ := H
  replace hd' : ds = [] := hd'
  subst hd'
  replace hz : t.size = 150 := hz
  replace h1 : t.getD 1 undef = .slice ad len cap := h1
  replace h5 : t.getD 5 undef = .pointer (some ⟨g.wb, 0, none⟩) := h5
  replace h6 : t.getD 6 undef = .int .i64 (k : Nat) := h6
  have REL := Lib.hid rel
  clear rel
  rw [wa_body_eq]
  refine openFr150 (P := fun t => t.getD 1 undef = .slice ad len cap → t.getD 5 undef = .pointer (some ⟨g.wb, 0, none⟩) → t.getD 6 undef = .int .i64 (k : Nat) → Code.wp Tryd.prog (.seq (fstC (loopIn 0 Tryd.f5)) (.seq (.block 1 (blkIn 1 Tryd.f5)) (sndC (sndC (loopIn 0 Tryd.f5))))) (Exit.then (fun a' w' => waOI w g ad len cap (k + 1) a' w' ∧ k < len) (Qx 0 (fun a' w' => waOI w g ad len cap k a' w' ∧ k = len))) ⟨t, []⟩ wr) ?_ t hz h1 h5 h6
  clear h1 h5 h6 hz t
  intro c0 c1 c2 c3 c4 c5 c6 c7 c8 c9 c10 c11 c12 c13 c14 c15 c16 c17 c18 c19 c20 c21 c22 c23 c24 c25 c26 c27 c28 c29 c30 c31 c32 c33 c34 c35 c36 c37 c38 c39 c40 c41 c42 c43 c44 c45 c46 c47 c48 c49 c50 c51 c52 c53 c54 c55 c56 c57 c58 c59 c60 c61 c62 c63 c64 c65 c66 c67 c68 c69 c70 c71 c72 c73 c74 c75 c76 c77 c78 c79 c80 c81 c82 c83 c84 c85 c86 c87 c88 c89 c90 c91 c92 c93 c94 c95 c96 c97 c98 c99 c100 c101 c102 c103 c104 c105 c106 c107 c108 c109 c110 c111 c112 c113 c114 c115 c116 c117 c118 c119 c120 c121 c122 c123 c124 c125 c126 c127 c128 c129 c130 c131 c132 c133 c134 c135 c136 c137 c138 c139 c140 c141 c142 c143 c144 c145 c146 c147 c148 c149 h1 h5 h6
  replace h1 : c1 = .slice ad len cap := h1
  replace h5 : c5 = .pointer (some ⟨g.wb, 0, none⟩) := h5
  replace h6 : c6 = .int .i64 (k : Nat) := h6
  subst h1
  subst h5
  subst h6
  refine wp_seq_k fun K hK => ?_
  have HK := Lib.hid hK
  clear hK
  conv => arg 2; whnf
  by_cases hlt : k < len
  · have hkz : (k : Int) < (len : Int) := by omega
    go_wp2
    refine HK.out _ _ ?_
    clear HK K
    refine wp_seq (wp_block (wp_mono (wa_act w g ad len cap hv T h60 hlt _ _ ⟨now, Q, P, rfl, rfl, rfl, rfl, rfl, REL.out⟩) ?_))
    intro e a' w' hp
    cases e with
    | normal => exact wa_step w g ad len cap h60 hlt a' w' hp
    | _ => exact hp.elim
  · obtain rfl : k = len := by omega
    go_wp2
    first | exact ⟨by first | rfl | trivial, ⟨_, _, _, rfl, rfl, rfl, rfl, rfl, REL.out⟩, by first | rfl | trivial⟩ | exact ⟨by first | rfl | trivial, ⟨_, _, _, rfl, rfl, rfl, rfl, rfl, REL.out⟩⟩ | exact ⟨_, _, _, rfl, rfl, rfl, rfl, rfl, REL.out⟩
theorem waO_loop (w : World) (g : Wh) (ad : Option Addr) (len cap : Nat) (hv : IsTab [.i .i64, .i .i64, .i .u64] w ad len cap) (T : Tab w) (h60 : len ≤ 60) (a : Act) (wr : World) (hb : 0 ≤ len) (H : waOI w g ad len cap 0 a wr) :
    Code.wp Tryd.prog (.loop (loopIn 0 Tryd.f5)) (Qx 0 (fun a' w' => waOI w g ad len cap len a' w')) a wr := by
  refine wp_loop (fun a' wr => ∃ k, k ≤ len ∧ waOI w g ad len cap k a' wr) (fun a' _ => len - (intOf (a'.tmps.getD 6 undef)).toNat) ⟨0, hb, H⟩ ?_
  rintro a' wr ⟨k, hk, h⟩
  refine wp_mono (waO_round w g ad len cap hv T h60 a' wr hk h) ?_
  intro e a2 w2 hp
  cases e with
  | normal =>
    refine ⟨⟨k + 1, by have := hp.2; omega, hp.1⟩, ?_⟩
    rw [waOI_ctr w g ad len cap h, waOI_ctr w g ad len cap hp.1]
    have := hp.2
    simp only [intOf, Int.toNat_natCast]
    omega
  | exit n => exact ⟨hp.1, hp.2.2 ▸ hp.2.1⟩
  | _ => exact hp.elim
set_option maxRecDepth 100000 in
set_option maxHeartbeats 0 in
theorem wa_end (w : World) (g : Wh) (ad : Option Addr) (len cap : Nat) (hv : IsTab [.i .i64, .i .i64, .i .u64] w ad len cap) (T : Tab w) (h60 : len ≤ 60)  (a : Act) (wr : World) (H : waOI w g ad len cap len a wr) :
    Code.wp Tryd.prog (aftIn 0 Tryd.f5) (bodyPost Tryd.prog Tryd.f5 (fun e w' => e = .returned (.bool true) ∧ Below w.heap.size w w')) a wr := by
  obtain ⟨t, ds⟩ := a
  obtain ⟨now, Q, P, hd', hz, h1, h5, h6, rel⟩ := H
  replace hd' : ds = [] := hd'
  subst hd'
  replace hz : t.size = 150 := hz
  replace h1 : t.getD 1 undef = .slice ad len cap := h1
  replace h5 : t.getD 5 undef = .pointer (some ⟨g.wb, 0, none⟩) := h5
  replace h6 : t.getD 6 undef = .int .i64 (len : Nat) := h6
  have REL := Lib.hid rel
  clear rel
  refine openFr150 (P := fun t => t.getD 1 undef = .slice ad len cap → t.getD 5 undef = .pointer (some ⟨g.wb, 0, none⟩) → t.getD 6 undef = .int .i64 (len : Nat) → Code.wp Tryd.prog (aftIn 0 Tryd.f5) (bodyPost Tryd.prog Tryd.f5 (fun e w' => e = .returned (.bool true) ∧ Below w.heap.size w w')) ⟨t, []⟩ wr) ?_ t hz h1 h5 h6
  clear h1 h5 h6 hz t
  intro c0 c1 c2 c3 c4 c5 c6 c7 c8 c9 c10 c11 c12 c13 c14 c15 c16 c17 c18 c19 c20 c21 c22 c23 c24 c25 c26 c27 c28 c29 c30 c31 c32 c33 c34 c35 c36 c37 c38 c39 c40 c41 c42 c43 c44 c45 c46 c47 c48 c49 c50 c51 c52 c53 c54 c55 c56 c57 c58 c59 c60 c61 c62 c63 c64 c65 c66 c67 c68 c69 c70 c71 c72 c73 c74 c75 c76 c77 c78 c79 c80 c81 c82 c83 c84 c85 c86 c87 c88 c89 c90 c91 c92 c93 c94 c95 c96 c97 c98 c99 c100 c101 c102 c103 c104 c105 c106 c107 c108 c109 c110 c111 c112 c113 c114 c115 c116 c117 c118 c119 c120 c121 c122 c123 c124 c125 c126 c127 c128 c129 c130 c131 c132 c133 c134 c135 c136 c137 c138 c139 c140 c141 c142 c143 c144 c145 c146 c147 c148 c149 h1 h5 h6
  replace h1 : c1 = .slice ad len cap := h1
  replace h5 : c5 = .pointer (some ⟨g.wb, 0, none⟩) := h5
  replace h6 : c6 = .int .i64 (len : Nat) := h6
  subst h1
  subst h5
  subst h6
  conv => arg 2; whnf
  clear hv T
  go_wp2
  go_ret
  exact ⟨rfl, REL.out.d.c.below (Nat.le_refl _) (fun _ _ e => e.elim)⟩
end Go.Proofs.YtkdkkgbjfabifaaDoor
