import Derived.Test.YtldnmpiaofppgaaDoorCSnCode
import Derived.Test.YtldnmpiaofppgaaDoorK07
import Derived.Deep.QuietTactic
import Derived.BigQuiet
import Derived.Deep.Cut
import Derived.Deep.CutRange
import Derived.Deep.CutBlock
import Derived.RegionTactic
import Derived.BigRegion
/-
  ShardNext: the loop that turns.
-/
namespace Go.Proofs.YtldnmpiaofppgaaDoor
open Go.RowKit Verge Go.Proofs.YtldnmpiaofppgaaDoor.LT
set_option linter.unusedVariables false
set_option linter.unusedSimpArgs false
attribute [local go_sem] Oper.semAt_some

/-- what holds at the head of the loop -/
def snBI (w : World) (s : Nat) (g : Wh) (ad : Option Addr) (len cap : Nat) (A : List Ac) (P : List Ent) (tl : List Nat) (ta : Option Addr) (tn tc i now0 mm tk : Nat) (x : Ac) (k : Nat) (a : Act) (wr : World) : Prop :=
  ∃ (Q : List Ent), a.defers = [] ∧ a.tmps.size = 120 ∧ a.tmps.getD 0 undef = .slice ad len cap ∧ a.tmps.getD 3 undef = .pointer (some ⟨s, 0, none⟩) ∧ a.tmps.getD 5 undef = .slice ta tn tc ∧ a.tmps.getD 6 undef = .int .i64 (i : Nat) ∧ a.tmps.getD 10 undef = .int .i64 (k : Nat) ∧ NxS w wr s g (now0 + k) Q P tl ta tn tc
theorem snBI_ctr {k : Nat} (w : World) (s : Nat) (g : Wh) (ad : Option Addr) (len cap : Nat) (A : List Ac) (P : List Ent) (tl : List Nat) (ta : Option Addr) (tn tc i now0 mm tk : Nat) (x : Ac) {a : Act} {wr : World} (H : snBI w s g ad len cap A P tl ta tn tc i now0 mm tk x k a wr) : a.tmps.getD 10 undef = .int .i64 (k : Nat) := by
  obtain ⟨Q, -, -, -, -, -, -, h, -⟩ := H
  exact h
set_option maxRecDepth 100000 in
set_option maxHeartbeats 0 in
theorem snB_round {k : Nat} (w : World) (s : Nat) (g : Wh) (ad : Option Addr) (len cap : Nat) (A : List Ac) (P : List Ent) (tl : List Nat) (ta : Option Addr) (tn tc i now0 mm tk : Nat) (x : Ac) (hs : ASrc w ad A) (hA : A.length = len) (ok : ∀ x, x ∈ A → x.ok) (h60 : len ≤ 60) (hc : len ≤ cap ∧ cap ≤ maxLen) (T : Tab w) (hi : i < len) (hx : A[i]? = some x) (hm1 : (if 0 < x.n then x.n else 0) = (mm : Int)) (htk : ((mm : Int)).tmod 130 = (tk : Int)) (htk2 : tk < 130) (hn0 : now0 ≤ 10000) (htn : tn ≤ 60) (a : Act) (wr : World) (hk : k ≤ tk) (H : snBI w s g ad len cap A P tl ta tn tc i now0 mm tk x k a wr) :
    Code.wp Tryd.prog (loopIn 2 Tryd.f7) (Exit.then (fun a' w' => snBI w s g ad len cap A P tl ta tn tc i now0 mm tk x (k + 1) a' w' ∧ k < tk) (Qx 2 (fun a' w' => snBI w s g ad len cap A P tl ta tn tc i now0 mm tk x k a' w' ∧ k = tk))) a wr := by
  obtain ⟨t, ds⟩ := a
  obtain ⟨Q, hd', hz, h0, h3, h5, h6, h10, rel⟩ := H
  replace hd' : ds = [] := hd'
  subst hd'
  replace hz : t.size = 120 := hz
  replace h0 : t.getD 0 undef = .slice ad len cap := h0
  replace h3 : t.getD 3 undef = .pointer (some ⟨s, 0, none⟩) := h3
  replace h5 : t.getD 5 undef = .slice ta tn tc := h5
  replace h6 : t.getD 6 undef = .int .i64 (i : Nat) := h6
  replace h10 : t.getD 10 undef = .int .i64 (k : Nat) := h10
  have REL := Lib.hid rel
  clear rel
  refine openFr120 (P := fun t => t.getD 0 undef = .slice ad len cap → t.getD 3 undef = .pointer (some ⟨s, 0, none⟩) → t.getD 5 undef = .slice ta tn tc → t.getD 6 undef = .int .i64 (i : Nat) → t.getD 10 undef = .int .i64 (k : Nat) → Code.wp Tryd.prog (loopIn 2 Tryd.f7) (Exit.then (fun a' w' => snBI w s g ad len cap A P tl ta tn tc i now0 mm tk x (k + 1) a' w' ∧ k < tk) (Qx 2 (fun a' w' => snBI w s g ad len cap A P tl ta tn tc i now0 mm tk x k a' w' ∧ k = tk))) ⟨t, []⟩ wr) ?_ t hz h0 h3 h5 h6 h10
  clear h0 h3 h5 h6 h10 hz t
  intro c0 c1 c2 c3 c4 c5 c6 c7 c8 c9 c10 c11 c12 c13 c14 c15 c16 c17 c18 c19 c20 c21 c22 c23 c24 c25 c26 c27 c28 c29 c30 c31 c32 c33 c34 c35 c36 c37 c38 c39 c40 c41 c42 c43 c44 c45 c46 c47 c48 c49 c50 c51 c52 c53 c54 c55 c56 c57 c58 c59 c60 c61 c62 c63 c64 c65 c66 c67 c68 c69 c70 c71 c72 c73 c74 c75 c76 c77 c78 c79 c80 c81 c82 c83 c84 c85 c86 c87 c88 c89 c90 c91 c92 c93 c94 c95 c96 c97 c98 c99 c100 c101 c102 c103 c104 c105 c106 c107 c108 c109 c110 c111 c112 c113 c114 c115 c116 c117 c118 c119 h0 h3 h5 h6 h10
  replace h0 : c0 = .slice ad len cap := h0
  replace h3 : c3 = .pointer (some ⟨s, 0, none⟩) := h3
  replace h5 : c5 = .slice ta tn tc := h5
  replace h6 : c6 = .int .i64 (i : Nat) := h6
  replace h10 : c10 = .int .i64 (k : Nat) := h10
  subst h0
  subst h3
  subst h5
  subst h6
  subst h10
  conv => arg 2; whnf
  have htkz : (tk : Int) < 130 := by omega
  have hiz : (i : Int) < (len : Int) := by omega
  have hiz0 : (0 : Int) ≤ (i : Int) := by omega
  obtain ⟨b, o, rfl, kc⟩ := (hs.kept REL.out.h.d.c (fun _ _ e => e)).form (by omega)
  have q1 := (kc i x hx).n
  clear kc hs hA ok T hx
  by_cases hlt : k < tk
  · have hkz : (k : Int) < (tk : Int) := by omega
    have hkz0 : (0 : Int) ≤ (k : Int) := by omega
    go_wp2_with fail
    refine (REL.out.h.turn (by omega) (by have := REL.out.l; omega)).mono ?_
    rintro e w5 ⟨a5, cap5, rfl, -, -, h5, c5⟩
    have NX := Lib.hid (REL.out.turn h5 c5)
    clear h5 c5 REL q1
    go_wp2
    first | exact ⟨⟨_, rfl, rfl, rfl, rfl, rfl, rfl, rfl, NX.out⟩, hlt⟩ | exact ⟨_, rfl, rfl, rfl, rfl, rfl, rfl, rfl, NX.out⟩
  · obtain rfl : k = tk := by omega
    go_wp2
    exact ⟨by first | rfl | trivial, ⟨_, rfl, rfl, rfl, rfl, rfl, rfl, rfl, REL.out⟩, by first | rfl | trivial⟩
theorem snB_loop (w : World) (s : Nat) (g : Wh) (ad : Option Addr) (len cap : Nat) (A : List Ac) (P : List Ent) (tl : List Nat) (ta : Option Addr) (tn tc i now0 mm tk : Nat) (x : Ac) (hs : ASrc w ad A) (hA : A.length = len) (ok : ∀ x, x ∈ A → x.ok) (h60 : len ≤ 60) (hc : len ≤ cap ∧ cap ≤ maxLen) (T : Tab w) (hi : i < len) (hx : A[i]? = some x) (hm1 : (if 0 < x.n then x.n else 0) = (mm : Int)) (htk : ((mm : Int)).tmod 130 = (tk : Int)) (htk2 : tk < 130) (hn0 : now0 ≤ 10000) (htn : tn ≤ 60) (a : Act) (wr : World) (hb : 0 ≤ tk) (H : snBI w s g ad len cap A P tl ta tn tc i now0 mm tk x 0 a wr) :
    Code.wp Tryd.prog (.loop (loopIn 2 Tryd.f7)) (Qx 2 (fun a' w' => snBI w s g ad len cap A P tl ta tn tc i now0 mm tk x tk a' w')) a wr := by
  refine wp_loop (fun a' wr => ∃ k, k ≤ tk ∧ snBI w s g ad len cap A P tl ta tn tc i now0 mm tk x k a' wr) (fun a' _ => tk - (intOf (a'.tmps.getD 10 undef)).toNat) ⟨0, hb, H⟩ ?_
  rintro a' wr ⟨k, hk, h⟩
  refine wp_mono (snB_round w s g ad len cap A P tl ta tn tc i now0 mm tk x hs hA ok h60 hc T hi hx hm1 htk htk2 hn0 htn a' wr hk h) ?_
  intro e a2 w2 hp
  cases e with
  | normal =>
    refine ⟨⟨k + 1, by have := hp.2; omega, hp.1⟩, ?_⟩
    rw [snBI_ctr w s g ad len cap A P tl ta tn tc i now0 mm tk x h, snBI_ctr w s g ad len cap A P tl ta tn tc i now0 mm tk x hp.1]
    have := hp.2
    simp only [intOf, Int.toNat_natCast]
    omega
  | exit n => exact ⟨hp.1, hp.2.2 ▸ hp.2.1⟩
  | _ => exact hp.elim
end Go.Proofs.YtldnmpiaofppgaaDoor
