/-
  WheelNext: the loop that ticks; what follows the loops.
-/
import Derived.Test.YtkdkkgbjfabifaaDoorWnIns
import Derived.Test.YtkdkkgbjfabifaaDoorHeld
import Derived.Deep.QuietTactic
import Derived.BigQuiet
import Derived.Deep.Cut
import Derived.Deep.CutRange
import Derived.Deep.CutBlock
import Derived.RegionTactic
import Derived.BigRegion
namespace Go.Proofs.YtkdkkgbjfabifaaDoor
open Go.RowKit Verge LP
set_option linter.unusedVariables false
set_option linter.unusedSimpArgs false
attribute [local go_sem] Oper.semAt_some

/-- what holds at the head of the loop -/
def wnBI (w : World) (g : Wh) (ad : Option Addr) (n0 len cap : Nat) (zs : List Int) (lo : Nat) (k : Nat) (a : Act) (wr : World) : Prop :=
  ∃ (Q P : List Ent), a.defers = [] ∧ a.tmps.size = 93 ∧ a.tmps.getD 0 undef = .int .u64 (n0 : Nat) ∧ a.tmps.getD 1 undef = .slice ad len cap ∧ a.tmps.getD 5 undef = .pointer (some ⟨g.wb, 0, none⟩) ∧ a.tmps.getD 6 undef = .int .u16 (lo : Nat) ∧ a.tmps.getD 8 undef = .int .i64 (k : Nat) ∧ NxB w g n0 k lo Q P wr
theorem wnBI_ctr {k : Nat} (w : World) (g : Wh) (ad : Option Addr) (n0 len cap : Nat) (zs : List Int) (lo : Nat) {a : Act} {wr : World} (H : wnBI w g ad n0 len cap zs lo k a wr) : a.tmps.getD 8 undef = .int .i64 (k : Nat) := by
  obtain ⟨Q, P, -, -, -, -, -, -, h, -⟩ := H
  exact h
set_option maxRecDepth 100000 in
set_option maxHeartbeats 0 in
theorem wnB_round {k : Nat} (w : World) (g : Wh) (ad : Option Addr) (n0 len cap : Nat) (zs : List Int) (lo : Nat) (hv : IsRow .u16 w ad len cap zs) (T : Tab w) (h60 : len ≤ 60) (bn : n0 ≤ 18446744073709351615) (bl : lo ≤ 65535) (a : Act) (wr : World) (hk : k ≤ (lo + 1)) (H : wnBI w g ad n0 len cap zs lo k a wr) :
    Code.wp Tryd.prog (loopIn 2 Tryd.f6) (Exit.then (fun a' w' => wnBI w g ad n0 len cap zs lo (k + 1) a' w' ∧ k < (lo + 1)) (Qx 2 (fun a' w' => wnBI w g ad n0 len cap zs lo k a' w' ∧ k = (lo + 1)))) a wr := by
  obtain ⟨t, ds⟩ := a
  obtain ⟨Q, P, hd', hz, h0, h1, h5, h6, h8, rel⟩ := H
  replace hd' : ds = [] := hd'
  subst hd'
  replace hz : t.size = 93 := hz
  replace h0 : t.getD 0 undef = .int .u64 (n0 : Nat) := h0
  replace h1 : t.getD 1 undef = .slice ad len cap := h1
  replace h5 : t.getD 5 undef = .pointer (some ⟨g.wb, 0, none⟩) := h5
  replace h6 : t.getD 6 undef = .int .u16 (lo : Nat) := h6
  replace h8 : t.getD 8 undef = .int .i64 (k : Nat) := h8
  have REL := Lib.hid rel
  clear rel
  refine openFr93 (P := fun t => t.getD 0 undef = .int .u64 (n0 : Nat) → t.getD 1 undef = .slice ad len cap → t.getD 5 undef = .pointer (some ⟨g.wb, 0, none⟩) → t.getD 6 undef = .int .u16 (lo : Nat) → t.getD 8 undef = .int .i64 (k : Nat) → Code.wp Tryd.prog (loopIn 2 Tryd.f6) (Exit.then (fun a' w' => wnBI w g ad n0 len cap zs lo (k + 1) a' w' ∧ k < (lo + 1)) (Qx 2 (fun a' w' => wnBI w g ad n0 len cap zs lo k a' w' ∧ k = (lo + 1)))) ⟨t, []⟩ wr) ?_ t hz h0 h1 h5 h6 h8
  clear h0 h1 h5 h6 h8 hz t
  intro c0 c1 c2 c3 c4 c5 c6 c7 c8 c9 c10 c11 c12 c13 c14 c15 c16 c17 c18 c19 c20 c21 c22 c23 c24 c25 c26 c27 c28 c29 c30 c31 c32 c33 c34 c35 c36 c37 c38 c39 c40 c41 c42 c43 c44 c45 c46 c47 c48 c49 c50 c51 c52 c53 c54 c55 c56 c57 c58 c59 c60 c61 c62 c63 c64 c65 c66 c67 c68 c69 c70 c71 c72 c73 c74 c75 c76 c77 c78 c79 c80 c81 c82 c83 c84 c85 c86 c87 c88 c89 c90 c91 c92 h0 h1 h5 h6 h8
  replace h0 : c0 = .int .u64 (n0 : Nat) := h0
  replace h1 : c1 = .slice ad len cap := h1
  replace h5 : c5 = .pointer (some ⟨g.wb, 0, none⟩) := h5
  replace h6 : c6 = .int .u16 (lo : Nat) := h6
  replace h8 : c8 = .int .i64 (k : Nat) := h8
  subst h0
  subst h1
  subst h5
  subst h6
  subst h8
  conv => arg 2; whnf
  have TB := Lib.hid T
  have b3 : (n0 : Int) ≤ 18446744073709351615 := by omega
  have bl2 : (lo : Int) ≤ 65535 := by omega
  have b1 : (n0 : Int) + 1 + (lo : Int) ≤ 18446744073709551615 := by omega
  clear hv T
  by_cases hlt : k ≤ lo
  · have hkz : (k : Int) ≤ (lo : Int) := by omega
    have hM := REL.out.m hlt
    have HM := Lib.hid hM
    clear hM
    go_wp2_with fail
    refine (next_of REL.out.d.q (TB.out.keeps REL.out.d.c (fun e => e)) (by have := REL.out.n; omega)).mono ?_
    rintro e w5 ⟨hE, c5⟩
    obtain rfl : e = .returned (.tuple #[.int .u64 ((n0 + 1 + lo : Nat) : Int), .int .i64 0]) := by
      rcases hE with ⟨h0, -⟩ | ⟨m, hm, rfl⟩
      · obtain ⟨⟨x, hx, -⟩, -⟩ := HM.out
        rw [h0] at hx; cases hx
      · rw [IsMin.unique hm HM.out]
    rw [show ((n0 + 1 + lo : Nat) : Int) = (n0 : Int) + 1 + (lo : Int) by omega]
    replace REL : Hid (NxB w g n0 k lo Q P w5) := Lib.hid ⟨REL.out.d.quiet c5, REL.out.n, REL.out.m⟩
    clear hE c5
    by_cases he : k = lo
    · subst he
      go_wp2_with fail
      refine (REL.out.d.advance (by omega) (by have := REL.out.n; omega)).mono ?_
      rintro e w6 ⟨a6, cap6, rfl, -, -, d6, -⟩
      obtain ⟨m, hm⟩ : ∃ m, m = (dueQ Q (n0 + k + 1)).length := ⟨_, rfl⟩
      have hpos : 0 < m := by
        obtain ⟨⟨x, hx, hd⟩, -⟩ := HM.out
        rw [hm]
        exact List.length_pos_iff.2 (List.ne_nil_of_mem (List.mem_filter.2 ⟨hx, by simp; omega⟩))
      rw [← hm]
      have hpz : (0 : Int) < (m : Int) := by omega
      clear hm
      have NX : Hid (NxB w g n0 (k + 1) k (leftQ Q (n0 + k + 1)) P w6) := Lib.hid ⟨d6, by have := left_len (Q := Q) (t := n0 + k + 1); have := REL.out.n; omega, fun h => by omega⟩
      clear d6 REL
      go_wp2
      exact ⟨⟨_, _, rfl, rfl, rfl, rfl, rfl, rfl, rfl, NX.out⟩, by omega⟩
    · have hlt2 : (k : Int) < (lo : Int) := by omega
      have hne : ¬ (k : Int) = (lo : Int) := by omega
      go_wp2_with fail
      refine (REL.out.d.advance (by omega) (by have := REL.out.n; omega)).mono ?_
      rintro e w6 ⟨a6, cap6, rfl, -, -, d6, -⟩
      have hm : (dueQ Q (n0 + k + 1)).length = 0 := by
        rw [List.length_eq_zero_iff]
        exact List.filter_eq_nil_iff.2 fun x hx hc => by have := HM.out.2 x hx; simp at hc; omega
      rw [hm]
      clear hm
      have NX : Hid (NxB w g n0 (k + 1) lo (leftQ Q (n0 + k + 1)) P w6) := by
        refine Lib.hid ⟨d6, by have := left_len (Q := Q) (t := n0 + k + 1); have := REL.out.n; omega, fun h => ?_⟩
        obtain ⟨⟨x, hx, hd⟩, h2⟩ := HM.out
        exact ⟨⟨x, List.mem_filter.2 ⟨hx, by simp; omega⟩, hd⟩, fun y hy => h2 y (List.mem_filter.1 hy).1⟩
      clear d6 REL
      go_wp2
      exact ⟨⟨_, _, rfl, rfl, rfl, rfl, rfl, rfl, rfl, NX.out⟩, by omega⟩
  · obtain rfl : k = lo + 1 := by omega
    have hz : (lo : Int) < (lo : Int) + 1 := by omega
    go_wp2
    exact ⟨by first | rfl | trivial, ⟨_, _, rfl, rfl, rfl, rfl, rfl, rfl, rfl, REL.out⟩, by first | rfl | trivial⟩
theorem wnB_loop (w : World) (g : Wh) (ad : Option Addr) (n0 len cap : Nat) (zs : List Int) (lo : Nat) (hv : IsRow .u16 w ad len cap zs) (T : Tab w) (h60 : len ≤ 60) (bn : n0 ≤ 18446744073709351615) (bl : lo ≤ 65535) (a : Act) (wr : World) (hb : 0 ≤ (lo + 1)) (H : wnBI w g ad n0 len cap zs lo 0 a wr) :
    Code.wp Tryd.prog (.loop (loopIn 2 Tryd.f6)) (Qx 2 (fun a' w' => wnBI w g ad n0 len cap zs lo (lo + 1) a' w')) a wr := by
  refine wp_loop (fun a' wr => ∃ k, k ≤ (lo + 1) ∧ wnBI w g ad n0 len cap zs lo k a' wr) (fun a' _ => (lo + 1) - (intOf (a'.tmps.getD 8 undef)).toNat) ⟨0, hb, H⟩ ?_
  rintro a' wr ⟨k, hk, h⟩
  refine wp_mono (wnB_round w g ad n0 len cap zs lo hv T h60 bn bl a' wr hk h) ?_
  intro e a2 w2 hp
  cases e with
  | normal =>
    refine ⟨⟨k + 1, by have := hp.2; omega, hp.1⟩, ?_⟩
    rw [wnBI_ctr w g ad n0 len cap zs lo h, wnBI_ctr w g ad n0 len cap zs lo hp.1]
    have := hp.2
    simp only [intOf, Int.toNat_natCast]
    omega
  | exit n => exact ⟨hp.1, hp.2.2 ▸ hp.2.1⟩
  | _ => exact hp.elim
set_option maxRecDepth 100000 in
set_option maxHeartbeats 0 in
theorem wn_end (w : World) (g : Wh) (ad : Option Addr) (n0 len cap : Nat) (zs : List Int) (lo : Nat) (hv : IsRow .u16 w ad len cap zs) (T : Tab w) (h60 : len ≤ 60) (bn : n0 ≤ 18446744073709351615) (bl : lo ≤ 65535)  (a : Act) (wr : World) (H : wnBI w g ad n0 len cap zs lo (lo + 1) a wr) :
    Code.wp Tryd.prog (aftIn 2 Tryd.f6) (bodyPost Tryd.prog Tryd.f6 (fun e w' => e = .returned (.bool true) ∧ Below w.heap.size w w')) a wr := by
  obtain ⟨t, ds⟩ := a
  obtain ⟨Q, P, hd', hz, h0, h1, h5, h6, h8, rel⟩ := H
  replace hd' : ds = [] := hd'
  subst hd'
  replace hz : t.size = 93 := hz
  replace h0 : t.getD 0 undef = .int .u64 (n0 : Nat) := h0
  replace h1 : t.getD 1 undef = .slice ad len cap := h1
  replace h5 : t.getD 5 undef = .pointer (some ⟨g.wb, 0, none⟩) := h5
  replace h6 : t.getD 6 undef = .int .u16 (lo : Nat) := h6
  replace h8 : t.getD 8 undef = .int .i64 ((lo + 1) : Nat) := h8
  have REL := Lib.hid rel
  clear rel
  refine openFr93 (P := fun t => t.getD 0 undef = .int .u64 (n0 : Nat) → t.getD 1 undef = .slice ad len cap → t.getD 5 undef = .pointer (some ⟨g.wb, 0, none⟩) → t.getD 6 undef = .int .u16 (lo : Nat) → t.getD 8 undef = .int .i64 ((lo + 1) : Nat) → Code.wp Tryd.prog (aftIn 2 Tryd.f6) (bodyPost Tryd.prog Tryd.f6 (fun e w' => e = .returned (.bool true) ∧ Below w.heap.size w w')) ⟨t, []⟩ wr) ?_ t hz h0 h1 h5 h6 h8
  clear h0 h1 h5 h6 h8 hz t
  intro c0 c1 c2 c3 c4 c5 c6 c7 c8 c9 c10 c11 c12 c13 c14 c15 c16 c17 c18 c19 c20 c21 c22 c23 c24 c25 c26 c27 c28 c29 c30 c31 c32 c33 c34 c35 c36 c37 c38 c39 c40 c41 c42 c43 c44 c45 c46 c47 c48 c49 c50 c51 c52 c53 c54 c55 c56 c57 c58 c59 c60 c61 c62 c63 c64 c65 c66 c67 c68 c69 c70 c71 c72 c73 c74 c75 c76 c77 c78 c79 c80 c81 c82 c83 c84 c85 c86 c87 c88 c89 c90 c91 c92 h0 h1 h5 h6 h8
  replace h0 : c0 = .int .u64 (n0 : Nat) := h0
  replace h1 : c1 = .slice ad len cap := h1
  replace h5 : c5 = .pointer (some ⟨g.wb, 0, none⟩) := h5
  replace h6 : c6 = .int .u16 (lo : Nat) := h6
  replace h8 : c8 = .int .i64 ((lo + 1) : Nat) := h8
  subst h0
  subst h1
  subst h5
  subst h6
  subst h8
  conv => arg 2; whnf
  clear hv T
  go_wp2
  go_ret
  exact ⟨rfl, REL.out.d.c.below (Nat.le_refl _) (fun _ _ e => e.elim)⟩
set_option maxRecDepth 100000 in
set_option maxHeartbeats 0 in
theorem wn_mid (w : World) (g : Wh) (ad : Option Addr) (n0 len cap : Nat) (zs : List Int) (hv : IsRow .u16 w ad len cap zs) (T : Tab w) (h60 : len ≤ 60) (bn : n0 ≤ 18446744073709351615)  (a : Act) (wr : World) (H : wnAI w g ad n0 len cap zs len a wr) :
    Code.wp Tryd.prog (aftIn 0 Tryd.f6) (bodyPost Tryd.prog Tryd.f6 (fun e w' => e = .returned (.bool true) ∧ Below w.heap.size w w')) a wr := by
  obtain ⟨t, ds⟩ := a
  obtain ⟨Q, P, lo, hd', hz, h0, h1, h5, h6, h7, rel⟩ := H
  replace hd' : ds = [] := hd'
  subst hd'
  replace hz : t.size = 93 := hz
  replace h0 : t.getD 0 undef = .int .u64 (n0 : Nat) := h0
  replace h1 : t.getD 1 undef = .slice ad len cap := h1
  replace h5 : t.getD 5 undef = .pointer (some ⟨g.wb, 0, none⟩) := h5
  replace h6 : t.getD 6 undef = .int .u16 (lo : Nat) := h6
  replace h7 : t.getD 7 undef = .int .i64 (len : Nat) := h7
  have REL := Lib.hid rel
  clear rel
  refine openFr93 (P := fun t => t.getD 0 undef = .int .u64 (n0 : Nat) → t.getD 1 undef = .slice ad len cap → t.getD 5 undef = .pointer (some ⟨g.wb, 0, none⟩) → t.getD 6 undef = .int .u16 (lo : Nat) → t.getD 7 undef = .int .i64 (len : Nat) → Code.wp Tryd.prog (aftIn 0 Tryd.f6) (bodyPost Tryd.prog Tryd.f6 (fun e w' => e = .returned (.bool true) ∧ Below w.heap.size w w')) ⟨t, []⟩ wr) ?_ t hz h0 h1 h5 h6 h7
  clear h0 h1 h5 h6 h7 hz t
  intro c0 c1 c2 c3 c4 c5 c6 c7 c8 c9 c10 c11 c12 c13 c14 c15 c16 c17 c18 c19 c20 c21 c22 c23 c24 c25 c26 c27 c28 c29 c30 c31 c32 c33 c34 c35 c36 c37 c38 c39 c40 c41 c42 c43 c44 c45 c46 c47 c48 c49 c50 c51 c52 c53 c54 c55 c56 c57 c58 c59 c60 c61 c62 c63 c64 c65 c66 c67 c68 c69 c70 c71 c72 c73 c74 c75 c76 c77 c78 c79 c80 c81 c82 c83 c84 c85 c86 c87 c88 c89 c90 c91 c92 h0 h1 h5 h6 h7
  replace h0 : c0 = .int .u64 (n0 : Nat) := h0
  replace h1 : c1 = .slice ad len cap := h1
  replace h5 : c5 = .pointer (some ⟨g.wb, 0, none⟩) := h5
  replace h6 : c6 = .int .u16 (lo : Nat) := h6
  replace h7 : c7 = .int .i64 (len : Nat) := h7
  subst h0
  subst h1
  subst h5
  subst h6
  subst h7
  conv => arg 2; whnf
  have HV := Lib.hid hv
  have TB := Lib.hid T
  have bl : lo ≤ 65535 := REL.out.l
  have bl2 : (lo : Int) ≤ 65535 := by omega
  clear T hv
  by_cases h5 : 5000 < lo
  · have hz : (5000 : Int) < (lo : Int) := by omega
    go_wp2
    go_ret
    exact ⟨rfl, REL.out.d.c.below (Nat.le_refl _) (fun _ _ e => e.elim)⟩
  · have hz : (lo : Int) ≤ 5000 := by omega
    have ST2 : Hid (NxB w g n0 0 lo Q P wr) := Lib.hid ⟨REL.out.d, by have := REL.out.n; omega, fun _ => REL.out.all⟩
    go_wp2
    refine wp_mono (wnB_loop w g ad n0 len cap zs lo HV.out TB.out h60 bn bl _ _ (by omega) ⟨_, _, rfl, rfl, rfl, rfl, rfl, rfl, rfl, ST2.out⟩) ?_
    rename_i K hK
    intro e a' w' hp
    obtain ⟨rfl, H⟩ := Qx_inv hp
    exact hK _ _ (wn_end w g ad n0 len cap zs lo HV.out TB.out h60 bn bl a' w' H)

end Go.Proofs.YtkdkkgbjfabifaaDoor
