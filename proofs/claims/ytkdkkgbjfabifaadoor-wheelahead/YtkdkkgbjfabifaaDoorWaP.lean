/-
  WheelAhead: an act, in three parts: the insert, the ticks, the check.
-/
import Derived.Test.YtkdkkgbjfabifaaDoorWaT
import Derived.Test.YtkdkkgbjfabifaaDoorWaV
import Derived.Test.YtkdkkgbjfabifaaDoorWaF
import Derived.Test.YtkdkkgbjfabifaaDoorHeld
import Derived.Deep.QuietTactic
import Derived.BigQuiet
import Derived.Deep.Cut
import Derived.Deep.CutRange
import Derived.Deep.CutBlock
import Derived.RegionTactic
import Derived.BigRegion
namespace Go.Proofs.YtkdkkgbjfabifaaDoor
open Go.RowKit Verge LQ
set_option linter.unusedVariables false
set_option linter.unusedSimpArgs false
attribute [local go_sem] Oper.semAt_some

/-- what holds between two parts of act k -/
def waM (w : World) (g : Wh) (ad : Option Addr) (len cap : Nat) (k c : Nat) (a : Act) (wr : World) : Prop :=
  ∃ (now : Nat) (Q P : List Ent), a.defers = [] ∧ a.tmps.size = 150 ∧ a.tmps.getD 1 undef = .slice ad len cap ∧ a.tmps.getD 5 undef = .pointer (some ⟨g.wb, 0, none⟩) ∧ a.tmps.getD 6 undef = .int .i64 (k : Nat) ∧ AhR w g c now Q P wr
set_option maxRecDepth 100000 in
set_option maxHeartbeats 0 in
theorem wa_ins {k : Nat} (w : World) (g : Wh) (ad : Option Addr) (len cap : Nat) (hv : IsTab [.i .i64, .i .i64, .i .u64] w ad len cap) (T : Tab w) (h60 : len ≤ 60) (hk : k < len) (a : Act) (wr : World) (H : waM w g ad len cap k k a wr) :
    Code.wp Tryd.prog (fstC (blkIn 1 Tryd.f5)) (Exit.then (waM w g ad len cap k (k + 1)) (fun _ _ _ => False)) a wr := by
  obtain ⟨t, ds⟩ := a
  obtain ⟨now, Q, P, hd', hz, h1, h5, h6, rel⟩ := H
  replace hd' : ds = [] := hd'
  subst hd'
  replace hz : t.size = 150 := hz
  replace h1 : t.getD 1 undef = .slice ad len cap := h1
  replace h5 : t.getD 5 undef = .pointer (some ⟨g.wb, 0, none⟩) := h5
  replace h6 : t.getD 6 undef = .int .i64 (k : Nat) := h6
  have REL := Lib.hid rel
  clear rel
  refine openFr150 (P := fun t => t.getD 1 undef = .slice ad len cap → t.getD 5 undef = .pointer (some ⟨g.wb, 0, none⟩) → t.getD 6 undef = .int .i64 (k : Nat) → Code.wp Tryd.prog (fstC (blkIn 1 Tryd.f5)) (Exit.then (waM w g ad len cap k (k + 1)) (fun _ _ _ => False)) ⟨t, []⟩ wr) ?_ t hz h1 h5 h6
  clear h1 h5 h6 hz t
  intro c0 c1 c2 c3 c4 c5 c6 c7 c8 c9 c10 c11 c12 c13 c14 c15 c16 c17 c18 c19 c20 c21 c22 c23 c24 c25 c26 c27 c28 c29 c30 c31 c32 c33 c34 c35 c36 c37 c38 c39 c40 c41 c42 c43 c44 c45 c46 c47 c48 c49 c50 c51 c52 c53 c54 c55 c56 c57 c58 c59 c60 c61 c62 c63 c64 c65 c66 c67 c68 c69 c70 c71 c72 c73 c74 c75 c76 c77 c78 c79 c80 c81 c82 c83 c84 c85 c86 c87 c88 c89 c90 c91 c92 c93 c94 c95 c96 c97 c98 c99 c100 c101 c102 c103 c104 c105 c106 c107 c108 c109 c110 c111 c112 c113 c114 c115 c116 c117 c118 c119 c120 c121 c122 c123 c124 c125 c126 c127 c128 c129 c130 c131 c132 c133 c134 c135 c136 c137 c138 c139 c140 c141 c142 c143 c144 c145 c146 c147 c148 c149 h1 h5 h6
  replace h1 : c1 = .slice ad len cap := h1
  replace h5 : c5 = .pointer (some ⟨g.wb, 0, none⟩) := h5
  replace h6 : c6 = .int .i64 (k : Nat) := h6
  subst h1
  subst h5
  subst h6
  conv => arg 2; whnf
  obtain ⟨x, y0, y1, d2, rfl, hc1, hc2, q0, q1, q2, hd2, hy1⟩ := tab_act hv hk
  have HV := Lib.hid hv
  have TB := Lib.hid T
  have HQ1 := Lib.hid q1
  have OLD : Hid ((x.add (k * 3)).block < w.heap.size) := Lib.hid (lt_of_cell (p := ⟨(x.add (k * 3)).block, (x.add (k * 3)).off + 2, none⟩) q2)
  have p0 := REL.out.d.c.keeps q0 (fun e => e)
  have p1 := REL.out.d.c.keeps q1 (fun e => e)
  have p2 := REL.out.d.c.keeps q2 (fun e => e)
  have hkz : (k : Int) < (len : Int) := by omega
  have hkz0 : (0 : Int) ≤ (k : Int) := by omega
  clear hv T q0 q1 q2
  by_cases h0 : y0 = 0
  · subst h0
    go_upto_region 10 with (fail)
    by_cases hlate : d2 ≤ now
    · refine wp_region_held_drew (S := fun w' => w'.cell? ⟨(x.add (k * 3)).block, (x.add (k * 3)).off + 2, none⟩ = some (.int .u64 (d2 : Nat))) (by kernel_rfl) p2 (fun hHeld => ?_)
      have RD := Lib.hid (REL.out.quiet (Ch.refl _ _).drew)
      have CT : Hid (wr.drew.cell? ⟨(x.add (k * 3)).block, (x.add (k * 3)).off + 2, none⟩ = some (.int .u64 (d2 : Nat))) := Lib.hid p2
      generalize wr.drew = W at *
      refine take_at (v := ?_) 0 (some 34) rfl (by kernel_rfl) (by kernel_rfl) (by kernel_rfl) (by kernel_rfl) (fun _ _ _ h => h) (Or.inl ⟨by rfl, ?_⟩) (by assumption) ?_
      rotate_left
      · intro w hSw; (try dsimp only at hSw); go_simp; try (with_reducible rfl)
      (try simp only [Act.put, List.setIfInBounds_toArray, List.set_cons_zero, List.set_cons_succ])
      refine take_at (v := ?_) 1 (some 35) rfl (by kernel_rfl) (by kernel_rfl) (by kernel_rfl) (by kernel_rfl) (fun _ _ _ h => h) (Or.inl ⟨by rfl, ?_⟩) (by assumption) ?_
      rotate_left
      · intro w hSw; (try dsimp only at hSw); go_simp; try (with_reducible rfl)
      (try simp only [Act.put, List.setIfInBounds_toArray, List.set_cons_zero, List.set_cons_succ])
      refine take_at (v := ?_) 2 (some 36) rfl (by kernel_rfl) (by kernel_rfl) (by kernel_rfl) (by kernel_rfl) (fun _ _ _ h => h) (Or.inl ⟨by rfl, ?_⟩) (by assumption) ?_
      rotate_left
      · intro w hSw; (try dsimp only at hSw); go_simp; try (with_reducible rfl)
      (try simp only [Act.put, List.setIfInBounds_toArray, List.set_cons_zero, List.set_cons_succ])
      refine take_at (v := ?_) 3 (some 37) rfl (by kernel_rfl) (by kernel_rfl) (by kernel_rfl) (by kernel_rfl) (fun _ _ _ h => h) (Or.inl ⟨by rfl, ?_⟩) (by assumption) ?_
      rotate_left
      · intro w hSw; (try dsimp only at hSw); go_simp; try (with_reducible rfl)
      (try simp only [Act.put, List.setIfInBounds_toArray, List.set_cons_zero, List.set_cons_succ])
      refine take_at (v := ?_) 4 (some 38) rfl (by kernel_rfl) (by kernel_rfl) (by kernel_rfl) (by kernel_rfl) (fun _ _ _ h => h) (Or.inl ⟨by rfl, ?_⟩) (by assumption) ?_
      rotate_left
      · intro w hSw; (try dsimp only at hSw); go_simp; try (with_reducible rfl)
      (try simp only [Act.put, List.setIfInBounds_toArray, List.set_cons_zero, List.set_cons_succ])
      refine take_at (v := ?_) 5 (some 39) rfl (by kernel_rfl) (by kernel_rfl) (by kernel_rfl) (by kernel_rfl) (fun _ _ _ h => h) (Or.inl ⟨by rfl, ?_⟩) (by assumption) ?_
      rotate_left
      · intro w hSw; (try dsimp only at hSw); go_simp; try (with_reducible rfl)
      (try simp only [Act.put, List.setIfInBounds_toArray, List.set_cons_zero, List.set_cons_succ])
      refine take_at (v := ?_) 6 (some 40) rfl (by kernel_rfl) (by kernel_rfl) (by kernel_rfl) (by kernel_rfl) (fun _ _ _ h => h) (Or.inl ⟨by rfl, ?_⟩) (by assumption) ?_
      rotate_left
      · intro w hSw; (try dsimp only at hSw); go_simp; try (with_reducible rfl)
      (try simp only [Act.put, List.setIfInBounds_toArray, List.set_cons_zero, List.set_cons_succ])
      refine take_at (v := ?_) 7 (some 41) rfl (by kernel_rfl) (by kernel_rfl) (by kernel_rfl) (by kernel_rfl) (fun _ _ _ h => h) (Or.inl ⟨by rfl, ?_⟩) (by assumption) ?_
      rotate_left
      · intro w hSw; (try dsimp only at hSw); go_simp; try (with_reducible rfl)
      (try simp only [Act.put, List.setIfInBounds_toArray, List.set_cons_zero, List.set_cons_succ])
      refine take_at (v := ?_) 8 (some 42) rfl (by kernel_rfl) (by kernel_rfl) (by kernel_rfl) (by kernel_rfl) (fun _ _ _ h => h) (Or.inl ⟨by rfl, ?_⟩) (by assumption) ?_
      rotate_left
      · intro w hSw; (try dsimp only at hSw); go_simp; try (with_reducible rfl)
      (try simp only [Act.put, List.setIfInBounds_toArray, List.set_cons_zero, List.set_cons_succ])
      refine take_at (v := ?_) 9 (some 43) rfl (by kernel_rfl) (by kernel_rfl) (by kernel_rfl) (by kernel_rfl) (fun _ _ _ h => h) (Or.inl ⟨by rfl, ?_⟩) (by assumption) ?_
      rotate_left
      · intro w hSw; (try dsimp only at hSw); go_simp; try (with_reducible rfl)
      (try simp only [Act.put, List.setIfInBounds_toArray, List.set_cons_zero, List.set_cons_succ])
      refine take_at (v := ?_) 10 (some 44) rfl (by kernel_rfl) (by kernel_rfl) (by kernel_rfl) (by kernel_rfl) (fun _ _ _ h => h) (Or.inl ⟨by rfl, ?_⟩) (by assumption) ?_
      rotate_left
      · intro w hSw; (try dsimp only at hSw); go_simp; try (with_reducible rfl)
      (try simp only [Act.put, List.setIfInBounds_toArray, List.set_cons_zero, List.set_cons_succ])
      refine wpAnyH_ready (rs := [11]) (by kernel_rfl) (by simp) ?_
      refine AllReadyH.cons rfl (fun K hK => ?_) AllReadyH.nil
      go_simp
      refine (RD.out.d.late d2 (d2 : Int) hlate).mono ?_
      rintro e w5 ⟨rfl, rfl⟩
      have NX := Lib.hid (RD.out.mono (Nat.le_succ k))
      refine hK.out _ _ CT.out (fun hHeld => ?_)
      clear hK K
      (try simp only [Act.put, List.setIfInBounds_toArray, List.set_cons_zero, List.set_cons_succ])
      refine wpAnyH_done (by kernel_rfl) ?_ _
      clear p0 p1 p2 hHeld CT RD REL
      go_wp2
      exact ⟨_, _, _, rfl, rfl, rfl, rfl, rfl, NX.out⟩
    · refine wp_region_held_drew (S := fun w' => w'.cell? ⟨(x.add (k * 3)).block, (x.add (k * 3)).off + 2, none⟩ = some (.int .u64 (d2 : Nat))) (by kernel_rfl) p2 (fun hHeld => ?_)
      have RD := Lib.hid (REL.out.quiet (Ch.refl _ _).drew)
      have CT : Hid (wr.drew.cell? ⟨(x.add (k * 3)).block, (x.add (k * 3)).off + 2, none⟩ = some (.int .u64 (d2 : Nat))) := Lib.hid p2
      generalize wr.drew = W at *
      refine take_at (v := ?_) 0 (some 34) rfl (by kernel_rfl) (by kernel_rfl) (by kernel_rfl) (by kernel_rfl) (fun _ _ _ h => h) (Or.inl ⟨by rfl, ?_⟩) (by assumption) ?_
      rotate_left
      · intro w hSw; (try dsimp only at hSw); go_simp; try (with_reducible rfl)
      (try simp only [Act.put, List.setIfInBounds_toArray, List.set_cons_zero, List.set_cons_succ])
      refine take_at (v := ?_) 1 (some 35) rfl (by kernel_rfl) (by kernel_rfl) (by kernel_rfl) (by kernel_rfl) (fun _ _ _ h => h) (Or.inl ⟨by rfl, ?_⟩) (by assumption) ?_
      rotate_left
      · intro w hSw; (try dsimp only at hSw); go_simp; try (with_reducible rfl)
      (try simp only [Act.put, List.setIfInBounds_toArray, List.set_cons_zero, List.set_cons_succ])
      refine take_at (v := ?_) 2 (some 36) rfl (by kernel_rfl) (by kernel_rfl) (by kernel_rfl) (by kernel_rfl) (fun _ _ _ h => h) (Or.inl ⟨by rfl, ?_⟩) (by assumption) ?_
      rotate_left
      · intro w hSw; (try dsimp only at hSw); go_simp; try (with_reducible rfl)
      (try simp only [Act.put, List.setIfInBounds_toArray, List.set_cons_zero, List.set_cons_succ])
      refine take_at (v := ?_) 3 (some 37) rfl (by kernel_rfl) (by kernel_rfl) (by kernel_rfl) (by kernel_rfl) (fun _ _ _ h => h) (Or.inl ⟨by rfl, ?_⟩) (by assumption) ?_
      rotate_left
      · intro w hSw; (try dsimp only at hSw); go_simp; try (with_reducible rfl)
      (try simp only [Act.put, List.setIfInBounds_toArray, List.set_cons_zero, List.set_cons_succ])
      refine take_at (v := ?_) 4 (some 38) rfl (by kernel_rfl) (by kernel_rfl) (by kernel_rfl) (by kernel_rfl) (fun _ _ _ h => h) (Or.inl ⟨by rfl, ?_⟩) (by assumption) ?_
      rotate_left
      · intro w hSw; (try dsimp only at hSw); go_simp; try (with_reducible rfl)
      (try simp only [Act.put, List.setIfInBounds_toArray, List.set_cons_zero, List.set_cons_succ])
      refine take_at (v := ?_) 5 (some 39) rfl (by kernel_rfl) (by kernel_rfl) (by kernel_rfl) (by kernel_rfl) (fun _ _ _ h => h) (Or.inl ⟨by rfl, ?_⟩) (by assumption) ?_
      rotate_left
      · intro w hSw; (try dsimp only at hSw); go_simp; try (with_reducible rfl)
      (try simp only [Act.put, List.setIfInBounds_toArray, List.set_cons_zero, List.set_cons_succ])
      refine take_at (v := ?_) 6 (some 40) rfl (by kernel_rfl) (by kernel_rfl) (by kernel_rfl) (by kernel_rfl) (fun _ _ _ h => h) (Or.inl ⟨by rfl, ?_⟩) (by assumption) ?_
      rotate_left
      · intro w hSw; (try dsimp only at hSw); go_simp; try (with_reducible rfl)
      (try simp only [Act.put, List.setIfInBounds_toArray, List.set_cons_zero, List.set_cons_succ])
      refine take_at (v := ?_) 7 (some 41) rfl (by kernel_rfl) (by kernel_rfl) (by kernel_rfl) (by kernel_rfl) (fun _ _ _ h => h) (Or.inl ⟨by rfl, ?_⟩) (by assumption) ?_
      rotate_left
      · intro w hSw; (try dsimp only at hSw); go_simp; try (with_reducible rfl)
      (try simp only [Act.put, List.setIfInBounds_toArray, List.set_cons_zero, List.set_cons_succ])
      refine take_at (v := ?_) 8 (some 42) rfl (by kernel_rfl) (by kernel_rfl) (by kernel_rfl) (by kernel_rfl) (fun _ _ _ h => h) (Or.inl ⟨by rfl, ?_⟩) (by assumption) ?_
      rotate_left
      · intro w hSw; (try dsimp only at hSw); go_simp; try (with_reducible rfl)
      (try simp only [Act.put, List.setIfInBounds_toArray, List.set_cons_zero, List.set_cons_succ])
      refine take_at (v := ?_) 9 (some 43) rfl (by kernel_rfl) (by kernel_rfl) (by kernel_rfl) (by kernel_rfl) (fun _ _ _ h => h) (Or.inl ⟨by rfl, ?_⟩) (by assumption) ?_
      rotate_left
      · intro w hSw; (try dsimp only at hSw); go_simp; try (with_reducible rfl)
      (try simp only [Act.put, List.setIfInBounds_toArray, List.set_cons_zero, List.set_cons_succ])
      refine take_at (v := ?_) 10 (some 44) rfl (by kernel_rfl) (by kernel_rfl) (by kernel_rfl) (by kernel_rfl) (fun _ _ _ h => h) (Or.inl ⟨by rfl, ?_⟩) (by assumption) ?_
      rotate_left
      · intro w hSw; (try dsimp only at hSw); go_simp; try (with_reducible rfl)
      (try simp only [Act.put, List.setIfInBounds_toArray, List.set_cons_zero, List.set_cons_succ])
      refine wpAnyH_ready (rs := [11]) (by kernel_rfl) (by simp) ?_
      refine AllReadyH.cons rfl (fun K hK => ?_) AllReadyH.nil
      go_simp
      refine (RD.out.d.insert d2 (d2 : Int) (by omega) hd2 (by have := RD.out.n; omega)).mono ?_
      rintro e w5 ⟨xb, rfl, hxb, d5, c5⟩
      have hold : ¬ WS g P (x.add (k * 3)).block := fun e => by have := RD.out.d.hi _ e; have := OLD.out; omega
      have q5 := c5.keeps CT.out hold
      have NX : Hid (AhR w g (k + 1) now (Q ++ [⟨xb, d2, (d2 : Int)⟩]) (P ++ [⟨xb, d2, (d2 : Int)⟩]) w5) := Lib.hid ⟨d5, by have := RD.out.n; simp; omega, fun y hy => by
        rcases List.mem_append.1 hy with hy | hy
        · exact RD.out.u y hy
        · simp at hy; subst hy; rfl⟩
      clear d5 c5
      refine hK.out _ _ q5 (fun hHeld => ?_)
      clear q5
      clear hK K
      (try simp only [Act.put, List.setIfInBounds_toArray, List.set_cons_zero, List.set_cons_succ])
      refine wpAnyH_done (by kernel_rfl) ?_ _
      clear p0 p1 p2 hHeld CT RD REL
      go_wp2
      exact ⟨_, _, _, rfl, rfl, rfl, rfl, rfl, NX.out⟩
  · have hb : (y0 == 0) = false := by rw [beq_eq_false_iff_ne]; exact h0
    have NX := Lib.hid (REL.out.mono (Nat.le_succ k))
    clear REL
    go_wp2
    exact ⟨_, _, _, rfl, rfl, rfl, rfl, rfl, NX.out⟩
set_option maxRecDepth 100000 in
set_option maxHeartbeats 0 in
theorem wa_tick {k : Nat} (w : World) (g : Wh) (ad : Option Addr) (len cap : Nat) (hv : IsTab [.i .i64, .i .i64, .i .u64] w ad len cap) (T : Tab w) (h60 : len ≤ 60) (hk : k < len) (a : Act) (wr : World) (H : waM w g ad len cap k (k + 1) a wr) :
    Code.wp Tryd.prog (fstC (sndC (blkIn 1 Tryd.f5))) (Exit.then (waM w g ad len cap k (k + 1)) (fun _ _ _ => False)) a wr := by
  obtain ⟨t, ds⟩ := a
  obtain ⟨now, Q, P, hd', hz, h1, h5, h6, rel⟩ := H
  replace hd' : ds = [] := hd'
  subst hd'
  replace hz : t.size = 150 := hz
  replace h1 : t.getD 1 undef = .slice ad len cap := h1
  replace h5 : t.getD 5 undef = .pointer (some ⟨g.wb, 0, none⟩) := h5
  replace h6 : t.getD 6 undef = .int .i64 (k : Nat) := h6
  have REL := Lib.hid rel
  clear rel
  refine openFr150 (P := fun t => t.getD 1 undef = .slice ad len cap → t.getD 5 undef = .pointer (some ⟨g.wb, 0, none⟩) → t.getD 6 undef = .int .i64 (k : Nat) → Code.wp Tryd.prog (fstC (sndC (blkIn 1 Tryd.f5))) (Exit.then (waM w g ad len cap k (k + 1)) (fun _ _ _ => False)) ⟨t, []⟩ wr) ?_ t hz h1 h5 h6
  clear h1 h5 h6 hz t
  intro c0 c1 c2 c3 c4 c5 c6 c7 c8 c9 c10 c11 c12 c13 c14 c15 c16 c17 c18 c19 c20 c21 c22 c23 c24 c25 c26 c27 c28 c29 c30 c31 c32 c33 c34 c35 c36 c37 c38 c39 c40 c41 c42 c43 c44 c45 c46 c47 c48 c49 c50 c51 c52 c53 c54 c55 c56 c57 c58 c59 c60 c61 c62 c63 c64 c65 c66 c67 c68 c69 c70 c71 c72 c73 c74 c75 c76 c77 c78 c79 c80 c81 c82 c83 c84 c85 c86 c87 c88 c89 c90 c91 c92 c93 c94 c95 c96 c97 c98 c99 c100 c101 c102 c103 c104 c105 c106 c107 c108 c109 c110 c111 c112 c113 c114 c115 c116 c117 c118 c119 c120 c121 c122 c123 c124 c125 c126 c127 c128 c129 c130 c131 c132 c133 c134 c135 c136 c137 c138 c139 c140 c141 c142 c143 c144 c145 c146 c147 c148 c149 h1 h5 h6
  replace h1 : c1 = .slice ad len cap := h1
  replace h5 : c5 = .pointer (some ⟨g.wb, 0, none⟩) := h5
  replace h6 : c6 = .int .i64 (k : Nat) := h6
  subst h1
  subst h5
  subst h6
  conv => arg 2; whnf
  obtain ⟨x, y0, y1, d2, rfl, hc1, hc2, q0, q1, q2, hd2, hy1⟩ := tab_act hv hk
  have HV := Lib.hid hv
  have TB := Lib.hid T
  have HQ1 := Lib.hid q1
  have OLD : Hid ((x.add (k * 3)).block < w.heap.size) := Lib.hid (lt_of_cell (p := ⟨(x.add (k * 3)).block, (x.add (k * 3)).off + 2, none⟩) q2)
  have p0 := REL.out.d.c.keeps q0 (fun e => e)
  have p1 := REL.out.d.c.keeps q1 (fun e => e)
  have p2 := REL.out.d.c.keeps q2 (fun e => e)
  have hkz : (k : Int) < (len : Int) := by omega
  have hkz0 : (0 : Int) ≤ (k : Int) := by omega
  clear hv T q0 q1 q2
  by_cases h2 : y0 = 2
  · subst h2
    have hm0 : (0 : Int) ≤ ((if 0 < y1 then y1 else 0) : Int).tmod 130 := Int.tmod_nonneg _ (by split <;> omega)
    obtain ⟨mx, hmx⟩ := Int.eq_ofNat_of_zero_le hm0
    have hmb : mx < 130 := by have := Int.tmod_lt_of_pos ((if 0 < y1 then y1 else 0) : Int) (show (0 : Int) < 130 by decide); omega
    have HMX := Lib.hid hmx
    have R0 := REL
    clear hm0 hmx REL
    go_wp2
    refine wp_mono (waT_loop w g (some x) len cap k mx HV.out TB.out h60 hk x y1 rfl HQ1.out HMX.out ⟨hc1, hc2⟩ hmb _ _ (by omega) ?hI) ?_
    case hI => exact ⟨_, _, _, rfl, rfl, rfl, rfl, rfl, rfl, R0.out⟩
    clear R0 p0 p1 p2
    clear now Q P
    intro e a' w9 hp
    obtain ⟨rfl, H⟩ := Qx_inv hp
    clear hp
    obtain ⟨t, ds⟩ := a'
    obtain ⟨now, Q, P, hd', hz, h1, h5, h6, h7, rel⟩ := H
    replace hd' : ds = [] := hd'
    subst hd'
    replace hz : t.size = 150 := hz
    replace h1 : t.getD 1 undef = .slice (some x) len cap := h1
    replace h5 : t.getD 5 undef = .pointer (some ⟨g.wb, 0, none⟩) := h5
    replace h6 : t.getD 6 undef = .int .i64 (k : Nat) := h6
    replace h7 : t.getD 7 undef = .int .i64 (mx : Nat) := h7
    have REL := Lib.hid rel
    clear rel
    refine openFr150 (P := fun t => t.getD 1 undef = .slice (some x) len cap → t.getD 5 undef = .pointer (some ⟨g.wb, 0, none⟩) → t.getD 6 undef = .int .i64 (k : Nat) → t.getD 7 undef = .int .i64 (mx : Nat) → Exit.inBlock 2 _ (.exit 2) ⟨t, []⟩ w9) ?_ t hz h1 h5 h6 h7
    clear h1 h5 h6 h7 hz t
    intro c0 c1 c2 c3 c4 c5 c6 c7 c8 c9 c10 c11 c12 c13 c14 c15 c16 c17 c18 c19 c20 c21 c22 c23 c24 c25 c26 c27 c28 c29 c30 c31 c32 c33 c34 c35 c36 c37 c38 c39 c40 c41 c42 c43 c44 c45 c46 c47 c48 c49 c50 c51 c52 c53 c54 c55 c56 c57 c58 c59 c60 c61 c62 c63 c64 c65 c66 c67 c68 c69 c70 c71 c72 c73 c74 c75 c76 c77 c78 c79 c80 c81 c82 c83 c84 c85 c86 c87 c88 c89 c90 c91 c92 c93 c94 c95 c96 c97 c98 c99 c100 c101 c102 c103 c104 c105 c106 c107 c108 c109 c110 c111 c112 c113 c114 c115 c116 c117 c118 c119 c120 c121 c122 c123 c124 c125 c126 c127 c128 c129 c130 c131 c132 c133 c134 c135 c136 c137 c138 c139 c140 c141 c142 c143 c144 c145 c146 c147 c148 c149 h1 h5 h6 h7
    replace h1 : c1 = .slice (some x) len cap := h1
    replace h5 : c5 = .pointer (some ⟨g.wb, 0, none⟩) := h5
    replace h6 : c6 = .int .i64 (k : Nat) := h6
    replace h7 : c7 = .int .i64 (mx : Nat) := h7
    subst h1
    subst h5
    subst h6
    subst h7
    go_wp2
    exact ⟨_, _, _, rfl, rfl, rfl, rfl, rfl, REL.out⟩
  · have hb : (y0 == 2) = false := by rw [beq_eq_false_iff_ne]; exact h2
    go_wp2
    exact ⟨_, _, _, rfl, rfl, rfl, rfl, rfl, REL.out⟩
set_option maxRecDepth 100000 in
set_option maxHeartbeats 0 in
theorem wa_chk {k : Nat} (w : World) (g : Wh) (ad : Option Addr) (len cap : Nat) (hv : IsTab [.i .i64, .i .i64, .i .u64] w ad len cap) (T : Tab w) (h60 : len ≤ 60) (hk : k < len) (a : Act) (wr : World) (H : waM w g ad len cap k (k + 1) a wr) :
    Code.wp Tryd.prog (sndC (sndC (blkIn 1 Tryd.f5))) (Exit.then (waM w g ad len cap k (k + 1)) (fun _ _ _ => False)) a wr := by
  obtain ⟨t, ds⟩ := a
  obtain ⟨now, Q, P, hd', hz, h1, h5, h6, rel⟩ := H
  replace hd' : ds = [] := hd'
  subst hd'
  replace hz : t.size = 150 := hz
  replace h1 : t.getD 1 undef = .slice ad len cap := h1
  replace h5 : t.getD 5 undef = .pointer (some ⟨g.wb, 0, none⟩) := h5
  replace h6 : t.getD 6 undef = .int .i64 (k : Nat) := h6
  have REL := Lib.hid rel
  clear rel
  refine openFr150 (P := fun t => t.getD 1 undef = .slice ad len cap → t.getD 5 undef = .pointer (some ⟨g.wb, 0, none⟩) → t.getD 6 undef = .int .i64 (k : Nat) → Code.wp Tryd.prog (sndC (sndC (blkIn 1 Tryd.f5))) (Exit.then (waM w g ad len cap k (k + 1)) (fun _ _ _ => False)) ⟨t, []⟩ wr) ?_ t hz h1 h5 h6
  clear h1 h5 h6 hz t
  intro c0 c1 c2 c3 c4 c5 c6 c7 c8 c9 c10 c11 c12 c13 c14 c15 c16 c17 c18 c19 c20 c21 c22 c23 c24 c25 c26 c27 c28 c29 c30 c31 c32 c33 c34 c35 c36 c37 c38 c39 c40 c41 c42 c43 c44 c45 c46 c47 c48 c49 c50 c51 c52 c53 c54 c55 c56 c57 c58 c59 c60 c61 c62 c63 c64 c65 c66 c67 c68 c69 c70 c71 c72 c73 c74 c75 c76 c77 c78 c79 c80 c81 c82 c83 c84 c85 c86 c87 c88 c89 c90 c91 c92 c93 c94 c95 c96 c97 c98 c99 c100 c101 c102 c103 c104 c105 c106 c107 c108 c109 c110 c111 c112 c113 c114 c115 c116 c117 c118 c119 c120 c121 c122 c123 c124 c125 c126 c127 c128 c129 c130 c131 c132 c133 c134 c135 c136 c137 c138 c139 c140 c141 c142 c143 c144 c145 c146 c147 c148 c149 h1 h5 h6
  replace h1 : c1 = .slice ad len cap := h1
  replace h5 : c5 = .pointer (some ⟨g.wb, 0, none⟩) := h5
  replace h6 : c6 = .int .i64 (k : Nat) := h6
  subst h1
  subst h5
  subst h6
  conv => arg 2; whnf
  have HV := Lib.hid hv
  have TB := Lib.hid T
  clear hv T
  have qn := REL.out.n
  go_wp2_with fail
  refine (REL.out.d.beyond (by omega)).mono ?_
  rintro e w5 ⟨a5, cap5, rfl, -, -, c5⟩
  have R5 := Lib.hid (REL.out.quiet c5)
  clear c5 REL
  go_wp2
  refine wp_mono (waV_loop w g ad len cap k now Q P HV.out TB.out h60 hk _ _ (by omega) ?hI) ?_
  case hI => exact ⟨rfl, rfl, rfl, rfl, rfl, rfl, rfl, R5.out⟩
  clear R5
  intro e a' w8 hp
  obtain ⟨rfl, H⟩ := Qx_inv hp
  clear hp
  obtain ⟨t, ds⟩ := a'
  obtain ⟨hd', hz, h1, h5, h6, h8, h9, rel⟩ := H
  replace hd' : ds = [] := hd'
  subst hd'
  replace hz : t.size = 150 := hz
  replace h1 : t.getD 1 undef = .slice ad len cap := h1
  replace h5 : t.getD 5 undef = .pointer (some ⟨g.wb, 0, none⟩) := h5
  replace h6 : t.getD 6 undef = .int .i64 (k : Nat) := h6
  replace h8 : t.getD 8 undef = .int .i64 ((nS Q now (64 * 4) : Nat) : Int) := h8
  replace h9 : t.getD 9 undef = .int .i64 (4 : Nat) := h9
  have REL := Lib.hid rel
  clear rel
  refine openFr150 (P := fun t => t.getD 1 undef = .slice ad len cap → t.getD 5 undef = .pointer (some ⟨g.wb, 0, none⟩) → t.getD 6 undef = .int .i64 (k : Nat) → t.getD 8 undef = .int .i64 ((nS Q now (64 * 4) : Nat) : Int) → t.getD 9 undef = .int .i64 (4 : Nat) → Exit.inBlock 4 _ (.exit 4) ⟨t, []⟩ w8) ?_ t hz h1 h5 h6 h8 h9
  clear h1 h5 h6 h8 h9 hz t
  intro c0 c1 c2 c3 c4 c5 c6 c7 c8 c9 c10 c11 c12 c13 c14 c15 c16 c17 c18 c19 c20 c21 c22 c23 c24 c25 c26 c27 c28 c29 c30 c31 c32 c33 c34 c35 c36 c37 c38 c39 c40 c41 c42 c43 c44 c45 c46 c47 c48 c49 c50 c51 c52 c53 c54 c55 c56 c57 c58 c59 c60 c61 c62 c63 c64 c65 c66 c67 c68 c69 c70 c71 c72 c73 c74 c75 c76 c77 c78 c79 c80 c81 c82 c83 c84 c85 c86 c87 c88 c89 c90 c91 c92 c93 c94 c95 c96 c97 c98 c99 c100 c101 c102 c103 c104 c105 c106 c107 c108 c109 c110 c111 c112 c113 c114 c115 c116 c117 c118 c119 c120 c121 c122 c123 c124 c125 c126 c127 c128 c129 c130 c131 c132 c133 c134 c135 c136 c137 c138 c139 c140 c141 c142 c143 c144 c145 c146 c147 c148 c149 h1 h5 h6 h8 h9
  replace h1 : c1 = .slice ad len cap := h1
  replace h5 : c5 = .pointer (some ⟨g.wb, 0, none⟩) := h5
  replace h6 : c6 = .int .i64 (k : Nat) := h6
  replace h8 : c8 = .int .i64 ((nS Q now (64 * 4) : Nat) : Int) := h8
  replace h9 : c9 = .int .i64 (4 : Nat) := h9
  subst h1
  subst h5
  subst h6
  subst h8
  subst h9
  have hal : nS Q now (64 * 4) = Q.length := nS_all now Q
  rw [hal]
  clear hal
  go_wp2_with fail
  refine (REL.out.d.beyond (by omega)).mono ?_
  rintro e w6 ⟨a6, cap6, rfl, r6, -, c6⟩
  have R6 := Lib.hid (REL.out.quiet c6)
  have RW := Lib.hid r6
  clear r6 c6 REL
  obtain ⟨m, hm⟩ : ∃ m, m = (rowsOf Q now 256).length := ⟨_, rfl⟩
  have HM := Lib.hid hm
  rw [← hm] at RW ⊢
  obtain ⟨q, hq⟩ : ∃ q, q = Q.length := ⟨_, rfl⟩
  rw [← hq]
  have HQ := Lib.hid hq
  clear hm hq
  go_wp2
  refine wp_mono (waF_loop w g ad len cap k now Q P q m a6 cap6 HV.out TB.out h60 hk HM.out _ _ (by omega) ?hI) ?_
  case hI => exact ⟨rfl, rfl, rfl, rfl, rfl, rfl, rfl, rfl, ⟨R6.out, RW.out⟩⟩
  clear R6 RW
  intro e a' w9 hp
  obtain ⟨rfl, H⟩ := Qx_inv hp
  clear hp
  obtain ⟨t, ds⟩ := a'
  obtain ⟨hd', hz, h1, h5, h6, h8, h13, h14, rel⟩ := H
  replace hd' : ds = [] := hd'
  subst hd'
  replace hz : t.size = 150 := hz
  replace h1 : t.getD 1 undef = .slice ad len cap := h1
  replace h5 : t.getD 5 undef = .pointer (some ⟨g.wb, 0, none⟩) := h5
  replace h6 : t.getD 6 undef = .int .i64 (k : Nat) := h6
  replace h8 : t.getD 8 undef = .int .i64 (q : Nat) := h8
  replace h13 : t.getD 13 undef = .slice a6 m cap6 := h13
  replace h14 : t.getD 14 undef = .int .i64 (m : Nat) := h14
  have REL := Lib.hid rel
  clear rel
  refine openFr150 (P := fun t => t.getD 1 undef = .slice ad len cap → t.getD 5 undef = .pointer (some ⟨g.wb, 0, none⟩) → t.getD 6 undef = .int .i64 (k : Nat) → t.getD 8 undef = .int .i64 (q : Nat) → t.getD 13 undef = .slice a6 m cap6 → t.getD 14 undef = .int .i64 (m : Nat) → Exit.inBlock 10 _ (.exit 10) ⟨t, []⟩ w9) ?_ t hz h1 h5 h6 h8 h13 h14
  clear h1 h5 h6 h8 h13 h14 hz t
  intro c0 c1 c2 c3 c4 c5 c6 c7 c8 c9 c10 c11 c12 c13 c14 c15 c16 c17 c18 c19 c20 c21 c22 c23 c24 c25 c26 c27 c28 c29 c30 c31 c32 c33 c34 c35 c36 c37 c38 c39 c40 c41 c42 c43 c44 c45 c46 c47 c48 c49 c50 c51 c52 c53 c54 c55 c56 c57 c58 c59 c60 c61 c62 c63 c64 c65 c66 c67 c68 c69 c70 c71 c72 c73 c74 c75 c76 c77 c78 c79 c80 c81 c82 c83 c84 c85 c86 c87 c88 c89 c90 c91 c92 c93 c94 c95 c96 c97 c98 c99 c100 c101 c102 c103 c104 c105 c106 c107 c108 c109 c110 c111 c112 c113 c114 c115 c116 c117 c118 c119 c120 c121 c122 c123 c124 c125 c126 c127 c128 c129 c130 c131 c132 c133 c134 c135 c136 c137 c138 c139 c140 c141 c142 c143 c144 c145 c146 c147 c148 c149 h1 h5 h6 h8 h13 h14
  replace h1 : c1 = .slice ad len cap := h1
  replace h5 : c5 = .pointer (some ⟨g.wb, 0, none⟩) := h5
  replace h6 : c6 = .int .i64 (k : Nat) := h6
  replace h8 : c8 = .int .i64 (q : Nat) := h8
  replace h13 : c13 = .slice a6 m cap6 := h13
  replace h14 : c14 = .int .i64 (m : Nat) := h14
  subst h1
  subst h5
  subst h6
  subst h8
  subst h13
  subst h14
  go_wp2_with fail
  refine (REL.out.1.d.len TB.out (by omega)).mono ?_
  rintro e wa ⟨rfl, ca⟩
  have RA := Lib.hid (REL.out.1.quiet ca)
  clear ca REL
  rw [← HQ.out]
  go_wp2
  exact ⟨_, _, _, rfl, rfl, rfl, rfl, rfl, RA.out⟩
theorem wa_blk_eq : blkIn 1 Tryd.f5 = .seq (fstC (blkIn 1 Tryd.f5)) (.seq (fstC (sndC (blkIn 1 Tryd.f5))) (sndC (sndC (blkIn 1 Tryd.f5)))) := by kernel_rfl
theorem wa_next {P : Program} {x y : Code} {I I' : Act → World → Prop} {a : Act} {w : World} (h : Code.wp P x (Exit.then I (fun _ _ _ => False)) a w) (h' : ∀ a w, I a w → Code.wp P y (Exit.then I' (fun _ _ _ => False)) a w) : Code.wp P (.seq x y) (Exit.then I' (fun _ _ _ => False)) a w := by
  refine wp_seq (wp_mono h ?_)
  intro e a' w' hp
  cases e with
  | normal => exact h' a' w' hp
  | _ => exact hp.elim
theorem wa_act {k : Nat} (w : World) (g : Wh) (ad : Option Addr) (len cap : Nat) (hv : IsTab [.i .i64, .i .i64, .i .u64] w ad len cap) (T : Tab w) (h60 : len ≤ 60) (hk : k < len) (a : Act) (wr : World) (H : waM w g ad len cap k k a wr) :
    Code.wp Tryd.prog (blkIn 1 Tryd.f5) (Exit.then (waM w g ad len cap k (k + 1)) (fun _ _ _ => False)) a wr := by
  rw [wa_blk_eq]
  exact wa_next (wa_ins w g ad len cap hv T h60 hk a wr H) fun a1 w1 h1 => wa_next (wa_tick w g ad len cap hv T h60 hk a1 w1 h1) fun a2 w2 h2 => wa_chk w g ad len cap hv T h60 hk a2 w2 h2
end Go.Proofs.YtkdkkgbjfabifaaDoor
