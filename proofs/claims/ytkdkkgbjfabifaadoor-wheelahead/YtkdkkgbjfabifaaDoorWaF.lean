/-
  WheelAhead: the loop over what lies beyond.
-/
import Derived.Test.YtkdkkgbjfabifaaDoorWaCode
import Derived.Test.YtkdkkgbjfabifaaDoorHeld
import Derived.Deep.QuietTactic
import Derived.BigQuiet
import Derived.Deep.Cut
import Derived.Deep.CutRange
import Derived.Deep.CutBlock
import Derived.RegionTactic
import Derived.BigRegion
namespace Go.Proofs.YtkdkkgbjfabifaaDoor
open Go.RowKit Verge LQ
set_option linter.unusedVariables false
set_option linter.unusedSimpArgs false
attribute [local go_sem] Oper.semAt_some

/-- what holds at the head of the loop -/
def waFI (w : World) (g : Wh) (ad : Option Addr) (len cap : Nat) (k0 : Nat) (now : Nat) (Q P : List Ent) (cn m : Nat) (ar : Option Addr) (cr : Nat) (k : Nat) (a : Act) (wr : World) : Prop :=
  a.defers = [] ∧ a.tmps.size = 150 ∧ a.tmps.getD 1 undef = .slice ad len cap ∧ a.tmps.getD 5 undef = .pointer (some ⟨g.wb, 0, none⟩) ∧ a.tmps.getD 6 undef = .int .i64 (k0 : Nat) ∧ a.tmps.getD 8 undef = .int .i64 (cn : Nat) ∧ a.tmps.getD 13 undef = .slice ar m cr ∧ a.tmps.getD 14 undef = .int .i64 (k : Nat) ∧ AhR w g (k0 + 1) now Q P wr ∧ RowU wr ar m cr (rowsOf Q now 256)
theorem waFI_ctr {k : Nat} (w : World) (g : Wh) (ad : Option Addr) (len cap : Nat) (k0 : Nat) (now : Nat) (Q P : List Ent) (cn m : Nat) (ar : Option Addr) (cr : Nat) {a : Act} {wr : World} (H : waFI w g ad len cap k0 now Q P cn m ar cr k a wr) : a.tmps.getD 14 undef = .int .i64 (k : Nat) := by
  obtain ⟨-, -, -, -, -, -, -, h, -⟩ := H
  exact h
set_option maxRecDepth 100000 in
set_option maxHeartbeats 0 in
theorem waF_round {k : Nat} (w : World) (g : Wh) (ad : Option Addr) (len cap : Nat) (k0 : Nat) (now : Nat) (Q P : List Ent) (cn m : Nat) (ar : Option Addr) (cr : Nat) (hv : IsTab [.i .i64, .i .i64, .i .u64] w ad len cap) (T : Tab w) (h60 : len ≤ 60) (hk0 : k0 < len) (hm : m = (rowsOf Q now 256).length) (a : Act) (wr : World) (hk : k ≤ m) (H : waFI w g ad len cap k0 now Q P cn m ar cr k a wr) :
    Code.wp Tryd.prog (loopIn 10 Tryd.f5) (Exit.then (fun a' w' => waFI w g ad len cap k0 now Q P cn m ar cr (k + 1) a' w' ∧ k < m) (Qx 10 (fun a' w' => waFI w g ad len cap k0 now Q P cn m ar cr k a' w' ∧ k = m))) a wr := by
  obtain ⟨t, ds⟩ := a
  obtain ⟨hd', hz, h1, h5, h6, h8, h13, h14, rel⟩ := H
  replace hd' : ds = [] := hd'
  subst hd'
  replace hz : t.size = 150 := hz
  replace h1 : t.getD 1 undef = .slice ad len cap := h1
  replace h5 : t.getD 5 undef = .pointer (some ⟨g.wb, 0, none⟩) := h5
  replace h6 : t.getD 6 undef = .int .i64 (k0 : Nat) := h6
  replace h8 : t.getD 8 undef = .int .i64 (cn : Nat) := h8
  replace h13 : t.getD 13 undef = .slice ar m cr := h13
  replace h14 : t.getD 14 undef = .int .i64 (k : Nat) := h14
  have REL := Lib.hid rel
  clear rel
  refine openFr150 (P := fun t => t.getD 1 undef = .slice ad len cap → t.getD 5 undef = .pointer (some ⟨g.wb, 0, none⟩) → t.getD 6 undef = .int .i64 (k0 : Nat) → t.getD 8 undef = .int .i64 (cn : Nat) → t.getD 13 undef = .slice ar m cr → t.getD 14 undef = .int .i64 (k : Nat) → Code.wp Tryd.prog (loopIn 10 Tryd.f5) (Exit.then (fun a' w' => waFI w g ad len cap k0 now Q P cn m ar cr (k + 1) a' w' ∧ k < m) (Qx 10 (fun a' w' => waFI w g ad len cap k0 now Q P cn m ar cr k a' w' ∧ k = m))) ⟨t, []⟩ wr) ?_ t hz h1 h5 h6 h8 h13 h14
  clear h1 h5 h6 h8 h13 h14 hz t
  intro c0 c1 c2 c3 c4 c5 c6 c7 c8 c9 c10 c11 c12 c13 c14 c15 c16 c17 c18 c19 c20 c21 c22 c23 c24 c25 c26 c27 c28 c29 c30 c31 c32 c33 c34 c35 c36 c37 c38 c39 c40 c41 c42 c43 c44 c45 c46 c47 c48 c49 c50 c51 c52 c53 c54 c55 c56 c57 c58 c59 c60 c61 c62 c63 c64 c65 c66 c67 c68 c69 c70 c71 c72 c73 c74 c75 c76 c77 c78 c79 c80 c81 c82 c83 c84 c85 c86 c87 c88 c89 c90 c91 c92 c93 c94 c95 c96 c97 c98 c99 c100 c101 c102 c103 c104 c105 c106 c107 c108 c109 c110 c111 c112 c113 c114 c115 c116 c117 c118 c119 c120 c121 c122 c123 c124 c125 c126 c127 c128 c129 c130 c131 c132 c133 c134 c135 c136 c137 c138 c139 c140 c141 c142 c143 c144 c145 c146 c147 c148 c149 h1 h5 h6 h8 h13 h14
  replace h1 : c1 = .slice ad len cap := h1
  replace h5 : c5 = .pointer (some ⟨g.wb, 0, none⟩) := h5
  replace h6 : c6 = .int .i64 (k0 : Nat) := h6
  replace h8 : c8 = .int .i64 (cn : Nat) := h8
  replace h13 : c13 = .slice ar m cr := h13
  replace h14 : c14 = .int .i64 (k : Nat) := h14
  subst h1
  subst h5
  subst h6
  subst h8
  subst h13
  subst h14
  conv => arg 2; whnf
  have HM := Lib.hid hm
  clear hv T hm
  by_cases hlt : k < m
  · obtain ⟨x, hx⟩ : ∃ x, (rowsOf Q now 256)[k]? = some x := ⟨_, List.getElem?_eq_getElem (by rw [← HM.out]; exact hlt)⟩
    obtain ⟨ga, rfl, -⟩ := REL.out.2.form (by omega)
    have lcr := REL.out.2.len_cap
    have q1 := ahR_cell (a := none) REL.out.1 REL.out.2 hlt hx
    have hm := mem_rowsOf.1 (List.mem_of_getElem? hx)
    have hxd := REL.out.1.d.q.w.dl x (REL.out.1.d.q.p x hm.1)
    have hnl := REL.out.1.d.q.w.nl
    have ha := REL.out.1.d.q.a x hm.1
    have hf := spot_far hxd hnl hm.2
    obtain ⟨d, hd⟩ : ∃ d, d = x.d := ⟨_, rfl⟩
    rw [← hd] at q1 hxd hf ha
    have AP := Lib.hid (apart_q d now hxd hnl)
    have NW : Hid (∀ W, Ch Nil wr W → Calls Tryd.prog 28 #[.pointer (some ⟨g.wb, 0, none⟩)] W fun e w' => e = .returned (.int .u64 (now : Nat)) ∧ W = w') := Lib.hid fun W c => (REL.out.1.d.quiet c).time
    generalize ap d now 11 = aa at *
    have hkz : (k : Int) < (m : Int) := by omega
    have hkz0 : (0 : Int) ≤ (k : Int) := by omega
    have hdz : (now : Int) < (d : Int) := by omega
    have hm60 : m ≤ 60 := by rw [HM.out]; exact Nat.le_trans rowsOf_len (by have := REL.out.1.n; omega)
    have hkb : (k : Int) < 60 := by omega
    have hna : ¬ aa < 4 := by omega
    have hnd : decide (aa < 4) = false := decide_eq_false hna
    clear hm hx hd
    go_upto_region 34 with (fail)
    have CD : Hid (Ch Nil wr wr.drew) := Lib.hid (Ch.refl _ _).drew
    have qd : wr.drew.cell? ⟨ga, k, none⟩ = some (.int .u64 (d : Nat)) := q1
    refine wp_region_held_drew (S := fun w' => w'.cell? ⟨ga, k, none⟩ = some (.int .u64 (d : Nat))) (by kernel_rfl) qd (fun hHeld => ?_)
    generalize wr.drew = W at *
    refine take_at (v := ?_) 0 (some 129) rfl (by kernel_rfl) (by kernel_rfl) (by kernel_rfl) (by kernel_rfl) (fun _ _ _ h => h) (Or.inl ⟨by rfl, ?_⟩) (by assumption) ?_
    rotate_left
    · intro w hSw; (try dsimp only at hSw); go_simp; try (with_reducible rfl)
    (try simp only [Act.put, List.setIfInBounds_toArray, List.set_cons_zero, List.set_cons_succ])
    refine take_at (v := ?_) 1 (some 130) rfl (by kernel_rfl) (by kernel_rfl) (by kernel_rfl) (by kernel_rfl) (fun _ _ _ h => h) (Or.inl ⟨by rfl, ?_⟩) (by assumption) ?_
    rotate_left
    · intro w hSw; (try dsimp only at hSw); go_simp; try (with_reducible rfl)
    (try simp only [Act.put, List.setIfInBounds_toArray, List.set_cons_zero, List.set_cons_succ])
    refine take_at (v := ?_) 2 (some 131) rfl (by kernel_rfl) (by kernel_rfl) (by kernel_rfl) (by kernel_rfl) (fun _ _ _ h => h) (Or.inl ⟨by rfl, ?_⟩) (by assumption) ?_
    rotate_left
    · intro w hSw; (try dsimp only at hSw); go_simp; try (with_reducible rfl)
    (try simp only [Act.put, List.setIfInBounds_toArray, List.set_cons_zero, List.set_cons_succ])
    refine take_at (v := ?_) 3 (some 132) rfl (by kernel_rfl) (by kernel_rfl) (by kernel_rfl) (by kernel_rfl) (fun _ _ _ h => h) (Or.inl ⟨by rfl, ?_⟩) (by assumption) ?_
    rotate_left
    · intro w hSw; (try dsimp only at hSw); go_simp; try (with_reducible rfl)
    (try simp only [Act.put, List.setIfInBounds_toArray, List.set_cons_zero, List.set_cons_succ])
    refine take_at (v := ?_) 4 (some 133) rfl (by kernel_rfl) (by kernel_rfl) (by kernel_rfl) (by kernel_rfl) (fun _ _ _ h => h) (Or.inl ⟨by rfl, ?_⟩) (by assumption) ?_
    rotate_left
    · intro w hSw; (try dsimp only at hSw); go_simp; try (with_reducible rfl)
    (try simp only [Act.put, List.setIfInBounds_toArray, List.set_cons_zero, List.set_cons_succ])
    refine wpAnyH_ready (rs := [5]) (by kernel_rfl) (by simp) ?_
    refine AllReadyH.cons rfl (fun K hK => ?_) AllReadyH.nil
    go_simp
    refine (NW.out _ CD.out).mono ?_
    rintro e w5 ⟨rfl, rfl⟩
    refine hK.out _ _ qd (fun hHeld => ?_)
    clear hK K
    (try simp only [Act.put, List.setIfInBounds_toArray, List.set_cons_zero, List.set_cons_succ])
    refine wpAnyH_ready (rs := [6]) (by kernel_rfl) (by simp) ?_
    refine AllReadyH.cons rfl (fun K hK => ?_) AllReadyH.nil
    go_simp
    refine (AP.out _).mono ?_
    rintro e w6 ⟨rfl, c6⟩
    have q6 := c6.keeps qd (fun e => e)
    have C6 := Lib.hid (CD.out.trans c6)
    clear c6
    refine hK.out _ _ q6 (fun hHeld => ?_)
    clear hK K
    (try simp only [Act.put, List.setIfInBounds_toArray, List.set_cons_zero, List.set_cons_succ])
    refine take_at (v := ?_) 7 (some 136) rfl (by kernel_rfl) (by kernel_rfl) (by kernel_rfl) (by kernel_rfl) (fun _ _ _ h => h) (Or.inl ⟨by rfl, ?_⟩) (by assumption) ?_
    rotate_left
    · intro w hSw; (try dsimp only at hSw); go_simp; try (with_reducible rfl)
    (try simp only [Act.put, List.setIfInBounds_toArray, List.set_cons_zero, List.set_cons_succ])
    refine take_at (v := ?_) 8 (some 137) rfl (by kernel_rfl) (by kernel_rfl) (by kernel_rfl) (by kernel_rfl) (fun _ _ _ h => h) (Or.inl ⟨by rfl, ?_⟩) (by assumption) ?_
    rotate_left
    · intro w hSw; (try dsimp only at hSw); go_simp; try (with_reducible rfl)
    (try simp only [Act.put, List.setIfInBounds_toArray, List.set_cons_zero, List.set_cons_succ])
    refine take_at (v := ?_) 9 (some 138) rfl (by kernel_rfl) (by kernel_rfl) (by kernel_rfl) (by kernel_rfl) (fun _ _ _ h => h) (Or.inl ⟨by rfl, ?_⟩) (by assumption) ?_
    rotate_left
    · intro w hSw; (try dsimp only at hSw); go_simp; try (with_reducible rfl)
    (try simp only [Act.put, List.setIfInBounds_toArray, List.set_cons_zero, List.set_cons_succ])
    refine take_at (v := ?_) 10 (some 139) rfl (by kernel_rfl) (by kernel_rfl) (by kernel_rfl) (by kernel_rfl) (fun _ _ _ h => h) (Or.inl ⟨by rfl, ?_⟩) (by assumption) ?_
    rotate_left
    · intro w hSw; (try dsimp only at hSw); go_simp; try (with_reducible rfl)
    (try simp only [Act.put, List.setIfInBounds_toArray, List.set_cons_zero, List.set_cons_succ])
    refine take_at (v := ?_) 11 (some 140) rfl (by kernel_rfl) (by kernel_rfl) (by kernel_rfl) (by kernel_rfl) (fun _ _ _ h => h) (Or.inl ⟨by rfl, ?_⟩) (by assumption) ?_
    rotate_left
    · intro w hSw; (try dsimp only at hSw); go_simp; try (with_reducible rfl)
    (try simp only [Act.put, List.setIfInBounds_toArray, List.set_cons_zero, List.set_cons_succ])
    refine take_at (v := ?_) 12 (some 141) rfl (by kernel_rfl) (by kernel_rfl) (by kernel_rfl) (by kernel_rfl) (fun _ _ _ h => h) (Or.inl ⟨by rfl, ?_⟩) (by assumption) ?_
    rotate_left
    · intro w hSw; (try dsimp only at hSw); go_simp; try (with_reducible rfl)
    (try simp only [Act.put, List.setIfInBounds_toArray, List.set_cons_zero, List.set_cons_succ])
    refine take_at (v := ?_) 13 (some 142) rfl (by kernel_rfl) (by kernel_rfl) (by kernel_rfl) (by kernel_rfl) (fun _ _ _ h => h) (Or.inl ⟨by rfl, ?_⟩) (by assumption) ?_
    rotate_left
    · intro w hSw; (try dsimp only at hSw); go_simp; try (with_reducible rfl)
    (try simp only [Act.put, List.setIfInBounds_toArray, List.set_cons_zero, List.set_cons_succ])
    refine wpAnyH_ready (rs := [14]) (by kernel_rfl) (by simp) ?_
    refine AllReadyH.cons rfl (fun K hK => ?_) AllReadyH.nil
    go_simp
    refine (NW.out _ C6.out).mono ?_
    rintro e w7 ⟨rfl, rfl⟩
    refine hK.out _ _ q6 (fun hHeld => ?_)
    clear hK K
    (try simp only [Act.put, List.setIfInBounds_toArray, List.set_cons_zero, List.set_cons_succ])
    refine take_at (v := ?_) 15 (some 144) rfl (by kernel_rfl) (by kernel_rfl) (by kernel_rfl) (by kernel_rfl) (fun _ _ _ h => h) (Or.inl ⟨by rfl, ?_⟩) (by assumption) ?_
    rotate_left
    · intro w hSw; (try dsimp only at hSw); go_simp; try (with_reducible rfl)
    (try simp only [Act.put, List.setIfInBounds_toArray, List.set_cons_zero, List.set_cons_succ])
    refine take_at (v := ?_) 16 (some 145) rfl (by kernel_rfl) (by kernel_rfl) (by kernel_rfl) (by kernel_rfl) (fun _ _ _ h => h) (Or.inl ⟨by rfl, ?_⟩) (by assumption) ?_
    rotate_left
    · intro w hSw; (try dsimp only at hSw); go_simp; try (with_reducible rfl)
    (try simp only [Act.put, List.setIfInBounds_toArray, List.set_cons_zero, List.set_cons_succ])
    refine wpAnyH_done (by kernel_rfl) ?_ _
    have R6 := Lib.hid (And.intro (REL.out.1.quiet C6.out) (Row.kept REL.out.2 C6.out (fun _ _ e => e)))
    clear q6 qd q1 hHeld REL
    go_wp2
    first | exact ⟨⟨rfl, rfl, rfl, rfl, rfl, rfl, rfl, rfl, R6.out⟩, hlt⟩ | exact ⟨rfl, rfl, rfl, rfl, rfl, rfl, rfl, rfl, R6.out⟩
  · obtain rfl : k = m := by omega
    go_wp2
    first | exact ⟨by first | rfl | trivial, ⟨rfl, rfl, rfl, rfl, rfl, rfl, rfl, rfl, REL.out⟩, by first | rfl | trivial⟩ | exact ⟨by first | rfl | trivial, ⟨rfl, rfl, rfl, rfl, rfl, rfl, rfl, rfl, REL.out⟩⟩ | exact ⟨rfl, rfl, rfl, rfl, rfl, rfl, rfl, rfl, REL.out⟩
theorem waF_loop (w : World) (g : Wh) (ad : Option Addr) (len cap : Nat) (k0 : Nat) (now : Nat) (Q P : List Ent) (cn m : Nat) (ar : Option Addr) (cr : Nat) (hv : IsTab [.i .i64, .i .i64, .i .u64] w ad len cap) (T : Tab w) (h60 : len ≤ 60) (hk0 : k0 < len) (hm : m = (rowsOf Q now 256).length) (a : Act) (wr : World) (hb : 0 ≤ m) (H : waFI w g ad len cap k0 now Q P cn m ar cr 0 a wr) :
    Code.wp Tryd.prog (.loop (loopIn 10 Tryd.f5)) (Qx 10 (fun a' w' => waFI w g ad len cap k0 now Q P cn m ar cr m a' w')) a wr := by
  refine wp_loop (fun a' wr => ∃ k, k ≤ m ∧ waFI w g ad len cap k0 now Q P cn m ar cr k a' wr) (fun a' _ => m - (intOf (a'.tmps.getD 14 undef)).toNat) ⟨0, hb, H⟩ ?_
  rintro a' wr ⟨k, hk, h⟩
  refine wp_mono (waF_round w g ad len cap k0 now Q P cn m ar cr hv T h60 hk0 hm a' wr hk h) ?_
  intro e a2 w2 hp
  cases e with
  | normal =>
    refine ⟨⟨k + 1, by have := hp.2; omega, hp.1⟩, ?_⟩
    rw [waFI_ctr w g ad len cap k0 now Q P cn m ar cr h, waFI_ctr w g ad len cap k0 now Q P cn m ar cr hp.1]
    have := hp.2
    simp only [intOf, Int.toNat_natCast]
    omega
  | exit n => exact ⟨hp.1, hp.2.2 ▸ hp.2.1⟩
  | _ => exact hp.elim
end Go.Proofs.YtkdkkgbjfabifaaDoor
