import Derived.Test.YtldnmpiaofppgaaDoorCOoCode
import Derived.Test.YtldnmpiaofppgaaDoorK07
import Derived.Deep.QuietTactic
import Derived.BigQuiet
import Derived.Deep.Cut
import Derived.Deep.CutRange
import Derived.Deep.CutBlock
import Derived.RegionTactic
import Derived.BigRegion
/-
  ShardOrder: the loop over what is due.
-/
namespace Go.Proofs.YtldnmpiaofppgaaDoor
open Go.RowKit Verge Go.Proofs.YtldnmpiaofppgaaDoor.LT
set_option linter.unusedVariables false
set_option linter.unusedSimpArgs false
attribute [local go_sem] Oper.semAt_some

/-- what holds at the head of the loop -/
def ooNI (w : World) (s : Nat) (g : Wh) (mb : Nat) (ad : Option Addr) (len cap : Nat) (A : List Ac) (ds lq P : List Ent) (mn id now i tk k2 dn : Nat) (al : Option Addr) (cl : Nat) (k : Nat) (a : Act) (wr : World) : Prop :=
  ∃ (F : Nat → Option Nat) (last : Nat), a.defers = [] ∧ a.tmps.size = 193 ∧ a.tmps.getD 0 undef = .slice ad len cap ∧ a.tmps.getD 3 undef = .pointer (some ⟨s, 0, none⟩) ∧ a.tmps.getD 5 undef = .map (some mb) ∧ a.tmps.getD 6 undef = .int .u64 (id : Nat) ∧ a.tmps.getD 7 undef = .int .u64 (last : Nat) ∧ a.tmps.getD 8 undef = .int .i64 (i : Nat) ∧ a.tmps.getD 9 undef = .int .i64 (tk : Nat) ∧ a.tmps.getD 13 undef = .int .i64 (k2 : Nat) ∧ a.tmps.getD 14 undef = .slice al dn cl ∧ a.tmps.getD 16 undef = .int .i64 (k : Nat) ∧ OrN w wr s g mb now ds lq P F mn id last al cl k
theorem ooNI_ctr {k : Nat} (w : World) (s : Nat) (g : Wh) (mb : Nat) (ad : Option Addr) (len cap : Nat) (A : List Ac) (ds lq P : List Ent) (mn id now i tk k2 dn : Nat) (al : Option Addr) (cl : Nat) {a : Act} {wr : World} (H : ooNI w s g mb ad len cap A ds lq P mn id now i tk k2 dn al cl k a wr) : a.tmps.getD 16 undef = .int .i64 (k : Nat) := by
  obtain ⟨F, last, -, -, -, -, -, -, -, -, -, -, -, h, -⟩ := H
  exact h
set_option maxRecDepth 100000 in
set_option maxHeartbeats 0 in
theorem ooN_round {k : Nat} (w : World) (s : Nat) (g : Wh) (mb : Nat) (ad : Option Addr) (len cap : Nat) (A : List Ac) (ds lq P : List Ent) (mn id now i tk k2 dn : Nat) (al : Option Addr) (cl : Nat) (hs : ASrc w ad A) (hA : A.length = len) (ok : ∀ x, x ∈ A → x.ok) (h60 : len ≤ 60) (hc : len ≤ cap ∧ cap ≤ maxLen) (T : Tab w) (hdn : ds.length = dn) (hid : id ≤ 60) (hnw : now ≤ 20000) (a : Act) (wr : World) (hk : k ≤ dn) (H : ooNI w s g mb ad len cap A ds lq P mn id now i tk k2 dn al cl k a wr) :
    Code.wp Tryd.prog (loopIn 4 Tryd.f4) (Exit.then (fun a' w' => ooNI w s g mb ad len cap A ds lq P mn id now i tk k2 dn al cl (k + 1) a' w' ∧ k < dn) (Qx 4 (fun a' w' => ooNI w s g mb ad len cap A ds lq P mn id now i tk k2 dn al cl k a' w' ∧ k = dn))) a wr := by
  obtain ⟨t, ds⟩ := a
  obtain ⟨F, last, hd', hz, h0, h3, h5, h6, h7, h8, h9, h13, h14, h16, rel⟩ := H
  replace hd' : ds = [] := hd'
  subst hd'
  replace hz : t.size = 193 := hz
  replace h0 : t.getD 0 undef = .slice ad len cap := h0
  replace h3 : t.getD 3 undef = .pointer (some ⟨s, 0, none⟩) := h3
  replace h5 : t.getD 5 undef = .map (some mb) := h5
  replace h6 : t.getD 6 undef = .int .u64 (id : Nat) := h6
  replace h7 : t.getD 7 undef = .int .u64 (last : Nat) := h7
  replace h8 : t.getD 8 undef = .int .i64 (i : Nat) := h8
  replace h9 : t.getD 9 undef = .int .i64 (tk : Nat) := h9
  replace h13 : t.getD 13 undef = .int .i64 (k2 : Nat) := h13
  replace h14 : t.getD 14 undef = .slice al dn cl := h14
  replace h16 : t.getD 16 undef = .int .i64 (k : Nat) := h16
  have REL := Lib.hid rel
  clear rel
  refine openFr193 (P := fun t => t.getD 0 undef = .slice ad len cap → t.getD 3 undef = .pointer (some ⟨s, 0, none⟩) → t.getD 5 undef = .map (some mb) → t.getD 6 undef = .int .u64 (id : Nat) → t.getD 7 undef = .int .u64 (last : Nat) → t.getD 8 undef = .int .i64 (i : Nat) → t.getD 9 undef = .int .i64 (tk : Nat) → t.getD 13 undef = .int .i64 (k2 : Nat) → t.getD 14 undef = .slice al dn cl → t.getD 16 undef = .int .i64 (k : Nat) → Code.wp Tryd.prog (loopIn 4 Tryd.f4) (Exit.then (fun a' w' => ooNI w s g mb ad len cap A ds lq P mn id now i tk k2 dn al cl (k + 1) a' w' ∧ k < dn) (Qx 4 (fun a' w' => ooNI w s g mb ad len cap A ds lq P mn id now i tk k2 dn al cl k a' w' ∧ k = dn))) ⟨t, []⟩ wr) ?_ t hz h0 h3 h5 h6 h7 h8 h9 h13 h14 h16
  clear h0 h3 h5 h6 h7 h8 h9 h13 h14 h16 hz t
  intro c0 c1 c2 c3 c4 c5 c6 c7 c8 c9 c10 c11 c12 c13 c14 c15 c16 c17 c18 c19 c20 c21 c22 c23 c24 c25 c26 c27 c28 c29 c30 c31 c32 c33 c34 c35 c36 c37 c38 c39 c40 c41 c42 c43 c44 c45 c46 c47 c48 c49 c50 c51 c52 c53 c54 c55 c56 c57 c58 c59 c60 c61 c62 c63 c64 c65 c66 c67 c68 c69 c70 c71 c72 c73 c74 c75 c76 c77 c78 c79 c80 c81 c82 c83 c84 c85 c86 c87 c88 c89 c90 c91 c92 c93 c94 c95 c96 c97 c98 c99 c100 c101 c102 c103 c104 c105 c106 c107 c108 c109 c110 c111 c112 c113 c114 c115 c116 c117 c118 c119 c120 c121 c122 c123 c124 c125 c126 c127 c128 c129 c130 c131 c132 c133 c134 c135 c136 c137 c138 c139 c140 c141 c142 c143 c144 c145 c146 c147 c148 c149 c150 c151 c152 c153 c154 c155 c156 c157 c158 c159 c160 c161 c162 c163 c164 c165 c166 c167 c168 c169 c170 c171 c172 c173 c174 c175 c176 c177 c178 c179 c180 c181 c182 c183 c184 c185 c186 c187 c188 c189 c190 c191 c192 h0 h3 h5 h6 h7 h8 h9 h13 h14 h16
  replace h0 : c0 = .slice ad len cap := h0
  replace h3 : c3 = .pointer (some ⟨s, 0, none⟩) := h3
  replace h5 : c5 = .map (some mb) := h5
  replace h6 : c6 = .int .u64 (id : Nat) := h6
  replace h7 : c7 = .int .u64 (last : Nat) := h7
  replace h8 : c8 = .int .i64 (i : Nat) := h8
  replace h9 : c9 = .int .i64 (tk : Nat) := h9
  replace h13 : c13 = .int .i64 (k2 : Nat) := h13
  replace h14 : c14 = .slice al dn cl := h14
  replace h16 : c16 = .int .i64 (k : Nat) := h16
  subst h0
  subst h3
  subst h5
  subst h6
  subst h7
  subst h8
  subst h9
  subst h13
  subst h14
  subst h16
  conv => arg 2; whnf
  clear hs hA ok T
  have hlen := REL.out.b.2
  by_cases hlt : k < dn
  · have hkz : (k : Int) < (dn : Int) := by omega
    have hkz0 : (0 : Int) ≤ (k : Int) := by omega
    obtain ⟨x, hx⟩ : ∃ x, ds[k]? = some x := ⟨_, List.getElem?_eq_getElem (by omega)⟩
    obtain ⟨tb, rfl, -⟩ := Row.form REL.out.r (by rw [List.length_map]; omega)
    have hxu : (ds.map (·.u))[k]? = some x.u := by rw [List.getElem?_map, hx]; rfl
    have c0 := Row.cell REL.out.r (k * 5 + 0) (by rw [List.length_map]; omega)
    have c3 := Row.cell REL.out.r (k * 5 + 3) (by rw [List.length_map]; omega)
    rw [tc_at hxu (by omega)] at c0 c3
    have hxm := List.mem_of_getElem? hx
    have hud : x.u.d = now := (REL.out.u x (.inl hxm)).1.trans (REL.out.a x hxm)
    have hui : x.u.i ≤ id := (REL.out.u x (.inl hxm)).2.2
    simp only [tkc, Nat.add_zero, hud] at c0 c3
    have hat := REL.out.at_ hx
    obtain ⟨xi, hxi⟩ : ∃ xi, xi = x.u.i := ⟨_, rfl⟩
    have HXI := Lib.hid hxi
    rw [← hxi] at c0 hat hui
    have HAT := Lib.hid hat
    have HX := Lib.hid hx
    have hlast : (last : Int) ≤ (now : Int) := by have := REL.out.l; omega
    clear hxu hx hud hxm hat hxi
    go_upto_region 34 with (fail)
    have RD := Lib.hid (REL.out.quiet (Ch.refl _ _).drew)
    have d0 : wr.drew.cell? ⟨tb, k * 5, none⟩ = some (.int .u64 (xi : Nat)) := c0
    have d3 : wr.drew.cell? ⟨tb, k * 5 + 3, none⟩ = some (.int .u64 (now : Nat)) := c3
    clear REL c0 c3
    have lk := RD.out.m.look xi (by omega)
    rw [HAT.out] at lk
    simp only [Option.getD_some] at lk
    refine wp_region_held_drew (S := fun w' => (w'.cell? ⟨tb, k * 5, none⟩ = some (.int .u64 (xi : Nat)) ∧ w'.cell? ⟨tb, k * 5 + 3, none⟩ = some (.int .u64 (now : Nat))) ∧ (Instr.lookup 52 (.map (some mb)) (.int .u64 (xi : Int)) false).run Tryd.prog w' = .ok (.int .u64 ((now : Nat) : Int)) w') (by kernel_rfl) ⟨⟨d0, d3⟩, lk⟩ (fun hHeld => ?_)
    clear d0 d3 lk
    generalize wr.drew = X at *
    refine take_at (v := ?_) 0 (some 127) rfl (by kernel_rfl) (by kernel_rfl) (by kernel_rfl) (by kernel_rfl) (fun _ _ _ h => h) (Or.inl ⟨by rfl, ?_⟩) (by assumption) ?_
    rotate_left
    · intro w hSw; (try dsimp only at hSw); go_simp; try (with_reducible rfl)
    (try simp only [Act.put, List.setIfInBounds_toArray, List.set_cons_zero, List.set_cons_succ])
    refine take_at (v := ?_) 1 (some 128) rfl (by kernel_rfl) (by kernel_rfl) (by kernel_rfl) (by kernel_rfl) (fun _ _ _ h => h) (Or.inl ⟨by rfl, ?_⟩) (by assumption) ?_
    rotate_left
    · intro w hSw; (try dsimp only at hSw); go_simp; try (with_reducible rfl)
    (try simp only [Act.put, List.setIfInBounds_toArray, List.set_cons_zero, List.set_cons_succ])
    refine take_at (v := ?_) 2 (some 129) rfl (by kernel_rfl) (by kernel_rfl) (by kernel_rfl) (by kernel_rfl) (fun _ _ _ h => h) (Or.inl ⟨by rfl, ?_⟩) (by assumption) ?_
    rotate_left
    · intro w hSw; (try dsimp only at hSw); go_simp; try (with_reducible rfl)
    (try simp only [Act.put, List.setIfInBounds_toArray, List.set_cons_zero, List.set_cons_succ])
    refine take_at (v := ?_) 3 (some 130) rfl (by kernel_rfl) (by kernel_rfl) (by kernel_rfl) (by kernel_rfl) (fun _ _ _ h => h) (Or.inl ⟨by rfl, ?_⟩) (by assumption) ?_
    rotate_left
    · intro w hSw; (try dsimp only at hSw); go_simp; try (with_reducible rfl)
    (try simp only [Act.put, List.setIfInBounds_toArray, List.set_cons_zero, List.set_cons_succ])
    refine take_at (v := ?_) 4 (some 131) rfl (by kernel_rfl) (by kernel_rfl) (by kernel_rfl) (by kernel_rfl) (fun _ _ _ h => h) (Or.inl ⟨by rfl, ?_⟩) (by assumption) ?_
    rotate_left
    · intro w hSw; (try dsimp only at hSw); go_simp; try (with_reducible rfl)
    (try simp only [Act.put, List.setIfInBounds_toArray, List.set_cons_zero, List.set_cons_succ])
    refine take_at (v := ?_) 5 (some 132) rfl (by kernel_rfl) (by kernel_rfl) (by kernel_rfl) (by kernel_rfl) (fun _ _ _ h => h) (Or.inl ⟨by rfl, ?_⟩) (by assumption) ?_
    rotate_left
    · intro w hSw; (try dsimp only at hSw); go_simp; try (with_reducible rfl)
    (try simp only [Act.put, List.setIfInBounds_toArray, List.set_cons_zero, List.set_cons_succ])
    refine take_at (v := ?_) 6 (some 133) rfl (by kernel_rfl) (by kernel_rfl) (by kernel_rfl) (by kernel_rfl) (fun _ _ _ h => h) (Or.inl ⟨by rfl, ?_⟩) (by assumption) ?_
    rotate_left
    · intro w hSw; (try dsimp only at hSw); go_simp; try (with_reducible rfl)
    (try simp only [Act.put, List.setIfInBounds_toArray, List.set_cons_zero, List.set_cons_succ])
    refine take_at (v := ?_) 7 (some 134) rfl (by kernel_rfl) (by kernel_rfl) (by kernel_rfl) (by kernel_rfl) (fun _ _ _ h => h) (Or.inl ⟨by rfl, ?_⟩) (by assumption) ?_
    rotate_left
    · intro w hSw; (try dsimp only at hSw); go_simp; try (with_reducible rfl)
    (try simp only [Act.put, List.setIfInBounds_toArray, List.set_cons_zero, List.set_cons_succ])
    refine take_at (v := ?_) 8 (some 135) rfl (by kernel_rfl) (by kernel_rfl) (by kernel_rfl) (by kernel_rfl) (fun _ _ _ h => h) (Or.inl ⟨by rfl, ?_⟩) (by assumption) ?_
    rotate_left
    · intro w hSw; (try dsimp only at hSw); go_simp; try (with_reducible rfl)
    (try simp only [Act.put, List.setIfInBounds_toArray, List.set_cons_zero, List.set_cons_succ])
    refine take_at (v := ?_) 9 (some 136) rfl (by kernel_rfl) (by kernel_rfl) (by kernel_rfl) (by kernel_rfl) (fun _ _ _ h => h) (Or.inl ⟨by rfl, ?_⟩) (by assumption) ?_
    rotate_left
    · intro w hSw; (try dsimp only at hSw); go_simp; try (with_reducible rfl)
    (try simp only [Act.put, List.setIfInBounds_toArray, List.set_cons_zero, List.set_cons_succ])
    refine take_at (v := ?_) 10 (some 137) rfl (by kernel_rfl) (by kernel_rfl) (by kernel_rfl) (by kernel_rfl) (fun _ _ _ h => h) (Or.inl ⟨by rfl, ?_⟩) (by assumption) ?_
    rotate_left
    · intro w hSw; (try dsimp only at hSw); go_simp; try (with_reducible rfl)
    (try simp only [Act.put, List.setIfInBounds_toArray, List.set_cons_zero, List.set_cons_succ])
    refine take_at (v := ?_) 11 (some 138) rfl (by kernel_rfl) (by kernel_rfl) (by kernel_rfl) (by kernel_rfl) (fun _ _ _ h => h) (Or.inl ⟨by rfl, ?_⟩) (by assumption) ?_
    rotate_left
    · intro w hSw; (try dsimp only at hSw); go_simp; try (with_reducible rfl)
    (try simp only [Act.put, List.setIfInBounds_toArray, List.set_cons_zero, List.set_cons_succ])
    refine take_at (v := ?_) 12 (some 139) rfl (by kernel_rfl) (by kernel_rfl) (by kernel_rfl) (by kernel_rfl) (fun _ _ _ h => h) (Or.inl ⟨by rfl, ?_⟩) (by assumption) ?_
    rotate_left
    · intro w hSw; (try dsimp only at hSw); go_simp; try (with_reducible rfl)
    (try simp only [Act.put, List.setIfInBounds_toArray, List.set_cons_zero, List.set_cons_succ])
    refine take_at (v := ?_) 13 (some 140) rfl (by kernel_rfl) (by kernel_rfl) (by kernel_rfl) (by kernel_rfl) (fun _ _ _ h => h) (Or.inl ⟨by rfl, ?_⟩) (by assumption) ?_
    rotate_left
    · intro w hSw; (try dsimp only at hSw); go_simp; try (with_reducible rfl)
    (try simp only [Act.put, List.setIfInBounds_toArray, List.set_cons_zero, List.set_cons_succ])
    refine take_at (v := ?_) 14 (some 141) rfl (by kernel_rfl) (by kernel_rfl) (by kernel_rfl) (by kernel_rfl) (fun _ _ _ h => h) (Or.inl ⟨by rfl, ?_⟩) (by assumption) ?_
    rotate_left
    · intro w hSw; (try dsimp only at hSw); go_simp; try (with_reducible rfl)
    (try simp only [Act.put, List.setIfInBounds_toArray, List.set_cons_zero, List.set_cons_succ])
    refine take_at (v := ?_) 15 (some 142) rfl (by kernel_rfl) (by kernel_rfl) (by kernel_rfl) (by kernel_rfl) (fun _ _ _ h => h) (Or.inl ⟨by rfl, ?_⟩) (by assumption) ?_
    rotate_left
    · intro w hSw; (try dsimp only at hSw); go_simp; try (with_reducible rfl)
    (try simp only [Act.put, List.setIfInBounds_toArray, List.set_cons_zero, List.set_cons_succ])
    refine take_at (v := ?_) 16 (some 143) rfl (by kernel_rfl) (by kernel_rfl) (by kernel_rfl) (by kernel_rfl) (fun _ _ _ h => h) (Or.inl ⟨by rfl, ?_⟩) (by assumption) ?_
    rotate_left
    · intro w hSw; (try dsimp only at hSw); go_simp; try (with_reducible rfl)
    (try simp only [Act.put, List.setIfInBounds_toArray, List.set_cons_zero, List.set_cons_succ])
    refine take_at (v := ?_) 17 (some 144) rfl (by kernel_rfl) (by kernel_rfl) (by kernel_rfl) (by kernel_rfl) (fun _ _ _ h => h) (Or.inl ⟨by rfl, ?_⟩) (by assumption) ?_
    rotate_left
    · intro w hSw; (try dsimp only at hSw); go_simp; try (with_reducible rfl)
    (try simp only [Act.put, List.setIfInBounds_toArray, List.set_cons_zero, List.set_cons_succ])
    refine take_at (v := ?_) 18 (some 145) rfl (by kernel_rfl) (by kernel_rfl) (by kernel_rfl) (by kernel_rfl) (fun _ _ _ h => h) (Or.inl ⟨by rfl, ?_⟩) (by assumption) ?_
    rotate_left
    · intro w hSw; (try dsimp only at hSw); go_simp; try (with_reducible rfl)
    (try simp only [Act.put, List.setIfInBounds_toArray, List.set_cons_zero, List.set_cons_succ])
    refine take_at (v := ?_) 19 (some 146) rfl (by kernel_rfl) (by kernel_rfl) (by kernel_rfl) (by kernel_rfl) (fun _ _ _ h => h) (Or.inl ⟨by rfl, ?_⟩) (by assumption) ?_
    rotate_left
    · intro w hSw; (try dsimp only at hSw); go_simp; try (with_reducible rfl)
    (try simp only [Act.put, List.setIfInBounds_toArray, List.set_cons_zero, List.set_cons_succ])
    refine wpAnyH_ready (rs := [20]) (by kernel_rfl) (by simp) ?_
    refine AllReadyH.cons rfl (fun K hK => ?_) AllReadyH.nil
    go_simp
    refine RD.out.h.now_of.mono ?_
    rintro e w5 ⟨rfl, c5⟩
    have R5 := Lib.hid (RD.out.quiet c5)
    have lk5 := R5.out.m.look xi (by omega)
    rw [HAT.out] at lk5
    simp only [Option.getD_some] at lk5
    have q0 := c5.keeps hHeld.1.1 (fun e => e)
    have q3 := c5.keeps hHeld.1.2 (fun e => e)
    clear c5 RD hHeld
    refine hK.out _ _ ⟨⟨q0, q3⟩, lk5⟩ (fun hHeld => ?_)
    clear hK K lk5
    (try simp only [Act.put, List.setIfInBounds_toArray, List.set_cons_zero, List.set_cons_succ])
    refine take_at (v := ?_) 21 (some 148) rfl (by kernel_rfl) (by kernel_rfl) (by kernel_rfl) (by kernel_rfl) (fun _ _ _ h => h) (Or.inl ⟨by rfl, ?_⟩) (by assumption) ?_
    rotate_left
    · intro w hSw; (try dsimp only at hSw); go_simp; try (with_reducible rfl)
    (try simp only [Act.put, List.setIfInBounds_toArray, List.set_cons_zero, List.set_cons_succ])
    refine take_at (v := ?_) 22 (some 149) rfl (by kernel_rfl) (by kernel_rfl) (by kernel_rfl) (by kernel_rfl) (fun _ _ _ h => h) (Or.inl ⟨by rfl, ?_⟩) (by assumption) ?_
    rotate_left
    · intro w hSw; (try dsimp only at hSw); go_simp; try (with_reducible rfl)
    (try simp only [Act.put, List.setIfInBounds_toArray, List.set_cons_zero, List.set_cons_succ])
    refine take_at (v := ?_) 23 (some 150) rfl (by kernel_rfl) (by kernel_rfl) (by kernel_rfl) (by kernel_rfl) (fun _ _ _ h => h) (Or.inl ⟨by rfl, ?_⟩) (by assumption) ?_
    rotate_left
    · intro w hSw; (try dsimp only at hSw); go_simp; try (with_reducible rfl)
    (try simp only [Act.put, List.setIfInBounds_toArray, List.set_cons_zero, List.set_cons_succ])
    refine take_at (v := ?_) 24 (some 151) rfl (by kernel_rfl) (by kernel_rfl) (by kernel_rfl) (by kernel_rfl) (fun _ _ _ h => h) (Or.inl ⟨by rfl, ?_⟩) (by assumption) ?_
    rotate_left
    · intro w hSw; (try dsimp only at hSw); go_simp; try (with_reducible rfl)
    (try simp only [Act.put, List.setIfInBounds_toArray, List.set_cons_zero, List.set_cons_succ])
    refine take_at (v := ?_) 25 (some 152) rfl (by kernel_rfl) (by kernel_rfl) (by kernel_rfl) (by kernel_rfl) (fun _ _ _ h => h) (Or.inl ⟨by rfl, ?_⟩) (by assumption) ?_
    rotate_left
    · intro w hSw; (try dsimp only at hSw); go_simp; try (with_reducible rfl)
    (try simp only [Act.put, List.setIfInBounds_toArray, List.set_cons_zero, List.set_cons_succ])
    refine take_at (v := ?_) 26 (some 153) rfl (by kernel_rfl) (by kernel_rfl) (by kernel_rfl) (by kernel_rfl) (fun _ _ _ h => h) (Or.inl ⟨by rfl, ?_⟩) (by assumption) ?_
    rotate_left
    · intro w hSw; (try dsimp only at hSw); go_simp; try (with_reducible rfl)
    (try simp only [Act.put, List.setIfInBounds_toArray, List.set_cons_zero, List.set_cons_succ])
    refine take_at (v := ?_) 27 (some 154) rfl (by kernel_rfl) (by kernel_rfl) (by kernel_rfl) (by kernel_rfl) (fun _ _ _ h => h) (Or.inl ⟨by rfl, ?_⟩) (by assumption) ?_
    rotate_left
    · intro w hSw; (try dsimp only at hSw); go_simp; try (with_reducible rfl)
    (try simp only [Act.put, List.setIfInBounds_toArray, List.set_cons_zero, List.set_cons_succ])
    refine take_at (v := ?_) 28 (some 155) rfl (by kernel_rfl) (by kernel_rfl) (by kernel_rfl) (by kernel_rfl) (fun _ _ _ h => h) (Or.inl ⟨by rfl, ?_⟩) (by assumption) ?_
    rotate_left
    · intro w hSw; (try dsimp only at hSw); go_simp; try (with_reducible rfl)
    (try simp only [Act.put, List.setIfInBounds_toArray, List.set_cons_zero, List.set_cons_succ])
    refine take_at (v := ?_) 29 (some 156) rfl (by kernel_rfl) (by kernel_rfl) (by kernel_rfl) (by kernel_rfl) (fun _ _ _ h => h) (Or.inl ⟨by rfl, ?_⟩) (by assumption) ?_
    rotate_left
    · intro w hSw; (try dsimp only at hSw); go_simp; try (with_reducible rfl)
    (try simp only [Act.put, List.setIfInBounds_toArray, List.set_cons_zero, List.set_cons_succ])
    refine take_at (v := ?_) 30 (some 157) rfl (by kernel_rfl) (by kernel_rfl) (by kernel_rfl) (by kernel_rfl) (fun _ _ _ h => h) (Or.inl ⟨by rfl, ?_⟩) (by assumption) ?_
    rotate_left
    · intro w hSw; (try dsimp only at hSw); go_simp; try (with_reducible rfl)
    (try simp only [Act.put, List.setIfInBounds_toArray, List.set_cons_zero, List.set_cons_succ])
    refine take_at (v := ?_) 31 (some 158) rfl (by kernel_rfl) (by kernel_rfl) (by kernel_rfl) (by kernel_rfl) (fun _ _ _ h => h) (Or.inl ⟨by rfl, ?_⟩) (by assumption) ?_
    rotate_left
    · intro w hSw; (try dsimp only at hSw); go_simp; try (with_reducible rfl)
    (try simp only [Act.put, List.setIfInBounds_toArray, List.set_cons_zero, List.set_cons_succ])
    refine wpAnyH_done (by kernel_rfl) ?_ _
    clear hHeld
    obtain ⟨w6, c', hdel, hc', m6, ch6⟩ := R5.out.m.drop xi now (by omega) HAT.out
    rw [HXI.out] at m6
    have HC' := Lib.hid hc'
    clear hc'
    have NX := Lib.hid (R5.out.next HX.out HC'.out m6 ch6)
    clear m6 ch6 HC' R5
    go_wp2
    first | exact ⟨⟨_, _, rfl, rfl, rfl, rfl, rfl, rfl, rfl, rfl, rfl, rfl, rfl, rfl, NX.out⟩, hlt⟩ | exact ⟨_, _, rfl, rfl, rfl, rfl, rfl, rfl, rfl, rfl, rfl, rfl, rfl, rfl, NX.out⟩
  · obtain rfl : k = dn := by omega
    go_wp2
    exact ⟨by first | rfl | trivial, ⟨_, _, rfl, rfl, rfl, rfl, rfl, rfl, rfl, rfl, rfl, rfl, rfl, rfl, REL.out⟩, by first | rfl | trivial⟩
theorem ooN_loop (w : World) (s : Nat) (g : Wh) (mb : Nat) (ad : Option Addr) (len cap : Nat) (A : List Ac) (ds lq P : List Ent) (mn id now i tk k2 dn : Nat) (al : Option Addr) (cl : Nat) (hs : ASrc w ad A) (hA : A.length = len) (ok : ∀ x, x ∈ A → x.ok) (h60 : len ≤ 60) (hc : len ≤ cap ∧ cap ≤ maxLen) (T : Tab w) (hdn : ds.length = dn) (hid : id ≤ 60) (hnw : now ≤ 20000) (a : Act) (wr : World) (hb : 0 ≤ dn) (H : ooNI w s g mb ad len cap A ds lq P mn id now i tk k2 dn al cl 0 a wr) :
    Code.wp Tryd.prog (.loop (loopIn 4 Tryd.f4)) (Qx 4 (fun a' w' => ooNI w s g mb ad len cap A ds lq P mn id now i tk k2 dn al cl dn a' w')) a wr := by
  refine wp_loop (fun a' wr => ∃ k, k ≤ dn ∧ ooNI w s g mb ad len cap A ds lq P mn id now i tk k2 dn al cl k a' wr) (fun a' _ => dn - (intOf (a'.tmps.getD 16 undef)).toNat) ⟨0, hb, H⟩ ?_
  rintro a' wr ⟨k, hk, h⟩
  refine wp_mono (ooN_round w s g mb ad len cap A ds lq P mn id now i tk k2 dn al cl hs hA ok h60 hc T hdn hid hnw a' wr hk h) ?_
  intro e a2 w2 hp
  cases e with
  | normal =>
    refine ⟨⟨k + 1, by have := hp.2; omega, hp.1⟩, ?_⟩
    rw [ooNI_ctr w s g mb ad len cap A ds lq P mn id now i tk k2 dn al cl h, ooNI_ctr w s g mb ad len cap A ds lq P mn id now i tk k2 dn al cl hp.1]
    have := hp.2
    simp only [intOf, Int.toNat_natCast]
    omega
  | exit n => exact ⟨hp.1, hp.2.2 ▸ hp.2.1⟩
  | _ => exact hp.elim
end Go.Proofs.YtldnmpiaofppgaaDoor
