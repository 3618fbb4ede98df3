/-
  WheelExact: the loop that removes.
-/
import Derived.Test.YtkdkkgbjfabifaaDoorWxCode
import Derived.Test.YtkdkkgbjfabifaaDoorHeld
import Derived.Deep.QuietTactic
import Derived.BigQuiet
import Derived.Deep.Cut
import Derived.Deep.CutRange
import Derived.Deep.CutBlock
import Derived.RegionTactic
import Derived.BigRegion
namespace Go.Proofs.YtkdkkgbjfabifaaDoor
open Go.RowKit Verge LP
set_option linter.unusedVariables false
set_option linter.unusedSimpArgs false
attribute [local go_sem] Oper.semAt_some

/-- what holds at the head of the loop -/
def wxBI (w : World) (g : Wh) (ad bd : Option Addr) (n0 ti len cap blen bcap mb : Nat) (zs ys : List Int) (bb : Nat) (k : Nat) (a : Act) (wr : World) : Prop :=
  ∃ (P Q : List Ent) (F : Nat → Int) (ar : Option Addr) (cr mm : Nat), a.defers = [] ∧ a.tmps.size = 220 ∧ a.tmps.getD 0 undef = .int .u64 (n0 : Nat) ∧ a.tmps.getD 1 undef = .slice ad len cap ∧ a.tmps.getD 3 undef = .int .u16 (ti : Nat) ∧ a.tmps.getD 9 undef = .pointer (some ⟨g.wb, 0, none⟩) ∧ a.tmps.getD 11 undef = .map (some mb) ∧ a.tmps.getD 2 undef = .slice bd blen bcap ∧ a.tmps.getD 10 undef = .slice ar len cr ∧ a.tmps.getD 15 undef = .int .i64 (k : Nat) ∧ Ex w g mb n0 zs len mm n0 P Q F ar cr wr ∧ mm ≤ k
theorem wxBI_ctr {k : Nat} (w : World) (g : Wh) (ad bd : Option Addr) (n0 ti len cap blen bcap mb : Nat) (zs ys : List Int) (bb : Nat) {a : Act} {wr : World} (H : wxBI w g ad bd n0 ti len cap blen bcap mb zs ys bb k a wr) : a.tmps.getD 15 undef = .int .i64 (k : Nat) := by
  obtain ⟨P, Q, F, ar, cr, mm, -, -, -, -, -, -, -, -, -, h, -⟩ := H
  exact h
set_option maxRecDepth 100000 in
set_option maxHeartbeats 0 in
theorem wxB_round {k : Nat} (w : World) (g : Wh) (ad bd : Option Addr) (n0 ti len cap blen bcap mb : Nat) (zs ys : List Int) (bb : Nat) (hv : IsRow .u16 w ad len cap zs) (hu : IsRow .u8 w bd blen bcap ys) (T : Tab w) (h60 : len ≤ 60) (hb60 : blen ≤ 60) (bn : n0 ≤ 18446744073709351615) (bt : ti ≤ 65535) (hbb : (len = 0 ∧ bb = 0) ∨ (0 < len ∧ bb = blen)) (a : Act) (wr : World) (hk : k ≤ bb) (H : wxBI w g ad bd n0 ti len cap blen bcap mb zs ys bb k a wr) :
    Code.wp Tryd.prog (loopIn 2 Tryd.f4) (Exit.then (fun a' w' => wxBI w g ad bd n0 ti len cap blen bcap mb zs ys bb (k + 1) a' w' ∧ k < bb) (Qx 2 (fun a' w' => wxBI w g ad bd n0 ti len cap blen bcap mb zs ys bb k a' w' ∧ k = bb))) a wr := by
  obtain ⟨t, ds⟩ := a
  obtain ⟨P, Q, F, ar, cr, mm, hd', hz, h0, h1, h3, h9, h11, h2, h10, h15, rel⟩ := H
  replace hd' : ds = [] := hd'
  subst hd'
  replace hz : t.size = 220 := hz
  replace h0 : t.getD 0 undef = .int .u64 (n0 : Nat) := h0
  replace h1 : t.getD 1 undef = .slice ad len cap := h1
  replace h3 : t.getD 3 undef = .int .u16 (ti : Nat) := h3
  replace h9 : t.getD 9 undef = .pointer (some ⟨g.wb, 0, none⟩) := h9
  replace h11 : t.getD 11 undef = .map (some mb) := h11
  replace h2 : t.getD 2 undef = .slice bd blen bcap := h2
  replace h10 : t.getD 10 undef = .slice ar len cr := h10
  replace h15 : t.getD 15 undef = .int .i64 (k : Nat) := h15
  have REL := Lib.hid rel
  clear rel
  refine openFr220 (P := fun t => t.getD 0 undef = .int .u64 (n0 : Nat) → t.getD 1 undef = .slice ad len cap → t.getD 3 undef = .int .u16 (ti : Nat) → t.getD 9 undef = .pointer (some ⟨g.wb, 0, none⟩) → t.getD 11 undef = .map (some mb) → t.getD 2 undef = .slice bd blen bcap → t.getD 10 undef = .slice ar len cr → t.getD 15 undef = .int .i64 (k : Nat) → Code.wp Tryd.prog (loopIn 2 Tryd.f4) (Exit.then (fun a' w' => wxBI w g ad bd n0 ti len cap blen bcap mb zs ys bb (k + 1) a' w' ∧ k < bb) (Qx 2 (fun a' w' => wxBI w g ad bd n0 ti len cap blen bcap mb zs ys bb k a' w' ∧ k = bb))) ⟨t, []⟩ wr) ?_ t hz h0 h1 h3 h9 h11 h2 h10 h15
  clear h0 h1 h3 h9 h11 h2 h10 h15 hz t
  intro c0 c1 c2 c3 c4 c5 c6 c7 c8 c9 c10 c11 c12 c13 c14 c15 c16 c17 c18 c19 c20 c21 c22 c23 c24 c25 c26 c27 c28 c29 c30 c31 c32 c33 c34 c35 c36 c37 c38 c39 c40 c41 c42 c43 c44 c45 c46 c47 c48 c49 c50 c51 c52 c53 c54 c55 c56 c57 c58 c59 c60 c61 c62 c63 c64 c65 c66 c67 c68 c69 c70 c71 c72 c73 c74 c75 c76 c77 c78 c79 c80 c81 c82 c83 c84 c85 c86 c87 c88 c89 c90 c91 c92 c93 c94 c95 c96 c97 c98 c99 c100 c101 c102 c103 c104 c105 c106 c107 c108 c109 c110 c111 c112 c113 c114 c115 c116 c117 c118 c119 c120 c121 c122 c123 c124 c125 c126 c127 c128 c129 c130 c131 c132 c133 c134 c135 c136 c137 c138 c139 c140 c141 c142 c143 c144 c145 c146 c147 c148 c149 c150 c151 c152 c153 c154 c155 c156 c157 c158 c159 c160 c161 c162 c163 c164 c165 c166 c167 c168 c169 c170 c171 c172 c173 c174 c175 c176 c177 c178 c179 c180 c181 c182 c183 c184 c185 c186 c187 c188 c189 c190 c191 c192 c193 c194 c195 c196 c197 c198 c199 c200 c201 c202 c203 c204 c205 c206 c207 c208 c209 c210 c211 c212 c213 c214 c215 c216 c217 c218 c219 h0 h1 h3 h9 h11 h2 h10 h15
  replace h0 : c0 = .int .u64 (n0 : Nat) := h0
  replace h1 : c1 = .slice ad len cap := h1
  replace h3 : c3 = .int .u16 (ti : Nat) := h3
  replace h9 : c9 = .pointer (some ⟨g.wb, 0, none⟩) := h9
  replace h11 : c11 = .map (some mb) := h11
  replace h2 : c2 = .slice bd blen bcap := h2
  replace h10 : c10 = .slice ar len cr := h10
  replace h15 : c15 = .int .i64 (k : Nat) := h15
  subst h0
  subst h1
  subst h3
  subst h9
  subst h11
  subst h2
  subst h10
  subst h15
  conv => arg 2; whnf
  have HU := Lib.hid hu
  have hsm := hu.small
  clear hv hu T
  by_cases hlt : k < bb
  · obtain ⟨hl0, hbb⟩ : 0 < len ∧ bb = blen := by
      rcases hbb with h | h
      · omega
      · exact h
    subst hbb
    obtain ⟨y, rfl, hc, hwf⟩ := HU.out.item hlt
    obtain ⟨z1, z2⟩ := bounds_u8 hwf
    have q1 := REL.out.1.d.c.keeps hc (fun e => e)
    obtain ⟨oz, hoz⟩ := Int.eq_ofNat_of_zero_le z1
    rw [hoz] at q1 z2
    have hkz : (k : Int) < (bb : Int) := by omega
    have hkz0 : (0 : Int) ≤ (k : Int) := by omega
    have hlz : (0 : Int) < (len : Int) := by omega
    clear hc hwf hoz z1
    obtain ⟨j, hj⟩ : ∃ j, j = oz % len := ⟨_, rfl⟩
    have hjl : j < len := by rw [hj]; exact Nat.mod_lt _ hl0
    have hjr : ((oz : Int)).tmod (len : Int) = (j : Int) := by rw [hj]; rfl
    obtain ⟨x, hxj⟩ : ∃ x, P[j]? = some x := ⟨_, List.getElem?_eq_getElem (by rw [REL.out.1.ln]; exact hjl)⟩
    obtain ⟨gr, rfl, -⟩ := REL.out.1.r.form (by omega)
    have lcr := REL.out.1.r.len_cap
    have hjz : (j : Int) < (len : Int) := by omega
    have hjz0 : (0 : Int) ≤ (j : Int) := by omega
    have hxP := List.mem_of_getElem? hxj
    have hxu : x.u.toNat = j := by have := (REL.out.1.pe j x hxj).2; omega
    have HXU := Lib.hid hxu
    have HXJ := Lib.hid hxj
    clear hj hxu hxj
    go_upto_region 19 with (fail)
    have hxj := HXJ.out
    clear hjr
    have HD : Hid (Ex w g mb n0 zs len mm n0 P Q F (some ⟨gr, 0, none⟩) cr wr.drew) := Lib.hid (REL.out.1.quiet (Ch.refl _ _).drew)
    have lk := HD.out.z.look j (by omega)
    by_cases hF : F j = 0
    · rw [hF] at lk
      refine wp_region_held_drew (S := fun w' => w'.cell? ⟨gr, j, none⟩ = some (.pointer (some ⟨x.e, 0, none⟩)) ∧ (Instr.lookup 58 (.map (some mb)) (.int .i64 (j : Int)) false).run Tryd.prog w' = .ok (.int .i64 0) w') (by kernel_rfl) ⟨RowX.cell HD.out.r hjl hxj, lk⟩ (fun hHeld => ?_)
      generalize wr.drew = W at *
      refine take_at (v := ?_) 0 (some 91) rfl (by kernel_rfl) (by kernel_rfl) (by kernel_rfl) (by kernel_rfl) (fun _ _ _ h => h) (Or.inl ⟨by rfl, ?_⟩) (by assumption) ?_
      rotate_left
      · intro w hSw; (try dsimp only at hSw); go_simp; try (with_reducible rfl)
      (try simp only [Act.put, List.setIfInBounds_toArray, List.set_cons_zero, List.set_cons_succ])
      refine take_at (v := ?_) 1 (some 92) rfl (by kernel_rfl) (by kernel_rfl) (by kernel_rfl) (by kernel_rfl) (fun _ _ _ h => h) (Or.inl ⟨by rfl, ?_⟩) (by assumption) ?_
      rotate_left
      · intro w hSw; (try dsimp only at hSw); go_simp; try (with_reducible rfl)
      (try simp only [Act.put, List.setIfInBounds_toArray, List.set_cons_zero, List.set_cons_succ])
      refine take_at (v := ?_) 2 (some 93) rfl (by kernel_rfl) (by kernel_rfl) (by kernel_rfl) (by kernel_rfl) (fun _ _ _ h => h) (Or.inl ⟨by rfl, ?_⟩) (by assumption) ?_
      rotate_left
      · intro w hSw; (try dsimp only at hSw); go_simp; try (with_reducible rfl)
      (try simp only [Act.put, List.setIfInBounds_toArray, List.set_cons_zero, List.set_cons_succ])
      refine take_at (v := ?_) 3 (some 94) rfl (by kernel_rfl) (by kernel_rfl) (by kernel_rfl) (by kernel_rfl) (fun _ _ _ h => h) (Or.inl ⟨by rfl, ?_⟩) (by assumption) ?_
      rotate_left
      · intro w hSw; (try dsimp only at hSw); go_simp; try (with_reducible rfl)
      (try simp only [Act.put, List.setIfInBounds_toArray, List.set_cons_zero, List.set_cons_succ])
      refine take_at (v := ?_) 4 (some 95) rfl (by kernel_rfl) (by kernel_rfl) (by kernel_rfl) (by kernel_rfl) (fun _ _ _ h => h) (Or.inl ⟨by rfl, ?_⟩) (by assumption) ?_
      rotate_left
      · intro w hSw; (try dsimp only at hSw); go_simp; try (with_reducible rfl)
      (try simp only [Act.put, List.setIfInBounds_toArray, List.set_cons_zero, List.set_cons_succ])
      refine take_at (v := ?_) 7 (some 98) rfl (by kernel_rfl) (by kernel_rfl) (by kernel_rfl) (by kernel_rfl) (fun _ _ _ h => h) (Or.inl ⟨by rfl, ?_⟩) (by assumption) ?_
      rotate_left
      · intro w hSw; (try dsimp only at hSw); go_simp; try (with_reducible rfl)
      (try simp only [Act.put, List.setIfInBounds_toArray, List.set_cons_zero, List.set_cons_succ])
      refine take_at (v := ?_) 8 (some 99) rfl (by kernel_rfl) (by kernel_rfl) (by kernel_rfl) (by kernel_rfl) (fun _ _ _ h => h) (Or.inl ⟨by rfl, ?_⟩) (by assumption) ?_
      rotate_left
      · intro w hSw; (try dsimp only at hSw); go_simp; try (with_reducible rfl)
      (try simp only [Act.put, List.setIfInBounds_toArray, List.set_cons_zero, List.set_cons_succ])
      refine take_at (v := ?_) 9 (some 100) rfl (by kernel_rfl) (by kernel_rfl) (by kernel_rfl) (by kernel_rfl) (fun _ _ _ h => h) (Or.inl ⟨by rfl, ?_⟩) (by assumption) ?_
      rotate_left
      · intro w hSw; (try dsimp only at hSw); go_simp; try (with_reducible rfl)
      (try simp only [Act.put, List.setIfInBounds_toArray, List.set_cons_zero, List.set_cons_succ])
      refine take_at (v := ?_) 10 (some 101) rfl (by kernel_rfl) (by kernel_rfl) (by kernel_rfl) (by kernel_rfl) (fun _ _ _ h => h) (Or.inl ⟨by rfl, ?_⟩) (by assumption) ?_
      rotate_left
      · intro w hSw; (try dsimp only at hSw); go_simp; try (with_reducible rfl)
      (try simp only [Act.put, List.setIfInBounds_toArray, List.set_cons_zero, List.set_cons_succ])
      refine wpAnyH_ready (rs := [5]) (by kernel_rfl) (by simp) ?_
      refine AllReadyH.cons rfl (fun K hK => ?_) AllReadyH.nil
      go_simp
      refine (HD.out.d.remove_in (HD.out.mem.2 ⟨hxP, by rw [HXU.out]; exact hF⟩) (by have := HD.out.ql; omega)).mono ?_
      rintro e w5 ⟨rfl, d5, c5⟩
      have z5 := HD.out.z.kept c5 HD.out.mo.2
      have r5 := Row.kept HD.out.r c5 (fun j hj => (HD.out.ro j hj).2.1)
      have lk5 := z5.look j (by omega)
      rw [hF] at lk5
      refine hK.out _ _ ⟨RowX.cell r5 hjl hxj, lk5⟩ (fun hHeld => ?_)
      clear hK K
      (try simp only [Act.put, List.setIfInBounds_toArray, List.set_cons_zero, List.set_cons_succ])
      refine take_at (v := ?_) 6 (some 97) rfl (by kernel_rfl) (by kernel_rfl) (by kernel_rfl) (by kernel_rfl) (fun _ _ _ h => h) (Or.inl ⟨by rfl, ?_⟩) (by assumption) ?_
      rotate_left
      · intro w hSw; (try dsimp only at hSw); go_simp; try (with_reducible rfl)
      (try simp only [Act.put, List.setIfInBounds_toArray, List.set_cons_zero, List.set_cons_succ])
      refine take_at (v := ?_) 11 (some 102) rfl (by kernel_rfl) (by kernel_rfl) (by kernel_rfl) (by kernel_rfl) (fun _ _ _ h => h) (Or.inl ⟨by rfl, ?_⟩) (by assumption) ?_
      rotate_left
      · intro w hSw; (try dsimp only at hSw); go_simp; try (with_reducible rfl)
      (try simp only [Act.put, List.setIfInBounds_toArray, List.set_cons_zero, List.set_cons_succ])
      refine wpAnyH_done (by kernel_rfl) ?_ _
      obtain ⟨w6, hput, z6, c6⟩ := z5.put j 1 (by omega) (by omega) (by have := REL.out.2; omega)
      have NX := Lib.hid (HD.out.rem hxj HD.out.wo d5 c5 z6 c6)
      clear d5 c5 z6 c6 z5 r5 lk5 lk hHeld HD
      have hmm := REL.out.2
      go_wp2
      first | exact ⟨⟨_, _, upd F j 1, _, _, mm + 1, rfl, rfl, rfl, rfl, rfl, rfl, rfl, rfl, rfl, rfl, ⟨NX.out, by omega⟩⟩, by omega⟩ | exact ⟨_, _, upd F j 1, _, _, mm + 1, rfl, rfl, rfl, rfl, rfl, rfl, rfl, rfl, rfl, rfl, ⟨NX.out, by omega⟩⟩
    · obtain ⟨f, hf⟩ : ∃ f, f = F j := ⟨_, rfl⟩
      rw [← hf] at hF lk
      have HF := Lib.hid hf
      clear hf
      have hfb : (f == 0) = false := by rw [beq_eq_false_iff_ne]; exact hF
      refine wp_region_held_drew (S := fun w' => w'.cell? ⟨gr, j, none⟩ = some (.pointer (some ⟨x.e, 0, none⟩)) ∧ (Instr.lookup 58 (.map (some mb)) (.int .i64 (j : Int)) false).run Tryd.prog w' = .ok (.int .i64 f) w') (by kernel_rfl) ⟨RowX.cell HD.out.r hjl hxj, lk⟩ (fun hHeld => ?_)
      generalize wr.drew = W at *
      refine take_at (v := ?_) 0 (some 91) rfl (by kernel_rfl) (by kernel_rfl) (by kernel_rfl) (by kernel_rfl) (fun _ _ _ h => h) (Or.inl ⟨by rfl, ?_⟩) (by assumption) ?_
      rotate_left
      · intro w hSw; (try dsimp only at hSw); go_simp; try (with_reducible rfl)
      (try simp only [Act.put, List.setIfInBounds_toArray, List.set_cons_zero, List.set_cons_succ])
      refine take_at (v := ?_) 1 (some 92) rfl (by kernel_rfl) (by kernel_rfl) (by kernel_rfl) (by kernel_rfl) (fun _ _ _ h => h) (Or.inl ⟨by rfl, ?_⟩) (by assumption) ?_
      rotate_left
      · intro w hSw; (try dsimp only at hSw); go_simp; try (with_reducible rfl)
      (try simp only [Act.put, List.setIfInBounds_toArray, List.set_cons_zero, List.set_cons_succ])
      refine take_at (v := ?_) 2 (some 93) rfl (by kernel_rfl) (by kernel_rfl) (by kernel_rfl) (by kernel_rfl) (fun _ _ _ h => h) (Or.inl ⟨by rfl, ?_⟩) (by assumption) ?_
      rotate_left
      · intro w hSw; (try dsimp only at hSw); go_simp; try (with_reducible rfl)
      (try simp only [Act.put, List.setIfInBounds_toArray, List.set_cons_zero, List.set_cons_succ])
      refine take_at (v := ?_) 3 (some 94) rfl (by kernel_rfl) (by kernel_rfl) (by kernel_rfl) (by kernel_rfl) (fun _ _ _ h => h) (Or.inl ⟨by rfl, ?_⟩) (by assumption) ?_
      rotate_left
      · intro w hSw; (try dsimp only at hSw); go_simp; try (with_reducible rfl)
      (try simp only [Act.put, List.setIfInBounds_toArray, List.set_cons_zero, List.set_cons_succ])
      refine take_at (v := ?_) 4 (some 95) rfl (by kernel_rfl) (by kernel_rfl) (by kernel_rfl) (by kernel_rfl) (fun _ _ _ h => h) (Or.inl ⟨by rfl, ?_⟩) (by assumption) ?_
      rotate_left
      · intro w hSw; (try dsimp only at hSw); go_simp; try (with_reducible rfl)
      (try simp only [Act.put, List.setIfInBounds_toArray, List.set_cons_zero, List.set_cons_succ])
      refine take_at (v := ?_) 7 (some 98) rfl (by kernel_rfl) (by kernel_rfl) (by kernel_rfl) (by kernel_rfl) (fun _ _ _ h => h) (Or.inl ⟨by rfl, ?_⟩) (by assumption) ?_
      rotate_left
      · intro w hSw; (try dsimp only at hSw); go_simp; try (with_reducible rfl)
      (try simp only [Act.put, List.setIfInBounds_toArray, List.set_cons_zero, List.set_cons_succ])
      refine take_at (v := ?_) 8 (some 99) rfl (by kernel_rfl) (by kernel_rfl) (by kernel_rfl) (by kernel_rfl) (fun _ _ _ h => h) (Or.inl ⟨by rfl, ?_⟩) (by assumption) ?_
      rotate_left
      · intro w hSw; (try dsimp only at hSw); go_simp; try (with_reducible rfl)
      (try simp only [Act.put, List.setIfInBounds_toArray, List.set_cons_zero, List.set_cons_succ])
      refine take_at (v := ?_) 9 (some 100) rfl (by kernel_rfl) (by kernel_rfl) (by kernel_rfl) (by kernel_rfl) (fun _ _ _ h => h) (Or.inl ⟨by rfl, ?_⟩) (by assumption) ?_
      rotate_left
      · intro w hSw; (try dsimp only at hSw); go_simp; try (with_reducible rfl)
      (try simp only [Act.put, List.setIfInBounds_toArray, List.set_cons_zero, List.set_cons_succ])
      refine take_at (v := ?_) 10 (some 101) rfl (by kernel_rfl) (by kernel_rfl) (by kernel_rfl) (by kernel_rfl) (fun _ _ _ h => h) (Or.inl ⟨by rfl, ?_⟩) (by assumption) ?_
      rotate_left
      · intro w hSw; (try dsimp only at hSw); go_simp; try (with_reducible rfl)
      (try simp only [Act.put, List.setIfInBounds_toArray, List.set_cons_zero, List.set_cons_succ])
      refine wpAnyH_ready (rs := [5]) (by kernel_rfl) (by simp) ?_
      refine AllReadyH.cons rfl (fun K hK => ?_) AllReadyH.nil
      go_simp
      refine (HD.out.d.remove_out hxP (fun e => hF (by have := (HD.out.mem.1 e).2; rwa [HXU.out, ← HF.out] at this)) (by have := HD.out.ql; omega)).mono ?_
      rintro e w5 ⟨rfl, d5, c5⟩
      have z5 := HD.out.z.kept c5 HD.out.mo.2
      have r5 := Row.kept HD.out.r c5 (fun j hj => (HD.out.ro j hj).2.1)
      have lk5 := z5.look j (by omega)
      rw [← HF.out] at lk5
      refine hK.out _ _ ⟨RowX.cell r5 hjl hxj, lk5⟩ (fun hHeld => ?_)
      clear hK K
      (try simp only [Act.put, List.setIfInBounds_toArray, List.set_cons_zero, List.set_cons_succ])
      refine take_at (v := ?_) 6 (some 97) rfl (by kernel_rfl) (by kernel_rfl) (by kernel_rfl) (by kernel_rfl) (fun _ _ _ h => h) (Or.inl ⟨by rfl, ?_⟩) (by assumption) ?_
      rotate_left
      · intro w hSw; (try dsimp only at hSw); go_simp; try (with_reducible rfl)
      (try simp only [Act.put, List.setIfInBounds_toArray, List.set_cons_zero, List.set_cons_succ])
      refine take_at (v := ?_) 11 (some 102) rfl (by kernel_rfl) (by kernel_rfl) (by kernel_rfl) (by kernel_rfl) (fun _ _ _ h => h) (Or.inl ⟨by rfl, ?_⟩) (by assumption) ?_
      rotate_left
      · intro w hSw; (try dsimp only at hSw); go_simp; try (with_reducible rfl)
      (try simp only [Act.put, List.setIfInBounds_toArray, List.set_cons_zero, List.set_cons_succ])
      refine wpAnyH_done (by kernel_rfl) ?_ _
      obtain ⟨w6, hput, z6, c6⟩ := z5.put j 1 (by omega) (by omega) (by have := REL.out.2; omega)
      have NX := Lib.hid (HD.out.rem hxj (HD.out.still (by rw [HXU.out, ← HF.out]; exact hF)) d5 c5 z6 c6)
      clear d5 c5 z6 c6 z5 r5 lk5 lk hHeld HD
      have hmm := REL.out.2
      go_wp2
      first | exact ⟨⟨_, _, upd F j 1, _, _, mm + 1, rfl, rfl, rfl, rfl, rfl, rfl, rfl, rfl, rfl, rfl, ⟨NX.out, by omega⟩⟩, by omega⟩ | exact ⟨_, _, upd F j 1, _, _, mm + 1, rfl, rfl, rfl, rfl, rfl, rfl, rfl, rfl, rfl, rfl, ⟨NX.out, by omega⟩⟩
  · obtain rfl : k = bb := by omega
    rcases hbb with ⟨rfl, rfl⟩ | ⟨hl0, rfl⟩
    · by_cases hb0 : blen = 0
      · subst hb0
        go_wp2
        exact ⟨by first | rfl | trivial, ⟨_, _, _, _, _, _, rfl, rfl, rfl, rfl, rfl, rfl, rfl, rfl, rfl, rfl, REL.out⟩, by first | rfl | trivial⟩
      · have hbz : (0 : Int) < (blen : Int) := by omega
        go_wp2
        exact ⟨by first | rfl | trivial, ⟨_, _, _, _, _, _, rfl, rfl, rfl, rfl, rfl, rfl, rfl, rfl, rfl, rfl, REL.out⟩, by first | rfl | trivial⟩
    · go_wp2
      exact ⟨by first | rfl | trivial, ⟨_, _, _, _, _, _, rfl, rfl, rfl, rfl, rfl, rfl, rfl, rfl, rfl, rfl, REL.out⟩, by first | rfl | trivial⟩
theorem wxB_loop (w : World) (g : Wh) (ad bd : Option Addr) (n0 ti len cap blen bcap mb : Nat) (zs ys : List Int) (bb : Nat) (hv : IsRow .u16 w ad len cap zs) (hu : IsRow .u8 w bd blen bcap ys) (T : Tab w) (h60 : len ≤ 60) (hb60 : blen ≤ 60) (bn : n0 ≤ 18446744073709351615) (bt : ti ≤ 65535) (hbb : (len = 0 ∧ bb = 0) ∨ (0 < len ∧ bb = blen)) (a : Act) (wr : World) (hb : 0 ≤ bb) (H : wxBI w g ad bd n0 ti len cap blen bcap mb zs ys bb 0 a wr) :
    Code.wp Tryd.prog (.loop (loopIn 2 Tryd.f4)) (Qx 2 (fun a' w' => wxBI w g ad bd n0 ti len cap blen bcap mb zs ys bb bb a' w')) a wr := by
  refine wp_loop (fun a' wr => ∃ k, k ≤ bb ∧ wxBI w g ad bd n0 ti len cap blen bcap mb zs ys bb k a' wr) (fun a' _ => bb - (intOf (a'.tmps.getD 15 undef)).toNat) ⟨0, hb, H⟩ ?_
  rintro a' wr ⟨k, hk, h⟩
  refine wp_mono (wxB_round w g ad bd n0 ti len cap blen bcap mb zs ys bb hv hu T h60 hb60 bn bt hbb a' wr hk h) ?_
  intro e a2 w2 hp
  cases e with
  | normal =>
    refine ⟨⟨k + 1, by have := hp.2; omega, hp.1⟩, ?_⟩
    rw [wxBI_ctr w g ad bd n0 ti len cap blen bcap mb zs ys bb h, wxBI_ctr w g ad bd n0 ti len cap blen bcap mb zs ys bb hp.1]
    have := hp.2
    simp only [intOf, Int.toNat_natCast]
    omega
  | exit n => exact ⟨hp.1, hp.2.2 ▸ hp.2.1⟩
  | _ => exact hp.elim
end Go.Proofs.YtkdkkgbjfabifaaDoor
