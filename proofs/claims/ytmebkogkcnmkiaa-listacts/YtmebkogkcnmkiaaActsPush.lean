/-
  ListActs, the case Push: the node is told, and both have it behind all others.
-/
import Derived.Test.YtmebkogkcnmkiaaActsCode
import Derived.Test.YtmebkogkcnmkiaaHeld
import Derived.Deep.QuietTactic
import Derived.BigQuiet
import Derived.Deep.Cut
import Derived.Deep.CutRange
import Derived.Deep.CutBlock
import Derived.RegionTactic
import Derived.BigRegion
namespace Go.Proofs.Ytmebkogkcnmkiaa
open Go.RowKit Verge LI
set_option linter.unusedVariables false
set_option linter.unusedSimpArgs false
attribute [local go_sem] Oper.semAt_some

set_option maxRecDepth 100000 in
set_option maxHeartbeats 0 in
theorem case_push {w w5 : World} {lb : Nat → Nat} {s0 : Value} {ab wb k tb kk oo q : Nat} {M R : Nat → Prop} {nb : Nat → Nat} {V Val : Nat → Int} {L : Nat → List Nat} {ra : Nat → Option Addr} {rc : Nat → Nat} {va : Option Addr} {vc : Nat} {an : Option Addr} {cn : Nat} {y1 y2 y3 : Int} (t : Array Value) (F : FrM s0 ab wb k tb kk oo (.slice an q cn) t) (h5 : ActH w w5 lb ab wb tb 4 q q q (fun j => [0, y1, y2, y3].getD j 0) M R nb V Val L L ra rc va vc an cn) (hvv : ∀ j, j < q → V (nb j) = Val j) (hqk : q ≤ k) (htk : tot L ≤ k) (hk60 : k < 60) (hk3 : kk < 3) (ho3 : oo < 3) :
    Code.wp Try.prog (pushOf Try.f3) (Exit.then (Mid w lb s0 ab wb k (k + 1) tb kk oo (fun j => [0, y1, y2, y3].getD j 0)) (fun _ _ _ => False)) ⟨t, []⟩ w5 := by
  obtain ⟨⟨hz, h0, h3, h4, h5s, h6⟩, h7, h8, h9⟩ := F
  refine openFr (P := fun t => t.getD 0 undef = s0 → t.getD 3 undef = .pointer (some ⟨ab, 0, none⟩) → t.getD 4 undef = .slice an q cn → t.getD 5 undef = .pointer (some ⟨wb, 0, none⟩) → t.getD 6 undef = .int .i64 k → t.getD 7 undef = .pointer (some ⟨tb, 0, none⟩) → t.getD 8 undef = .int .i64 kk → t.getD 9 undef = .int .i64 oo → Code.wp Try.prog (pushOf Try.f3) (Exit.then (Mid w lb s0 ab wb k (k + 1) tb kk oo (fun j => [0, y1, y2, y3].getD j 0)) (fun _ _ _ => False)) ⟨t, []⟩ w5) ?_ t hz h0 h3 h4 h5s h6 h7 h8 h9
  clear h0 h3 h4 h5s h6 h7 h8 h9 hz t
  intro c0 c1 c2 c3 c4 c5 c6 c7 c8 c9 c10 c11 c12 c13 c14 c15 c16 c17 c18 c19 c20 c21 c22 c23 c24 c25 c26 c27 c28 c29 c30 c31 c32 c33 c34 c35 c36 c37 c38 c39 c40 c41 c42 c43 c44 c45 c46 c47 c48 c49 c50 c51 c52 c53 c54 c55 c56 c57 c58 c59 c60 c61 c62 c63 c64 c65 c66 c67 c68 c69 c70 c71 c72 c73 c74 c75 c76 c77 c78 c79 c80 c81 c82 c83 c84 c85 c86 c87 c88 c89 c90 c91 c92 c93 c94 c95 c96 c97 c98 c99 c100 c101 c102 c103 c104 c105 c106 c107 c108 c109 c110 c111 c112 c113 c114 c115 c116 c117 c118 c119 c120 c121 c122 c123 c124 c125 c126 c127 c128 c129 c130 c131 c132 c133 c134 c135 c136 c137 c138 c139 c140 c141 c142 c143 c144 c145 c146 c147 c148 c149 c150 c151 c152 c153 c154 c155 c156 c157 c158 c159 c160 c161 c162 c163 c164 c165 c166 c167 c168 c169 c170 c171 c172 c173 c174 c175 c176 c177 c178 c179 c180 c181 c182 c183 c184 c185 c186 c187 c188 c189 c190 c191 c192 c193 c194 c195 c196 c197 c198 c199 c200 c201 c202 c203 c204 c205 c206 c207 c208 c209 c210 c211 c212 c213 c214 c215 c216 c217 c218 c219 c220 c221 c222 c223 c224 c225 c226 c227 c228 c229 c230 c231 c232 c233 c234 c235 c236 c237 c238 c239 c240 c241 c242 c243 c244 c245 c246 c247 c248 c249 c250 c251 h0 h3 h4 h5s h6 h7 h8 h9
  replace h0 : c0 = s0 := h0
  replace h3 : c3 = .pointer (some ⟨ab, 0, none⟩) := h3
  replace h4 : c4 = .slice an q cn := h4
  replace h5s : c5 = .pointer (some ⟨wb, 0, none⟩) := h5s
  replace h6 : c6 = .int .i64 k := h6
  replace h7 : c7 = .pointer (some ⟨tb, 0, none⟩) := h7
  replace h8 : c8 = .int .i64 kk := h8
  replace h9 : c9 = .int .i64 oo := h9
  subst h0
  subst h3
  subst h4
  subst h5s
  subst h6
  subst h7
  subst h8
  subst h9
  conv => arg 2; whnf
  have H5 := Lib.hid h5
  have HVV := Lib.hid hvv
  have HTK := Lib.hid htk
  clear h5 hvv htk
  have hkkz : (kk : Int) < 3 := by omega
  have hooz : (oo : Int) < 3 := by omega
  have b0 : w5.cell? ⟨tb, 0, none⟩ = some (.int .i64 0) := H5.out.t 0 (by omega)
  go_upto_region 14 with (fail)
  clear b0
  refine wp_region_held_drew (S := fun w' => w'.cell? ⟨ab, kk, none⟩ = some (.pointer (some ⟨lb kk, 0, none⟩)) ∧ w'.cell? ⟨tb, 3, none⟩ = some (.int .i64 y3)) (by kernel_rfl) ⟨H5.out.x kk hk3, H5.out.t 3 (by omega)⟩ (fun hHeld => ?_)
  have H6 := Lib.hid (H5.out.nil ((Ch.refl Nil w5).drew))
  clear H5
  generalize w5.drew = w6 at hHeld H6 ⊢
  refine take_at (v := ?_) 0 (some 50) rfl (by kernel_rfl) (by kernel_rfl) (by kernel_rfl) (by kernel_rfl) (fun _ _ _ h => h) (Or.inl ⟨by rfl, ?_⟩) (by assumption) ?_
  rotate_left
  · intro w hSw; (try dsimp only at hSw); go_simp; try (with_reducible rfl)
  (try simp only [Act.put, List.setIfInBounds_toArray, List.set_cons_zero, List.set_cons_succ])
  refine take_at (v := ?_) 1 (some 51) rfl (by kernel_rfl) (by kernel_rfl) (by kernel_rfl) (by kernel_rfl) (fun _ _ _ h => h) (Or.inl ⟨by rfl, ?_⟩) (by assumption) ?_
  rotate_left
  · intro w hSw; (try dsimp only at hSw); go_simp; try (with_reducible rfl)
  (try simp only [Act.put, List.setIfInBounds_toArray, List.set_cons_zero, List.set_cons_succ])
  refine take_at (v := ?_) 2 (some 52) rfl (by kernel_rfl) (by kernel_rfl) (by kernel_rfl) (by kernel_rfl) (fun _ _ _ h => h) (Or.inl ⟨by rfl, ?_⟩) (by assumption) ?_
  rotate_left
  · intro w hSw; (try dsimp only at hSw); go_simp; try (with_reducible rfl)
  (try simp only [Act.put, List.setIfInBounds_toArray, List.set_cons_zero, List.set_cons_succ])
  refine take_at (v := ?_) 3 (some 53) rfl (by kernel_rfl) (by kernel_rfl) (by kernel_rfl) (by kernel_rfl) (fun _ _ _ h => h) (Or.inl ⟨by rfl, ?_⟩) (by assumption) ?_
  rotate_left
  · intro w hSw; (try dsimp only at hSw); go_simp; try (with_reducible rfl)
  (try simp only [Act.put, List.setIfInBounds_toArray, List.set_cons_zero, List.set_cons_succ])
  refine take_at (v := ?_) 4 (some 54) rfl (by kernel_rfl) (by kernel_rfl) (by kernel_rfl) (by kernel_rfl) (fun _ _ _ h => h) (Or.inl ⟨by rfl, ?_⟩) (by assumption) ?_
  rotate_left
  · intro w hSw; (try dsimp only at hSw); go_simp; try (with_reducible rfl)
  (try simp only [Act.put, List.setIfInBounds_toArray, List.set_cons_zero, List.set_cons_succ])
  refine wpAnyH_ready (rs := [5]) (by kernel_rfl) (by simp) ?_
  refine AllReadyH.cons rfl (fun K' hK => ?_) AllReadyH.nil
  go_simp
  have hlk : (L kk).length ≤ 60 := by have := len_tot L hk3; have := HTK.out; omega
  refine (H6.out.m.push hk3 y3 (by omega)).mono ?_
  rintro e w7 ⟨b, rfl, hb, m7, c7⟩
  have H7 := Lib.hid (H6.out.mach m7 (fun j hj => hj.elim .inl (fun e => .inr (e ▸ hb))) c7 (fun i hi => upd_other _ _ _ _ (by omega)))
  refine hK.out _ _ ⟨H7.out.x kk hk3, H7.out.t 3 (by omega)⟩ (fun hHeld2 => ?_)
  have HV2 : Hid (∀ j, j < q + 1 → upd V b y3 (upd nb q b j) = upd Val q y3 j) := Lib.hid (fun j hj => by
    by_cases e : j = q
    · subst e; rw [upd_same, upd_same, upd_same]
    · have := H6.out.m.lt _ (H6.out.m.mn j (by omega))
      rw [upd_other _ _ _ _ e, upd_other _ _ _ _ e, upd_other _ _ _ _ (by omega)]; exact HVV.out j (by omega))
  clear hK K' hHeld m7 c7 H6
  (try simp only [Act.put, List.setIfInBounds_toArray, List.set_cons_zero, List.set_cons_succ])
  refine take_at (v := ?_) 6 (some 10) rfl (by kernel_rfl) (by kernel_rfl) (by kernel_rfl) (by kernel_rfl) (fun _ _ _ h => h) (Or.inl ⟨by rfl, ?_⟩) (by assumption) ?_
  rotate_left
  · intro w hSw; (try dsimp only at hSw); go_simp; try (with_reducible rfl)
  (try simp only [Act.put, List.setIfInBounds_toArray, List.set_cons_zero, List.set_cons_succ])
  refine wpAnyH_done (by kernel_rfl) ?_ _
  clear hHeld2
  have nv : w7.cell? ⟨b, 0, none⟩ = some (.int .i64 y3) := by
    have := H7.out.m.value (i := q) (by omega)
    rwa [upd_same, upd_same] at this
  have b3 : w7.cell? ⟨tb, 3, none⟩ = some (.int .i64 y3) := H7.out.t 3 (by omega)
  have e3 : (y3 != y3) = false := by simp
  go_wp2
  go_quiet (fail)
  clear nv b3 e3
  have H8 := Lib.hid (H7.out.nil ((Ch.refl Nil w7).drewN nq))
  clear H7
  generalize w7.drewN nq = w8 at H8 ⊢
  have R8 := Lib.hid (H8.out.r.kept (S := Nil) ((Ch.refl Nil w8).alloc (Obj.cells #[.pointer (some ⟨b, 0, none⟩)] 35)) (fun _ _ e => e))
  go_wp2_with (at_builtin; refine append_row _ rfl _ _ _ rfl 35 (.pointer none) 1 8 Try.underlying27 (by kernel_rfl) rfl (by omega) (by omega) rfl R8.out (by omega) w8.heap.size 1 [.pointer (some ⟨b, 0, none⟩)] 35 rfl rfl (heap_alloc_new w8 _) (by simp [Value.oneCell']) (ptrN (upd nb q b)) (fun i hi => rfl) (by intro j u hu; obtain rfl : j = 0 := (by cases j; rfl; simp at hu); simp at hu; subst hu; simp [ptrN, upd_same]) _ rfl ?_)
  intro g9 cap9 w9 row9 ch9 at9 lt9
  have c9 : Ch (OwnS an) w8 w9 := (((Ch.refl Nil w8).alloc _).mono (fun _ _ e => e.elim)).trans ch9
  have H9 := Lib.hid (H8.out.row row9 (fun j hj => by
    rw [own_one hj]
    rcases at9 with h' | h'
    · exact .inl h'
    · right; rw [h']; simp) c9)
  clear row9 ch9 at9 lt9 R8 H8 c9
  go_wp2
  refine wp_region_any (by kernel_rfl) ?_
  change wpAny _ _ _ _ _ _ _ (World.drew _)
  have HA := Lib.hid (H9.out.nil ((Ch.refl Nil w9).drew))
  clear H9
  generalize w9.drew = X at HA ⊢
  have d1 := HA.out.f.cv
  have d2 : X.cell? ⟨tb, 3, none⟩ = some (.int .i64 y3) := HA.out.t 3 (by omega)
  have f1 := HA.out.f.b.fz 3
  have cX : Ch Nil X (X.alloc (.cells #[.int .i64 y3] 3)) := (Ch.refl _ _).alloc _
  have hwX := HA.out.f.lt wb HA.out.f.mb
  have d3 := cX.keeps d1 (fun e => e)
  refine wpAny_take (i := 0) (v := ?_) rfl (by kernel_rfl) (by kernel_rfl) (by kernel_rfl) (fun _ _ _ h => h) (Or.inl ⟨by rfl, ?_⟩) ?_
  rotate_left
  · intro w; go_simp; try (with_reducible rfl)
  refine wpAny_take (i := 1) (v := ?_) rfl (by kernel_rfl) (by kernel_rfl) (by kernel_rfl) (fun _ _ _ h => h) (Or.inl ⟨by rfl, ?_⟩) ?_
  rotate_left
  · intro w; go_simp; try (with_reducible rfl)
  refine wpAny_take (i := 2) (v := ?_) rfl (by kernel_rfl) (by kernel_rfl) (by kernel_rfl) (fun _ _ _ h => h) (Or.inl ⟨by rfl, ?_⟩) ?_
  rotate_left
  · intro w; go_simp; try (with_reducible rfl)
  refine wpAny_take (i := 3) (v := ?_) rfl (by kernel_rfl) (by kernel_rfl) (by kernel_rfl) (fun _ _ _ h => h) (Or.inl ⟨by rfl, ?_⟩) ?_
  rotate_left
  · intro w; go_simp; try (with_reducible rfl)
  refine wpAny_take (i := 5) (v := ?_) rfl (by kernel_rfl) (by kernel_rfl) (by kernel_rfl) (fun _ _ _ h => h) (Or.inl ⟨by rfl, ?_⟩) ?_
  rotate_left
  · intro w; go_simp; try (with_reducible rfl)
  refine wpAny_ready (rs := [4, 6]) (by kernel_rfl) (by simp) ?_
  refine AllReady.cons rfl (fun K hK => ?_) ?_
  go_simp
  refine hK _ _ ?_
  clear hK K
  refine wpAny_ready (rs := [6]) (by kernel_rfl) (by simp) ?_
  refine AllReady.cons rfl (fun K hK => ?_) AllReady.nil
  go_simp
  refine hK _ _ ?_
  clear hK K
  refine wpAny_ready (rs := [7]) (by kernel_rfl) (by simp) ?_
  refine AllReady.cons rfl (fun K hK => ?_) AllReady.nil
  go_simp
  refine hK _ _ ?_
  clear hK K
  refine ?tail
  rotate_left
  refine AllReady.cons rfl (fun K hK => ?_) AllReady.nil
  go_simp
  refine hK _ _ ?_
  clear hK K
  refine wpAny_ready (rs := [4, 7]) (by kernel_rfl) (by simp) ?_
  refine AllReady.cons rfl (fun K hK => ?_) ?_
  go_simp
  refine hK _ _ ?_
  clear hK K
  refine wpAny_ready (rs := [7]) (by kernel_rfl) (by simp) ?_
  refine AllReady.cons rfl (fun K hK => ?_) AllReady.nil
  go_simp
  refine hK _ _ ?_
  clear hK K
  exact ?tail
  refine AllReady.cons rfl (fun K hK => ?_) AllReady.nil
  go_simp
  refine hK _ _ ?_
  clear hK K
  refine wpAny_ready (rs := [4]) (by kernel_rfl) (by simp) ?_
  refine AllReady.cons rfl (fun K hK => ?_) AllReady.nil
  go_simp
  refine hK _ _ ?_
  clear hK K
  exact ?tail
  have R2 : Row (X.alloc (.cells #[.int .i64 y3] 3)) 3 1 va q vc (fun i => .int .i64 (Val i)) := HA.out.f.rv.kept cX (fun _ _ e => e)
  have f3 := (cX.frozen (p := ⟨wb, 3, none⟩) hwX (fun e => e)).trans f1
  refine wpAny_ready (rs := [8]) (by kernel_rfl) (by simp) ?_
  refine AllReady.cons rfl (fun K hK => ?_) AllReady.nil
  refine step_row rfl _ _ _ rfl 3 (.int .i64 0) 1 8 Try.underlying29 (by kernel_rfl) rfl (by omega) (by omega) rfl R2 (by omega) X.heap.size 1 [.int .i64 y3] 3 rfl rfl (heap_alloc_new X _) (by simp [Value.oneCell']) (fun i => .int .i64 (upd Val q y3 i)) (fun i hi => by first | rw [upd_other _ _ _ _ (by omega)] | (simp only; rw [upd_other _ _ _ _ (by omega)])) (by intro j u hu; obtain rfl : j = 0 := (by cases j; rfl; simp at hu); simp at hu; subst hu; simp [upd_same]) _ rfl ?_
  intro gA capA wA rowA chA atA ltA
  have d4 := chA.keeps d3 HA.out.f.nv
  have f4 := (chA.frozen (p := ⟨wb, 3, none⟩) (by simp; omega) HA.out.f.nv).trans f3
  obtain ⟨RB, hRB, fB, cB⟩ := HA.out.f.val (w1 := wA) y3 ((cX.mono (fun _ _ e => e.elim)).trans chA) rowA (by
    rcases atA with h' | h'
    · exact .inl h'
    · right; rw [h']; simp)
  have HB := Lib.hid (HA.out.ref fB hRB cB)
  clear rowA chA atA R2 cX fB hRB cB
  refine hK _ _ ?_
  clear hK K
  refine wpAny_take (i := 9) (v := ?_) rfl (by kernel_rfl) (by kernel_rfl) (by kernel_rfl) (fun _ _ _ h => h) (Or.inl ⟨by rfl, ?_⟩) ?_
  rotate_left
  · intro w; go_simp; try (with_reducible rfl)
  refine wpAny_take (i := 10) (v := ?_) rfl (by kernel_rfl) (by kernel_rfl) (by kernel_rfl) (fun _ _ _ h => h) (Or.inl ⟨by rfl, ?_⟩) ?_
  rotate_left
  · intro w; go_simp; try (with_reducible rfl)
  refine wpAny_ready (rs := [11]) (by kernel_rfl) (by simp) ?_
  refine AllReady.cons rfl (fun K hK => ?_) AllReady.nil
  go_simp
  refine hK _ _ ?_
  clear hK K
  refine wpAny_done (by kernel_rfl) ?_ _
  clear d1 d2 d3 d4 f1 f3 f4 HA
  generalize wA.setCell ⟨wb, 3, none⟩ (.slice (some ⟨gA, 0, none⟩) (q + 1) capA) = wB at HB ⊢
  go_wp2
  refine wp_region_any (by kernel_rfl) ?_
  change wpAny _ _ _ _ _ _ _ (World.drew _)
  have HC := Lib.hid (HB.out.nil ((Ch.refl Nil wB).drew))
  clear HB
  generalize wB.drew = Y at HC ⊢
  have d1 := HC.out.f.c kk hk3
  have f1 := HC.out.f.b.fz kk
  have hwY := HC.out.f.lt wb HC.out.f.mb
  have cY : Ch Nil Y (Y.alloc (.cells #[.int .i64 (q : Int)] 3)) := (Ch.refl _ _).alloc _
  have d3 := cY.keeps d1 (fun e => e)
  have hwq : IntKind.i64.wrap (q : Int) = q := IntWalk.i64_in _ (by omega)
  refine wpAny_take (i := 0) (v := ?_) rfl (by kernel_rfl) (by kernel_rfl) (by kernel_rfl) (fun _ _ _ h => h) (Or.inl ⟨by rfl, ?_⟩) ?_
  rotate_left
  · intro w; go_simp; try (with_reducible rfl)
  refine wpAny_take (i := 1) (v := ?_) rfl (by kernel_rfl) (by kernel_rfl) (by kernel_rfl) (fun _ _ _ h => h) (Or.inl ⟨by rfl, ?_⟩) ?_
  rotate_left
  · intro w; go_simp; try (with_reducible rfl)
  refine wpAny_take (i := 2) (v := ?_) rfl (by kernel_rfl) (by kernel_rfl) (by kernel_rfl) (fun _ _ _ h => h) (Or.inl ⟨by rfl, ?_⟩) ?_
  rotate_left
  · intro w; go_simp; try (with_reducible rfl)
  refine wpAny_take (i := 3) (v := ?_) rfl (by kernel_rfl) (by kernel_rfl) (by kernel_rfl) (fun _ _ _ h => h) (Or.inl ⟨by rfl, ?_⟩) ?_
  rotate_left
  · intro w; go_simp; try (with_reducible rfl)
  refine wpAny_take (i := 4) (v := ?_) rfl (by kernel_rfl) (by kernel_rfl) (by kernel_rfl) (fun _ _ _ h => h) (Or.inl ⟨by rfl, ?_⟩) ?_
  rotate_left
  · intro w; go_simp; try (with_reducible rfl)
  refine wpAny_take (i := 5) (v := ?_) rfl (by kernel_rfl) (by kernel_rfl) (by kernel_rfl) (fun _ _ _ h => h) (Or.inl ⟨by rfl, ?_⟩) ?_
  rotate_left
  · intro w; go_simp; try (with_reducible rfl)
  refine wpAny_take (i := 6) (v := ?_) rfl (by kernel_rfl) (by kernel_rfl) (by kernel_rfl) (fun _ _ _ h => h) (Or.inl ⟨by rfl, ?_⟩) ?_
  rotate_left
  · intro w; go_simp; try (with_reducible rfl)
  refine wpAny_take (i := 8) (v := ?_) rfl (by kernel_rfl) (by kernel_rfl) (by kernel_rfl) (fun _ _ _ h => h) (Or.inl ⟨by rfl, ?_⟩) ?_
  rotate_left
  · intro w; go_simp; try (with_reducible rfl)
  refine wpAny_take (i := 9) (v := ?_) rfl (by kernel_rfl) (by kernel_rfl) (by kernel_rfl) (fun _ _ _ h => h) (Or.inl ⟨by rfl, ?_⟩) ?_
  rotate_left
  · intro w; go_simp; try (with_reducible rfl)
  refine wpAny_take (i := 10) (v := ?_) rfl (by kernel_rfl) (by kernel_rfl) (by kernel_rfl) (fun _ _ _ h => h) (Or.inl ⟨by rfl, ?_⟩) ?_
  rotate_left
  · intro w; go_simp; try (with_reducible rfl)
  refine wpAny_take (i := 13) (v := ?_) rfl (by kernel_rfl) (by kernel_rfl) (by kernel_rfl) (fun _ _ _ h => h) (Or.inl ⟨by rfl, ?_⟩) ?_
  rotate_left
  · intro w; go_simp; try (with_reducible rfl)
  refine wpAny_take (i := 14) (v := ?_) rfl (by kernel_rfl) (by kernel_rfl) (by kernel_rfl) (fun _ _ _ h => h) (Or.inl ⟨by rfl, ?_⟩) ?_
  rotate_left
  · intro w; go_simp; try (with_reducible rfl)
  refine wpAny_ready (rs := [7, 11]) (by kernel_rfl) (by simp) ?_
  refine AllReady.cons rfl (fun K hK => ?_) ?_
  go_simp
  refine hK _ _ ?_
  clear hK K
  refine wpAny_ready (rs := [11]) (by kernel_rfl) (by simp) ?_
  refine AllReady.cons rfl (fun K hK => ?_) AllReady.nil
  go_simp
  refine hK _ _ ?_
  clear hK K
  refine ?tail2
  rotate_left
  refine AllReady.cons rfl (fun K hK => ?_) AllReady.nil
  go_simp
  refine hK _ _ ?_
  clear hK K
  refine wpAny_ready (rs := [7]) (by kernel_rfl) (by simp) ?_
  refine AllReady.cons rfl (fun K hK => ?_) AllReady.nil
  go_simp
  refine hK _ _ ?_
  clear hK K
  exact ?tail2
  have R2 : Row (Y.alloc (.cells #[.int .i64 (q : Int)] 3)) 3 1 (ra kk) (L kk).length (rc kk) (fun i => .int .i64 (numR (L kk) i)) := (HC.out.f.r kk hk3).kept cY (fun _ _ e => e)
  have f3 := (cY.frozen (p := ⟨wb, kk, none⟩) hwY (fun e => e)).trans f1
  refine wpAny_ready (rs := [12]) (by kernel_rfl) (by simp) ?_
  refine AllReady.cons rfl (fun K hK => ?_) AllReady.nil
  refine step_row rfl _ _ _ rfl 3 (.int .i64 0) 1 8 Try.underlying29 (by kernel_rfl) rfl (by omega) (by omega) rfl R2 (by omega) Y.heap.size 1 [.int .i64 (q : Int)] 3 rfl rfl (heap_alloc_new Y _) (by simp [Value.oneCell']) (fun i => .int .i64 (numR (L kk ++ [q]) i)) (fun i hi => by simp only [numR]; rw [getD_snoc _ _ _ (by omega)]) (by intro j u hu; obtain rfl : j = 0 := (by cases j; rfl; simp at hu); simp at hu; subst hu; simp only [numR, Nat.mul_one, Nat.add_zero]; rw [getD_last]) _ rfl ?_
  intro gA capA wA rowA chA atA ltA
  have d4 := chA.keeps d3 (HC.out.f.nb kk hk3)
  have f4 := (chA.frozen (p := ⟨wb, kk, none⟩) (by simp; omega) (HC.out.f.nb kk hk3)).trans f3
  obtain ⟨RD, hRD, fD, cD⟩ := HC.out.f.snoc (w1 := wA) (n := q) hk3 (by omega) ((cY.mono (fun _ _ e => e.elim)).trans chA) rowA (by
    rcases atA with h' | h'
    · exact .inl h'
    · right; rw [h']; simp)
  have HD := Lib.hid (HC.out.ref fD hRD cD)
  clear rowA chA atA R2 cY fD hRD cD
  refine hK _ _ ?_
  clear hK K
  refine wpAny_take (i := 15) (v := ?_) rfl (by kernel_rfl) (by kernel_rfl) (by kernel_rfl) (fun _ _ _ h => h) (Or.inl ⟨by rfl, ?_⟩) ?_
  rotate_left
  · intro w; go_simp; try (with_reducible rfl)
  refine wpAny_ready (rs := [16]) (by kernel_rfl) (by simp) ?_
  refine AllReady.cons rfl (fun K hK => ?_) AllReady.nil
  go_simp
  refine hK _ _ ?_
  clear hK K
  refine wpAny_done (by kernel_rfl) ?_ _
  clear d1 d3 d4 f1 f3 f4 HC
  generalize wA.setCell ⟨wb, kk, none⟩ (.slice (some ⟨gA, 0, none⟩) ((L kk).length + 1) capA) = wD at HD ⊢
  have TK := Lib.hid (by have := HTK.out; have := tot_upd (L := L) hk3 (L kk ++ [q]); simp only [List.length_append, List.length_singleton] at this; omega : tot (upd L kk (L kk ++ [q])) ≤ k + 1)
  go_wp2
  exact ⟨q + 1, _, _, _, _, _, _, _, _, _, _, _, _, rfl, ⟨⟨rfl, rfl, rfl, rfl, rfl, rfl⟩, rfl, rfl, rfl⟩, HD.out, HV2.out, by omega, TK.out⟩
end Go.Proofs.Ytmebkogkcnmkiaa
