/-
  LevelActs, an act that puts a node: whatever stands there, all stands as the document says behind it.
-/
import Derived.Test.YtgaakhiapgmnbaaDoorLvCode
import Derived.Test.YtgaakhiapgmnbaaDoorHeld
import Derived.Deep.QuietTactic
import Derived.BigQuiet
import Derived.Deep.Cut
import Derived.Deep.CutRange
import Derived.Deep.CutBlock
import Derived.RegionTactic
import Derived.BigRegion
namespace Go.Proofs.YtgaakhiapgmnbaaDoor
open Go.RowKit Verge LI
set_option linter.unusedVariables false
set_option linter.unusedSimpArgs false
attribute [local go_sem] Oper.semAt_some

set_option maxRecDepth 100000 in
set_option maxHeartbeats 0 in
theorem put_state {w w5 : World} {vb : Nat} {hd nb : Nat → Nat} {ad : Option Addr} {cap : Nat} {V : Nat → Int} {rb k tb n : Nat} {s0 : Value} {L : Nat → List Nat} {R : Nat → Prop} {ra : Nat → Option Addr} {rc : Nat → Nat} {y2 : Int} {s u : Nat} (t : Array Value) (F : FrM s0 vb rb k cap ad tb n true t) (h5 : DuoT w vb hd nb ad cap V rb k tb (fun j => [0, (s : Int), y2].getD j 0) L L R ra rc w5) (hk : k < 100) (hn : n < 12) (hs : s < 64) (hu : u < 64) (hm : n ∈ L u) :
    Code.wp Tryd.prog (caseOf Tryd.f3) (Exit.then (Mid w vb hd nb ad cap V rb s0 k (k + 1) tb n true (fun j => [0, (s : Int), y2].getD j 0)) (Qc (Inv w vb hd nb ad cap V rb s0 k (k + 1)))) ⟨t, []⟩ w5 := by
  obtain ⟨⟨hz, h0, h3, h4, h6, h7⟩, h8, h9, h10⟩ := F
  refine openFr (P := fun t => t.getD 0 undef = s0 → t.getD 3 undef = .pointer (some ⟨vb, 0, none⟩) → t.getD 4 undef = .slice ad 12 cap → t.getD 6 undef = .pointer (some ⟨rb, 0, none⟩) → t.getD 7 undef = .int .i64 k → t.getD 8 undef = .pointer (some ⟨tb, 0, none⟩) → t.getD 9 undef = .int .i64 n → t.getD 10 undef = .bool true → Code.wp Tryd.prog (caseOf Tryd.f3) (Exit.then (Mid w vb hd nb ad cap V rb s0 k (k + 1) tb n true (fun j => [0, (s : Int), y2].getD j 0)) (Qc (Inv w vb hd nb ad cap V rb s0 k (k + 1)))) ⟨t, []⟩ w5) ?_ t hz h0 h3 h4 h6 h7 h8 h9 h10
  clear h0 h3 h4 h6 h7 h8 h9 h10 hz t
  intro c0 c1 c2 c3 c4 c5 c6 c7 c8 c9 c10 c11 c12 c13 c14 c15 c16 c17 c18 c19 c20 c21 c22 c23 c24 c25 c26 c27 c28 c29 c30 c31 c32 c33 c34 c35 c36 c37 c38 c39 c40 c41 c42 c43 c44 c45 c46 c47 c48 c49 c50 c51 c52 c53 c54 c55 c56 c57 c58 c59 c60 c61 c62 c63 c64 c65 c66 c67 c68 c69 c70 c71 c72 c73 c74 c75 c76 c77 c78 c79 c80 c81 c82 c83 c84 c85 c86 c87 c88 c89 c90 c91 c92 c93 c94 c95 c96 c97 c98 c99 c100 c101 c102 c103 c104 c105 c106 c107 c108 c109 c110 c111 c112 c113 c114 c115 c116 c117 c118 c119 c120 c121 c122 c123 c124 c125 c126 c127 c128 c129 c130 c131 c132 c133 c134 c135 c136 c137 c138 c139 c140 c141 c142 c143 c144 c145 c146 c147 c148 c149 c150 c151 c152 c153 c154 c155 c156 c157 c158 c159 c160 c161 c162 c163 c164 c165 c166 c167 c168 c169 c170 c171 c172 c173 c174 c175 c176 c177 c178 c179 c180 c181 c182 c183 c184 c185 c186 c187 c188 c189 c190 c191 c192 c193 c194 c195 c196 c197 c198 c199 c200 c201 c202 c203 c204 c205 c206 c207 c208 c209 c210 c211 c212 c213 c214 c215 c216 c217 c218 c219 c220 c221 c222 c223 c224 c225 c226 c227 c228 c229 h0 h3 h4 h6 h7 h8 h9 h10
  replace h0 : c0 = s0 := h0
  replace h3 : c3 = .pointer (some ⟨vb, 0, none⟩) := h3
  replace h4 : c4 = .slice ad 12 cap := h4
  replace h6 : c6 = .pointer (some ⟨rb, 0, none⟩) := h6
  replace h7 : c7 = .int .i64 k := h7
  replace h8 : c8 = .pointer (some ⟨tb, 0, none⟩) := h8
  replace h9 : c9 = .int .i64 n := h9
  replace h10 : c10 = .bool true := h10
  subst h0
  subst h3
  subst h4
  subst h6
  subst h7
  subst h8
  subst h9
  subst h10
  conv => arg 2; whnf
  have b0 : w5.cell? ⟨tb, 0, none⟩ = some (.int .i64 0) := h5.t 0 (by omega)
  have b1 : w5.cell? ⟨tb, 1, none⟩ = some (.int .i64 (s : Int)) := h5.t 1 (by omega)
  have hsz : (s : Int) < 64 := by omega
  have hsz0 : (0 : Int) ≤ (s : Int) := by omega
  have hnz : (n : Int) < 12 := by omega
  have hnz0 : (0 : Int) ≤ (n : Int) := by omega
  have hln : ∀ j, j < 64 → (L j).length ≤ 100000 := fun j hj => by have := h5.d.a.ln j hj; omega
  have HLN := Lib.hid hln
  have H5 := Lib.hid h5
  clear h5 hln
  go_wp2_with fail
  refine (H5.out.d.r.of n HLN.out).mono ?_
  rintro e w6 ⟨r, rfl, hr, rfl⟩
  obtain ⟨q, rfl⟩ : ∃ q : Nat, r = (q : Int) := by
    rcases hr with ⟨-, h⟩ | ⟨q, -, rfl, -⟩
    · exact absurd hm (h u hu)
    · exact ⟨q, rfl⟩
  have hq0 : (0 : Int) ≤ (q : Int) := by omega
  clear hr
  obtain ⟨gn, rfl, -⟩ := H5.out.d.a.r.form (by omega)
  have lcn := H5.out.d.a.r.len_cap
  go_upto_region 28 with (fail)
  refine wp_region_held_drew (S := fun w' => w'.cell? ⟨tb, 1, none⟩ = some (.int .i64 (s : Int)) ∧ w'.cell? ⟨gn, n, none⟩ = some (.pointer (some ⟨nb n, 0, none⟩))) (by kernel_rfl) ⟨H5.out.t 1 (by omega), H5.out.d.a.r.cell n (by omega)⟩ (fun hHeld => ?_)
  have HD := Lib.hid (H5.out.nil ((Ch.refl Nil _).drew))
  clear H5
  generalize World.drew _ = X at hHeld HD ⊢
  refine take_at (v := ?_) 0 (some 86) rfl (by kernel_rfl) (by kernel_rfl) (by kernel_rfl) (by kernel_rfl) (fun _ _ _ h => h) (Or.inl ⟨by rfl, ?_⟩) (by assumption) ?_
  rotate_left
  · intro w hSw; (try dsimp only at hSw); go_simp; try (with_reducible rfl)
  (try simp only [Act.put, List.setIfInBounds_toArray, List.set_cons_zero, List.set_cons_succ])
  refine take_at (v := ?_) 1 (some 87) rfl (by kernel_rfl) (by kernel_rfl) (by kernel_rfl) (by kernel_rfl) (fun _ _ _ h => h) (Or.inl ⟨by rfl, ?_⟩) (by assumption) ?_
  rotate_left
  · intro w hSw; (try dsimp only at hSw); go_simp; try (with_reducible rfl)
  (try simp only [Act.put, List.setIfInBounds_toArray, List.set_cons_zero, List.set_cons_succ])
  refine take_at (v := ?_) 2 (some 88) rfl (by kernel_rfl) (by kernel_rfl) (by kernel_rfl) (by kernel_rfl) (fun _ _ _ h => h) (Or.inl ⟨by rfl, ?_⟩) (by assumption) ?_
  rotate_left
  · intro w hSw; (try dsimp only at hSw); go_simp; try (with_reducible rfl)
  (try simp only [Act.put, List.setIfInBounds_toArray, List.set_cons_zero, List.set_cons_succ])
  refine take_at (v := ?_) 3 (some 89) rfl (by kernel_rfl) (by kernel_rfl) (by kernel_rfl) (by kernel_rfl) (fun _ _ _ h => h) (Or.inl ⟨by rfl, ?_⟩) (by assumption) ?_
  rotate_left
  · intro w hSw; (try dsimp only at hSw); go_simp; try (with_reducible rfl)
  (try simp only [Act.put, List.setIfInBounds_toArray, List.set_cons_zero, List.set_cons_succ])
  refine take_at (v := ?_) 4 (some 90) rfl (by kernel_rfl) (by kernel_rfl) (by kernel_rfl) (by kernel_rfl) (fun _ _ _ h => h) (Or.inl ⟨by rfl, ?_⟩) (by assumption) ?_
  rotate_left
  · intro w hSw; (try dsimp only at hSw); go_simp; try (with_reducible rfl)
  (try simp only [Act.put, List.setIfInBounds_toArray, List.set_cons_zero, List.set_cons_succ])
  refine take_at (v := ?_) 5 (some 91) rfl (by kernel_rfl) (by kernel_rfl) (by kernel_rfl) (by kernel_rfl) (fun _ _ _ h => h) (Or.inl ⟨by rfl, ?_⟩) (by assumption) ?_
  rotate_left
  · intro w hSw; (try dsimp only at hSw); go_simp; try (with_reducible rfl)
  (try simp only [Act.put, List.setIfInBounds_toArray, List.set_cons_zero, List.set_cons_succ])
  refine take_at (v := ?_) 6 (some 92) rfl (by kernel_rfl) (by kernel_rfl) (by kernel_rfl) (by kernel_rfl) (fun _ _ _ h => h) (Or.inl ⟨by rfl, ?_⟩) (by assumption) ?_
  rotate_left
  · intro w hSw; (try dsimp only at hSw); go_simp; try (with_reducible rfl)
  (try simp only [Act.put, List.setIfInBounds_toArray, List.set_cons_zero, List.set_cons_succ])
  refine take_at (v := ?_) 8 (some 94) rfl (by kernel_rfl) (by kernel_rfl) (by kernel_rfl) (by kernel_rfl) (fun _ _ _ h => h) (Or.inl ⟨by rfl, ?_⟩) (by assumption) ?_
  rotate_left
  · intro w hSw; (try dsimp only at hSw); go_simp; try (with_reducible rfl)
  (try simp only [Act.put, List.setIfInBounds_toArray, List.set_cons_zero, List.set_cons_succ])
  refine wpAnyH_ready (rs := [7]) (by kernel_rfl) (by simp) ?_
  refine AllReadyH.cons rfl (fun K hK => ?_) AllReadyH.nil
  go_simp
  refine (HD.out.d.a.put_state hs hu hm).mono ?_
  rintro e w7 ⟨rfl, a7, c7⟩
  have H7 := Lib.hid (HD.out.lev a7 c7)
  refine hK.out _ _ ⟨H7.out.t 1 (by omega), H7.out.d.a.r.cell n (by omega)⟩ (fun hHeld => ?_)
  clear a7 c7 HD b0 b1
  clear hK K
  (try simp only [Act.put, List.setIfInBounds_toArray, List.set_cons_zero, List.set_cons_succ])
  refine take_at (v := ?_) 9 (some 95) rfl (by kernel_rfl) (by kernel_rfl) (by kernel_rfl) (by kernel_rfl) (fun _ _ _ h => h) (Or.inl ⟨by rfl, ?_⟩) (by assumption) ?_
  rotate_left
  · intro w hSw; (try dsimp only at hSw); go_simp; try (with_reducible rfl)
  (try simp only [Act.put, List.setIfInBounds_toArray, List.set_cons_zero, List.set_cons_succ])
  refine wpAnyH_done (by kernel_rfl) ?_ _
  go_wp2
  exact ⟨_, _, _, _, rfl, ⟨⟨rfl, rfl, rfl, rfl, rfl, rfl⟩, rfl, rfl, rfl⟩, H7.out.more⟩

set_option maxRecDepth 100000 in
set_option maxHeartbeats 0 in
theorem put_range {w w5 : World} {vb : Nat} {hd nb : Nat → Nat} {ad : Option Addr} {cap : Nat} {V : Nat → Int} {rb k tb n : Nat} {s0 : Value} {L : Nat → List Nat} {R : Nat → Prop} {ra : Nat → Option Addr} {rc : Nat → Nat} {y1 y2 : Int} (t : Array Value) (F : FrM s0 vb rb k cap ad tb n false t) (h5 : DuoT w vb hd nb ad cap V rb k tb (fun j => [0, y1, y2].getD j 0) L L R ra rc w5) (hk : k < 100) (hn : n < 12) (hz : y1 < 0 ∨ 64 ≤ y1) :
    Code.wp Tryd.prog (caseOf Tryd.f3) (Exit.then (Mid w vb hd nb ad cap V rb s0 k (k + 1) tb n false (fun j => [0, y1, y2].getD j 0)) (Qc (Inv w vb hd nb ad cap V rb s0 k (k + 1)))) ⟨t, []⟩ w5 := by
  obtain ⟨⟨hz, h0, h3, h4, h6, h7⟩, h8, h9, h10⟩ := F
  refine openFr (P := fun t => t.getD 0 undef = s0 → t.getD 3 undef = .pointer (some ⟨vb, 0, none⟩) → t.getD 4 undef = .slice ad 12 cap → t.getD 6 undef = .pointer (some ⟨rb, 0, none⟩) → t.getD 7 undef = .int .i64 k → t.getD 8 undef = .pointer (some ⟨tb, 0, none⟩) → t.getD 9 undef = .int .i64 n → t.getD 10 undef = .bool false → Code.wp Tryd.prog (caseOf Tryd.f3) (Exit.then (Mid w vb hd nb ad cap V rb s0 k (k + 1) tb n false (fun j => [0, y1, y2].getD j 0)) (Qc (Inv w vb hd nb ad cap V rb s0 k (k + 1)))) ⟨t, []⟩ w5) ?_ t hz h0 h3 h4 h6 h7 h8 h9 h10
  clear h0 h3 h4 h6 h7 h8 h9 h10 hz t
  intro c0 c1 c2 c3 c4 c5 c6 c7 c8 c9 c10 c11 c12 c13 c14 c15 c16 c17 c18 c19 c20 c21 c22 c23 c24 c25 c26 c27 c28 c29 c30 c31 c32 c33 c34 c35 c36 c37 c38 c39 c40 c41 c42 c43 c44 c45 c46 c47 c48 c49 c50 c51 c52 c53 c54 c55 c56 c57 c58 c59 c60 c61 c62 c63 c64 c65 c66 c67 c68 c69 c70 c71 c72 c73 c74 c75 c76 c77 c78 c79 c80 c81 c82 c83 c84 c85 c86 c87 c88 c89 c90 c91 c92 c93 c94 c95 c96 c97 c98 c99 c100 c101 c102 c103 c104 c105 c106 c107 c108 c109 c110 c111 c112 c113 c114 c115 c116 c117 c118 c119 c120 c121 c122 c123 c124 c125 c126 c127 c128 c129 c130 c131 c132 c133 c134 c135 c136 c137 c138 c139 c140 c141 c142 c143 c144 c145 c146 c147 c148 c149 c150 c151 c152 c153 c154 c155 c156 c157 c158 c159 c160 c161 c162 c163 c164 c165 c166 c167 c168 c169 c170 c171 c172 c173 c174 c175 c176 c177 c178 c179 c180 c181 c182 c183 c184 c185 c186 c187 c188 c189 c190 c191 c192 c193 c194 c195 c196 c197 c198 c199 c200 c201 c202 c203 c204 c205 c206 c207 c208 c209 c210 c211 c212 c213 c214 c215 c216 c217 c218 c219 c220 c221 c222 c223 c224 c225 c226 c227 c228 c229 h0 h3 h4 h6 h7 h8 h9 h10
  replace h0 : c0 = s0 := h0
  replace h3 : c3 = .pointer (some ⟨vb, 0, none⟩) := h3
  replace h4 : c4 = .slice ad 12 cap := h4
  replace h6 : c6 = .pointer (some ⟨rb, 0, none⟩) := h6
  replace h7 : c7 = .int .i64 k := h7
  replace h8 : c8 = .pointer (some ⟨tb, 0, none⟩) := h8
  replace h9 : c9 = .int .i64 n := h9
  replace h10 : c10 = .bool false := h10
  subst h0
  subst h3
  subst h4
  subst h6
  subst h7
  subst h8
  subst h9
  subst h10
  conv => arg 2; whnf
  have b0 : w5.cell? ⟨tb, 0, none⟩ = some (.int .i64 0) := h5.t 0 (by omega)
  have b1 : w5.cell? ⟨tb, 1, none⟩ = some (.int .i64 y1) := h5.t 1 (by omega)
  have hnz : (n : Int) < 12 := by omega
  have hnz0 : (0 : Int) ≤ (n : Int) := by omega
  have hln : ∀ j, j < 64 → (L j).length ≤ 100000 := fun j hj => by have := h5.d.a.ln j hj; omega
  have HLN := Lib.hid hln
  have H5 := Lib.hid h5
  clear h5 hln
  obtain ⟨gn, rfl, -⟩ := H5.out.d.a.r.form (by omega)
  have lcn := H5.out.d.a.r.len_cap
  go_upto_region 28 with (fail)
  refine wp_region_held_drew (S := fun w' => w'.cell? ⟨tb, 1, none⟩ = some (.int .i64 y1) ∧ w'.cell? ⟨gn, n, none⟩ = some (.pointer (some ⟨nb n, 0, none⟩))) (by kernel_rfl) ⟨H5.out.t 1 (by omega), H5.out.d.a.r.cell n (by omega)⟩ (fun hHeld => ?_)
  have HD := Lib.hid (H5.out.nil ((Ch.refl Nil _).drew))
  clear H5
  generalize World.drew _ = X at hHeld HD ⊢
  refine take_at (v := ?_) 0 (some 86) rfl (by kernel_rfl) (by kernel_rfl) (by kernel_rfl) (by kernel_rfl) (fun _ _ _ h => h) (Or.inl ⟨by rfl, ?_⟩) (by assumption) ?_
  rotate_left
  · intro w hSw; (try dsimp only at hSw); go_simp; try (with_reducible rfl)
  (try simp only [Act.put, List.setIfInBounds_toArray, List.set_cons_zero, List.set_cons_succ])
  refine take_at (v := ?_) 1 (some 87) rfl (by kernel_rfl) (by kernel_rfl) (by kernel_rfl) (by kernel_rfl) (fun _ _ _ h => h) (Or.inl ⟨by rfl, ?_⟩) (by assumption) ?_
  rotate_left
  · intro w hSw; (try dsimp only at hSw); go_simp; try (with_reducible rfl)
  (try simp only [Act.put, List.setIfInBounds_toArray, List.set_cons_zero, List.set_cons_succ])
  refine take_at (v := ?_) 2 (some 88) rfl (by kernel_rfl) (by kernel_rfl) (by kernel_rfl) (by kernel_rfl) (fun _ _ _ h => h) (Or.inl ⟨by rfl, ?_⟩) (by assumption) ?_
  rotate_left
  · intro w hSw; (try dsimp only at hSw); go_simp; try (with_reducible rfl)
  (try simp only [Act.put, List.setIfInBounds_toArray, List.set_cons_zero, List.set_cons_succ])
  refine take_at (v := ?_) 3 (some 89) rfl (by kernel_rfl) (by kernel_rfl) (by kernel_rfl) (by kernel_rfl) (fun _ _ _ h => h) (Or.inl ⟨by rfl, ?_⟩) (by assumption) ?_
  rotate_left
  · intro w hSw; (try dsimp only at hSw); go_simp; try (with_reducible rfl)
  (try simp only [Act.put, List.setIfInBounds_toArray, List.set_cons_zero, List.set_cons_succ])
  refine take_at (v := ?_) 4 (some 90) rfl (by kernel_rfl) (by kernel_rfl) (by kernel_rfl) (by kernel_rfl) (fun _ _ _ h => h) (Or.inl ⟨by rfl, ?_⟩) (by assumption) ?_
  rotate_left
  · intro w hSw; (try dsimp only at hSw); go_simp; try (with_reducible rfl)
  (try simp only [Act.put, List.setIfInBounds_toArray, List.set_cons_zero, List.set_cons_succ])
  refine take_at (v := ?_) 5 (some 91) rfl (by kernel_rfl) (by kernel_rfl) (by kernel_rfl) (by kernel_rfl) (fun _ _ _ h => h) (Or.inl ⟨by rfl, ?_⟩) (by assumption) ?_
  rotate_left
  · intro w hSw; (try dsimp only at hSw); go_simp; try (with_reducible rfl)
  (try simp only [Act.put, List.setIfInBounds_toArray, List.set_cons_zero, List.set_cons_succ])
  refine take_at (v := ?_) 6 (some 92) rfl (by kernel_rfl) (by kernel_rfl) (by kernel_rfl) (by kernel_rfl) (fun _ _ _ h => h) (Or.inl ⟨by rfl, ?_⟩) (by assumption) ?_
  rotate_left
  · intro w hSw; (try dsimp only at hSw); go_simp; try (with_reducible rfl)
  (try simp only [Act.put, List.setIfInBounds_toArray, List.set_cons_zero, List.set_cons_succ])
  refine take_at (v := ?_) 8 (some 94) rfl (by kernel_rfl) (by kernel_rfl) (by kernel_rfl) (by kernel_rfl) (fun _ _ _ h => h) (Or.inl ⟨by rfl, ?_⟩) (by assumption) ?_
  rotate_left
  · intro w hSw; (try dsimp only at hSw); go_simp; try (with_reducible rfl)
  (try simp only [Act.put, List.setIfInBounds_toArray, List.set_cons_zero, List.set_cons_succ])
  refine wpAnyH_ready (rs := [7]) (by kernel_rfl) (by simp) ?_
  refine AllReadyH.cons rfl (fun K hK => ?_) AllReadyH.nil
  go_simp
  refine (vput_range vb y1 hz _ _).mono ?_
  rintro e w7 ⟨rfl, rfl⟩
  refine hK.out _ _ hHeld (fun hHeld => ?_)
  clear b0 b1
  clear hK K
  (try simp only [Act.put, List.setIfInBounds_toArray, List.set_cons_zero, List.set_cons_succ])
  refine take_at (v := ?_) 9 (some 95) rfl (by kernel_rfl) (by kernel_rfl) (by kernel_rfl) (by kernel_rfl) (fun _ _ _ h => h) (Or.inl ⟨by rfl, ?_⟩) (by assumption) ?_
  rotate_left
  · intro w hSw; (try dsimp only at hSw); go_simp; try (with_reducible rfl)
  (try simp only [Act.put, List.setIfInBounds_toArray, List.set_cons_zero, List.set_cons_succ])
  refine wpAnyH_done (by kernel_rfl) ?_ _
  go_wp2
  exact ⟨_, _, _, _, rfl, ⟨⟨rfl, rfl, rfl, rfl, rfl, rfl⟩, rfl, rfl, rfl⟩, HD.out.more⟩

set_option maxRecDepth 100000 in
set_option maxHeartbeats 0 in
theorem put_free {w w5 : World} {vb : Nat} {hd nb : Nat → Nat} {ad : Option Addr} {cap : Nat} {V : Nat → Int} {rb k tb n : Nat} {s0 : Value} {L : Nat → List Nat} {R : Nat → Prop} {ra : Nat → Option Addr} {rc : Nat → Nat} {y2 : Int} {s : Nat} (t : Array Value) (F : FrM s0 vb rb k cap ad tb n true t) (h5 : DuoT w vb hd nb ad cap V rb k tb (fun j => [0, (s : Int), y2].getD j 0) L L R ra rc w5) (hk : k < 100) (hn : n < 12) (hs : s < 64) (hf : ∀ u, u < 64 → n ∉ L u) :
    Code.wp Tryd.prog (caseOf Tryd.f3) (Exit.then (Mid w vb hd nb ad cap V rb s0 k (k + 1) tb n true (fun j => [0, (s : Int), y2].getD j 0)) (Qc (Inv w vb hd nb ad cap V rb s0 k (k + 1)))) ⟨t, []⟩ w5 := by
  obtain ⟨⟨hz, h0, h3, h4, h6, h7⟩, h8, h9, h10⟩ := F
  refine openFr (P := fun t => t.getD 0 undef = s0 → t.getD 3 undef = .pointer (some ⟨vb, 0, none⟩) → t.getD 4 undef = .slice ad 12 cap → t.getD 6 undef = .pointer (some ⟨rb, 0, none⟩) → t.getD 7 undef = .int .i64 k → t.getD 8 undef = .pointer (some ⟨tb, 0, none⟩) → t.getD 9 undef = .int .i64 n → t.getD 10 undef = .bool true → Code.wp Tryd.prog (caseOf Tryd.f3) (Exit.then (Mid w vb hd nb ad cap V rb s0 k (k + 1) tb n true (fun j => [0, (s : Int), y2].getD j 0)) (Qc (Inv w vb hd nb ad cap V rb s0 k (k + 1)))) ⟨t, []⟩ w5) ?_ t hz h0 h3 h4 h6 h7 h8 h9 h10
  clear h0 h3 h4 h6 h7 h8 h9 h10 hz t
  intro c0 c1 c2 c3 c4 c5 c6 c7 c8 c9 c10 c11 c12 c13 c14 c15 c16 c17 c18 c19 c20 c21 c22 c23 c24 c25 c26 c27 c28 c29 c30 c31 c32 c33 c34 c35 c36 c37 c38 c39 c40 c41 c42 c43 c44 c45 c46 c47 c48 c49 c50 c51 c52 c53 c54 c55 c56 c57 c58 c59 c60 c61 c62 c63 c64 c65 c66 c67 c68 c69 c70 c71 c72 c73 c74 c75 c76 c77 c78 c79 c80 c81 c82 c83 c84 c85 c86 c87 c88 c89 c90 c91 c92 c93 c94 c95 c96 c97 c98 c99 c100 c101 c102 c103 c104 c105 c106 c107 c108 c109 c110 c111 c112 c113 c114 c115 c116 c117 c118 c119 c120 c121 c122 c123 c124 c125 c126 c127 c128 c129 c130 c131 c132 c133 c134 c135 c136 c137 c138 c139 c140 c141 c142 c143 c144 c145 c146 c147 c148 c149 c150 c151 c152 c153 c154 c155 c156 c157 c158 c159 c160 c161 c162 c163 c164 c165 c166 c167 c168 c169 c170 c171 c172 c173 c174 c175 c176 c177 c178 c179 c180 c181 c182 c183 c184 c185 c186 c187 c188 c189 c190 c191 c192 c193 c194 c195 c196 c197 c198 c199 c200 c201 c202 c203 c204 c205 c206 c207 c208 c209 c210 c211 c212 c213 c214 c215 c216 c217 c218 c219 c220 c221 c222 c223 c224 c225 c226 c227 c228 c229 h0 h3 h4 h6 h7 h8 h9 h10
  replace h0 : c0 = s0 := h0
  replace h3 : c3 = .pointer (some ⟨vb, 0, none⟩) := h3
  replace h4 : c4 = .slice ad 12 cap := h4
  replace h6 : c6 = .pointer (some ⟨rb, 0, none⟩) := h6
  replace h7 : c7 = .int .i64 k := h7
  replace h8 : c8 = .pointer (some ⟨tb, 0, none⟩) := h8
  replace h9 : c9 = .int .i64 n := h9
  replace h10 : c10 = .bool true := h10
  subst h0
  subst h3
  subst h4
  subst h6
  subst h7
  subst h8
  subst h9
  subst h10
  conv => arg 2; whnf
  have b0 : w5.cell? ⟨tb, 0, none⟩ = some (.int .i64 0) := h5.t 0 (by omega)
  have b1 : w5.cell? ⟨tb, 1, none⟩ = some (.int .i64 (s : Int)) := h5.t 1 (by omega)
  have hsz : (s : Int) < 64 := by omega
  have hsz0 : (0 : Int) ≤ (s : Int) := by omega
  have hnz : (n : Int) < 12 := by omega
  have hnz0 : (0 : Int) ≤ (n : Int) := by omega
  have hln : ∀ j, j < 64 → (L j).length ≤ 100000 := fun j hj => by have := h5.d.a.ln j hj; omega
  have HLN := Lib.hid hln
  have H5 := Lib.hid h5
  clear h5 hln
  have HF := Lib.hid hf
  clear hf
  go_wp2_with fail
  refine (H5.out.d.r.of n HLN.out).mono ?_
  rintro e w6 ⟨r, rfl, hr, rfl⟩
  obtain rfl : r = -1 := by
    rcases hr with ⟨h, -⟩ | ⟨q, hq, rfl, hm⟩
    · exact h
    · exact absurd hm (HF.out q hq)
  clear hr
  go_upto_region 27 with (fail)
  refine wp_region_held_drew (S := fun w' => w'.cell? ⟨tb, 1, none⟩ = some (.int .i64 (s : Int))) (by kernel_rfl) b1 (fun hHeld => ?_)
  have HD := Lib.hid (H5.out.nil ((Ch.refl Nil w5).drew))
  clear H5 b0 b1
  generalize w5.drew = X at hHeld HD ⊢
  have cX : Ch Nil X (X.alloc (.cells #[.int .i64 (n : Int)] 3)) := (Ch.refl _ _).alloc _
  have c1 := HD.out.d.r.c s hs
  have c2 := cX.keeps c1 (fun e => e)
  have S2 := cX.keeps hHeld (fun e => e)
  refine take_at (v := ?_) 0 (some 72) rfl (by kernel_rfl) (by kernel_rfl) (by kernel_rfl) (by kernel_rfl) (fun _ _ _ h => h) (Or.inl ⟨by rfl, ?_⟩) (by assumption) ?_
  rotate_left
  · intro w hSw; (try dsimp only at hSw); go_simp; try (with_reducible rfl)
  (try simp only [Act.put, List.setIfInBounds_toArray, List.set_cons_zero, List.set_cons_succ])
  refine take_at (v := ?_) 1 (some 73) rfl (by kernel_rfl) (by kernel_rfl) (by kernel_rfl) (by kernel_rfl) (fun _ _ _ h => h) (Or.inl ⟨by rfl, ?_⟩) (by assumption) ?_
  rotate_left
  · intro w hSw; (try dsimp only at hSw); go_simp; try (with_reducible rfl)
  (try simp only [Act.put, List.setIfInBounds_toArray, List.set_cons_zero, List.set_cons_succ])
  refine take_at (v := ?_) 2 (some 74) rfl (by kernel_rfl) (by kernel_rfl) (by kernel_rfl) (by kernel_rfl) (fun _ _ _ h => h) (Or.inl ⟨by rfl, ?_⟩) (by assumption) ?_
  rotate_left
  · intro w hSw; (try dsimp only at hSw); go_simp; try (with_reducible rfl)
  (try simp only [Act.put, List.setIfInBounds_toArray, List.set_cons_zero, List.set_cons_succ])
  refine take_at (v := ?_) 3 (some 75) rfl (by kernel_rfl) (by kernel_rfl) (by kernel_rfl) (by kernel_rfl) (fun _ _ _ h => h) (Or.inl ⟨by rfl, ?_⟩) (by assumption) ?_
  rotate_left
  · intro w hSw; (try dsimp only at hSw); go_simp; try (with_reducible rfl)
  (try simp only [Act.put, List.setIfInBounds_toArray, List.set_cons_zero, List.set_cons_succ])
  refine take_at (v := ?_) 4 (some 76) rfl (by kernel_rfl) (by kernel_rfl) (by kernel_rfl) (by kernel_rfl) (fun _ _ _ h => h) (Or.inl ⟨by rfl, ?_⟩) (by assumption) ?_
  rotate_left
  · intro w hSw; (try dsimp only at hSw); go_simp; try (with_reducible rfl)
  (try simp only [Act.put, List.setIfInBounds_toArray, List.set_cons_zero, List.set_cons_succ])
  refine take_at (v := ?_) 5 (some 77) rfl (by kernel_rfl) (by kernel_rfl) (by kernel_rfl) (by kernel_rfl) (fun _ _ _ h => h) (Or.inl ⟨by rfl, ?_⟩) (by assumption) ?_
  rotate_left
  · intro w hSw; (try dsimp only at hSw); go_simp; try (with_reducible rfl)
  (try simp only [Act.put, List.setIfInBounds_toArray, List.set_cons_zero, List.set_cons_succ])
  refine take_at (v := ?_) 6 (some 78) rfl (by kernel_rfl) (by kernel_rfl) (by kernel_rfl) (by kernel_rfl) (fun _ _ _ h => h) (Or.inl ⟨by rfl, ?_⟩) (by assumption) ?_
  rotate_left
  · intro w hSw; (try dsimp only at hSw); go_simp; try (with_reducible rfl)
  (try simp only [Act.put, List.setIfInBounds_toArray, List.set_cons_zero, List.set_cons_succ])
  refine take_at (v := ?_) 7 (some 79) rfl (by kernel_rfl) (by kernel_rfl) (by kernel_rfl) (by kernel_rfl) (fun _ _ _ h => h) (Or.inl ⟨by rfl, ?_⟩) (by assumption) ?_
  rotate_left
  · intro w hSw; (try dsimp only at hSw); go_simp; try (with_reducible rfl)
  (try simp only [Act.put, List.setIfInBounds_toArray, List.set_cons_zero, List.set_cons_succ])
  refine take_at (v := ?_) 9 (some 81) rfl (by kernel_rfl) (by kernel_rfl) (by kernel_rfl) (by kernel_rfl) (fun _ _ _ h => h) (Or.inl ⟨by rfl, ?_⟩) (by assumption) ?_
  rotate_left
  · intro w hSw; (try dsimp only at hSw); go_simp; try (with_reducible rfl)
  (try simp only [Act.put, List.setIfInBounds_toArray, List.set_cons_zero, List.set_cons_succ])
  refine take_at (v := ?_) 12 (some 84) rfl (by kernel_rfl) (by kernel_rfl) (by kernel_rfl) (by kernel_rfl) (fun _ _ _ h => h) (Or.inl ⟨by rfl, ?_⟩) (by assumption) ?_
  rotate_left
  · intro w hSw; (try dsimp only at hSw); go_simp; try (with_reducible rfl)
  (try simp only [Act.put, List.setIfInBounds_toArray, List.set_cons_zero, List.set_cons_succ])
  refine wpAnyH_ready (rs := [8, 10]) (by kernel_rfl) (by simp) ?_
  refine AllReadyH.cons rfl (fun K hK => ?_) ?_
  go_simp
  refine hK.out _ _ hHeld (fun hh => ?_)
  clear hK K hh
  (try simp only [Act.put, List.setIfInBounds_toArray, List.set_cons_zero, List.set_cons_succ])
  refine wpAnyH_ready (rs := [10]) (by kernel_rfl) (by simp) ?_
  refine AllReadyH.cons rfl (fun K hK => ?_) AllReadyH.nil
  go_simp
  refine hK.out _ _ S2 (fun hh => ?_)
  clear hK K hh
  (try simp only [Act.put, List.setIfInBounds_toArray, List.set_cons_zero, List.set_cons_succ])
  refine ?tail
  rotate_left
  refine AllReadyH.cons rfl (fun K hK => ?_) AllReadyH.nil
  go_simp
  refine hK.out _ _ S2 (fun hh => ?_)
  clear hK K hh
  (try simp only [Act.put, List.setIfInBounds_toArray, List.set_cons_zero, List.set_cons_succ])
  refine wpAnyH_ready (rs := [8]) (by kernel_rfl) (by simp) ?_
  refine AllReadyH.cons rfl (fun K hK => ?_) AllReadyH.nil
  go_simp
  refine hK.out _ _ S2 (fun hh => ?_)
  clear hK K hh
  (try simp only [Act.put, List.setIfInBounds_toArray, List.set_cons_zero, List.set_cons_succ])
  exact ?tail
  have HX := Lib.hid (HD.out.nil cX)
  have R5 : Hid (Row (X.alloc (.cells #[.int .i64 (n : Int)] 3)) 3 1 (ra s) (L s).length (rc s) (fun i => .int .i64 (numR (L s) i))) := Lib.hid (HX.out.d.r.r s hs)
  have lls := HLN.out s hs
  clear c1 cX
  refine wpAnyH_ready (rs := [11]) (by kernel_rfl) (by simp) ?_
  refine AllReadyH.cons rfl (fun K hK => ?_) AllReadyH.nil
  refine step_row rfl _ _ _ rfl 3 (.int .i64 0) 1 8 Tryd.underlying32 (by kernel_rfl) rfl (by omega) (by omega) rfl R5.out (by omega) X.heap.size 1 [.int .i64 (n : Int)] 3 rfl rfl (heap_alloc_new X _) (by simp [Value.oneCell']) (fun i => .int .i64 (numR (L s ++ [n]) i)) (fun i hi => by simp only [numR]; rw [getD_snoc _ _ _ (by omega)]) (by intro m u hu; obtain rfl : m = 0 := (by cases m; rfl; simp at hu); simp at hu; subst hu; simp only [numR, Nat.mul_one, Nat.add_zero]; rw [getD_last]) _ rfl ?_
  intro g6 cap6 w6 row6 ch6 at6 lt6
  have ntb : ¬ OwnS (ra s) tb := fun e => HX.out.tr (HX.out.d.r.mr s hs tb e)
  have nrb : ¬ OwnS (ra s) rb := HX.out.d.r.nb s hs
  have S3 := ch6.keeps S2 ntb
  have c3 := ch6.keeps c2 nrb
  have z3 := (HX.out.d.r.b.kept ch6 nrb).fz s
  have row7 : RowI w6 (some ⟨g6, 0, none⟩) (L s ++ [n]).length cap6 (numR (L s ++ [n])) := by rw [List.length_append]; exact row6
  obtain ⟨r8, c8⟩ := HX.out.d.r.setL (a := some ⟨g6, 0, none⟩) (c' := cap6) (xs := L s ++ [n]) hs ch6 row7 (fun j hj => by cases hj; rcases at6 with h' | h'; exact .inl h'; exact .inr (by simp only; omega))
  have H8 := Lib.hid (HX.out.ref r8 (fun j hj => by rcases hj with hj | hj; exact .inl hj; cases hj; rcases at6 with h' | h'; exact .inl (HX.out.d.r.mr s hs _ h'); exact .inr (by simp only; omega)) c8)
  rw [show (L s ++ [n]).length = (L s).length + 1 by simp] at H8
  refine hK.out _ _ S3 (fun hh => ?_)
  have TBR : Hid (tb ≠ rb) := Lib.hid (fun e => HX.out.tr (e ▸ HX.out.d.r.mb))
  clear hK K hh ch6 row6 row7 at6 lt6 r8 c8 R5 HX HD S2 c2 hHeld ntb nrb
  (try simp only [Act.put, List.setIfInBounds_toArray, List.set_cons_zero, List.set_cons_succ])
  refine take_at (v := ?_) 13 (some 85) rfl (by kernel_rfl) (by kernel_rfl) (by kernel_rfl) (by kernel_rfl) (fun _ _ _ h => h) (Or.inl ⟨by rfl, ?_⟩) (by assumption) ?_
  rotate_left
  · intro w hSw; (try dsimp only at hSw); go_simp; try (with_reducible rfl)
  (try simp only [Act.put, List.setIfInBounds_toArray, List.set_cons_zero, List.set_cons_succ])
  refine wpAnyH_ready (rs := [14]) (by kernel_rfl) (by simp) ?_
  refine AllReadyH.cons rfl (fun K hK => ?_) AllReadyH.nil
  go_simp
  refine hK.out _ _ (by rw [cell_set, if_neg (by rintro ⟨e, -⟩; exact TBR.out e)]; exact S3) (fun hh => ?_)
  clear hK K hh
  (try simp only [Act.put, List.setIfInBounds_toArray, List.set_cons_zero, List.set_cons_succ])
  refine wpAnyH_done (by kernel_rfl) ?_ _
  clear S3 c3 z3
  generalize w6.setCell ⟨rb, s, none⟩ (.slice (some ⟨g6, 0, none⟩) ((L s).length + 1) cap6) = w8 at H8 ⊢
  have b1 : w8.cell? ⟨tb, 1, none⟩ = some (.int .i64 (s : Int)) := H8.out.t 1 (by omega)
  obtain ⟨gn, rfl, -⟩ := H8.out.d.a.r.form (by omega)
  have lcn := H8.out.d.a.r.len_cap
  go_upto_region 28 with (fail)
  refine wp_region_held_drew (S := fun w' => w'.cell? ⟨tb, 1, none⟩ = some (.int .i64 (s : Int)) ∧ w'.cell? ⟨gn, n, none⟩ = some (.pointer (some ⟨nb n, 0, none⟩))) (by kernel_rfl) ⟨H8.out.t 1 (by omega), H8.out.d.a.r.cell n (by omega)⟩ (fun hHeld => ?_)
  have HD := Lib.hid (H8.out.nil ((Ch.refl Nil _).drew))
  clear H8
  generalize World.drew _ = X at hHeld HD ⊢
  refine take_at (v := ?_) 0 (some 86) rfl (by kernel_rfl) (by kernel_rfl) (by kernel_rfl) (by kernel_rfl) (fun _ _ _ h => h) (Or.inl ⟨by rfl, ?_⟩) (by assumption) ?_
  rotate_left
  · intro w hSw; (try dsimp only at hSw); go_simp; try (with_reducible rfl)
  (try simp only [Act.put, List.setIfInBounds_toArray, List.set_cons_zero, List.set_cons_succ])
  refine take_at (v := ?_) 1 (some 87) rfl (by kernel_rfl) (by kernel_rfl) (by kernel_rfl) (by kernel_rfl) (fun _ _ _ h => h) (Or.inl ⟨by rfl, ?_⟩) (by assumption) ?_
  rotate_left
  · intro w hSw; (try dsimp only at hSw); go_simp; try (with_reducible rfl)
  (try simp only [Act.put, List.setIfInBounds_toArray, List.set_cons_zero, List.set_cons_succ])
  refine take_at (v := ?_) 2 (some 88) rfl (by kernel_rfl) (by kernel_rfl) (by kernel_rfl) (by kernel_rfl) (fun _ _ _ h => h) (Or.inl ⟨by rfl, ?_⟩) (by assumption) ?_
  rotate_left
  · intro w hSw; (try dsimp only at hSw); go_simp; try (with_reducible rfl)
  (try simp only [Act.put, List.setIfInBounds_toArray, List.set_cons_zero, List.set_cons_succ])
  refine take_at (v := ?_) 3 (some 89) rfl (by kernel_rfl) (by kernel_rfl) (by kernel_rfl) (by kernel_rfl) (fun _ _ _ h => h) (Or.inl ⟨by rfl, ?_⟩) (by assumption) ?_
  rotate_left
  · intro w hSw; (try dsimp only at hSw); go_simp; try (with_reducible rfl)
  (try simp only [Act.put, List.setIfInBounds_toArray, List.set_cons_zero, List.set_cons_succ])
  refine take_at (v := ?_) 4 (some 90) rfl (by kernel_rfl) (by kernel_rfl) (by kernel_rfl) (by kernel_rfl) (fun _ _ _ h => h) (Or.inl ⟨by rfl, ?_⟩) (by assumption) ?_
  rotate_left
  · intro w hSw; (try dsimp only at hSw); go_simp; try (with_reducible rfl)
  (try simp only [Act.put, List.setIfInBounds_toArray, List.set_cons_zero, List.set_cons_succ])
  refine take_at (v := ?_) 5 (some 91) rfl (by kernel_rfl) (by kernel_rfl) (by kernel_rfl) (by kernel_rfl) (fun _ _ _ h => h) (Or.inl ⟨by rfl, ?_⟩) (by assumption) ?_
  rotate_left
  · intro w hSw; (try dsimp only at hSw); go_simp; try (with_reducible rfl)
  (try simp only [Act.put, List.setIfInBounds_toArray, List.set_cons_zero, List.set_cons_succ])
  refine take_at (v := ?_) 6 (some 92) rfl (by kernel_rfl) (by kernel_rfl) (by kernel_rfl) (by kernel_rfl) (fun _ _ _ h => h) (Or.inl ⟨by rfl, ?_⟩) (by assumption) ?_
  rotate_left
  · intro w hSw; (try dsimp only at hSw); go_simp; try (with_reducible rfl)
  (try simp only [Act.put, List.setIfInBounds_toArray, List.set_cons_zero, List.set_cons_succ])
  refine take_at (v := ?_) 8 (some 94) rfl (by kernel_rfl) (by kernel_rfl) (by kernel_rfl) (by kernel_rfl) (fun _ _ _ h => h) (Or.inl ⟨by rfl, ?_⟩) (by assumption) ?_
  rotate_left
  · intro w hSw; (try dsimp only at hSw); go_simp; try (with_reducible rfl)
  (try simp only [Act.put, List.setIfInBounds_toArray, List.set_cons_zero, List.set_cons_succ])
  refine wpAnyH_ready (rs := [7]) (by kernel_rfl) (by simp) ?_
  refine AllReadyH.cons rfl (fun K hK => ?_) AllReadyH.nil
  go_simp
  refine (HD.out.d.a.put hs hn HF.out (by omega)).mono ?_
  rintro e w9 ⟨rfl, a9, c9⟩
  have H9 := Lib.hid (HD.out.lev a9 c9)
  refine hK.out _ _ ⟨H9.out.t 1 (by omega), H9.out.d.a.r.cell n (by omega)⟩ (fun hHeld => ?_)
  clear a9 c9 HD b1
  clear hK K
  (try simp only [Act.put, List.setIfInBounds_toArray, List.set_cons_zero, List.set_cons_succ])
  refine take_at (v := ?_) 9 (some 95) rfl (by kernel_rfl) (by kernel_rfl) (by kernel_rfl) (by kernel_rfl) (fun _ _ _ h => h) (Or.inl ⟨by rfl, ?_⟩) (by assumption) ?_
  rotate_left
  · intro w hSw; (try dsimp only at hSw); go_simp; try (with_reducible rfl)
  (try simp only [Act.put, List.setIfInBounds_toArray, List.set_cons_zero, List.set_cons_succ])
  refine wpAnyH_done (by kernel_rfl) ?_ _
  go_wp2
  exact ⟨_, _, _, _, rfl, ⟨⟨rfl, rfl, rfl, rfl, rfl, rfl⟩, rfl, rfl, rfl⟩, H9.out⟩

end Go.Proofs.YtgaakhiapgmnbaaDoor
