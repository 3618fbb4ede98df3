/-
  ListActs, the case Put: what the list answers is what the document says, and both have the node, or had it already.
-/
import Derived.Test.YtmebkogkcnmkiaaActsCode
import Derived.Test.YtmebkogkcnmkiaaHeld
import Derived.Deep.QuietTactic
import Derived.BigQuiet
import Derived.Deep.Cut
import Derived.Deep.CutRange
import Derived.Deep.CutBlock
import Derived.RegionTactic
import Derived.BigRegion
namespace Go.Proofs.Ytmebkogkcnmkiaa
open Go.RowKit Verge LI
set_option linter.unusedVariables false
set_option linter.unusedSimpArgs false
attribute [local go_sem] Oper.semAt_some

set_option maxRecDepth 100000 in
set_option maxHeartbeats 0 in
theorem case_put {w w5 : World} {lb : Nat → Nat} {s0 : Value} {ab wb k tb kk oo q : Nat} {M R : Nat → Prop} {nb : Nat → Nat} {V Val : Nat → Int} {L : Nat → List Nat} {ra : Nat → Option Addr} {rc : Nat → Nat} {va : Option Addr} {vc : Nat} {an : Option Addr} {cn : Nat} {y1 y2 y3 : Int} (mN : Nat) (t : Array Value) (F : FrM s0 ab wb k tb kk oo (.slice an q cn) t) (hn : t.getD 11 undef = .int .i64 (mN : Nat)) (h5 : ActH w w5 lb ab wb tb 4 q q q (fun j => [1, y1, y2, y3].getD j 0) M R nb V Val L L ra rc va vc an cn) (hvv : ∀ j, j < q → V (nb j) = Val j) (hqk : q ≤ k) (htk : tot L ≤ k) (hk60 : k < 60) (hk3 : kk < 3) (ho3 : oo < 3) (hmN : mN < q) :
    Code.wp Try.prog (caseOf Try.f3) (Exit.then (Inv w lb s0 ab wb k (k + 1)) (fun _ _ _ => False)) ⟨t, []⟩ w5 := by
  obtain ⟨⟨hz, h0, h3, h4, h5s, h6⟩, h7, h8, h9⟩ := F
  refine openFr (P := fun t => t.getD 0 undef = s0 → t.getD 3 undef = .pointer (some ⟨ab, 0, none⟩) → t.getD 4 undef = .slice an q cn → t.getD 5 undef = .pointer (some ⟨wb, 0, none⟩) → t.getD 6 undef = .int .i64 k → t.getD 7 undef = .pointer (some ⟨tb, 0, none⟩) → t.getD 8 undef = .int .i64 kk → t.getD 9 undef = .int .i64 oo → t.getD 11 undef = .int .i64 (mN : Nat) → Code.wp Try.prog (caseOf Try.f3) (Exit.then (Inv w lb s0 ab wb k (k + 1)) (fun _ _ _ => False)) ⟨t, []⟩ w5) ?_ t hz h0 h3 h4 h5s h6 h7 h8 h9 hn
  clear h0 h3 h4 h5s h6 h7 h8 h9 hn hz t
  intro c0 c1 c2 c3 c4 c5 c6 c7 c8 c9 c10 c11 c12 c13 c14 c15 c16 c17 c18 c19 c20 c21 c22 c23 c24 c25 c26 c27 c28 c29 c30 c31 c32 c33 c34 c35 c36 c37 c38 c39 c40 c41 c42 c43 c44 c45 c46 c47 c48 c49 c50 c51 c52 c53 c54 c55 c56 c57 c58 c59 c60 c61 c62 c63 c64 c65 c66 c67 c68 c69 c70 c71 c72 c73 c74 c75 c76 c77 c78 c79 c80 c81 c82 c83 c84 c85 c86 c87 c88 c89 c90 c91 c92 c93 c94 c95 c96 c97 c98 c99 c100 c101 c102 c103 c104 c105 c106 c107 c108 c109 c110 c111 c112 c113 c114 c115 c116 c117 c118 c119 c120 c121 c122 c123 c124 c125 c126 c127 c128 c129 c130 c131 c132 c133 c134 c135 c136 c137 c138 c139 c140 c141 c142 c143 c144 c145 c146 c147 c148 c149 c150 c151 c152 c153 c154 c155 c156 c157 c158 c159 c160 c161 c162 c163 c164 c165 c166 c167 c168 c169 c170 c171 c172 c173 c174 c175 c176 c177 c178 c179 c180 c181 c182 c183 c184 c185 c186 c187 c188 c189 c190 c191 c192 c193 c194 c195 c196 c197 c198 c199 c200 c201 c202 c203 c204 c205 c206 c207 c208 c209 c210 c211 c212 c213 c214 c215 c216 c217 c218 c219 c220 c221 c222 c223 c224 c225 c226 c227 c228 c229 c230 c231 c232 c233 c234 c235 c236 c237 c238 c239 c240 c241 c242 c243 c244 c245 c246 c247 c248 c249 c250 c251 h0 h3 h4 h5s h6 h7 h8 h9 hn
  replace h0 : c0 = s0 := h0
  replace h3 : c3 = .pointer (some ⟨ab, 0, none⟩) := h3
  replace h4 : c4 = .slice an q cn := h4
  replace h5s : c5 = .pointer (some ⟨wb, 0, none⟩) := h5s
  replace h6 : c6 = .int .i64 k := h6
  replace h7 : c7 = .pointer (some ⟨tb, 0, none⟩) := h7
  replace h8 : c8 = .int .i64 kk := h8
  replace h9 : c9 = .int .i64 oo := h9
  replace hn : c11 = .int .i64 (mN : Nat) := hn
  subst h0
  subst h3
  subst h4
  subst h5s
  subst h6
  subst h7
  subst h8
  subst h9
  subst hn
  conv => arg 2; whnf
  have H5 := Lib.hid h5
  have HVV := Lib.hid hvv
  have HTK := Lib.hid htk
  clear h5 hvv htk
  have hkkz : (kk : Int) < 3 := by omega
  have hooz : (oo : Int) < 3 := by omega
  have hlk : (L kk).length ≤ 61 := by have := len_tot L hk3; have := HTK.out; omega
  have b0 : w5.cell? ⟨tb, 0, none⟩ = some (.int .i64 1) := H5.out.t 0 (by omega)
  have hmz : (mN : Int) < (q : Int) := by omega
  have hmz0 : (0 : Int) ≤ (mN : Int) := by omega
  by_cases hx : ∃ o, o < 3 ∧ mN ∈ L o
  · obtain ⟨o, ho, hm⟩ := hx
    have HM := Lib.hid hm
    have HOF := Lib.hid (ofL_at ho hm (fun k' hk' hm' => by have := H5.out.m.one k' o mN (by omega) ho hm' hm; omega))
    clear hm
    obtain ⟨gn, rfl, -⟩ := H5.out.r.form (by omega)
    have lcN := H5.out.r.len_cap
    go_upto_region 24 with (fail)
    refine wp_region_held_drew (S := fun w' => w'.cell? ⟨ab, kk, none⟩ = some (.pointer (some ⟨lb kk, 0, none⟩)) ∧ w'.cell? ⟨gn, mN, none⟩ = some (.pointer (some ⟨nb mN, 0, none⟩))) (by kernel_rfl) ⟨H5.out.x kk hk3, H5.out.r.cell mN (by omega)⟩ (fun hHeld => ?_)
    have H6 := Lib.hid (H5.out.nil ((Ch.refl Nil w5).drew))
    clear H5 b0
    generalize w5.drew = w6 at hHeld H6 ⊢
    refine take_at (v := ?_) 0 (some 115) rfl (by kernel_rfl) (by kernel_rfl) (by kernel_rfl) (by kernel_rfl) (fun _ _ _ h => h) (Or.inl ⟨by rfl, ?_⟩) (by assumption) ?_
    rotate_left
    · intro w hSw; (try dsimp only at hSw); go_simp; try (with_reducible rfl)
    (try simp only [Act.put, List.setIfInBounds_toArray, List.set_cons_zero, List.set_cons_succ])
    refine take_at (v := ?_) 1 (some 116) rfl (by kernel_rfl) (by kernel_rfl) (by kernel_rfl) (by kernel_rfl) (fun _ _ _ h => h) (Or.inl ⟨by rfl, ?_⟩) (by assumption) ?_
    rotate_left
    · intro w hSw; (try dsimp only at hSw); go_simp; try (with_reducible rfl)
    (try simp only [Act.put, List.setIfInBounds_toArray, List.set_cons_zero, List.set_cons_succ])
    refine take_at (v := ?_) 2 (some 117) rfl (by kernel_rfl) (by kernel_rfl) (by kernel_rfl) (by kernel_rfl) (fun _ _ _ h => h) (Or.inl ⟨by rfl, ?_⟩) (by assumption) ?_
    rotate_left
    · intro w hSw; (try dsimp only at hSw); go_simp; try (with_reducible rfl)
    (try simp only [Act.put, List.setIfInBounds_toArray, List.set_cons_zero, List.set_cons_succ])
    refine take_at (v := ?_) 3 (some 118) rfl (by kernel_rfl) (by kernel_rfl) (by kernel_rfl) (by kernel_rfl) (fun _ _ _ h => h) (Or.inl ⟨by rfl, ?_⟩) (by assumption) ?_
    rotate_left
    · intro w hSw; (try dsimp only at hSw); go_simp; try (with_reducible rfl)
    (try simp only [Act.put, List.setIfInBounds_toArray, List.set_cons_zero, List.set_cons_succ])
    refine take_at (v := ?_) 4 (some 119) rfl (by kernel_rfl) (by kernel_rfl) (by kernel_rfl) (by kernel_rfl) (fun _ _ _ h => h) (Or.inl ⟨by rfl, ?_⟩) (by assumption) ?_
    rotate_left
    · intro w hSw; (try dsimp only at hSw); go_simp; try (with_reducible rfl)
    (try simp only [Act.put, List.setIfInBounds_toArray, List.set_cons_zero, List.set_cons_succ])
    refine take_at (v := ?_) 5 (some 120) rfl (by kernel_rfl) (by kernel_rfl) (by kernel_rfl) (by kernel_rfl) (fun _ _ _ h => h) (Or.inl ⟨by rfl, ?_⟩) (by assumption) ?_
    rotate_left
    · intro w hSw; (try dsimp only at hSw); go_simp; try (with_reducible rfl)
    (try simp only [Act.put, List.setIfInBounds_toArray, List.set_cons_zero, List.set_cons_succ])
    refine take_at (v := ?_) 6 (some 121) rfl (by kernel_rfl) (by kernel_rfl) (by kernel_rfl) (by kernel_rfl) (fun _ _ _ h => h) (Or.inl ⟨by rfl, ?_⟩) (by assumption) ?_
    rotate_left
    · intro w hSw; (try dsimp only at hSw); go_simp; try (with_reducible rfl)
    (try simp only [Act.put, List.setIfInBounds_toArray, List.set_cons_zero, List.set_cons_succ])
    refine wpAnyH_ready (rs := [7]) (by kernel_rfl) (by simp) ?_
    refine AllReadyH.cons rfl (fun K' hK => ?_) AllReadyH.nil
    go_simp
    refine (H6.out.m.put_in kk ho HM.out).mono ?_
    rintro e w7 ⟨rfl, rfl⟩
    refine hK.out _ _ hHeld (fun hHeld2 => ?_)
    clear hK K' hHeld2
    (try simp only [Act.put, List.setIfInBounds_toArray, List.set_cons_zero, List.set_cons_succ])
    refine take_at (v := ?_) 8 (some 12) rfl (by kernel_rfl) (by kernel_rfl) (by kernel_rfl) (by kernel_rfl) (fun _ _ _ h => h) (Or.inl ⟨by rfl, ?_⟩) (by assumption) ?_
    rotate_left
    · intro w hSw; (try dsimp only at hSw); go_simp; try (with_reducible rfl)
    (try simp only [Act.put, List.setIfInBounds_toArray, List.set_cons_zero, List.set_cons_succ])
    refine take_at (v := ?_) 9 (some 13) rfl (by kernel_rfl) (by kernel_rfl) (by kernel_rfl) (by kernel_rfl) (fun _ _ _ h => h) (Or.inl ⟨by rfl, ?_⟩) (by assumption) ?_
    rotate_left
    · intro w hSw; (try dsimp only at hSw); go_simp; try (with_reducible rfl)
    (try simp only [Act.put, List.setIfInBounds_toArray, List.set_cons_zero, List.set_cons_succ])
    refine wpAnyH_done (by kernel_rfl) ?_ _
    clear hHeld
    go_wp2_with fail
    refine (H6.out.f.of mN (fun j hj => by have := len_tot L hj; have := HTK.out; omega)).mono ?_
    rw [HOF.out]
    rintro e w7 ⟨rfl, rfl⟩
    have hoz : (0 : Int) ≤ (o : Int) := by omega
    have b0 : w6.cell? ⟨tb, 0, none⟩ = some (.int .i64 1) := H6.out.t 0 (by omega)
    have TK := Lib.hid ((by have := HTK.out; omega : tot L ≤ k + 1))
    go_wp2
    exact ⟨q, _, _, _, _, _, _, _, _, _, _, _, _, rfl, ⟨rfl, rfl, rfl, rfl, rfl, rfl⟩, ⟨⟨tb, 4, _, H6.out⟩, HVV.out, by omega, TK.out⟩⟩
  · have hx' : ∀ o, o < 3 → mN ∉ L o := fun o ho hm => hx ⟨o, ho, hm⟩
    have HX := Lib.hid hx'
    have HOF := Lib.hid (ofL_none hx')
    clear hx hx'
    obtain ⟨gn, rfl, -⟩ := H5.out.r.form (by omega)
    have lcN := H5.out.r.len_cap
    go_upto_region 24 with (fail)
    refine wp_region_held_drew (S := fun w' => w'.cell? ⟨ab, kk, none⟩ = some (.pointer (some ⟨lb kk, 0, none⟩)) ∧ w'.cell? ⟨gn, mN, none⟩ = some (.pointer (some ⟨nb mN, 0, none⟩))) (by kernel_rfl) ⟨H5.out.x kk hk3, H5.out.r.cell mN (by omega)⟩ (fun hHeld => ?_)
    have H6 := Lib.hid (H5.out.nil ((Ch.refl Nil w5).drew))
    clear H5 b0
    generalize w5.drew = w6 at hHeld H6 ⊢
    refine take_at (v := ?_) 0 (some 115) rfl (by kernel_rfl) (by kernel_rfl) (by kernel_rfl) (by kernel_rfl) (fun _ _ _ h => h) (Or.inl ⟨by rfl, ?_⟩) (by assumption) ?_
    rotate_left
    · intro w hSw; (try dsimp only at hSw); go_simp; try (with_reducible rfl)
    (try simp only [Act.put, List.setIfInBounds_toArray, List.set_cons_zero, List.set_cons_succ])
    refine take_at (v := ?_) 1 (some 116) rfl (by kernel_rfl) (by kernel_rfl) (by kernel_rfl) (by kernel_rfl) (fun _ _ _ h => h) (Or.inl ⟨by rfl, ?_⟩) (by assumption) ?_
    rotate_left
    · intro w hSw; (try dsimp only at hSw); go_simp; try (with_reducible rfl)
    (try simp only [Act.put, List.setIfInBounds_toArray, List.set_cons_zero, List.set_cons_succ])
    refine take_at (v := ?_) 2 (some 117) rfl (by kernel_rfl) (by kernel_rfl) (by kernel_rfl) (by kernel_rfl) (fun _ _ _ h => h) (Or.inl ⟨by rfl, ?_⟩) (by assumption) ?_
    rotate_left
    · intro w hSw; (try dsimp only at hSw); go_simp; try (with_reducible rfl)
    (try simp only [Act.put, List.setIfInBounds_toArray, List.set_cons_zero, List.set_cons_succ])
    refine take_at (v := ?_) 3 (some 118) rfl (by kernel_rfl) (by kernel_rfl) (by kernel_rfl) (by kernel_rfl) (fun _ _ _ h => h) (Or.inl ⟨by rfl, ?_⟩) (by assumption) ?_
    rotate_left
    · intro w hSw; (try dsimp only at hSw); go_simp; try (with_reducible rfl)
    (try simp only [Act.put, List.setIfInBounds_toArray, List.set_cons_zero, List.set_cons_succ])
    refine take_at (v := ?_) 4 (some 119) rfl (by kernel_rfl) (by kernel_rfl) (by kernel_rfl) (by kernel_rfl) (fun _ _ _ h => h) (Or.inl ⟨by rfl, ?_⟩) (by assumption) ?_
    rotate_left
    · intro w hSw; (try dsimp only at hSw); go_simp; try (with_reducible rfl)
    (try simp only [Act.put, List.setIfInBounds_toArray, List.set_cons_zero, List.set_cons_succ])
    refine take_at (v := ?_) 5 (some 120) rfl (by kernel_rfl) (by kernel_rfl) (by kernel_rfl) (by kernel_rfl) (fun _ _ _ h => h) (Or.inl ⟨by rfl, ?_⟩) (by assumption) ?_
    rotate_left
    · intro w hSw; (try dsimp only at hSw); go_simp; try (with_reducible rfl)
    (try simp only [Act.put, List.setIfInBounds_toArray, List.set_cons_zero, List.set_cons_succ])
    refine take_at (v := ?_) 6 (some 121) rfl (by kernel_rfl) (by kernel_rfl) (by kernel_rfl) (by kernel_rfl) (fun _ _ _ h => h) (Or.inl ⟨by rfl, ?_⟩) (by assumption) ?_
    rotate_left
    · intro w hSw; (try dsimp only at hSw); go_simp; try (with_reducible rfl)
    (try simp only [Act.put, List.setIfInBounds_toArray, List.set_cons_zero, List.set_cons_succ])
    refine wpAnyH_ready (rs := [7]) (by kernel_rfl) (by simp) ?_
    refine AllReadyH.cons rfl (fun K' hK => ?_) AllReadyH.nil
    go_simp
    refine (H6.out.m.put hk3 hmN HX.out (by omega)).mono ?_
    rintro e w7 ⟨rfl, m7, c7⟩
    have H7 := Lib.hid (H6.out.mach m7 (fun j hj => .inl hj) c7 (fun _ _ => rfl))
    refine hK.out _ _ ⟨H7.out.x kk hk3, H7.out.r.cell mN (by omega)⟩ (fun hHeld2 => ?_)
    clear hK K' hHeld m7 c7 H6
    (try simp only [Act.put, List.setIfInBounds_toArray, List.set_cons_zero, List.set_cons_succ])
    refine take_at (v := ?_) 8 (some 12) rfl (by kernel_rfl) (by kernel_rfl) (by kernel_rfl) (by kernel_rfl) (fun _ _ _ h => h) (Or.inl ⟨by rfl, ?_⟩) (by assumption) ?_
    rotate_left
    · intro w hSw; (try dsimp only at hSw); go_simp; try (with_reducible rfl)
    (try simp only [Act.put, List.setIfInBounds_toArray, List.set_cons_zero, List.set_cons_succ])
    refine take_at (v := ?_) 9 (some 13) rfl (by kernel_rfl) (by kernel_rfl) (by kernel_rfl) (by kernel_rfl) (fun _ _ _ h => h) (Or.inl ⟨by rfl, ?_⟩) (by assumption) ?_
    rotate_left
    · intro w hSw; (try dsimp only at hSw); go_simp; try (with_reducible rfl)
    (try simp only [Act.put, List.setIfInBounds_toArray, List.set_cons_zero, List.set_cons_succ])
    refine wpAnyH_done (by kernel_rfl) ?_ _
    clear hHeld2
    go_wp2_with fail
    refine (H7.out.f.of mN (fun j hj => by have := len_tot L hj; have := HTK.out; omega)).mono ?_
    rw [HOF.out]
    rintro e w8 ⟨rfl, rfl⟩
    go_wp2
    refine wp_region_any (by kernel_rfl) ?_
    change wpAny _ _ _ _ _ _ _ (World.drew _)
    have HC := Lib.hid (H7.out.nil ((Ch.refl Nil w7).drew))
    clear H7
    generalize w7.drew = Y at HC ⊢
    have d1 := HC.out.f.c kk hk3
    have f1 := HC.out.f.b.fz kk
    have hwY := HC.out.f.lt wb HC.out.f.mb
    have cY : Ch Nil Y (Y.alloc (.cells #[.int .i64 (mN : Int)] 3)) := (Ch.refl _ _).alloc _
    have d3 := cY.keeps d1 (fun e => e)
    refine wpAny_take (i := 0) (v := ?_) rfl (by kernel_rfl) (by kernel_rfl) (by kernel_rfl) (fun _ _ _ h => h) (Or.inl ⟨by rfl, ?_⟩) ?_
    rotate_left
    · intro w; go_simp; try (with_reducible rfl)
    refine wpAny_take (i := 1) (v := ?_) rfl (by kernel_rfl) (by kernel_rfl) (by kernel_rfl) (fun _ _ _ h => h) (Or.inl ⟨by rfl, ?_⟩) ?_
    rotate_left
    · intro w; go_simp; try (with_reducible rfl)
    refine wpAny_take (i := 2) (v := ?_) rfl (by kernel_rfl) (by kernel_rfl) (by kernel_rfl) (fun _ _ _ h => h) (Or.inl ⟨by rfl, ?_⟩) ?_
    rotate_left
    · intro w; go_simp; try (with_reducible rfl)
    refine wpAny_take (i := 3) (v := ?_) rfl (by kernel_rfl) (by kernel_rfl) (by kernel_rfl) (fun _ _ _ h => h) (Or.inl ⟨by rfl, ?_⟩) ?_
    rotate_left
    · intro w; go_simp; try (with_reducible rfl)
    refine wpAny_take (i := 4) (v := ?_) rfl (by kernel_rfl) (by kernel_rfl) (by kernel_rfl) (fun _ _ _ h => h) (Or.inl ⟨by rfl, ?_⟩) ?_
    rotate_left
    · intro w; go_simp; try (with_reducible rfl)
    refine wpAny_take (i := 5) (v := ?_) rfl (by kernel_rfl) (by kernel_rfl) (by kernel_rfl) (fun _ _ _ h => h) (Or.inl ⟨by rfl, ?_⟩) ?_
    rotate_left
    · intro w; go_simp; try (with_reducible rfl)
    refine wpAny_take (i := 6) (v := ?_) rfl (by kernel_rfl) (by kernel_rfl) (by kernel_rfl) (fun _ _ _ h => h) (Or.inl ⟨by rfl, ?_⟩) ?_
    rotate_left
    · intro w; go_simp; try (with_reducible rfl)
    refine wpAny_take (i := 8) (v := ?_) rfl (by kernel_rfl) (by kernel_rfl) (by kernel_rfl) (fun _ _ _ h => h) (Or.inl ⟨by rfl, ?_⟩) ?_
    rotate_left
    · intro w; go_simp; try (with_reducible rfl)
    refine wpAny_take (i := 11) (v := ?_) rfl (by kernel_rfl) (by kernel_rfl) (by kernel_rfl) (fun _ _ _ h => h) (Or.inl ⟨by rfl, ?_⟩) ?_
    rotate_left
    · intro w; go_simp; try (with_reducible rfl)
    refine wpAny_take (i := 12) (v := ?_) rfl (by kernel_rfl) (by kernel_rfl) (by kernel_rfl) (fun _ _ _ h => h) (Or.inl ⟨by rfl, ?_⟩) ?_
    rotate_left
    · intro w; go_simp; try (with_reducible rfl)
    refine wpAny_ready (rs := [7, 9]) (by kernel_rfl) (by simp) ?_
    refine AllReady.cons rfl (fun K hK => ?_) ?_
    go_simp
    refine hK _ _ ?_
    clear hK K
    refine wpAny_ready (rs := [9]) (by kernel_rfl) (by simp) ?_
    refine AllReady.cons rfl (fun K hK => ?_) AllReady.nil
    go_simp
    refine hK _ _ ?_
    clear hK K
    refine ?tail2
    rotate_left
    refine AllReady.cons rfl (fun K hK => ?_) AllReady.nil
    go_simp
    refine hK _ _ ?_
    clear hK K
    refine wpAny_ready (rs := [7]) (by kernel_rfl) (by simp) ?_
    refine AllReady.cons rfl (fun K hK => ?_) AllReady.nil
    go_simp
    refine hK _ _ ?_
    clear hK K
    exact ?tail2
    have R2 : Row (Y.alloc (.cells #[.int .i64 (mN : Int)] 3)) 3 1 (ra kk) (L kk).length (rc kk) (fun i => .int .i64 (numR (L kk) i)) := (HC.out.f.r kk hk3).kept cY (fun _ _ e => e)
    have f3 := (cY.frozen (p := ⟨wb, kk, none⟩) hwY (fun e => e)).trans f1
    refine wpAny_ready (rs := [10]) (by kernel_rfl) (by simp) ?_
    refine AllReady.cons rfl (fun K hK => ?_) AllReady.nil
    refine step_row rfl _ _ _ rfl 3 (.int .i64 0) 1 8 Try.underlying29 (by kernel_rfl) rfl (by omega) (by omega) rfl R2 (by omega) Y.heap.size 1 [.int .i64 (mN : Int)] 3 rfl rfl (heap_alloc_new Y _) (by simp [Value.oneCell']) (fun i => .int .i64 (numR (L kk ++ [mN]) i)) (fun i hi => by simp only [numR]; rw [getD_snoc _ _ _ (by omega)]) (by intro j u hu; obtain rfl : j = 0 := (by cases j; rfl; simp at hu); simp at hu; subst hu; simp only [numR, Nat.mul_one, Nat.add_zero]; rw [getD_last]) _ rfl ?_
    intro gA capA wA rowA chA atA ltA
    have d4 := chA.keeps d3 (HC.out.f.nb kk hk3)
    have f4 := (chA.frozen (p := ⟨wb, kk, none⟩) (by simp; omega) (HC.out.f.nb kk hk3)).trans f3
    obtain ⟨RD, hRD, fD, cD⟩ := HC.out.f.snoc (w1 := wA) (n := mN) hk3 (by omega) ((cY.mono (fun _ _ e => e.elim)).trans chA) rowA (by
      rcases atA with h' | h'
      · exact .inl h'
      · right; rw [h']; simp)
    have HD := Lib.hid (HC.out.ref fD hRD cD)
    clear rowA chA atA R2 cY fD hRD cD
    refine hK _ _ ?_
    clear hK K
    refine wpAny_take (i := 13) (v := ?_) rfl (by kernel_rfl) (by kernel_rfl) (by kernel_rfl) (fun _ _ _ h => h) (Or.inl ⟨by rfl, ?_⟩) ?_
    rotate_left
    · intro w; go_simp; try (with_reducible rfl)
    refine wpAny_ready (rs := [14]) (by kernel_rfl) (by simp) ?_
    refine AllReady.cons rfl (fun K hK => ?_) AllReady.nil
    go_simp
    refine hK _ _ ?_
    clear hK K
    refine wpAny_done (by kernel_rfl) ?_ _
    clear d1 d3 d4 f1 f3 f4 HC
    generalize wA.setCell ⟨wb, kk, none⟩ (.slice (some ⟨gA, 0, none⟩) ((L kk).length + 1) capA) = wD at HD ⊢
    have b0 : wD.cell? ⟨tb, 0, none⟩ = some (.int .i64 1) := HD.out.t 0 (by omega)
    have TK := Lib.hid ((by have := HTK.out; have := tot_upd (L := L) hk3 (L kk ++ [mN]); simp only [List.length_append, List.length_singleton] at this; omega : tot (upd L kk (L kk ++ [mN])) ≤ k + 1))
    go_wp2
    exact ⟨q, _, _, _, _, _, _, _, _, _, _, _, _, rfl, ⟨rfl, rfl, rfl, rfl, rfl, rfl⟩, ⟨⟨tb, 4, _, HD.out⟩, HVV.out, by omega, TK.out⟩⟩
end Go.Proofs.Ytmebkogkcnmkiaa
