/-
  ListActs, the case Splice: what the list answers is what the document says, and both have all that was in the other.
-/
import Derived.Test.YtmebkogkcnmkiaaActsCode
import Derived.Test.YtmebkogkcnmkiaaHeld
import Derived.Deep.QuietTactic
import Derived.BigQuiet
import Derived.Deep.Cut
import Derived.Deep.CutRange
import Derived.Deep.CutBlock
import Derived.RegionTactic
import Derived.BigRegion
namespace Go.Proofs.Ytmebkogkcnmkiaa
open Go.RowKit Verge LI
set_option linter.unusedVariables false
set_option linter.unusedSimpArgs false
attribute [local go_sem] Oper.semAt_some

set_option maxRecDepth 100000 in
set_option maxHeartbeats 0 in
theorem case_splice {w w5 : World} {lb : Nat → Nat} {s0 : Value} {ab wb k tb kk oo q : Nat} {M R : Nat → Prop} {nb : Nat → Nat} {V Val : Nat → Int} {L : Nat → List Nat} {ra : Nat → Option Addr} {rc : Nat → Nat} {va : Option Addr} {vc : Nat} {an : Option Addr} {cn : Nat} {nz y1 y2 y3 : Int} (t : Array Value) (F : FrM s0 ab wb k tb kk oo (.slice an q cn) t) (hn : t.getD 11 undef = .int .i64 nz) (h5 : ActH w w5 lb ab wb tb 4 q q q (fun j => [3, y1, y2, y3].getD j 0) M R nb V Val L L ra rc va vc an cn) (hvv : ∀ j, j < q → V (nb j) = Val j) (hqk : q ≤ k) (htk : tot L ≤ k) (hk60 : k < 60) (hk3 : kk < 3) (ho3 : oo < 3) :
    Code.wp Try.prog (caseOf Try.f3) (Exit.then (Inv w lb s0 ab wb k (k + 1)) (fun _ _ _ => False)) ⟨t, []⟩ w5 := by
  obtain ⟨⟨hz, h0, h3, h4, h5s, h6⟩, h7, h8, h9⟩ := F
  refine openFr (P := fun t => t.getD 0 undef = s0 → t.getD 3 undef = .pointer (some ⟨ab, 0, none⟩) → t.getD 4 undef = .slice an q cn → t.getD 5 undef = .pointer (some ⟨wb, 0, none⟩) → t.getD 6 undef = .int .i64 k → t.getD 7 undef = .pointer (some ⟨tb, 0, none⟩) → t.getD 8 undef = .int .i64 kk → t.getD 9 undef = .int .i64 oo → t.getD 11 undef = .int .i64 nz → Code.wp Try.prog (caseOf Try.f3) (Exit.then (Inv w lb s0 ab wb k (k + 1)) (fun _ _ _ => False)) ⟨t, []⟩ w5) ?_ t hz h0 h3 h4 h5s h6 h7 h8 h9 hn
  clear h0 h3 h4 h5s h6 h7 h8 h9 hn hz t
  intro c0 c1 c2 c3 c4 c5 c6 c7 c8 c9 c10 c11 c12 c13 c14 c15 c16 c17 c18 c19 c20 c21 c22 c23 c24 c25 c26 c27 c28 c29 c30 c31 c32 c33 c34 c35 c36 c37 c38 c39 c40 c41 c42 c43 c44 c45 c46 c47 c48 c49 c50 c51 c52 c53 c54 c55 c56 c57 c58 c59 c60 c61 c62 c63 c64 c65 c66 c67 c68 c69 c70 c71 c72 c73 c74 c75 c76 c77 c78 c79 c80 c81 c82 c83 c84 c85 c86 c87 c88 c89 c90 c91 c92 c93 c94 c95 c96 c97 c98 c99 c100 c101 c102 c103 c104 c105 c106 c107 c108 c109 c110 c111 c112 c113 c114 c115 c116 c117 c118 c119 c120 c121 c122 c123 c124 c125 c126 c127 c128 c129 c130 c131 c132 c133 c134 c135 c136 c137 c138 c139 c140 c141 c142 c143 c144 c145 c146 c147 c148 c149 c150 c151 c152 c153 c154 c155 c156 c157 c158 c159 c160 c161 c162 c163 c164 c165 c166 c167 c168 c169 c170 c171 c172 c173 c174 c175 c176 c177 c178 c179 c180 c181 c182 c183 c184 c185 c186 c187 c188 c189 c190 c191 c192 c193 c194 c195 c196 c197 c198 c199 c200 c201 c202 c203 c204 c205 c206 c207 c208 c209 c210 c211 c212 c213 c214 c215 c216 c217 c218 c219 c220 c221 c222 c223 c224 c225 c226 c227 c228 c229 c230 c231 c232 c233 c234 c235 c236 c237 c238 c239 c240 c241 c242 c243 c244 c245 c246 c247 c248 c249 c250 c251 h0 h3 h4 h5s h6 h7 h8 h9 hn
  replace h0 : c0 = s0 := h0
  replace h3 : c3 = .pointer (some ⟨ab, 0, none⟩) := h3
  replace h4 : c4 = .slice an q cn := h4
  replace h5s : c5 = .pointer (some ⟨wb, 0, none⟩) := h5s
  replace h6 : c6 = .int .i64 k := h6
  replace h7 : c7 = .pointer (some ⟨tb, 0, none⟩) := h7
  replace h8 : c8 = .int .i64 kk := h8
  replace h9 : c9 = .int .i64 oo := h9
  replace hn : c11 = .int .i64 nz := hn
  subst h0
  subst h3
  subst h4
  subst h5s
  subst h6
  subst h7
  subst h8
  subst h9
  subst hn
  conv => arg 2; whnf
  have H5 := Lib.hid h5
  have HVV := Lib.hid hvv
  have HTK := Lib.hid htk
  clear h5 hvv htk
  have hkkz : (kk : Int) < 3 := by omega
  have hooz : (oo : Int) < 3 := by omega
  have hlk : (L kk).length ≤ 61 := by have := len_tot L hk3; have := HTK.out; omega
  have b0 : w5.cell? ⟨tb, 0, none⟩ = some (.int .i64 3) := H5.out.t 0 (by omega)
  by_cases hko : kk = oo
  · subst hko
    go_upto_region 38 with (fail)
    refine wp_region_held_drew (S := fun w' => w'.cell? ⟨ab, kk, none⟩ = some (.pointer (some ⟨lb kk, 0, none⟩)) ∧ w'.cell? ⟨ab, kk, none⟩ = some (.pointer (some ⟨lb kk, 0, none⟩))) (by kernel_rfl) ⟨H5.out.x kk hk3, H5.out.x kk hk3⟩ (fun hHeld => ?_)
    have H6 := Lib.hid (H5.out.nil ((Ch.refl Nil w5).drew))
    clear H5 b0
    generalize w5.drew = w6 at hHeld H6 ⊢
    refine take_at (v := ?_) 0 (some 193) rfl (by kernel_rfl) (by kernel_rfl) (by kernel_rfl) (by kernel_rfl) (fun _ _ _ h => h) (Or.inl ⟨by rfl, ?_⟩) (by assumption) ?_
    rotate_left
    · intro w hSw; (try dsimp only at hSw); go_simp; try (with_reducible rfl)
    (try simp only [Act.put, List.setIfInBounds_toArray, List.set_cons_zero, List.set_cons_succ])
    refine take_at (v := ?_) 1 (some 194) rfl (by kernel_rfl) (by kernel_rfl) (by kernel_rfl) (by kernel_rfl) (fun _ _ _ h => h) (Or.inl ⟨by rfl, ?_⟩) (by assumption) ?_
    rotate_left
    · intro w hSw; (try dsimp only at hSw); go_simp; try (with_reducible rfl)
    (try simp only [Act.put, List.setIfInBounds_toArray, List.set_cons_zero, List.set_cons_succ])
    refine take_at (v := ?_) 2 (some 195) rfl (by kernel_rfl) (by kernel_rfl) (by kernel_rfl) (by kernel_rfl) (fun _ _ _ h => h) (Or.inl ⟨by rfl, ?_⟩) (by assumption) ?_
    rotate_left
    · intro w hSw; (try dsimp only at hSw); go_simp; try (with_reducible rfl)
    (try simp only [Act.put, List.setIfInBounds_toArray, List.set_cons_zero, List.set_cons_succ])
    refine take_at (v := ?_) 3 (some 196) rfl (by kernel_rfl) (by kernel_rfl) (by kernel_rfl) (by kernel_rfl) (fun _ _ _ h => h) (Or.inl ⟨by rfl, ?_⟩) (by assumption) ?_
    rotate_left
    · intro w hSw; (try dsimp only at hSw); go_simp; try (with_reducible rfl)
    (try simp only [Act.put, List.setIfInBounds_toArray, List.set_cons_zero, List.set_cons_succ])
    refine take_at (v := ?_) 4 (some 197) rfl (by kernel_rfl) (by kernel_rfl) (by kernel_rfl) (by kernel_rfl) (fun _ _ _ h => h) (Or.inl ⟨by rfl, ?_⟩) (by assumption) ?_
    rotate_left
    · intro w hSw; (try dsimp only at hSw); go_simp; try (with_reducible rfl)
    (try simp only [Act.put, List.setIfInBounds_toArray, List.set_cons_zero, List.set_cons_succ])
    refine take_at (v := ?_) 5 (some 198) rfl (by kernel_rfl) (by kernel_rfl) (by kernel_rfl) (by kernel_rfl) (fun _ _ _ h => h) (Or.inl ⟨by rfl, ?_⟩) (by assumption) ?_
    rotate_left
    · intro w hSw; (try dsimp only at hSw); go_simp; try (with_reducible rfl)
    (try simp only [Act.put, List.setIfInBounds_toArray, List.set_cons_zero, List.set_cons_succ])
    refine wpAnyH_ready (rs := [6]) (by kernel_rfl) (by simp) ?_
    refine AllReadyH.cons rfl (fun K' hK => ?_) AllReadyH.nil
    go_simp
    refine (LI.splice_self (lb kk) _ (H6.out.m.l kk hk3).h.k).mono ?_
    rintro e w7 ⟨rfl, c7⟩
    have H7 := Lib.hid (H6.out.nil c7)
    refine hK.out _ _ ⟨H7.out.x kk hk3, H7.out.x kk hk3⟩ (fun hHeld2 => ?_)
    clear hK K' hHeld c7 H6
    (try simp only [Act.put, List.setIfInBounds_toArray, List.set_cons_zero, List.set_cons_succ])
    refine take_at (v := ?_) 7 (some 16) rfl (by kernel_rfl) (by kernel_rfl) (by kernel_rfl) (by kernel_rfl) (fun _ _ _ h => h) (Or.inl ⟨by rfl, ?_⟩) (by assumption) ?_
    rotate_left
    · intro w hSw; (try dsimp only at hSw); go_simp; try (with_reducible rfl)
    (try simp only [Act.put, List.setIfInBounds_toArray, List.set_cons_zero, List.set_cons_succ])
    refine take_at (v := ?_) 8 (some 17) rfl (by kernel_rfl) (by kernel_rfl) (by kernel_rfl) (by kernel_rfl) (fun _ _ _ h => h) (Or.inl ⟨by rfl, ?_⟩) (by assumption) ?_
    rotate_left
    · intro w hSw; (try dsimp only at hSw); go_simp; try (with_reducible rfl)
    (try simp only [Act.put, List.setIfInBounds_toArray, List.set_cons_zero, List.set_cons_succ])
    refine wpAnyH_done (by kernel_rfl) ?_ _
    clear hHeld2
    have ekk : ((kk : Int) != (kk : Int)) = false := by simp
    have b0 : w7.cell? ⟨tb, 0, none⟩ = some (.int .i64 3) := H7.out.t 0 (by omega)
    have TK := Lib.hid ((by have := HTK.out; omega : tot L ≤ k + 1))
    go_wp2
    exact ⟨q, _, _, _, _, _, _, _, _, _, _, _, _, rfl, ⟨rfl, rfl, rfl, rfl, rfl, rfl⟩, ⟨⟨tb, 4, _, H7.out⟩, HVV.out, by omega, TK.out⟩⟩
  · have ekk : ((kk : Int) != (oo : Int)) = true := by rw [bne_iff_ne]; omega
    go_upto_region 38 with (fail)
    refine wp_region_held_drew (S := fun w' => w'.cell? ⟨ab, kk, none⟩ = some (.pointer (some ⟨lb kk, 0, none⟩)) ∧ w'.cell? ⟨ab, oo, none⟩ = some (.pointer (some ⟨lb oo, 0, none⟩))) (by kernel_rfl) ⟨H5.out.x kk hk3, H5.out.x oo ho3⟩ (fun hHeld => ?_)
    have H6 := Lib.hid (H5.out.nil ((Ch.refl Nil w5).drew))
    clear H5 b0
    generalize w5.drew = w6 at hHeld H6 ⊢
    refine take_at (v := ?_) 0 (some 193) rfl (by kernel_rfl) (by kernel_rfl) (by kernel_rfl) (by kernel_rfl) (fun _ _ _ h => h) (Or.inl ⟨by rfl, ?_⟩) (by assumption) ?_
    rotate_left
    · intro w hSw; (try dsimp only at hSw); go_simp; try (with_reducible rfl)
    (try simp only [Act.put, List.setIfInBounds_toArray, List.set_cons_zero, List.set_cons_succ])
    refine take_at (v := ?_) 1 (some 194) rfl (by kernel_rfl) (by kernel_rfl) (by kernel_rfl) (by kernel_rfl) (fun _ _ _ h => h) (Or.inl ⟨by rfl, ?_⟩) (by assumption) ?_
    rotate_left
    · intro w hSw; (try dsimp only at hSw); go_simp; try (with_reducible rfl)
    (try simp only [Act.put, List.setIfInBounds_toArray, List.set_cons_zero, List.set_cons_succ])
    refine take_at (v := ?_) 2 (some 195) rfl (by kernel_rfl) (by kernel_rfl) (by kernel_rfl) (by kernel_rfl) (fun _ _ _ h => h) (Or.inl ⟨by rfl, ?_⟩) (by assumption) ?_
    rotate_left
    · intro w hSw; (try dsimp only at hSw); go_simp; try (with_reducible rfl)
    (try simp only [Act.put, List.setIfInBounds_toArray, List.set_cons_zero, List.set_cons_succ])
    refine take_at (v := ?_) 3 (some 196) rfl (by kernel_rfl) (by kernel_rfl) (by kernel_rfl) (by kernel_rfl) (fun _ _ _ h => h) (Or.inl ⟨by rfl, ?_⟩) (by assumption) ?_
    rotate_left
    · intro w hSw; (try dsimp only at hSw); go_simp; try (with_reducible rfl)
    (try simp only [Act.put, List.setIfInBounds_toArray, List.set_cons_zero, List.set_cons_succ])
    refine take_at (v := ?_) 4 (some 197) rfl (by kernel_rfl) (by kernel_rfl) (by kernel_rfl) (by kernel_rfl) (fun _ _ _ h => h) (Or.inl ⟨by rfl, ?_⟩) (by assumption) ?_
    rotate_left
    · intro w hSw; (try dsimp only at hSw); go_simp; try (with_reducible rfl)
    (try simp only [Act.put, List.setIfInBounds_toArray, List.set_cons_zero, List.set_cons_succ])
    refine take_at (v := ?_) 5 (some 198) rfl (by kernel_rfl) (by kernel_rfl) (by kernel_rfl) (by kernel_rfl) (fun _ _ _ h => h) (Or.inl ⟨by rfl, ?_⟩) (by assumption) ?_
    rotate_left
    · intro w hSw; (try dsimp only at hSw); go_simp; try (with_reducible rfl)
    (try simp only [Act.put, List.setIfInBounds_toArray, List.set_cons_zero, List.set_cons_succ])
    refine wpAnyH_ready (rs := [6]) (by kernel_rfl) (by simp) ?_
    refine AllReadyH.cons rfl (fun K' hK => ?_) AllReadyH.nil
    go_simp
    have hlo : (L oo).length ≤ 60 := by have := len_tot L ho3; have := HTK.out; omega
    refine (H6.out.m.splice hk3 ho3 hko (by omega)).mono ?_
    rintro e w7 ⟨rfl, m7, c7⟩
    have H7 := Lib.hid (H6.out.mach m7 (fun j hj => .inl hj) c7 (fun _ _ => rfl))
    refine hK.out _ _ ⟨H7.out.x kk hk3, H7.out.x oo ho3⟩ (fun hHeld2 => ?_)
    clear hK K' hHeld m7 c7 H6
    (try simp only [Act.put, List.setIfInBounds_toArray, List.set_cons_zero, List.set_cons_succ])
    refine take_at (v := ?_) 7 (some 16) rfl (by kernel_rfl) (by kernel_rfl) (by kernel_rfl) (by kernel_rfl) (fun _ _ _ h => h) (Or.inl ⟨by rfl, ?_⟩) (by assumption) ?_
    rotate_left
    · intro w hSw; (try dsimp only at hSw); go_simp; try (with_reducible rfl)
    (try simp only [Act.put, List.setIfInBounds_toArray, List.set_cons_zero, List.set_cons_succ])
    refine take_at (v := ?_) 8 (some 17) rfl (by kernel_rfl) (by kernel_rfl) (by kernel_rfl) (by kernel_rfl) (fun _ _ _ h => h) (Or.inl ⟨by rfl, ?_⟩) (by assumption) ?_
    rotate_left
    · intro w hSw; (try dsimp only at hSw); go_simp; try (with_reducible rfl)
    (try simp only [Act.put, List.setIfInBounds_toArray, List.set_cons_zero, List.set_cons_succ])
    refine wpAnyH_done (by kernel_rfl) ?_ _
    clear hHeld2
    go_wp2
    by_cases hne : L oo = []
    · refine wp_region_any (by kernel_rfl) ?_
      change wpAny _ _ _ _ _ _ _ (World.drew _)
      have HC := Lib.hid (H7.out.nil ((Ch.refl Nil w7).drew))
      clear H7
      generalize w7.drew = Y at HC ⊢
      have d1 := HC.out.f.c kk hk3
      have d2 := HC.out.f.c oo ho3
      have f1 := HC.out.f.b.fz kk
      obtain ⟨z1, z2⟩ := HC.out.f.nil oo ho3 hne
      rw [z1, z2, hne, List.length_nil] at d2
      have lck := Row.len_cap (HC.out.f.r kk hk3)
      have lck1 : (L kk).length ≤ rc kk := lck.1
      obtain ⟨RD, hRD, fD, cD⟩ := HC.out.f.again hk3 (L kk ++ L oo) (by rw [hne, List.append_nil])
      have HD := Lib.hid (HC.out.ref fD hRD cD)
      clear fD hRD cD HC z1 z2 lck
      obtain ⟨wD, hwD⟩ : ∃ wD, wD = Y.setCell ⟨wb, kk, none⟩ (.slice (ra kk) (L kk).length (rc kk)) := ⟨_, rfl⟩
      rw [← hwD] at HD
      rcases hra : ra kk with _ | ad
      all_goals
        rw [hra] at d1 hwD
        clear hra
        have HWD := Lib.hid hwD
        clear hwD
        refine wpAny_take (i := 0) (v := ?_) rfl (by kernel_rfl) (by kernel_rfl) (by kernel_rfl) (fun _ _ _ h => h) (Or.inl ⟨by rfl, ?_⟩) ?_
        rotate_left
        · intro w; go_simp; try (with_reducible rfl)
        refine wpAny_take (i := 1) (v := ?_) rfl (by kernel_rfl) (by kernel_rfl) (by kernel_rfl) (fun _ _ _ h => h) (Or.inl ⟨by rfl, ?_⟩) ?_
        rotate_left
        · intro w; go_simp; try (with_reducible rfl)
        refine wpAny_take (i := 2) (v := ?_) rfl (by kernel_rfl) (by kernel_rfl) (by kernel_rfl) (fun _ _ _ h => h) (Or.inl ⟨by rfl, ?_⟩) ?_
        rotate_left
        · intro w; go_simp; try (with_reducible rfl)
        refine wpAny_take (i := 3) (v := ?_) rfl (by kernel_rfl) (by kernel_rfl) (by kernel_rfl) (fun _ _ _ h => h) (Or.inl ⟨by rfl, ?_⟩) ?_
        rotate_left
        · intro w; go_simp; try (with_reducible rfl)
        refine wpAny_take (i := 4) (v := ?_) rfl (by kernel_rfl) (by kernel_rfl) (by kernel_rfl) (fun _ _ _ h => h) (Or.inl ⟨by rfl, ?_⟩) ?_
        rotate_left
        · intro w; go_simp; try (with_reducible rfl)
        refine wpAny_take (i := 5) (v := ?_) rfl (by kernel_rfl) (by kernel_rfl) (by kernel_rfl) (fun _ _ _ h => h) (Or.inl ⟨by rfl, ?_⟩) ?_
        rotate_left
        · intro w; go_simp; try (with_reducible rfl)
        refine wpAny_take (i := 6) (v := ?_) rfl (by kernel_rfl) (by kernel_rfl) (by kernel_rfl) (fun _ _ _ h => h) (Or.inl ⟨by rfl, ?_⟩) ?_
        rotate_left
        · intro w; go_simp; try (with_reducible rfl)
        refine wpAny_take (i := 8) (v := ?_) rfl (by kernel_rfl) (by kernel_rfl) (by kernel_rfl) (fun _ _ _ h => h) (Or.inl ⟨by rfl, ?_⟩) ?_
        rotate_left
        · intro w; go_simp; try (with_reducible rfl)
        refine wpAny_take (i := 9) (v := ?_) rfl (by kernel_rfl) (by kernel_rfl) (by kernel_rfl) (fun _ _ _ h => h) (Or.inl ⟨by rfl, ?_⟩) ?_
        rotate_left
        · intro w; go_simp; try (with_reducible rfl)
        refine wpAny_take (i := 10) (v := ?_) rfl (by kernel_rfl) (by kernel_rfl) (by kernel_rfl) (fun _ _ _ h => h) (Or.inl ⟨by rfl, ?_⟩) ?_
        rotate_left
        · intro w; go_simp; try (with_reducible rfl)
        refine wpAny_take (i := 11) (v := ?_) rfl (by kernel_rfl) (by kernel_rfl) (by kernel_rfl) (fun _ _ _ h => h) (Or.inl ⟨by rfl, ?_⟩) ?_
        rotate_left
        · intro w; go_simp; try (with_reducible rfl)
        refine wpAny_take (i := 12) (v := ?_) rfl (by kernel_rfl) (by kernel_rfl) (by kernel_rfl) (fun _ _ _ h => h) (Or.inl ⟨by rfl, ?_⟩) ?_
        rotate_left
        · intro w; go_simp; try (with_reducible rfl)
        refine wpAny_take (i := 15) (v := ?_) rfl (by kernel_rfl) (by kernel_rfl) (by kernel_rfl) (fun _ _ _ h => h) (Or.inl ⟨by rfl, ?_⟩) ?_
        rotate_left
        · intro w; go_simp; try (with_reducible rfl)
        refine wpAny_take (i := 16) (v := ?_) rfl (by kernel_rfl) (by kernel_rfl) (by kernel_rfl) (fun _ _ _ h => h) (Or.inl ⟨by rfl, ?_⟩) ?_
        rotate_left
        · intro w; go_simp; try (with_reducible rfl)
        refine wpAny_ready (rs := [7, 13]) (by kernel_rfl) (by simp) ?_
        refine AllReady.cons rfl (fun K hK => ?_) ?_
        go_simp
        refine hK _ _ ?_
        clear hK K
        refine wpAny_ready (rs := [13]) (by kernel_rfl) (by simp) ?_
        refine AllReady.cons rfl (fun K hK => ?_) AllReady.nil
        go_simp
        refine hK _ _ ?_
        clear hK K
        refine wpAny_ready (rs := [14]) (by kernel_rfl) (by simp) ?_
        refine AllReady.cons rfl (fun K hK => ?_) AllReady.nil
        go_simp
        refine hK _ _ ?_
        clear hK K
        refine wpAny_take (i := 17) (v := ?_) rfl (by kernel_rfl) (by kernel_rfl) (by kernel_rfl) (fun _ _ _ h => h) (Or.inl ⟨by rfl, ?_⟩) ?_
        rotate_left
        · intro w; go_simp; try (with_reducible rfl)
        refine wpAny_ready (rs := [18]) (by kernel_rfl) (by simp) ?_
        refine AllReady.cons rfl (fun K hK => ?_) AllReady.nil
        go_simp
        refine hK _ _ ?_
        clear hK K
        refine wpAny_done (by kernel_rfl) ?_ _
        rotate_left
        refine AllReady.cons rfl (fun K hK => ?_) AllReady.nil
        go_simp
        refine hK _ _ ?_
        clear hK K
        refine wpAny_ready (rs := [7]) (by kernel_rfl) (by simp) ?_
        refine AllReady.cons rfl (fun K hK => ?_) AllReady.nil
        go_simp
        refine hK _ _ ?_
        clear hK K
        refine wpAny_ready (rs := [14]) (by kernel_rfl) (by simp) ?_
        refine AllReady.cons rfl (fun K hK => ?_) AllReady.nil
        go_simp
        refine hK _ _ ?_
        clear hK K
        refine wpAny_take (i := 17) (v := ?_) rfl (by kernel_rfl) (by kernel_rfl) (by kernel_rfl) (fun _ _ _ h => h) (Or.inl ⟨by rfl, ?_⟩) ?_
        rotate_left
        · intro w; go_simp; try (with_reducible rfl)
        refine wpAny_ready (rs := [18]) (by kernel_rfl) (by simp) ?_
        refine AllReady.cons rfl (fun K hK => ?_) AllReady.nil
        go_simp
        refine hK _ _ ?_
        clear hK K
        refine wpAny_done (by kernel_rfl) ?_ _
        all_goals
          rw [← HWD.out]
          clear d1 d2 f1 lck1 HWD
          obtain ⟨RE, hRE, fE, cE⟩ := HD.out.f.clear ho3
          have HE := Lib.hid (HD.out.ref fE hRE cE)
          have e1 := HD.out.f.c oo ho3
          have e2 := HD.out.f.b.fz oo
          clear fE hRE cE HD
          go_upto_region 43 with (fail)
          clear e1 e2
          generalize wD.setCell ⟨wb, oo, none⟩ (.slice none 0 0) = wE at HE ⊢
          have b0 : wE.cell? ⟨tb, 0, none⟩ = some (.int .i64 3) := HE.out.t 0 (by omega)
          have TK := Lib.hid ((by have := HTK.out; have h1 := tot_upd (L := L) hk3 (L kk ++ L oo); have h2 := tot_upd (L := upd L kk (L kk ++ L oo)) ho3 []; rw [upd_other _ _ _ _ (fun e => hko e.symm)] at h2; simp only [List.length_append, List.length_nil] at h1 h2; omega : tot (upd (upd L kk (L kk ++ L oo)) oo []) ≤ k + 1))
          go_wp2
          exact ⟨q, _, _, _, _, _, _, _, _, _, _, _, _, rfl, ⟨rfl, rfl, rfl, rfl, rfl, rfl⟩, ⟨⟨tb, 4, _, HE.out⟩, HVV.out, by omega, TK.out⟩⟩
    · have hpos : 0 < (L oo).length := List.length_pos_iff.2 hne
      refine wp_region_any (by kernel_rfl) ?_
      change wpAny _ _ _ _ _ _ _ (World.drew _)
      have HC := Lib.hid (H7.out.nil ((Ch.refl Nil w7).drew))
      clear H7
      generalize w7.drew = Y at HC ⊢
      have d1 := HC.out.f.c kk hk3
      have d2 := HC.out.f.c oo ho3
      have f1 := HC.out.f.b.fz kk
      obtain ⟨go, hgo, -⟩ := (HC.out.f.r oo ho3).form hpos
      have hro := HC.out.f.r oo ho3
      rw [hgo] at d2 hro
      have hcs : ∀ j, j < (L oo).length → Y.cell? ((⟨go, 0, none⟩ : Addr).add j) = some (.int .i64 (numR (L oo) j)) := by
        intro j hj
        have := Row.cell hro j (by omega)
        have hadd : (⟨go, 0, none⟩ : Addr).add j = ⟨go, j, none⟩ := by unfold Addr.add; split <;> simp_all
        rw [hadd]; exact this
      have HCS := Lib.hid hcs
      clear hcs hro hgo
      refine wpAny_take (i := 0) (v := ?_) rfl (by kernel_rfl) (by kernel_rfl) (by kernel_rfl) (fun _ _ _ h => h) (Or.inl ⟨by rfl, ?_⟩) ?_
      rotate_left
      · intro w; go_simp; try (with_reducible rfl)
      refine wpAny_take (i := 1) (v := ?_) rfl (by kernel_rfl) (by kernel_rfl) (by kernel_rfl) (fun _ _ _ h => h) (Or.inl ⟨by rfl, ?_⟩) ?_
      rotate_left
      · intro w; go_simp; try (with_reducible rfl)
      refine wpAny_take (i := 2) (v := ?_) rfl (by kernel_rfl) (by kernel_rfl) (by kernel_rfl) (fun _ _ _ h => h) (Or.inl ⟨by rfl, ?_⟩) ?_
      rotate_left
      · intro w; go_simp; try (with_reducible rfl)
      refine wpAny_take (i := 3) (v := ?_) rfl (by kernel_rfl) (by kernel_rfl) (by kernel_rfl) (fun _ _ _ h => h) (Or.inl ⟨by rfl, ?_⟩) ?_
      rotate_left
      · intro w; go_simp; try (with_reducible rfl)
      refine wpAny_take (i := 4) (v := ?_) rfl (by kernel_rfl) (by kernel_rfl) (by kernel_rfl) (fun _ _ _ h => h) (Or.inl ⟨by rfl, ?_⟩) ?_
      rotate_left
      · intro w; go_simp; try (with_reducible rfl)
      refine wpAny_take (i := 5) (v := ?_) rfl (by kernel_rfl) (by kernel_rfl) (by kernel_rfl) (fun _ _ _ h => h) (Or.inl ⟨by rfl, ?_⟩) ?_
      rotate_left
      · intro w; go_simp; try (with_reducible rfl)
      refine wpAny_take (i := 6) (v := ?_) rfl (by kernel_rfl) (by kernel_rfl) (by kernel_rfl) (fun _ _ _ h => h) (Or.inl ⟨by rfl, ?_⟩) ?_
      rotate_left
      · intro w; go_simp; try (with_reducible rfl)
      refine wpAny_take (i := 8) (v := ?_) rfl (by kernel_rfl) (by kernel_rfl) (by kernel_rfl) (fun _ _ _ h => h) (Or.inl ⟨by rfl, ?_⟩) ?_
      rotate_left
      · intro w; go_simp; try (with_reducible rfl)
      refine wpAny_take (i := 9) (v := ?_) rfl (by kernel_rfl) (by kernel_rfl) (by kernel_rfl) (fun _ _ _ h => h) (Or.inl ⟨by rfl, ?_⟩) ?_
      rotate_left
      · intro w; go_simp; try (with_reducible rfl)
      refine wpAny_take (i := 10) (v := ?_) rfl (by kernel_rfl) (by kernel_rfl) (by kernel_rfl) (fun _ _ _ h => h) (Or.inl ⟨by rfl, ?_⟩) ?_
      rotate_left
      · intro w; go_simp; try (with_reducible rfl)
      refine wpAny_take (i := 11) (v := ?_) rfl (by kernel_rfl) (by kernel_rfl) (by kernel_rfl) (fun _ _ _ h => h) (Or.inl ⟨by rfl, ?_⟩) ?_
      rotate_left
      · intro w; go_simp; try (with_reducible rfl)
      refine wpAny_take (i := 12) (v := ?_) rfl (by kernel_rfl) (by kernel_rfl) (by kernel_rfl) (fun _ _ _ h => h) (Or.inl ⟨by rfl, ?_⟩) ?_
      rotate_left
      · intro w; go_simp; try (with_reducible rfl)
      refine wpAny_take (i := 15) (v := ?_) rfl (by kernel_rfl) (by kernel_rfl) (by kernel_rfl) (fun _ _ _ h => h) (Or.inl ⟨by rfl, ?_⟩) ?_
      rotate_left
      · intro w; go_simp; try (with_reducible rfl)
      refine wpAny_take (i := 16) (v := ?_) rfl (by kernel_rfl) (by kernel_rfl) (by kernel_rfl) (fun _ _ _ h => h) (Or.inl ⟨by rfl, ?_⟩) ?_
      rotate_left
      · intro w; go_simp; try (with_reducible rfl)
      refine wpAny_ready (rs := [7, 13]) (by kernel_rfl) (by simp) ?_
      refine AllReady.cons rfl (fun K hK => ?_) ?_
      go_simp
      refine hK _ _ ?_
      clear hK K
      refine wpAny_ready (rs := [13]) (by kernel_rfl) (by simp) ?_
      refine AllReady.cons rfl (fun K hK => ?_) AllReady.nil
      go_simp
      refine hK _ _ ?_
      clear hK K
      refine ?tail4
      rotate_left
      refine AllReady.cons rfl (fun K hK => ?_) AllReady.nil
      go_simp
      refine hK _ _ ?_
      clear hK K
      refine wpAny_ready (rs := [7]) (by kernel_rfl) (by simp) ?_
      refine AllReady.cons rfl (fun K hK => ?_) AllReady.nil
      go_simp
      refine hK _ _ ?_
      clear hK K
      exact ?tail4
      refine wpAny_ready (rs := [14]) (by kernel_rfl) (by simp) ?_
      refine AllReady.cons rfl (fun K hK => ?_) AllReady.nil
      refine step_many rfl _ _ _ rfl 3 Try.underlying29 (by kernel_rfl) rfl (HC.out.f.r kk hk3) (by omega) ⟨go, 0, none⟩ (L oo).length (rc oo) (numR (L oo)) rfl hpos (by omega) HCS.out (numR (L kk ++ L oo)) (fun i hi => by simp only [numR]; rw [List.getD_eq_getElem?_getD, List.getElem?_append_left hi, ← List.getD_eq_getElem?_getD]) (fun j hj => by simp only [numR]; rw [List.getD_eq_getElem?_getD, List.getElem?_append_right (by omega), Nat.add_sub_cancel_left, ← List.getD_eq_getElem?_getD]) _ rfl ?_
      intro gA capA wA rowA chA atA ltA
      have d4 := chA.keeps d1 (HC.out.f.nb kk hk3)
      have f4 := (chA.frozen (p := ⟨wb, kk, none⟩) (HC.out.f.lt wb HC.out.f.mb) (HC.out.f.nb kk hk3)).trans f1
      obtain ⟨RD, hRD, fD, cD⟩ := HC.out.f.app (w1 := wA) hk3 ho3 hne chA rowA (by
        rcases atA with h' | h'
        · exact .inl h'
        · right; omega)
      have HD := Lib.hid (HC.out.ref fD hRD cD)
      clear rowA chA atA fD hRD cD HCS
      refine hK _ _ ?_
      clear hK K
      refine wpAny_take (i := 17) (v := ?_) rfl (by kernel_rfl) (by kernel_rfl) (by kernel_rfl) (fun _ _ _ h => h) (Or.inl ⟨by rfl, ?_⟩) ?_
      rotate_left
      · intro w; go_simp; try (with_reducible rfl)
      refine wpAny_ready (rs := [18]) (by kernel_rfl) (by simp) ?_
      refine AllReady.cons rfl (fun K hK => ?_) AllReady.nil
      go_simp
      refine hK _ _ ?_
      clear hK K
      refine wpAny_done (by kernel_rfl) ?_ _
      clear d1 d2 d4 f1 f4 HC
      generalize wA.setCell ⟨wb, kk, none⟩ (.slice (some ⟨gA, 0, none⟩) ((L kk).length + (L oo).length) capA) = wD at HD ⊢
      obtain ⟨RE, hRE, fE, cE⟩ := HD.out.f.clear ho3
      have HE := Lib.hid (HD.out.ref fE hRE cE)
      have e1 := HD.out.f.c oo ho3
      have e2 := HD.out.f.b.fz oo
      clear fE hRE cE HD
      go_upto_region 43 with (fail)
      clear e1 e2
      generalize wD.setCell ⟨wb, oo, none⟩ (.slice none 0 0) = wE at HE ⊢
      have b0 : wE.cell? ⟨tb, 0, none⟩ = some (.int .i64 3) := HE.out.t 0 (by omega)
      have TK := Lib.hid ((by have := HTK.out; have h1 := tot_upd (L := L) hk3 (L kk ++ L oo); have h2 := tot_upd (L := upd L kk (L kk ++ L oo)) ho3 []; rw [upd_other _ _ _ _ (fun e => hko e.symm)] at h2; simp only [List.length_append, List.length_nil] at h1 h2; omega : tot (upd (upd L kk (L kk ++ L oo)) oo []) ≤ k + 1))
      go_wp2
      exact ⟨q, _, _, _, _, _, _, _, _, _, _, _, _, rfl, ⟨rfl, rfl, rfl, rfl, rfl, rfl⟩, ⟨⟨tb, 4, _, HE.out⟩, HVV.out, by omega, TK.out⟩⟩
end Go.Proofs.Ytmebkogkcnmkiaa
