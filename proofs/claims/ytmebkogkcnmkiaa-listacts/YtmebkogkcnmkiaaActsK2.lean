/-
  ListActs, the case Unlink: what the list answers is what the document says, both are without the node, and its value stays.
-/
import Derived.Test.YtmebkogkcnmkiaaActsCode
import Derived.Test.YtmebkogkcnmkiaaHeld
import Derived.Deep.QuietTactic
import Derived.BigQuiet
import Derived.Deep.Cut
import Derived.Deep.CutRange
import Derived.Deep.CutBlock
import Derived.RegionTactic
import Derived.BigRegion
namespace Go.Proofs.Ytmebkogkcnmkiaa
open Go.RowKit Verge LI
set_option linter.unusedVariables false
set_option linter.unusedSimpArgs false
attribute [local go_sem] Oper.semAt_some

set_option maxRecDepth 100000 in
set_option maxHeartbeats 0 in
theorem case_unlink {w w5 : World} {lb : Nat → Nat} {s0 : Value} {ab wb k tb kk oo q : Nat} {M R : Nat → Prop} {nb : Nat → Nat} {V Val : Nat → Int} {L : Nat → List Nat} {ra : Nat → Option Addr} {rc : Nat → Nat} {va : Option Addr} {vc : Nat} {an : Option Addr} {cn : Nat} {y1 y2 y3 : Int} (mN : Nat) (t : Array Value) (F : FrM s0 ab wb k tb kk oo (.slice an q cn) t) (hn : t.getD 11 undef = .int .i64 (mN : Nat)) (h5 : ActH w w5 lb ab wb tb 4 q q q (fun j => [2, y1, y2, y3].getD j 0) M R nb V Val L L ra rc va vc an cn) (hvv : ∀ j, j < q → V (nb j) = Val j) (hqk : q ≤ k) (htk : tot L ≤ k) (hk60 : k < 60) (hk3 : kk < 3) (ho3 : oo < 3) (hmN : mN < q) :
    Code.wp Try.prog (caseOf Try.f3) (Exit.then (Inv w lb s0 ab wb k (k + 1)) (fun _ _ _ => False)) ⟨t, []⟩ w5 := by
  obtain ⟨⟨hz, h0, h3, h4, h5s, h6⟩, h7, h8, h9⟩ := F
  refine openFr (P := fun t => t.getD 0 undef = s0 → t.getD 3 undef = .pointer (some ⟨ab, 0, none⟩) → t.getD 4 undef = .slice an q cn → t.getD 5 undef = .pointer (some ⟨wb, 0, none⟩) → t.getD 6 undef = .int .i64 k → t.getD 7 undef = .pointer (some ⟨tb, 0, none⟩) → t.getD 8 undef = .int .i64 kk → t.getD 9 undef = .int .i64 oo → t.getD 11 undef = .int .i64 (mN : Nat) → Code.wp Try.prog (caseOf Try.f3) (Exit.then (Inv w lb s0 ab wb k (k + 1)) (fun _ _ _ => False)) ⟨t, []⟩ w5) ?_ t hz h0 h3 h4 h5s h6 h7 h8 h9 hn
  clear h0 h3 h4 h5s h6 h7 h8 h9 hn hz t
  intro c0 c1 c2 c3 c4 c5 c6 c7 c8 c9 c10 c11 c12 c13 c14 c15 c16 c17 c18 c19 c20 c21 c22 c23 c24 c25 c26 c27 c28 c29 c30 c31 c32 c33 c34 c35 c36 c37 c38 c39 c40 c41 c42 c43 c44 c45 c46 c47 c48 c49 c50 c51 c52 c53 c54 c55 c56 c57 c58 c59 c60 c61 c62 c63 c64 c65 c66 c67 c68 c69 c70 c71 c72 c73 c74 c75 c76 c77 c78 c79 c80 c81 c82 c83 c84 c85 c86 c87 c88 c89 c90 c91 c92 c93 c94 c95 c96 c97 c98 c99 c100 c101 c102 c103 c104 c105 c106 c107 c108 c109 c110 c111 c112 c113 c114 c115 c116 c117 c118 c119 c120 c121 c122 c123 c124 c125 c126 c127 c128 c129 c130 c131 c132 c133 c134 c135 c136 c137 c138 c139 c140 c141 c142 c143 c144 c145 c146 c147 c148 c149 c150 c151 c152 c153 c154 c155 c156 c157 c158 c159 c160 c161 c162 c163 c164 c165 c166 c167 c168 c169 c170 c171 c172 c173 c174 c175 c176 c177 c178 c179 c180 c181 c182 c183 c184 c185 c186 c187 c188 c189 c190 c191 c192 c193 c194 c195 c196 c197 c198 c199 c200 c201 c202 c203 c204 c205 c206 c207 c208 c209 c210 c211 c212 c213 c214 c215 c216 c217 c218 c219 c220 c221 c222 c223 c224 c225 c226 c227 c228 c229 c230 c231 c232 c233 c234 c235 c236 c237 c238 c239 c240 c241 c242 c243 c244 c245 c246 c247 c248 c249 c250 c251 h0 h3 h4 h5s h6 h7 h8 h9 hn
  replace h0 : c0 = s0 := h0
  replace h3 : c3 = .pointer (some ⟨ab, 0, none⟩) := h3
  replace h4 : c4 = .slice an q cn := h4
  replace h5s : c5 = .pointer (some ⟨wb, 0, none⟩) := h5s
  replace h6 : c6 = .int .i64 k := h6
  replace h7 : c7 = .pointer (some ⟨tb, 0, none⟩) := h7
  replace h8 : c8 = .int .i64 kk := h8
  replace h9 : c9 = .int .i64 oo := h9
  replace hn : c11 = .int .i64 (mN : Nat) := hn
  subst h0
  subst h3
  subst h4
  subst h5s
  subst h6
  subst h7
  subst h8
  subst h9
  subst hn
  conv => arg 2; whnf
  have H5 := Lib.hid h5
  have HVV := Lib.hid hvv
  have HTK := Lib.hid htk
  clear h5 hvv htk
  have hkkz : (kk : Int) < 3 := by omega
  have hooz : (oo : Int) < 3 := by omega
  have hlk : (L kk).length ≤ 61 := by have := len_tot L hk3; have := HTK.out; omega
  have b0 : w5.cell? ⟨tb, 0, none⟩ = some (.int .i64 2) := H5.out.t 0 (by omega)
  have hmz : (mN : Int) < (q : Int) := by omega
  have hmz0 : (0 : Int) ≤ (mN : Int) := by omega
  have hofk := H5.out.m.ofL (i := mN) hk3
  by_cases hx : mN ∈ L kk
  · rw [decide_eq_true hx] at hofk
    have HOF : Hid (ofL L mN = (kk : Int)) := Lib.hid (by simpa using hofk)
    have HX := Lib.hid hx
    clear hx hofk
    obtain ⟨gn, rfl, -⟩ := H5.out.r.form (by omega)
    have lcN := H5.out.r.len_cap
    go_upto_region 31 with (fail)
    refine wp_region_held_drew (S := fun w' => w'.cell? ⟨ab, kk, none⟩ = some (.pointer (some ⟨lb kk, 0, none⟩)) ∧ w'.cell? ⟨gn, mN, none⟩ = some (.pointer (some ⟨nb mN, 0, none⟩))) (by kernel_rfl) ⟨H5.out.x kk hk3, H5.out.r.cell mN (by omega)⟩ (fun hHeld => ?_)
    have H6 := Lib.hid (H5.out.nil ((Ch.refl Nil w5).drew))
    clear H5 b0
    generalize w5.drew = w6 at hHeld H6 ⊢
    refine take_at (v := ?_) 0 (some 152) rfl (by kernel_rfl) (by kernel_rfl) (by kernel_rfl) (by kernel_rfl) (fun _ _ _ h => h) (Or.inl ⟨by rfl, ?_⟩) (by assumption) ?_
    rotate_left
    · intro w hSw; (try dsimp only at hSw); go_simp; try (with_reducible rfl)
    (try simp only [Act.put, List.setIfInBounds_toArray, List.set_cons_zero, List.set_cons_succ])
    refine take_at (v := ?_) 1 (some 153) rfl (by kernel_rfl) (by kernel_rfl) (by kernel_rfl) (by kernel_rfl) (fun _ _ _ h => h) (Or.inl ⟨by rfl, ?_⟩) (by assumption) ?_
    rotate_left
    · intro w hSw; (try dsimp only at hSw); go_simp; try (with_reducible rfl)
    (try simp only [Act.put, List.setIfInBounds_toArray, List.set_cons_zero, List.set_cons_succ])
    refine take_at (v := ?_) 2 (some 154) rfl (by kernel_rfl) (by kernel_rfl) (by kernel_rfl) (by kernel_rfl) (fun _ _ _ h => h) (Or.inl ⟨by rfl, ?_⟩) (by assumption) ?_
    rotate_left
    · intro w hSw; (try dsimp only at hSw); go_simp; try (with_reducible rfl)
    (try simp only [Act.put, List.setIfInBounds_toArray, List.set_cons_zero, List.set_cons_succ])
    refine take_at (v := ?_) 3 (some 155) rfl (by kernel_rfl) (by kernel_rfl) (by kernel_rfl) (by kernel_rfl) (fun _ _ _ h => h) (Or.inl ⟨by rfl, ?_⟩) (by assumption) ?_
    rotate_left
    · intro w hSw; (try dsimp only at hSw); go_simp; try (with_reducible rfl)
    (try simp only [Act.put, List.setIfInBounds_toArray, List.set_cons_zero, List.set_cons_succ])
    refine take_at (v := ?_) 4 (some 156) rfl (by kernel_rfl) (by kernel_rfl) (by kernel_rfl) (by kernel_rfl) (fun _ _ _ h => h) (Or.inl ⟨by rfl, ?_⟩) (by assumption) ?_
    rotate_left
    · intro w hSw; (try dsimp only at hSw); go_simp; try (with_reducible rfl)
    (try simp only [Act.put, List.setIfInBounds_toArray, List.set_cons_zero, List.set_cons_succ])
    refine take_at (v := ?_) 5 (some 157) rfl (by kernel_rfl) (by kernel_rfl) (by kernel_rfl) (by kernel_rfl) (fun _ _ _ h => h) (Or.inl ⟨by rfl, ?_⟩) (by assumption) ?_
    rotate_left
    · intro w hSw; (try dsimp only at hSw); go_simp; try (with_reducible rfl)
    (try simp only [Act.put, List.setIfInBounds_toArray, List.set_cons_zero, List.set_cons_succ])
    refine take_at (v := ?_) 6 (some 158) rfl (by kernel_rfl) (by kernel_rfl) (by kernel_rfl) (by kernel_rfl) (fun _ _ _ h => h) (Or.inl ⟨by rfl, ?_⟩) (by assumption) ?_
    rotate_left
    · intro w hSw; (try dsimp only at hSw); go_simp; try (with_reducible rfl)
    (try simp only [Act.put, List.setIfInBounds_toArray, List.set_cons_zero, List.set_cons_succ])
    refine wpAnyH_ready (rs := [7]) (by kernel_rfl) (by simp) ?_
    refine AllReadyH.cons rfl (fun K' hK => ?_) AllReadyH.nil
    go_simp
    refine (H6.out.m.unlink hk3 HX.out (by omega)).mono ?_
    rintro e w7 ⟨rfl, m7, c7⟩
    have H7 := Lib.hid (H6.out.mach m7 (fun j hj => .inl hj) c7 (fun _ _ => rfl))
    refine hK.out _ _ ⟨H7.out.x kk hk3, H7.out.r.cell mN (by omega)⟩ (fun hHeld2 => ?_)
    clear hK K' hHeld m7 c7 H6
    (try simp only [Act.put, List.setIfInBounds_toArray, List.set_cons_zero, List.set_cons_succ])
    refine take_at (v := ?_) 8 (some 14) rfl (by kernel_rfl) (by kernel_rfl) (by kernel_rfl) (by kernel_rfl) (fun _ _ _ h => h) (Or.inl ⟨by rfl, ?_⟩) (by assumption) ?_
    rotate_left
    · intro w hSw; (try dsimp only at hSw); go_simp; try (with_reducible rfl)
    (try simp only [Act.put, List.setIfInBounds_toArray, List.set_cons_zero, List.set_cons_succ])
    refine take_at (v := ?_) 9 (some 15) rfl (by kernel_rfl) (by kernel_rfl) (by kernel_rfl) (by kernel_rfl) (fun _ _ _ h => h) (Or.inl ⟨by rfl, ?_⟩) (by assumption) ?_
    rotate_left
    · intro w hSw; (try dsimp only at hSw); go_simp; try (with_reducible rfl)
    (try simp only [Act.put, List.setIfInBounds_toArray, List.set_cons_zero, List.set_cons_succ])
    refine wpAnyH_done (by kernel_rfl) ?_ _
    clear hHeld2
    go_wp2_with fail
    refine (H7.out.f.of mN (fun j hj => by have := len_tot L hj; have := HTK.out; omega)).mono ?_
    rw [HOF.out]
    rintro e w8 ⟨rfl, rfl⟩
    have ekk : ((kk : Int) == (kk : Int)) = true := by simp
    go_wp2_with fail
    refine (H7.out.f.out hk3 mN (by omega)).mono ?_
    rintro e w8 ⟨⟨r8, rfl⟩, R8, ra8, rc8, hR8, f8, c8⟩
    have H8 := Lib.hid (H7.out.ref f8 hR8 c8)
    clear f8 c8 hR8 H7 ekk
    obtain ⟨gv, rfl, -⟩ := H8.out.f.rv.form (by omega)
    have lcV := Row.len_cap H8.out.f.rv
    have r1 : w8.cell? ⟨gn, mN, none⟩ = some (.pointer (some ⟨nb mN, 0, none⟩)) := H8.out.r.cell mN (by omega)
    have r2 : w8.cell? ⟨nb mN, 0, none⟩ = some (.int .i64 (Val mN)) := by rw [← HVV.out mN hmN]; exact H8.out.m.value hmN
    have r3 := H8.out.f.cv
    have r4 : w8.cell? ⟨gv, mN, none⟩ = some (.int .i64 (Val mN)) := Row.cell H8.out.f.rv mN (by omega)
    have ev : (Val mN != Val mN) = false := by simp
    go_wp2
    go_quiet (fail)
    clear r1 r2 r3 r4 ev lcV
    have HQ := Lib.hid (H8.out.nil ((Ch.refl Nil w8).drewN nq))
    clear H8
    generalize w8.drewN nq = wq at HQ ⊢
    have b0 : wq.cell? ⟨tb, 0, none⟩ = some (.int .i64 2) := HQ.out.t 0 (by omega)
    have TK := Lib.hid ((by have := HTK.out; have := tot_upd (L := L) hk3 ((L kk).filter (· != mN)); have := List.length_filter_le (· != mN) (L kk); omega : tot (upd L kk ((L kk).filter (· != mN))) ≤ k + 1))
    go_wp2
    exact ⟨q, _, _, _, _, _, _, _, _, _, _, _, _, rfl, ⟨rfl, rfl, rfl, rfl, rfl, rfl⟩, ⟨⟨tb, 4, _, HQ.out⟩, HVV.out, by omega, TK.out⟩⟩
  · rw [decide_eq_false hx] at hofk
    have HX := Lib.hid hx
    obtain ⟨oz, hoz⟩ : ∃ oz, oz = ofL L mN := ⟨_, rfl⟩
    rw [← hoz] at hofk
    have HOZ := Lib.hid hoz
    clear hx hoz
    obtain ⟨gn, rfl, -⟩ := H5.out.r.form (by omega)
    have lcN := H5.out.r.len_cap
    go_upto_region 31 with (fail)
    refine wp_region_held_drew (S := fun w' => w'.cell? ⟨ab, kk, none⟩ = some (.pointer (some ⟨lb kk, 0, none⟩)) ∧ w'.cell? ⟨gn, mN, none⟩ = some (.pointer (some ⟨nb mN, 0, none⟩))) (by kernel_rfl) ⟨H5.out.x kk hk3, H5.out.r.cell mN (by omega)⟩ (fun hHeld => ?_)
    have H6 := Lib.hid (H5.out.nil ((Ch.refl Nil w5).drew))
    clear H5 b0
    generalize w5.drew = w6 at hHeld H6 ⊢
    refine take_at (v := ?_) 0 (some 152) rfl (by kernel_rfl) (by kernel_rfl) (by kernel_rfl) (by kernel_rfl) (fun _ _ _ h => h) (Or.inl ⟨by rfl, ?_⟩) (by assumption) ?_
    rotate_left
    · intro w hSw; (try dsimp only at hSw); go_simp; try (with_reducible rfl)
    (try simp only [Act.put, List.setIfInBounds_toArray, List.set_cons_zero, List.set_cons_succ])
    refine take_at (v := ?_) 1 (some 153) rfl (by kernel_rfl) (by kernel_rfl) (by kernel_rfl) (by kernel_rfl) (fun _ _ _ h => h) (Or.inl ⟨by rfl, ?_⟩) (by assumption) ?_
    rotate_left
    · intro w hSw; (try dsimp only at hSw); go_simp; try (with_reducible rfl)
    (try simp only [Act.put, List.setIfInBounds_toArray, List.set_cons_zero, List.set_cons_succ])
    refine take_at (v := ?_) 2 (some 154) rfl (by kernel_rfl) (by kernel_rfl) (by kernel_rfl) (by kernel_rfl) (fun _ _ _ h => h) (Or.inl ⟨by rfl, ?_⟩) (by assumption) ?_
    rotate_left
    · intro w hSw; (try dsimp only at hSw); go_simp; try (with_reducible rfl)
    (try simp only [Act.put, List.setIfInBounds_toArray, List.set_cons_zero, List.set_cons_succ])
    refine take_at (v := ?_) 3 (some 155) rfl (by kernel_rfl) (by kernel_rfl) (by kernel_rfl) (by kernel_rfl) (fun _ _ _ h => h) (Or.inl ⟨by rfl, ?_⟩) (by assumption) ?_
    rotate_left
    · intro w hSw; (try dsimp only at hSw); go_simp; try (with_reducible rfl)
    (try simp only [Act.put, List.setIfInBounds_toArray, List.set_cons_zero, List.set_cons_succ])
    refine take_at (v := ?_) 4 (some 156) rfl (by kernel_rfl) (by kernel_rfl) (by kernel_rfl) (by kernel_rfl) (fun _ _ _ h => h) (Or.inl ⟨by rfl, ?_⟩) (by assumption) ?_
    rotate_left
    · intro w hSw; (try dsimp only at hSw); go_simp; try (with_reducible rfl)
    (try simp only [Act.put, List.setIfInBounds_toArray, List.set_cons_zero, List.set_cons_succ])
    refine take_at (v := ?_) 5 (some 157) rfl (by kernel_rfl) (by kernel_rfl) (by kernel_rfl) (by kernel_rfl) (fun _ _ _ h => h) (Or.inl ⟨by rfl, ?_⟩) (by assumption) ?_
    rotate_left
    · intro w hSw; (try dsimp only at hSw); go_simp; try (with_reducible rfl)
    (try simp only [Act.put, List.setIfInBounds_toArray, List.set_cons_zero, List.set_cons_succ])
    refine take_at (v := ?_) 6 (some 158) rfl (by kernel_rfl) (by kernel_rfl) (by kernel_rfl) (by kernel_rfl) (fun _ _ _ h => h) (Or.inl ⟨by rfl, ?_⟩) (by assumption) ?_
    rotate_left
    · intro w hSw; (try dsimp only at hSw); go_simp; try (with_reducible rfl)
    (try simp only [Act.put, List.setIfInBounds_toArray, List.set_cons_zero, List.set_cons_succ])
    refine wpAnyH_ready (rs := [7]) (by kernel_rfl) (by simp) ?_
    refine AllReadyH.cons rfl (fun K' hK => ?_) AllReadyH.nil
    go_simp
    refine (H6.out.m.unlink_no hk3 hmN HX.out).mono ?_
    rintro e w7 ⟨rfl, rfl⟩
    refine hK.out _ _ hHeld (fun hHeld2 => ?_)
    clear hK K' hHeld2
    (try simp only [Act.put, List.setIfInBounds_toArray, List.set_cons_zero, List.set_cons_succ])
    refine take_at (v := ?_) 8 (some 14) rfl (by kernel_rfl) (by kernel_rfl) (by kernel_rfl) (by kernel_rfl) (fun _ _ _ h => h) (Or.inl ⟨by rfl, ?_⟩) (by assumption) ?_
    rotate_left
    · intro w hSw; (try dsimp only at hSw); go_simp; try (with_reducible rfl)
    (try simp only [Act.put, List.setIfInBounds_toArray, List.set_cons_zero, List.set_cons_succ])
    refine take_at (v := ?_) 9 (some 15) rfl (by kernel_rfl) (by kernel_rfl) (by kernel_rfl) (by kernel_rfl) (fun _ _ _ h => h) (Or.inl ⟨by rfl, ?_⟩) (by assumption) ?_
    rotate_left
    · intro w hSw; (try dsimp only at hSw); go_simp; try (with_reducible rfl)
    (try simp only [Act.put, List.setIfInBounds_toArray, List.set_cons_zero, List.set_cons_succ])
    refine wpAnyH_done (by kernel_rfl) ?_ _
    clear hHeld
    go_wp2_with fail
    refine (H6.out.f.of mN (fun j hj => by have := len_tot L hj; have := HTK.out; omega)).mono ?_
    rw [← HOZ.out]
    rintro e w8 ⟨rfl, rfl⟩
    obtain ⟨gv, rfl, -⟩ := H6.out.f.rv.form (by omega)
    have lcV := Row.len_cap H6.out.f.rv
    have r1 : w6.cell? ⟨gn, mN, none⟩ = some (.pointer (some ⟨nb mN, 0, none⟩)) := H6.out.r.cell mN (by omega)
    have r2 : w6.cell? ⟨nb mN, 0, none⟩ = some (.int .i64 (Val mN)) := by rw [← HVV.out mN hmN]; exact H6.out.m.value hmN
    have r3 := H6.out.f.cv
    have r4 : w6.cell? ⟨gv, mN, none⟩ = some (.int .i64 (Val mN)) := Row.cell H6.out.f.rv mN (by omega)
    have ev : (Val mN != Val mN) = false := by simp
    go_wp2
    go_quiet (fail)
    clear r1 r2 r3 r4 ev lcV
    have HQ := Lib.hid (H6.out.nil ((Ch.refl Nil w6).drewN nq))
    clear H6
    generalize w6.drewN nq = wq at HQ ⊢
    have b0 : wq.cell? ⟨tb, 0, none⟩ = some (.int .i64 2) := HQ.out.t 0 (by omega)
    have TK := Lib.hid ((by have := HTK.out; omega : tot L ≤ k + 1))
    go_wp2
    exact ⟨q, _, _, _, _, _, _, _, _, _, _, _, _, rfl, ⟨rfl, rfl, rfl, rfl, rfl, rfl⟩, ⟨⟨tb, 4, _, HQ.out⟩, HVV.out, by omega, TK.out⟩⟩
end Go.Proofs.Ytmebkogkcnmkiaa
