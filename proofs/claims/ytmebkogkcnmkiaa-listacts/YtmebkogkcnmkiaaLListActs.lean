/-
  Proved: for every acts the statement ListActs returns true: whatever is pushed, put, unlinked, spliced and drained, of three lists, what each answers, and what they have, are the document's all along; and nothing that was there is changed. Conditions: none.
-/
import Derived.Test.YtmebkogkcnmkiaaActsRound
import Derived.ProofKit
import Derived.OpenShut
import Derived.ChangeOld
import Derived.Below
import Derived.Deep.QuietTactic
import Derived.BigQuiet
import Derived.Deep.Cut
import Derived.Deep.CutRange
import Derived.Deep.CutBlock
import Derived.RegionTactic
import Derived.BigRegion
namespace Go.Proofs.Ytmebkogkcnmkiaa
open Go.ChangeShapes Go.WideShapes Go.ChangeAt Go.RowKit Verge LI
set_option linter.unusedVariables false
set_option linter.unusedSimpArgs false
attribute [local go_sem] Oper.semAt_some

theorem body_eq : bodyOf Try.f3 = .seq (fstC (bodyOf Try.f3)) (.seq (.block 1 (actOf Try.f3)) (sndC (sndC (bodyOf Try.f3)))) := by kernel_rfl
/-- how the loop is left -/
def Out (w : World) (e : Exit) (a : Act) (w' : World) : Prop := e = .exit 0 ∧ a.defers = [] ∧ a.tmps.size = 252 ∧ Ch Nil w w'
/-- the loop goes on -/
def More (w : World) (lb : Nat → Nat) (s0 : Value) (ab wb k len : Nat) (a : Act) (w' : World) : Prop := ∃ k', k < k' ∧ k' ≤ len ∧ Inv w lb s0 ab wb k' k' a w'

set_option maxRecDepth 100000 in
set_option maxHeartbeats 0 in
theorem act_step {w wr : World} {lb : Nat → Nat} {s0 : Value} {ab wb k len : Nat} {a : Act} (hlt : k < len) (hl60 : len ≤ 60) (h : Inv w lb s0 ab wb k (k + 1) a wr) :
    Code.wp Try.prog (sndC (sndC (bodyOf Try.f3))) (Exit.then (More w lb s0 ab wb k len) (Out w)) a wr := by
  obtain ⟨t, ds⟩ := a
  obtain ⟨q, M, R, nb, V, Val, L, ra, rc, va, vc, an, cn, hd, ⟨hz, h0, h3, h4, h5s, h6⟩, hA⟩ := h
  replace hd : ds = [] := hd
  subst hd
  refine openFr (P := fun t => t.getD 0 undef = s0 → t.getD 3 undef = .pointer (some ⟨ab, 0, none⟩) → t.getD 4 undef = .slice an q cn → t.getD 5 undef = .pointer (some ⟨wb, 0, none⟩) → t.getD 6 undef = .int .i64 k → Code.wp Try.prog (sndC (sndC (bodyOf Try.f3))) (Exit.then (More w lb s0 ab wb k len) (Out w)) ⟨t, []⟩ wr) ?_ t hz h0 h3 h4 h5s h6
  clear h0 h3 h4 h5s h6 hz t
  intro c0 c1 c2 c3 c4 c5 c6 c7 c8 c9 c10 c11 c12 c13 c14 c15 c16 c17 c18 c19 c20 c21 c22 c23 c24 c25 c26 c27 c28 c29 c30 c31 c32 c33 c34 c35 c36 c37 c38 c39 c40 c41 c42 c43 c44 c45 c46 c47 c48 c49 c50 c51 c52 c53 c54 c55 c56 c57 c58 c59 c60 c61 c62 c63 c64 c65 c66 c67 c68 c69 c70 c71 c72 c73 c74 c75 c76 c77 c78 c79 c80 c81 c82 c83 c84 c85 c86 c87 c88 c89 c90 c91 c92 c93 c94 c95 c96 c97 c98 c99 c100 c101 c102 c103 c104 c105 c106 c107 c108 c109 c110 c111 c112 c113 c114 c115 c116 c117 c118 c119 c120 c121 c122 c123 c124 c125 c126 c127 c128 c129 c130 c131 c132 c133 c134 c135 c136 c137 c138 c139 c140 c141 c142 c143 c144 c145 c146 c147 c148 c149 c150 c151 c152 c153 c154 c155 c156 c157 c158 c159 c160 c161 c162 c163 c164 c165 c166 c167 c168 c169 c170 c171 c172 c173 c174 c175 c176 c177 c178 c179 c180 c181 c182 c183 c184 c185 c186 c187 c188 c189 c190 c191 c192 c193 c194 c195 c196 c197 c198 c199 c200 c201 c202 c203 c204 c205 c206 c207 c208 c209 c210 c211 c212 c213 c214 c215 c216 c217 c218 c219 c220 c221 c222 c223 c224 c225 c226 c227 c228 c229 c230 c231 c232 c233 c234 c235 c236 c237 c238 c239 c240 c241 c242 c243 c244 c245 c246 c247 c248 c249 c250 c251 h0 h3 h4 h5s h6
  replace h0 : c0 = s0 := h0
  replace h3 : c3 = .pointer (some ⟨ab, 0, none⟩) := h3
  replace h4 : c4 = .slice an q cn := h4
  replace h5s : c5 = .pointer (some ⟨wb, 0, none⟩) := h5s
  replace h6 : c6 = .int .i64 k := h6
  subst h0
  subst h3
  subst h4
  subst h5s
  subst h6
  have HA := Lib.hid hA
  clear hA
  conv => arg 2; whnf
  go_wp2
  exact ⟨k + 1, by omega, by omega, q, _, _, _, _, _, _, _, _, _, _, _, _, rfl, ⟨rfl, rfl, rfl, rfl, rfl, rfl⟩, HA.out⟩

set_option maxRecDepth 100000 in
set_option maxHeartbeats 0 in
theorem act_round {w wr : World} {lb : Nat → Nat} {ad : Option Addr} {len cap ab wb k : Nat} {a : Act} (hv : IsTab [.i .i64, .i .i64, .i .i64, .i .i64] w ad len cap) (hk : k ≤ len) (hl60 : len ≤ 60) (h : Inv w lb (.slice ad len cap) ab wb k k a wr) :
    Code.wp Try.prog (bodyOf Try.f3) (Exit.then (More w lb (.slice ad len cap) ab wb k len) (Out w)) a wr := by
  have HV := Lib.hid hv
  have HI := Lib.hid h
  obtain ⟨t, ds⟩ := a
  obtain ⟨q, M, R, nb, V, Val, L, ra, rc, va, vc, an, cn, hd, ⟨hz, h0, h3, h4, h5s, h6⟩, hA⟩ := h
  replace hd : ds = [] := hd
  subst hd
  have HC := Lib.hid (show Ch Nil w wr by obtain ⟨⟨_, _, _, hH⟩, _, _, _⟩ := hA; exact hH.c)
  have HA := Lib.hid hA
  have hsm := hv.small
  clear hv hA HI
  rw [body_eq]
  refine openFr (P := fun t => t.getD 0 undef = .slice ad len cap → t.getD 3 undef = .pointer (some ⟨ab, 0, none⟩) → t.getD 4 undef = .slice an q cn → t.getD 5 undef = .pointer (some ⟨wb, 0, none⟩) → t.getD 6 undef = .int .i64 k → Code.wp Try.prog (.seq (fstC (bodyOf Try.f3)) (.seq (.block 1 (actOf Try.f3)) (sndC (sndC (bodyOf Try.f3))))) (Exit.then (More w lb (.slice ad len cap) ab wb k len) (Out w)) ⟨t, []⟩ wr) ?_ t hz h0 h3 h4 h5s h6
  clear h0 h3 h4 h5s h6 hz t
  intro c0 c1 c2 c3 c4 c5 c6 c7 c8 c9 c10 c11 c12 c13 c14 c15 c16 c17 c18 c19 c20 c21 c22 c23 c24 c25 c26 c27 c28 c29 c30 c31 c32 c33 c34 c35 c36 c37 c38 c39 c40 c41 c42 c43 c44 c45 c46 c47 c48 c49 c50 c51 c52 c53 c54 c55 c56 c57 c58 c59 c60 c61 c62 c63 c64 c65 c66 c67 c68 c69 c70 c71 c72 c73 c74 c75 c76 c77 c78 c79 c80 c81 c82 c83 c84 c85 c86 c87 c88 c89 c90 c91 c92 c93 c94 c95 c96 c97 c98 c99 c100 c101 c102 c103 c104 c105 c106 c107 c108 c109 c110 c111 c112 c113 c114 c115 c116 c117 c118 c119 c120 c121 c122 c123 c124 c125 c126 c127 c128 c129 c130 c131 c132 c133 c134 c135 c136 c137 c138 c139 c140 c141 c142 c143 c144 c145 c146 c147 c148 c149 c150 c151 c152 c153 c154 c155 c156 c157 c158 c159 c160 c161 c162 c163 c164 c165 c166 c167 c168 c169 c170 c171 c172 c173 c174 c175 c176 c177 c178 c179 c180 c181 c182 c183 c184 c185 c186 c187 c188 c189 c190 c191 c192 c193 c194 c195 c196 c197 c198 c199 c200 c201 c202 c203 c204 c205 c206 c207 c208 c209 c210 c211 c212 c213 c214 c215 c216 c217 c218 c219 c220 c221 c222 c223 c224 c225 c226 c227 c228 c229 c230 c231 c232 c233 c234 c235 c236 c237 c238 c239 c240 c241 c242 c243 c244 c245 c246 c247 c248 c249 c250 c251 h0 h3 h4 h5s h6
  replace h0 : c0 = .slice ad len cap := h0
  replace h3 : c3 = .pointer (some ⟨ab, 0, none⟩) := h3
  replace h4 : c4 = .slice an q cn := h4
  replace h5s : c5 = .pointer (some ⟨wb, 0, none⟩) := h5s
  replace h6 : c6 = .int .i64 k := h6
  subst h0
  subst h3
  subst h4
  subst h5s
  subst h6
  refine wp_seq_k fun K hK => ?_
  have HK := Lib.hid hK
  clear hK
  conv => arg 2; whnf
  by_cases hlt : k < len
  · have hkz : (k : Int) < (len : Int) := by omega
    go_wp2
    refine HK.out _ _ ?_
    clear HK K
    have hv := HV.out
    have hcap : len ≤ cap ∧ cap ≤ maxLen := by
      rcases hv with ⟨-, h0, -⟩ | ⟨x, -, h1, h2, -⟩
      · omega
      · exact ⟨h1, h2⟩
    obtain ⟨x, rfl⟩ : ∃ x, ad = some x := by
      rcases hv with ⟨-, h0, -⟩ | ⟨x, h, -⟩
      · omega
      · exact ⟨x, h⟩
    refine wp_seq (wp_block (wp_mono (act_all hv hlt hl60 hcap ⟨q, _, _, _, _, _, _, _, _, _, _, _, _, rfl, ⟨rfl, rfl, rfl, rfl, rfl, rfl⟩, HA.out⟩) ?_))
    intro e a' w' hp
    cases e with
    | normal => exact act_step hlt hl60 hp
    | _ => exact hp.elim
  · obtain rfl : k = len := by omega
    go_wp2
    exact ⟨rfl, rfl, rfl, HC.out⟩

set_option maxRecDepth 100000 in
set_option maxHeartbeats 0 in
theorem ListActs_walk (a : Option Addr) (len cap : Nat) (w : World) (hv : IsTab [.i .i64, .i .i64, .i .i64, .i .i64] w a len cap) :
    Calls Try.prog 3 #[.slice a len cap] w fun e w' => e = .returned (.bool true) ∧ Below w.heap.size w w' := by
  have hsm := hv.small
  have HV := Lib.hid hv
  clear hv
  go_enter Try.func3, Try.ntmps3
  go_wp2_with fail
  refine (alive_any _).mono ?_
  rintro e w1 ⟨rfl, c1⟩
  have C1 := Lib.hid c1
  clear c1
  by_cases h1 : 60 < len
  · go_wp2
    go_ret
    exact ⟨rfl, C1.out.below (Nat.le_refl _) (fun _ _ h => h.elim)⟩
  have hz2 : (len : Int) ≤ 60 := by omega
  go_wp2_with fail
  refine (LI.new_of _ (fun _ => 0)).mono ?_
  rintro e w2 ⟨l0, rfl, hl0, h2, c2⟩
  have s1 := C1.out.size
  have t2 : l0 < w2.heap.size := h2.lt (.inl rfl)
  have H2 := Lib.hid h2
  have C2 := Lib.hid (C1.out.up c2 (fun _ e => e.elim))
  clear h2 c2
  go_wp2_with fail
  refine (LI.new_of _ (fun _ => 0)).mono ?_
  rintro e w3 ⟨l1, rfl, hl1, h3, c3⟩
  have t3 : l1 < w3.heap.size := h3.lt (.inl rfl)
  have H2' := Lib.hid (H2.out.kept c3 (fun _ _ e => e))
  have H3 := Lib.hid h3
  have C3 := Lib.hid (C2.out.up c3 (fun _ e => e.elim))
  clear h3 c3
  go_wp2_with fail
  refine (LI.new_of _ (fun _ => 0)).mono ?_
  rintro e w4 ⟨l2, rfl, hl2, h4, c4⟩
  have t4 : l2 < w4.heap.size := h4.lt (.inl rfl)
  have H2'' := Lib.hid (H2'.out.kept c4 (fun _ _ e => e))
  have H3' := Lib.hid (H3.out.kept c4 (fun _ _ e => e))
  have H4 := Lib.hid h4
  have C4 := Lib.hid (C3.out.up c4 (fun _ e => e.elim))
  clear h4 c4
  have A0 := Lib.hid (acts_new (w := w) H2''.out H3'.out H4.out (by omega) (by omega) (by omega) (by omega) (by omega) (by omega) C4.out 26 32 (fun _ => 0) (fun _ => 0))
  go_wp2
  generalize ((w4.alloc (.cells #[.pointer (some ⟨l0, 0, none⟩), .pointer (some ⟨l1, 0, none⟩), .pointer (some ⟨l2, 0, none⟩)] 26)).alloc (.cells #[.slice none 0 0, .slice none 0 0, .slice none 0 0, .slice none 0 0] 32)) = w5 at A0 ⊢
  obtain ⟨wb, hwb⟩ : ∃ wb, wb = w4.heap.size + 1 := ⟨_, rfl⟩
  rw [← hwb] at A0 ⊢
  clear hwb
  obtain ⟨ab, hab⟩ : ∃ ab, ab = w4.heap.size := ⟨_, rfl⟩
  rw [← hab] at A0 ⊢
  clear hab H2 H2' H2'' H3 H3' H4 C2 C3 C4
  generalize three l0 l1 l2 = lb at A0
  refine wp_mono (wp_loop (c := bodyOf Try.f3) (Q := Out w) (fun a' wr => ∃ k, k ≤ len ∧ Inv w lb (.slice a len cap) ab wb k k a' wr) (fun a' _ => len - (intOf (a'.tmps.getD 6 undef)).toNat) ⟨0, Nat.zero_le _, 0, _, _, _, _, _, _, _, _, _, _, _, _, rfl, ⟨rfl, rfl, rfl, rfl, rfl, rfl⟩, A0.out⟩ ?_) ?_
  · rintro a' wr ⟨k, hk, h⟩
    refine wp_mono (act_round HV.out hk (by omega) h) ?_
    intro e a2 w2 hp
    cases e with
    | normal =>
      obtain ⟨k', h1, h2, h3⟩ := hp
      refine ⟨⟨k', h2, h3⟩, ?_⟩
      obtain ⟨q, M, R, nb, V, Val, L, ra, rc, va, vc, an, cn, hd, F, hA⟩ := h
      obtain ⟨q', M', R', nb', V', Val', L', ra', rc', va', vc', an', cn', hd', F', hA'⟩ := h3
      rw [F.i, F'.i]
      simp only [intOf, Int.toNat_natCast]
      omega
    | _ => exact hp
  · rintro e ⟨t, ds⟩ w' ⟨rfl, hd, hz, hc⟩
    replace hd : ds = [] := hd
    subst hd
    have HC := Lib.hid hc
    clear hc A0
    replace hz : t.size = 252 := hz
    rename_i Q1 hx1 K1 hK1
    refine openFr (P := fun t => Exit.inBlock 0 (Exit.then K1 Q1) (.exit 0) ⟨t, []⟩ w') ?_ t hz
    clear hz t
    intro c0 c1 c2 c3 c4 c5 c6 c7 c8 c9 c10 c11 c12 c13 c14 c15 c16 c17 c18 c19 c20 c21 c22 c23 c24 c25 c26 c27 c28 c29 c30 c31 c32 c33 c34 c35 c36 c37 c38 c39 c40 c41 c42 c43 c44 c45 c46 c47 c48 c49 c50 c51 c52 c53 c54 c55 c56 c57 c58 c59 c60 c61 c62 c63 c64 c65 c66 c67 c68 c69 c70 c71 c72 c73 c74 c75 c76 c77 c78 c79 c80 c81 c82 c83 c84 c85 c86 c87 c88 c89 c90 c91 c92 c93 c94 c95 c96 c97 c98 c99 c100 c101 c102 c103 c104 c105 c106 c107 c108 c109 c110 c111 c112 c113 c114 c115 c116 c117 c118 c119 c120 c121 c122 c123 c124 c125 c126 c127 c128 c129 c130 c131 c132 c133 c134 c135 c136 c137 c138 c139 c140 c141 c142 c143 c144 c145 c146 c147 c148 c149 c150 c151 c152 c153 c154 c155 c156 c157 c158 c159 c160 c161 c162 c163 c164 c165 c166 c167 c168 c169 c170 c171 c172 c173 c174 c175 c176 c177 c178 c179 c180 c181 c182 c183 c184 c185 c186 c187 c188 c189 c190 c191 c192 c193 c194 c195 c196 c197 c198 c199 c200 c201 c202 c203 c204 c205 c206 c207 c208 c209 c210 c211 c212 c213 c214 c215 c216 c217 c218 c219 c220 c221 c222 c223 c224 c225 c226 c227 c228 c229 c230 c231 c232 c233 c234 c235 c236 c237 c238 c239 c240 c241 c242 c243 c244 c245 c246 c247 c248 c249 c250 c251
    go_wp2
    go_ret
    exact ⟨rfl, HC.out.below (Nat.le_refl _) (fun _ _ h => h.elim)⟩

theorem ListActs_own : ownKnob Try.prog.godebug = none := by kernel_rfl
theorem ListActs_laidOut : laidOutB Try.prog = true := by kernel_rfl

set_option maxRecDepth 100000 in
theorem ListActs_lifted (os : Os) (started : os.Started) (H : Type) (enc : TypeId × Value → H) :
    ReturnsInHanded {} Try.checked os 3 .any (Rows.listActsSpec.pre6 enc Try.prog Try.f3 Rows.listActsRow.domain false) (Rows.listActsSpec.post enc Try.prog Try.f3 false true false false) := by
  refine returnsInHanded_of_change (C := Try.checked) ListActs_own started (by kernel_rfl) Try.func3
    (ChangeSpec.witness6 (enc := enc) (C := Try.checked) false ⟨#[], #[.slice none 0 0], []⟩ 8 (by kernel_rfl) (by kernel_rfl) (by kernel_rfl) (by kernel_rfl)) ?_
  intro W base args ds gs before hval0 hW hcnd _
  have hval : ∀ (j : Nat) t v, Try.f3.params[j]? = some t → args[j]? = some v → Value.okWide Try.prog W .any base t v := hval0
  have hW' := hW
  obtain ⟨p, q, hA0, hV, rfl, hfz, hnd⟩ := hW
  have hA : DataW.TrodAll enc Try.prog W 0 (fun _ => true) true Try.f3.params.toList args.toList ds p := hA0
  rw [Try.params3] at hA hval
  obtain ⟨v0, vs0, d0, ds0, p0, q0, hargs, rfl, rfl, h0, r0⟩ := trodAll_cons hA
  obtain ⟨rfl, rfl, rfl⟩ := trodAll_nil r0
  obtain rfl : args = #[v0] := by cases args; simp_all
  obtain ⟨rfl, rfl⟩ := trodVars_none hV
  obtain ⟨a0, len0, cap0, rfl⟩ := okWide_slice Try.underlying22 (hval 0 22 v0 rfl rfl)
  have k0 := h0
  have lt0 : ∀ x ∈ p0, x.block < W.heap.size := by obtain ⟨m, hm⟩ := k0; exact DataW.trod_lt m _ _ _ hm
  have w0 : IsTab [.i .i64, .i .i64, .i .i64, .i .i64] W a0 len0 cap0 := by
    obtain ⟨fuel, hf⟩ := h0
    exact open_tab _ Try.underlying22 Try.underlying34 (by kernel_rfl) (by kernel_rfl) hf
  clear hA0 hval0
  refine (ListActs_walk a0 len0 cap0 W w0).mono fun e W' ⟨he, bel⟩ => ?_
  subst he
  exact ⟨_, rfl, _, _, _, [], _, [], hW', trodAll_mk1 (shut_bool Try.underlying4 _), (trodAll_cons_mk (Below.trod ListActs_laidOut (by kernel_rfl) (of_decide_eq_true (by kernel_rfl)) k0 bel lt0) trodAll_mk0), rfl, bel.frame _, fun h => by cases h⟩

theorem listActs_holds : Rows.ListActsSaid :=
  OpenClaim.holds_of_wide 3 Try.f3 rfl rfl rfl rfl rfl rfl rfl ⟨rfl, rfl, rfl, rfl, rfl⟩ rfl rfl rfl rfl rfl (by kernel_rfl) Try.func3 (by kernel_rfl)
    (of_decide_eq_true (by kernel_rfl)) (by unfold Func.isWrapper; rw [if_neg (of_decide_eq_false (by kernel_rfl))]; exact ⟨rfl, rfl⟩)
    (fun os started H enc _ => ListActs_lifted os started H enc)
end Go.Proofs.Ytmebkogkcnmkiaa
