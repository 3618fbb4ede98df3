/-
  LevelActs, an act that takes all of a slot: what it tells is the document's, and all stands so behind it.
-/
import Derived.Test.YtgaakhiapgmnbaaDoorLvCode
import Derived.Test.YtgaakhiapgmnbaaDoorHeld
import Derived.Deep.QuietTactic
import Derived.BigQuiet
import Derived.Deep.Cut
import Derived.Deep.CutRange
import Derived.Deep.CutBlock
import Derived.RegionTactic
import Derived.BigRegion
namespace Go.Proofs.YtgaakhiapgmnbaaDoor
open Go.RowKit Verge LI
set_option linter.unusedVariables false
set_option linter.unusedSimpArgs false
attribute [local go_sem] Oper.semAt_some

/-- between two rounds: the level, the row that was taken, what was gathered -/
structure TkA (w : World) (vb : Nat) (hd nb : Nat → Nat) (ad : Option Addr) (cap : Nat) (V : Nat → Int) (rb b tb : Nat) (T : Nat → Int) (L L' : Nat → List Nat) (R : Nat → Prop) (ra : Nat → Option Addr) (rc : Nat → Nat) (B : Nat) (a6 : Option Addr) (c6 : Nat) (xs : List Nat) (j : Nat) (a : Option Addr) (c : Nat) (W : World) : Prop where
  d : DuoT w vb hd nb ad cap V rb b tb T L L' R ra rc W
  t : RowP W a6 xs.length c6 (xs.map nb)
  g : RowI W a j c (numR xs)
  ho : ∀ x, OwnS a x → B ≤ x
theorem DuoT.kept {S : Nat → Prop} {w W w5 : World} {vb b rb tb cap : Nat} {hd nb : Nat → Nat} {ad : Option Addr} {V T : Nat → Int} {L L' : Nat → List Nat} {R : Nat → Prop} {ra : Nat → Option Addr} {rc : Nat → Nat} (h : DuoT w vb hd nb ad cap V rb b tb T L L' R ra rc W) (c5 : Ch S W w5) (h1 : ∀ x, GB vb hd nb ad x → ¬ S x) (h2 : ∀ x, R x → ¬ S x) (h3 : ¬ S tb) (h4 : ∀ x, S x → w.heap.size ≤ x) : DuoT w vb hd nb ad cap V rb b tb T L L' R ra rc w5 :=
  ⟨⟨h.d.a.kept c5 h1, h.d.r.kept c5 h2, h.d.ap, h.d.hi, h.d.hr, h.d.c.up c5 h4⟩, fun j hj => c5.keeps (h.t j hj) h3, h.tg, h.tr⟩
theorem neq_same {w : World} {b : Nat} (h : Blk w b) : (binOp .neq 27 (.pointer (some ⟨b, 0, none⟩)) (.pointer (some ⟨b, 0, none⟩))).run Tryd.prog w = .ok (.bool false) w := by
  have hE := neqN (w := w) (some b) (some b) (fun x e => by cases e; exact h) (fun x e => by cases e; exact h)
  simpa only [pt_some, decide_true, Bool.not_true] using hE

set_option maxRecDepth 100000 in
set_option maxHeartbeats 0 in
theorem take_right {w w5 : World} {vb : Nat} {hd nb : Nat → Nat} {ad : Option Addr} {cap : Nat} {V : Nat → Int} {rb k tb n : Nat} {s0 : Value} {L : Nat → List Nat} {R : Nat → Prop} {ra : Nat → Option Addr} {rc : Nat → Nat} {y2 : Int} {s : Nat} (t : Array Value) (F : FrM s0 vb rb k cap ad tb n true t) (h5 : DuoT w vb hd nb ad cap V rb k tb (fun j => [2, (s : Int), y2].getD j 0) L L R ra rc w5) (hk : k < 100) (hn : n < 12) (hs : s < 64) :
    Code.wp Tryd.prog (caseOf Tryd.f3) (Exit.then (Mid w vb hd nb ad cap V rb s0 k (k + 1) tb n true (fun j => [2, (s : Int), y2].getD j 0)) (Qc (Inv w vb hd nb ad cap V rb s0 k (k + 1)))) ⟨t, []⟩ w5 := by
  obtain ⟨⟨hz, h0, h3, h4, h6, h7⟩, h8, h9, h10⟩ := F
  refine openFr (P := fun t => t.getD 0 undef = s0 → t.getD 3 undef = .pointer (some ⟨vb, 0, none⟩) → t.getD 4 undef = .slice ad 12 cap → t.getD 6 undef = .pointer (some ⟨rb, 0, none⟩) → t.getD 7 undef = .int .i64 k → t.getD 8 undef = .pointer (some ⟨tb, 0, none⟩) → t.getD 9 undef = .int .i64 n → t.getD 10 undef = .bool true → Code.wp Tryd.prog (caseOf Tryd.f3) (Exit.then (Mid w vb hd nb ad cap V rb s0 k (k + 1) tb n true (fun j => [2, (s : Int), y2].getD j 0)) (Qc (Inv w vb hd nb ad cap V rb s0 k (k + 1)))) ⟨t, []⟩ w5) ?_ t hz h0 h3 h4 h6 h7 h8 h9 h10
  clear h0 h3 h4 h6 h7 h8 h9 h10 hz t
  intro c0 c1 c2 c3 c4 c5 c6 c7 c8 c9 c10 c11 c12 c13 c14 c15 c16 c17 c18 c19 c20 c21 c22 c23 c24 c25 c26 c27 c28 c29 c30 c31 c32 c33 c34 c35 c36 c37 c38 c39 c40 c41 c42 c43 c44 c45 c46 c47 c48 c49 c50 c51 c52 c53 c54 c55 c56 c57 c58 c59 c60 c61 c62 c63 c64 c65 c66 c67 c68 c69 c70 c71 c72 c73 c74 c75 c76 c77 c78 c79 c80 c81 c82 c83 c84 c85 c86 c87 c88 c89 c90 c91 c92 c93 c94 c95 c96 c97 c98 c99 c100 c101 c102 c103 c104 c105 c106 c107 c108 c109 c110 c111 c112 c113 c114 c115 c116 c117 c118 c119 c120 c121 c122 c123 c124 c125 c126 c127 c128 c129 c130 c131 c132 c133 c134 c135 c136 c137 c138 c139 c140 c141 c142 c143 c144 c145 c146 c147 c148 c149 c150 c151 c152 c153 c154 c155 c156 c157 c158 c159 c160 c161 c162 c163 c164 c165 c166 c167 c168 c169 c170 c171 c172 c173 c174 c175 c176 c177 c178 c179 c180 c181 c182 c183 c184 c185 c186 c187 c188 c189 c190 c191 c192 c193 c194 c195 c196 c197 c198 c199 c200 c201 c202 c203 c204 c205 c206 c207 c208 c209 c210 c211 c212 c213 c214 c215 c216 c217 c218 c219 c220 c221 c222 c223 c224 c225 c226 c227 c228 c229 h0 h3 h4 h6 h7 h8 h9 h10
  replace h0 : c0 = s0 := h0
  replace h3 : c3 = .pointer (some ⟨vb, 0, none⟩) := h3
  replace h4 : c4 = .slice ad 12 cap := h4
  replace h6 : c6 = .pointer (some ⟨rb, 0, none⟩) := h6
  replace h7 : c7 = .int .i64 k := h7
  replace h8 : c8 = .pointer (some ⟨tb, 0, none⟩) := h8
  replace h9 : c9 = .int .i64 n := h9
  replace h10 : c10 = .bool true := h10
  subst h0
  subst h3
  subst h4
  subst h6
  subst h7
  subst h8
  subst h9
  subst h10
  conv => arg 2; whnf
  have b0 : w5.cell? ⟨tb, 0, none⟩ = some (.int .i64 2) := h5.t 0 (by omega)
  have b1 : w5.cell? ⟨tb, 1, none⟩ = some (.int .i64 (s : Int)) := h5.t 1 (by omega)
  have hsz : (s : Int) < 64 := by omega
  have hsz0 : (0 : Int) ≤ (s : Int) := by omega
  have hnz : (n : Int) < 12 := by omega
  have hnz0 : (0 : Int) ≤ (n : Int) := by omega
  have hln : ∀ j, j < 64 → (L j).length ≤ 100000 := fun j hj => by have := h5.d.a.ln j hj; omega
  have HLN := Lib.hid hln
  have H5 := Lib.hid h5
  clear h5 hln
  have hcw := H5.out.d.c.size
  go_wp2_with fail
  refine (H5.out.d.a.take hs (by omega)).mono ?_
  rintro e w6 ⟨a6, c6, rfl, r6, g6, l6, ch6⟩
  have H6 := Lib.hid (H5.out.lev l6 ch6)
  have hw6 := ch6.size
  obtain ⟨B, hB⟩ : ∃ B, B = w6.heap.size := ⟨_, rfl⟩
  have LOG : Hid (∀ x, GB vb hd nb ad x → x < B) := Lib.hid (fun x hx => by rw [hB]; exact H6.out.d.a.lo hx)
  have LOR : Hid (∀ x, R x → x < B) := Lib.hid (fun x hx => by rw [hB]; exact H6.out.d.r.lt x hx)
  have LOT : Hid (∀ x, OwnS a6 x → x < B) := Lib.hid (fun x hx => by rw [hB]; exact r6.lt x hx)
  have hBw : w.heap.size ≤ B := by omega
  have hBb : tb < B := by have := lt_of_cell (H6.out.t 0 (by omega)); simp only at this; omega
  have hBs : B ≤ w6.heap.size := by omega
  obtain ⟨xs, hxs⟩ : ∃ xs, xs = L s := ⟨_, rfl⟩
  rw [← hxs] at r6 ⊢
  have XLT : Hid (∀ y, y ∈ xs → y < 12) := Lib.hid (fun y hy => H5.out.d.a.lt s hs y (by rw [← hxs]; exact hy))
  have hxl : xs.length ≤ 1000 := by have := H5.out.d.a.ln s hs; rw [hxs]; omega
  have HXS := Lib.hid hxs
  have R6 := Lib.hid r6
  clear r6 g6 l6 ch6 H5 b0 b1 hxs hB hw6 hcw
  go_wp2
  go_loopw [14, 15] (fun g i wr => ∃ (j : Nat) (a : Option Addr) (c : Nat), j ≤ xs.length ∧ g = .slice a j c ∧ i = .int .i64 j ∧ B ≤ wr.heap.size ∧ TkA w vb hd nb ad cap V rb k tb (fun j => [2, (s : Int), y2].getD j 0) (upd L s []) L R ra rc B a6 c6 xs j a c wr) (fun _ i _ => xs.length - (intOf i).toNat)
  case atStart => exact ⟨0, none, 0, by omega, rfl, rfl, hBs, ⟨H6.out, R6.out, Row.nil _ _ _ _, fun x hx => (by cases hx)⟩⟩
  case round =>
    clear H6 R6 hBs
    obtain ⟨j, a, c, hj, rfl, rfl, hBs, hT⟩ := hrel
    have HT := Lib.hid hT
    clear hT
    by_cases hlt : j < xs.length
    · obtain ⟨y, hy⟩ : ∃ y, xs[j]? = some y := ⟨_, List.getElem?_eq_getElem hlt⟩
      have hy12 := XLT.out y (List.mem_of_getElem? hy)
      obtain ⟨gt, rfl, -⟩ := HT.out.t.form (by omega)
      obtain ⟨gn, rfl, -⟩ := HT.out.d.d.a.r.form (by omega)
      have lct := HT.out.t.len_cap
      have lcn := HT.out.d.d.a.r.len_cap
      have HY := Lib.hid hy
      have tcell : ∀ W a' c', TkA w vb hd nb (some ⟨gn, 0, none⟩) cap V rb k tb (fun j => [2, (s : Int), y2].getD j 0) (upd L s []) L R ra rc B (some ⟨gt, 0, none⟩) c6 xs j a' c' W → W.cell? ⟨gt, j, none⟩ = some (.pointer (some ⟨nb y, 0, none⟩)) := by
        intro W a' c' h
        have := h.t.cell j (by omega)
        unfold ptrL at this
        rwa [List.getD_eq_getElem?_getD, List.getElem?_map, HY.out] at this
      have q1 := tcell _ _ _ HT.out
      have q2 : wr.cell? ⟨gn, y, none⟩ = some (.pointer (some ⟨nb y, 0, none⟩)) := HT.out.d.d.a.r.cell y (by omega)
      have q3 := HT.out.d.d.a.value hy12
      have q4 := neq_same (HT.out.d.d.a.blk hy12)
      have hjz : (j : Int) < (xs.length : Int) := by omega
      have hjz0 : (0 : Int) ≤ (j : Int) := by omega
      have hyz : (y : Int) < 12 := by omega
      have hyz0 : (0 : Int) ≤ (y : Int) := by omega
      have m1 : ¬ (11 : Int) < (y : Int) := by omega
      have m2 : ¬ 11 < y := by omega
      have m3 : (if (0 : Int) < (y : Int) then (y : Int) else 0) = (y : Int) := by split <;> omega
      have m4 : (if 0 < y then (y : Int) else 0) = (y : Int) := by split <;> omega
      clear hy tcell
      go_upto_region 45 with (fail)
      have q1d : wr.drew.cell? ⟨gt, j, none⟩ = some (.pointer (some ⟨nb y, 0, none⟩)) := q1
      have q2d : wr.drew.cell? ⟨gn, y, none⟩ = some (.pointer (some ⟨nb y, 0, none⟩)) := q2
      have q3d : wr.drew.cell? ⟨nb y, 0, none⟩ = some (.int .i64 (y : Nat)) := q3
      have cd : Ch Nil wr wr.drew := (Ch.refl _ _).drew
      have q4d := neq_same ((HT.out.d.d.a.blk hy12).kept cd (fun e => e))
      have HTd : Hid (TkA w vb hd nb (some ⟨gn, 0, none⟩) cap V rb k tb (fun j => [2, (s : Int), y2].getD j 0) (upd L s []) L R ra rc B (some ⟨gt, 0, none⟩) c6 xs j a c wr.drew) := Lib.hid ⟨HT.out.d.nil cd, HT.out.t.kept cd (fun _ _ e => e), HT.out.g.kept cd (fun _ _ e => e), HT.out.ho⟩
      have hBd : B ≤ wr.drew.heap.size := hBs
      refine wp_region_held_drew (S := fun w' => (w'.cell? ⟨gt, j, none⟩ = some (.pointer (some ⟨nb y, 0, none⟩)) ∧ w'.cell? ⟨gn, y, none⟩ = some (.pointer (some ⟨nb y, 0, none⟩))) ∧ w'.cell? ⟨nb y, 0, none⟩ = some (.int .i64 (y : Nat)) ∧ (binOp .neq 27 (.pointer (some ⟨nb y, 0, none⟩)) (.pointer (some ⟨nb y, 0, none⟩))).run Tryd.prog w' = .ok (.bool false) w') (by kernel_rfl) ⟨⟨q1d, q2d⟩, q3d, q4d⟩ (fun hHeld => ?_)
      clear q1 q2 q3 q4 cd HT hBs
      generalize wr.drew = X at q1d q2d q3d q4d HTd hBd hHeld ⊢
      refine take_at (v := ?_) 0 (some 133) rfl (by kernel_rfl) (by kernel_rfl) (by kernel_rfl) (by kernel_rfl) (fun _ _ _ h => h) (Or.inl ⟨by rfl, ?_⟩) (by assumption) ?_
      rotate_left
      · intro w hSw; (try dsimp only at hSw); go_simp; try (with_reducible rfl)
      (try simp only [Act.put, List.setIfInBounds_toArray, List.set_cons_zero, List.set_cons_succ])
      refine take_at (v := ?_) 1 (some 134) rfl (by kernel_rfl) (by kernel_rfl) (by kernel_rfl) (by kernel_rfl) (fun _ _ _ h => h) (Or.inl ⟨by rfl, ?_⟩) (by assumption) ?_
      rotate_left
      · intro w hSw; (try dsimp only at hSw); go_simp; try (with_reducible rfl)
      (try simp only [Act.put, List.setIfInBounds_toArray, List.set_cons_zero, List.set_cons_succ])
      refine take_at (v := ?_) 2 (some 135) rfl (by kernel_rfl) (by kernel_rfl) (by kernel_rfl) (by kernel_rfl) (fun _ _ _ h => h) (Or.inl ⟨by rfl, ?_⟩) (by assumption) ?_
      rotate_left
      · intro w hSw; (try dsimp only at hSw); go_simp; try (with_reducible rfl)
      (try simp only [Act.put, List.setIfInBounds_toArray, List.set_cons_zero, List.set_cons_succ])
      refine take_at (v := ?_) 3 (some 136) rfl (by kernel_rfl) (by kernel_rfl) (by kernel_rfl) (by kernel_rfl) (fun _ _ _ h => h) (Or.inl ⟨by rfl, ?_⟩) (by assumption) ?_
      rotate_left
      · intro w hSw; (try dsimp only at hSw); go_simp; try (with_reducible rfl)
      (try simp only [Act.put, List.setIfInBounds_toArray, List.set_cons_zero, List.set_cons_succ])
      refine take_at (v := ?_) 4 (some 137) rfl (by kernel_rfl) (by kernel_rfl) (by kernel_rfl) (by kernel_rfl) (fun _ _ _ h => h) (Or.inl ⟨by rfl, ?_⟩) (by assumption) ?_
      rotate_left
      · intro w hSw; (try dsimp only at hSw); go_simp; try (with_reducible rfl)
      (try simp only [Act.put, List.setIfInBounds_toArray, List.set_cons_zero, List.set_cons_succ])
      refine take_at (v := ?_) 5 (some 138) rfl (by kernel_rfl) (by kernel_rfl) (by kernel_rfl) (by kernel_rfl) (fun _ _ _ h => h) (Or.inl ⟨by rfl, ?_⟩) (by assumption) ?_
      rotate_left
      · intro w hSw; (try dsimp only at hSw); go_simp; try (with_reducible rfl)
      (try simp only [Act.put, List.setIfInBounds_toArray, List.set_cons_zero, List.set_cons_succ])
      refine take_at (v := ?_) 6 (some 139) rfl (by kernel_rfl) (by kernel_rfl) (by kernel_rfl) (by kernel_rfl) (fun _ _ _ h => h) (Or.inl ⟨by rfl, ?_⟩) (by assumption) ?_
      rotate_left
      · intro w hSw; (try dsimp only at hSw); go_simp; try (with_reducible rfl)
      (try simp only [Act.put, List.setIfInBounds_toArray, List.set_cons_zero, List.set_cons_succ])
      refine take_at (v := ?_) 7 (some 140) rfl (by kernel_rfl) (by kernel_rfl) (by kernel_rfl) (by kernel_rfl) (fun _ _ _ h => h) (Or.inl ⟨by rfl, ?_⟩) (by assumption) ?_
      rotate_left
      · intro w hSw; (try dsimp only at hSw); go_simp; try (with_reducible rfl)
      (try simp only [Act.put, List.setIfInBounds_toArray, List.set_cons_zero, List.set_cons_succ])
      refine take_at (v := ?_) 8 (some 141) rfl (by kernel_rfl) (by kernel_rfl) (by kernel_rfl) (by kernel_rfl) (fun _ _ _ h => h) (Or.inl ⟨by rfl, ?_⟩) (by assumption) ?_
      rotate_left
      · intro w hSw; (try dsimp only at hSw); go_simp; try (with_reducible rfl)
      (try simp only [Act.put, List.setIfInBounds_toArray, List.set_cons_zero, List.set_cons_succ])
      refine take_at (v := ?_) 9 (some 142) rfl (by kernel_rfl) (by kernel_rfl) (by kernel_rfl) (by kernel_rfl) (fun _ _ _ h => h) (Or.inl ⟨by rfl, ?_⟩) (by assumption) ?_
      rotate_left
      · intro w hSw; (try dsimp only at hSw); go_simp; try (with_reducible rfl)
      (try simp only [Act.put, List.setIfInBounds_toArray, List.set_cons_zero, List.set_cons_succ])
      refine take_at (v := ?_) 10 (some 143) rfl (by kernel_rfl) (by kernel_rfl) (by kernel_rfl) (by kernel_rfl) (fun _ _ _ h => h) (Or.inl ⟨by rfl, ?_⟩) (by assumption) ?_
      rotate_left
      · intro w hSw; (try dsimp only at hSw); go_simp; try (with_reducible rfl)
      (try simp only [Act.put, List.setIfInBounds_toArray, List.set_cons_zero, List.set_cons_succ])
      refine take_at (v := ?_) 11 (some 144) rfl (by kernel_rfl) (by kernel_rfl) (by kernel_rfl) (by kernel_rfl) (fun _ _ _ h => h) (Or.inl ⟨by rfl, ?_⟩) (by assumption) ?_
      rotate_left
      · intro w hSw; (try dsimp only at hSw); go_simp; try (with_reducible rfl)
      (try simp only [Act.put, List.setIfInBounds_toArray, List.set_cons_zero, List.set_cons_succ])
      refine take_at (v := ?_) 12 (some 145) rfl (by kernel_rfl) (by kernel_rfl) (by kernel_rfl) (by kernel_rfl) (fun _ _ _ h => h) (Or.inl ⟨by rfl, ?_⟩) (by assumption) ?_
      rotate_left
      · intro w hSw; (try dsimp only at hSw); go_simp; try (with_reducible rfl)
      (try simp only [Act.put, List.setIfInBounds_toArray, List.set_cons_zero, List.set_cons_succ])
      refine take_at (v := ?_) 13 (some 146) rfl (by kernel_rfl) (by kernel_rfl) (by kernel_rfl) (by kernel_rfl) (fun _ _ _ h => h) (Or.inl ⟨by rfl, ?_⟩) (by assumption) ?_
      rotate_left
      · intro w hSw; (try dsimp only at hSw); go_simp; try (with_reducible rfl)
      (try simp only [Act.put, List.setIfInBounds_toArray, List.set_cons_zero, List.set_cons_succ])
      refine take_at (v := ?_) 14 (some 147) rfl (by kernel_rfl) (by kernel_rfl) (by kernel_rfl) (by kernel_rfl) (fun _ _ _ h => h) (Or.inl ⟨by rfl, ?_⟩) (by assumption) ?_
      rotate_left
      · intro w hSw; (try dsimp only at hSw); go_simp; try (with_reducible rfl)
      (try simp only [Act.put, List.setIfInBounds_toArray, List.set_cons_zero, List.set_cons_succ])
      refine take_at (v := ?_) 15 (some 148) rfl (by kernel_rfl) (by kernel_rfl) (by kernel_rfl) (by kernel_rfl) (fun _ _ _ h => h) (Or.inl ⟨by rfl, ?_⟩) (by assumption) ?_
      rotate_left
      · intro w hSw; (try dsimp only at hSw); go_simp; try (with_reducible rfl)
      (try simp only [Act.put, List.setIfInBounds_toArray, List.set_cons_zero, List.set_cons_succ])
      refine take_at (v := ?_) 16 (some 149) rfl (by kernel_rfl) (by kernel_rfl) (by kernel_rfl) (by kernel_rfl) (fun _ _ _ h => h) (Or.inl ⟨by rfl, ?_⟩) (by assumption) ?_
      rotate_left
      · intro w hSw; (try dsimp only at hSw); go_simp; try (with_reducible rfl)
      (try simp only [Act.put, List.setIfInBounds_toArray, List.set_cons_zero, List.set_cons_succ])
      refine take_at (v := ?_) 17 (some 150) rfl (by kernel_rfl) (by kernel_rfl) (by kernel_rfl) (by kernel_rfl) (fun _ _ _ h => h) (Or.inl ⟨by rfl, ?_⟩) (by assumption) ?_
      rotate_left
      · intro w hSw; (try dsimp only at hSw); go_simp; try (with_reducible rfl)
      (try simp only [Act.put, List.setIfInBounds_toArray, List.set_cons_zero, List.set_cons_succ])
      refine take_at (v := ?_) 18 (some 151) rfl (by kernel_rfl) (by kernel_rfl) (by kernel_rfl) (by kernel_rfl) (fun _ _ _ h => h) (Or.inl ⟨by rfl, ?_⟩) (by assumption) ?_
      rotate_left
      · intro w hSw; (try dsimp only at hSw); go_simp; try (with_reducible rfl)
      (try simp only [Act.put, List.setIfInBounds_toArray, List.set_cons_zero, List.set_cons_succ])
      refine take_at (v := ?_) 19 (some 152) rfl (by kernel_rfl) (by kernel_rfl) (by kernel_rfl) (by kernel_rfl) (fun _ _ _ h => h) (Or.inl ⟨by rfl, ?_⟩) (by assumption) ?_
      rotate_left
      · intro w hSw; (try dsimp only at hSw); go_simp; try (with_reducible rfl)
      (try simp only [Act.put, List.setIfInBounds_toArray, List.set_cons_zero, List.set_cons_succ])
      refine take_at (v := ?_) 20 (some 153) rfl (by kernel_rfl) (by kernel_rfl) (by kernel_rfl) (by kernel_rfl) (fun _ _ _ h => h) (Or.inl ⟨by rfl, ?_⟩) (by assumption) ?_
      rotate_left
      · intro w hSw; (try dsimp only at hSw); go_simp; try (with_reducible rfl)
      (try simp only [Act.put, List.setIfInBounds_toArray, List.set_cons_zero, List.set_cons_succ])
      refine take_at (v := ?_) 21 (some 154) rfl (by kernel_rfl) (by kernel_rfl) (by kernel_rfl) (by kernel_rfl) (fun _ _ _ h => h) (Or.inl ⟨by rfl, ?_⟩) (by assumption) ?_
      rotate_left
      · intro w hSw; (try dsimp only at hSw); go_simp; try (with_reducible rfl)
      (try simp only [Act.put, List.setIfInBounds_toArray, List.set_cons_zero, List.set_cons_succ])
      refine take_at (v := ?_) 22 (some 155) rfl (by kernel_rfl) (by kernel_rfl) (by kernel_rfl) (by kernel_rfl) (fun _ _ _ h => h) (Or.inl ⟨by rfl, ?_⟩) (by assumption) ?_
      rotate_left
      · intro w hSw; (try dsimp only at hSw); go_simp; try (with_reducible rfl)
      (try simp only [Act.put, List.setIfInBounds_toArray, List.set_cons_zero, List.set_cons_succ])
      refine take_at (v := ?_) 23 (some 156) rfl (by kernel_rfl) (by kernel_rfl) (by kernel_rfl) (by kernel_rfl) (fun _ _ _ h => h) (Or.inl ⟨by rfl, ?_⟩) (by assumption) ?_
      rotate_left
      · intro w hSw; (try dsimp only at hSw); go_simp; try (with_reducible rfl)
      (try simp only [Act.put, List.setIfInBounds_toArray, List.set_cons_zero, List.set_cons_succ])
      refine wpAnyH_done (by kernel_rfl) ?_ _
      clear hHeld m1 m2 m3 m4 q2d q4d
      have R5 := Lib.hid (HTd.out.g.kept (S := Nil) ((Ch.refl Nil X).alloc (.cells #[.int .i64 (y : Int)] 3)) (fun _ _ e => e))
      have hyv : numR xs j = (y : Int) := by simp only [numR]; rw [List.getD_eq_getElem?_getD, HY.out]; rfl
      have HYV := Lib.hid hyv
      clear hyv
      go_wp2_with (at_builtin; refine append_row _ rfl _ _ _ rfl 3 (.int .i64 0) 1 8 Tryd.underlying32 (by kernel_rfl) rfl (by omega) (by omega) rfl R5.out (by omega) X.heap.size 1 [.int .i64 (y : Int)] 3 rfl rfl (heap_alloc_new X _) (by simp [Value.oneCell']) (fun i => .int .i64 (numR xs i)) (fun i hi => rfl) (by intro m u hu; obtain rfl : m = 0 := (by cases m; rfl; simp at hu); simp at hu; subst hu; simp only [Nat.mul_one, Nat.add_zero]; rw [HYV.out]) _ rfl ?_)
      intro g7 cap7 w7 row7 ch7 at7 lt7
      have c7 : Ch (OwnS a) X w7 := (((Ch.refl Nil X).alloc _).mono (fun _ _ e => e.elim)).trans ch7
      have O7 : ∀ x, OwnS (some ⟨g7, 0, none⟩) x → B ≤ x := fun x hx => by
        cases hx
        rcases at7 with h' | h'
        · exact HTd.out.ho _ h'
        · rw [h']; simp; omega
      have FIN : Hid (TkA w vb hd nb (some ⟨gn, 0, none⟩) cap V rb k tb (fun j => [2, (s : Int), y2].getD j 0) (upd L s []) L R ra rc B (some ⟨gt, 0, none⟩) c6 xs (j + 1) (some ⟨g7, 0, none⟩) cap7 w7) :=
        Lib.hid ⟨HTd.out.d.kept c7 (fun x hx e => by have := LOG.out x hx; have := HTd.out.ho x e; omega) (fun x hx e => by have := LOR.out x hx; have := HTd.out.ho x e; omega) (fun e => by have := HTd.out.ho _ e; omega) (fun x e => by have := HTd.out.ho x e; omega), HTd.out.t.kept c7 (fun x hx e => by have := LOT.out x hx; have := HTd.out.ho x e; omega), row7, O7⟩
      have hB7 : B ≤ w7.heap.size := Nat.le_trans hBd c7.size
      clear ch7 row7 at7 lt7 R5 c7 q1d q3d O7
      go_wp2
      go_roundw
      case rel => exact ⟨j + 1, _, _, by omega, rfl, by go_num, hB7, FIN.out⟩
      case measure => simp [intOf]; omega
    · obtain rfl : j = xs.length := by omega
      have b1 : wr.cell? ⟨tb, 1, none⟩ = some (.int .i64 (s : Int)) := HT.out.d.t 1 (by omega)
      have b2 := HT.out.d.d.r.c s hs
      have I := Lib.hid (ints_same (HT.out.g.kept (S := Nil) ((Ch.refl Nil wr).drew) (fun _ _ e => e)) ((by have := HT.out.d.d.r.r s hs; rw [← HXS.out] at this; exact this.kept (S := Nil) ((Ch.refl Nil wr).drew) (fun _ _ e => e)) : RowI wr.drew (ra s) xs.length (rc s) (numR xs)) (by omega))
      rw [← HXS.out] at b2
      have HD := Lib.hid (HT.out.d.nil ((Ch.refl Nil wr).drew))
      clear HT
      go_upto_region 51 with (fail)
      refine wp_region_held_drew (S := fun w' => w'.cell? ⟨tb, 1, none⟩ = some (.int .i64 (s : Int)) ∧ w'.cell? ⟨rb, s, none⟩ = some (.slice (ra s) xs.length (rc s))) (by kernel_rfl) ⟨b1, b2⟩ (fun hHeld => ?_)
      clear b1 b2
      generalize wr.drew = X at I HD hHeld ⊢
      refine take_at (v := ?_) 0 (some 172) rfl (by kernel_rfl) (by kernel_rfl) (by kernel_rfl) (by kernel_rfl) (fun _ _ _ h => h) (Or.inl ⟨by rfl, ?_⟩) (by assumption) ?_
      rotate_left
      · intro w hSw; (try dsimp only at hSw); go_simp; try (with_reducible rfl)
      (try simp only [Act.put, List.setIfInBounds_toArray, List.set_cons_zero, List.set_cons_succ])
      refine take_at (v := ?_) 1 (some 173) rfl (by kernel_rfl) (by kernel_rfl) (by kernel_rfl) (by kernel_rfl) (fun _ _ _ h => h) (Or.inl ⟨by rfl, ?_⟩) (by assumption) ?_
      rotate_left
      · intro w hSw; (try dsimp only at hSw); go_simp; try (with_reducible rfl)
      (try simp only [Act.put, List.setIfInBounds_toArray, List.set_cons_zero, List.set_cons_succ])
      refine take_at (v := ?_) 2 (some 174) rfl (by kernel_rfl) (by kernel_rfl) (by kernel_rfl) (by kernel_rfl) (fun _ _ _ h => h) (Or.inl ⟨by rfl, ?_⟩) (by assumption) ?_
      rotate_left
      · intro w hSw; (try dsimp only at hSw); go_simp; try (with_reducible rfl)
      (try simp only [Act.put, List.setIfInBounds_toArray, List.set_cons_zero, List.set_cons_succ])
      refine take_at (v := ?_) 3 (some 175) rfl (by kernel_rfl) (by kernel_rfl) (by kernel_rfl) (by kernel_rfl) (fun _ _ _ h => h) (Or.inl ⟨by rfl, ?_⟩) (by assumption) ?_
      rotate_left
      · intro w hSw; (try dsimp only at hSw); go_simp; try (with_reducible rfl)
      (try simp only [Act.put, List.setIfInBounds_toArray, List.set_cons_zero, List.set_cons_succ])
      refine take_at (v := ?_) 4 (some 176) rfl (by kernel_rfl) (by kernel_rfl) (by kernel_rfl) (by kernel_rfl) (fun _ _ _ h => h) (Or.inl ⟨by rfl, ?_⟩) (by assumption) ?_
      rotate_left
      · intro w hSw; (try dsimp only at hSw); go_simp; try (with_reducible rfl)
      (try simp only [Act.put, List.setIfInBounds_toArray, List.set_cons_zero, List.set_cons_succ])
      refine take_at (v := ?_) 5 (some 177) rfl (by kernel_rfl) (by kernel_rfl) (by kernel_rfl) (by kernel_rfl) (fun _ _ _ h => h) (Or.inl ⟨by rfl, ?_⟩) (by assumption) ?_
      rotate_left
      · intro w hSw; (try dsimp only at hSw); go_simp; try (with_reducible rfl)
      (try simp only [Act.put, List.setIfInBounds_toArray, List.set_cons_zero, List.set_cons_succ])
      refine take_at (v := ?_) 6 (some 178) rfl (by kernel_rfl) (by kernel_rfl) (by kernel_rfl) (by kernel_rfl) (fun _ _ _ h => h) (Or.inl ⟨by rfl, ?_⟩) (by assumption) ?_
      rotate_left
      · intro w hSw; (try dsimp only at hSw); go_simp; try (with_reducible rfl)
      (try simp only [Act.put, List.setIfInBounds_toArray, List.set_cons_zero, List.set_cons_succ])
      refine wpAnyH_ready (rs := [7]) (by kernel_rfl) (by simp) ?_
      refine AllReadyH.cons rfl (fun K hK => ?_) AllReadyH.nil
      go_simp
      refine I.out.mono ?_
      rintro e w8 ⟨rfl, c8⟩
      have H8 := Lib.hid (HD.out.nil c8)
      refine hK.out _ _ ⟨c8.keeps hHeld.1 (fun e => e), c8.keeps hHeld.2 (fun e => e)⟩ (fun hHeld => ?_)
      clear hK K c8 I HD
      (try simp only [Act.put, List.setIfInBounds_toArray, List.set_cons_zero, List.set_cons_succ])
      refine take_at (v := ?_) 8 (some 180) rfl (by kernel_rfl) (by kernel_rfl) (by kernel_rfl) (by kernel_rfl) (fun _ _ _ h => h) (Or.inl ⟨by rfl, ?_⟩) (by assumption) ?_
      rotate_left
      · intro w hSw; (try dsimp only at hSw); go_simp; try (with_reducible rfl)
      (try simp only [Act.put, List.setIfInBounds_toArray, List.set_cons_zero, List.set_cons_succ])
      refine wpAnyH_done (by kernel_rfl) ?_ _
      obtain ⟨h81, h82⟩ := hHeld
      clear h82
      go_upto_region 53 with (fail)
      have HD := Lib.hid (H8.out.nil ((Ch.refl Nil w8).drew))
      refine wp_region_held_drew (S := fun w' => w'.cell? ⟨tb, 1, none⟩ = some (.int .i64 (s : Int))) (by kernel_rfl) h81 (fun hHeld => ?_)
      clear H8 h81
      generalize w8.drew = Y at HD hHeld ⊢
      have c9 := HD.out.d.r.c s hs
      have z9 := HD.out.d.r.b.fz s
      obtain ⟨r9, ch9⟩ := HD.out.d.r.setL (a := none) (c' := 0) (xs := []) hs (Ch.refl _ _) (Row.nil _ _ _ _) (fun j hj => (by cases hj))
      have H9 := Lib.hid (HD.out.ref r9 (fun j hj => by rcases hj with hj | hj; exact .inl hj; cases hj) ch9)
      have TBR : Hid (tb ≠ rb) := Lib.hid (fun e => HD.out.tr (e ▸ HD.out.d.r.mb))
      clear r9 ch9
      simp only [List.length_nil] at H9
      refine take_at (v := ?_) 0 (some 181) rfl (by kernel_rfl) (by kernel_rfl) (by kernel_rfl) (by kernel_rfl) (fun _ _ _ h => h) (Or.inl ⟨by rfl, ?_⟩) (by assumption) ?_
      rotate_left
      · intro w hSw; (try dsimp only at hSw); go_simp; try (with_reducible rfl)
      (try simp only [Act.put, List.setIfInBounds_toArray, List.set_cons_zero, List.set_cons_succ])
      refine take_at (v := ?_) 1 (some 182) rfl (by kernel_rfl) (by kernel_rfl) (by kernel_rfl) (by kernel_rfl) (fun _ _ _ h => h) (Or.inl ⟨by rfl, ?_⟩) (by assumption) ?_
      rotate_left
      · intro w hSw; (try dsimp only at hSw); go_simp; try (with_reducible rfl)
      (try simp only [Act.put, List.setIfInBounds_toArray, List.set_cons_zero, List.set_cons_succ])
      refine take_at (v := ?_) 2 (some 183) rfl (by kernel_rfl) (by kernel_rfl) (by kernel_rfl) (by kernel_rfl) (fun _ _ _ h => h) (Or.inl ⟨by rfl, ?_⟩) (by assumption) ?_
      rotate_left
      · intro w hSw; (try dsimp only at hSw); go_simp; try (with_reducible rfl)
      (try simp only [Act.put, List.setIfInBounds_toArray, List.set_cons_zero, List.set_cons_succ])
      refine take_at (v := ?_) 3 (some 184) rfl (by kernel_rfl) (by kernel_rfl) (by kernel_rfl) (by kernel_rfl) (fun _ _ _ h => h) (Or.inl ⟨by rfl, ?_⟩) (by assumption) ?_
      rotate_left
      · intro w hSw; (try dsimp only at hSw); go_simp; try (with_reducible rfl)
      (try simp only [Act.put, List.setIfInBounds_toArray, List.set_cons_zero, List.set_cons_succ])
      refine take_at (v := ?_) 4 (some 185) rfl (by kernel_rfl) (by kernel_rfl) (by kernel_rfl) (by kernel_rfl) (fun _ _ _ h => h) (Or.inl ⟨by rfl, ?_⟩) (by assumption) ?_
      rotate_left
      · intro w hSw; (try dsimp only at hSw); go_simp; try (with_reducible rfl)
      (try simp only [Act.put, List.setIfInBounds_toArray, List.set_cons_zero, List.set_cons_succ])
      refine wpAnyH_ready (rs := [5]) (by kernel_rfl) (by simp) ?_
      refine AllReadyH.cons rfl (fun K hK => ?_) AllReadyH.nil
      go_simp
      refine hK.out _ _ (by rw [cell_set, if_neg (by rintro ⟨e, -⟩; exact TBR.out e)]; exact hHeld) (fun hh => ?_)
      clear hK K hh
      (try simp only [Act.put, List.setIfInBounds_toArray, List.set_cons_zero, List.set_cons_succ])
      refine wpAnyH_done (by kernel_rfl) ?_ _
      clear c9 z9 hHeld HD
      generalize Y.setCell ⟨rb, s, none⟩ (.slice none 0 0) = w9 at H9 ⊢
      go_wp2
      exact ⟨_, _, _, _, rfl, ⟨⟨rfl, rfl, rfl, rfl, rfl, rfl⟩, rfl, rfl, rfl⟩, H9.out.more⟩

set_option maxRecDepth 100000 in
set_option maxHeartbeats 0 in
theorem take_range {w w5 : World} {vb : Nat} {hd nb : Nat → Nat} {ad : Option Addr} {cap : Nat} {V : Nat → Int} {rb k tb n : Nat} {s0 : Value} {L : Nat → List Nat} {R : Nat → Prop} {ra : Nat → Option Addr} {rc : Nat → Nat} {y1 y2 : Int} (t : Array Value) (F : FrM s0 vb rb k cap ad tb n false t) (h5 : DuoT w vb hd nb ad cap V rb k tb (fun j => [2, y1, y2].getD j 0) L L R ra rc w5) (hk : k < 100) (hn : n < 12) (hz : y1 < 0 ∨ 64 ≤ y1) :
    Code.wp Tryd.prog (caseOf Tryd.f3) (Exit.then (Mid w vb hd nb ad cap V rb s0 k (k + 1) tb n false (fun j => [2, y1, y2].getD j 0)) (Qc (Inv w vb hd nb ad cap V rb s0 k (k + 1)))) ⟨t, []⟩ w5 := by
  obtain ⟨⟨hz, h0, h3, h4, h6, h7⟩, h8, h9, h10⟩ := F
  refine openFr (P := fun t => t.getD 0 undef = s0 → t.getD 3 undef = .pointer (some ⟨vb, 0, none⟩) → t.getD 4 undef = .slice ad 12 cap → t.getD 6 undef = .pointer (some ⟨rb, 0, none⟩) → t.getD 7 undef = .int .i64 k → t.getD 8 undef = .pointer (some ⟨tb, 0, none⟩) → t.getD 9 undef = .int .i64 n → t.getD 10 undef = .bool false → Code.wp Tryd.prog (caseOf Tryd.f3) (Exit.then (Mid w vb hd nb ad cap V rb s0 k (k + 1) tb n false (fun j => [2, y1, y2].getD j 0)) (Qc (Inv w vb hd nb ad cap V rb s0 k (k + 1)))) ⟨t, []⟩ w5) ?_ t hz h0 h3 h4 h6 h7 h8 h9 h10
  clear h0 h3 h4 h6 h7 h8 h9 h10 hz t
  intro c0 c1 c2 c3 c4 c5 c6 c7 c8 c9 c10 c11 c12 c13 c14 c15 c16 c17 c18 c19 c20 c21 c22 c23 c24 c25 c26 c27 c28 c29 c30 c31 c32 c33 c34 c35 c36 c37 c38 c39 c40 c41 c42 c43 c44 c45 c46 c47 c48 c49 c50 c51 c52 c53 c54 c55 c56 c57 c58 c59 c60 c61 c62 c63 c64 c65 c66 c67 c68 c69 c70 c71 c72 c73 c74 c75 c76 c77 c78 c79 c80 c81 c82 c83 c84 c85 c86 c87 c88 c89 c90 c91 c92 c93 c94 c95 c96 c97 c98 c99 c100 c101 c102 c103 c104 c105 c106 c107 c108 c109 c110 c111 c112 c113 c114 c115 c116 c117 c118 c119 c120 c121 c122 c123 c124 c125 c126 c127 c128 c129 c130 c131 c132 c133 c134 c135 c136 c137 c138 c139 c140 c141 c142 c143 c144 c145 c146 c147 c148 c149 c150 c151 c152 c153 c154 c155 c156 c157 c158 c159 c160 c161 c162 c163 c164 c165 c166 c167 c168 c169 c170 c171 c172 c173 c174 c175 c176 c177 c178 c179 c180 c181 c182 c183 c184 c185 c186 c187 c188 c189 c190 c191 c192 c193 c194 c195 c196 c197 c198 c199 c200 c201 c202 c203 c204 c205 c206 c207 c208 c209 c210 c211 c212 c213 c214 c215 c216 c217 c218 c219 c220 c221 c222 c223 c224 c225 c226 c227 c228 c229 h0 h3 h4 h6 h7 h8 h9 h10
  replace h0 : c0 = s0 := h0
  replace h3 : c3 = .pointer (some ⟨vb, 0, none⟩) := h3
  replace h4 : c4 = .slice ad 12 cap := h4
  replace h6 : c6 = .pointer (some ⟨rb, 0, none⟩) := h6
  replace h7 : c7 = .int .i64 k := h7
  replace h8 : c8 = .pointer (some ⟨tb, 0, none⟩) := h8
  replace h9 : c9 = .int .i64 n := h9
  replace h10 : c10 = .bool false := h10
  subst h0
  subst h3
  subst h4
  subst h6
  subst h7
  subst h8
  subst h9
  subst h10
  conv => arg 2; whnf
  have b0 : w5.cell? ⟨tb, 0, none⟩ = some (.int .i64 2) := h5.t 0 (by omega)
  have b1 : w5.cell? ⟨tb, 1, none⟩ = some (.int .i64 y1) := h5.t 1 (by omega)
  have hnz : (n : Int) < 12 := by omega
  have hnz0 : (0 : Int) ≤ (n : Int) := by omega
  have hln : ∀ j, j < 64 → (L j).length ≤ 100000 := fun j hj => by have := h5.d.a.ln j hj; omega
  have HLN := Lib.hid hln
  have H5 := Lib.hid h5
  clear h5 hln
  go_wp2_with fail
  refine (vtake_range vb y1 hz _).mono ?_
  rintro e w6 ⟨rfl, rfl⟩
  clear b0 b1
  go_wp2
  go_loopw [14, 15] (fun g i wr => g = .slice none 0 0 ∧ i = .int .i64 0 ∧ wr = w5) (fun _ _ _ => 0)
  case atStart => exact ⟨rfl, rfl, rfl⟩
  case round =>
    obtain ⟨rfl, rfl, rfl⟩ := hrel
    go_wp2
    exact ⟨_, _, _, _, rfl, ⟨rfl, rfl, rfl, rfl, rfl, rfl⟩, H5.out.more.d⟩

end Go.Proofs.YtgaakhiapgmnbaaDoor
