/-
  LevelActs: for every row of acts the statement 'whatever is put, removed and taken, what each answers, each slot's values, and the map, are the document's all along' returns true, and its argument reads as before. (The table of math/bits reads as the program's text lays it: tied by the card.)
-/
import Derived.Test.YtgaakhiapgmnbaaDoorLvRound
import Derived.Test.YtgaakhiapgmnbaaDoorLevelAlive
import Derived.Test.YtgaakhiapgmnbaaDoorTie
import Derived.Test.YtgaakhiapgmnbaaDoorCards
import Derived.SevenTiedAt
import Derived.ChangeOld
import Derived.Below
namespace Go.Proofs.YtgaakhiapgmnbaaDoor
open Go.ChangeShapes Go.WideShapes Go.ChangeAt Go.RowKit Verge LI
set_option linter.unusedVariables false
set_option linter.unusedSimpArgs false
attribute [local go_sem] Oper.semAt_some

theorem body_eq : bodyOf Tryd.f3 = .seq (fstC (bodyOf Tryd.f3)) (.seq (.block 3 (actOf Tryd.f3)) (sndC (sndC (bodyOf Tryd.f3)))) := by kernel_rfl
theorem Qc_exit {I I' : Act → World → Prop} {j : Nat} {a : Act} {w : World} (h : Exit.then I (Qc I') (.exit j) a w) : j = 3 ∧ I' a w := by
  have h' : Qc I' (.exit j) a w := h
  clear h
  match j, h' with
  | 0, h => exact h.elim
  | 1, h => exact h.elim
  | 2, h => exact h.elim
  | 3, h => exact ⟨rfl, h⟩
  | n + 4, h => exact h.elim
/-- how the loop is left -/
def Out (w : World) (e : Exit) (a : Act) (w' : World) : Prop := e = .exit 2 ∧ a.defers = [] ∧ a.tmps.size = 230 ∧ Ch Nil w w'
/-- the loop goes on -/
def More (w : World) (vb : Nat) (hd nb : Nat → Nat) (ad : Option Addr) (cap : Nat) (V : Nat → Int) (rb : Nat) (s0 : Value) (k len : Nat) (a : Act) (w' : World) : Prop := ∃ k', k < k' ∧ k' ≤ len ∧ Inv w vb hd nb ad cap V rb s0 k' k' a w'

set_option maxRecDepth 100000 in
set_option maxHeartbeats 0 in
theorem act_step {w : World} {vb : Nat} {hd nb : Nat → Nat} {ad : Option Addr} {cap : Nat} {V : Nat → Int} {rb k : Nat} {wr : World} {s0 : Value} {len : Nat} {a : Act} (hlt : k < len) (hl : len ≤ 100) (h : Inv w vb hd nb ad cap V rb s0 k (k + 1) a wr) :
    Code.wp Tryd.prog (sndC (sndC (bodyOf Tryd.f3))) (Exit.then (More w vb hd nb ad cap V rb s0 k len) (Out w)) a wr := by
  obtain ⟨t, ds⟩ := a
  obtain ⟨L, R, ra, rc, hd', ⟨hz, h0, h3, h4, h6, h7⟩, hA⟩ := h
  replace hd' : ds = [] := hd'
  subst hd'
  refine openFr (P := fun t => t.getD 0 undef = s0 → t.getD 3 undef = .pointer (some ⟨vb, 0, none⟩) → t.getD 4 undef = .slice ad 12 cap → t.getD 6 undef = .pointer (some ⟨rb, 0, none⟩) → t.getD 7 undef = .int .i64 k → Code.wp Tryd.prog (sndC (sndC (bodyOf Tryd.f3))) (Exit.then (More w vb hd nb ad cap V rb s0 k len) (Out w)) ⟨t, []⟩ wr) ?_ t hz h0 h3 h4 h6 h7
  clear h0 h3 h4 h6 h7 hz t
  intro c0 c1 c2 c3 c4 c5 c6 c7 c8 c9 c10 c11 c12 c13 c14 c15 c16 c17 c18 c19 c20 c21 c22 c23 c24 c25 c26 c27 c28 c29 c30 c31 c32 c33 c34 c35 c36 c37 c38 c39 c40 c41 c42 c43 c44 c45 c46 c47 c48 c49 c50 c51 c52 c53 c54 c55 c56 c57 c58 c59 c60 c61 c62 c63 c64 c65 c66 c67 c68 c69 c70 c71 c72 c73 c74 c75 c76 c77 c78 c79 c80 c81 c82 c83 c84 c85 c86 c87 c88 c89 c90 c91 c92 c93 c94 c95 c96 c97 c98 c99 c100 c101 c102 c103 c104 c105 c106 c107 c108 c109 c110 c111 c112 c113 c114 c115 c116 c117 c118 c119 c120 c121 c122 c123 c124 c125 c126 c127 c128 c129 c130 c131 c132 c133 c134 c135 c136 c137 c138 c139 c140 c141 c142 c143 c144 c145 c146 c147 c148 c149 c150 c151 c152 c153 c154 c155 c156 c157 c158 c159 c160 c161 c162 c163 c164 c165 c166 c167 c168 c169 c170 c171 c172 c173 c174 c175 c176 c177 c178 c179 c180 c181 c182 c183 c184 c185 c186 c187 c188 c189 c190 c191 c192 c193 c194 c195 c196 c197 c198 c199 c200 c201 c202 c203 c204 c205 c206 c207 c208 c209 c210 c211 c212 c213 c214 c215 c216 c217 c218 c219 c220 c221 c222 c223 c224 c225 c226 c227 c228 c229 h0 h3 h4 h6 h7
  replace h0 : c0 = s0 := h0
  replace h3 : c3 = .pointer (some ⟨vb, 0, none⟩) := h3
  replace h4 : c4 = .slice ad 12 cap := h4
  replace h6 : c6 = .pointer (some ⟨rb, 0, none⟩) := h6
  replace h7 : c7 = .int .i64 k := h7
  subst h0
  subst h3
  subst h4
  subst h6
  subst h7
  have HA := Lib.hid hA
  clear hA
  conv => arg 2; whnf
  go_wp2
  exact ⟨k + 1, by omega, by omega, L, R, ra, rc, rfl, ⟨rfl, rfl, rfl, rfl, rfl, rfl⟩, HA.out⟩

set_option maxRecDepth 100000 in
set_option maxHeartbeats 0 in
theorem act_round {w : World} {vb : Nat} {hd nb : Nat → Nat} {ad : Option Addr} {cap : Nat} {V : Nat → Int} {rb k : Nat} {wr : World} {ac : Option Addr} {len lc : Nat} {a : Act} (hv : IsTab [.i .i64, .i .i64, .i .i64] w ac len lc) (hk : k ≤ len) (hl : len ≤ 100) (T : Tab w) (h : Inv w vb hd nb ad cap V rb (.slice ac len lc) k k a wr) :
    Code.wp Tryd.prog (bodyOf Tryd.f3) (Exit.then (More w vb hd nb ad cap V rb (.slice ac len lc) k len) (Out w)) a wr := by
  have HV := Lib.hid hv
  have HTB := Lib.hid T
  obtain ⟨t, ds⟩ := a
  obtain ⟨L, R, ra, rc, hd', ⟨hz, h0, h3, h4, h6, h7⟩, hA⟩ := h
  replace hd' : ds = [] := hd'
  subst hd'
  have HC := Lib.hid hA.c
  have HA := Lib.hid hA
  have hsm := hv.small
  clear hv hA T
  rw [body_eq]
  refine openFr (P := fun t => t.getD 0 undef = .slice ac len lc → t.getD 3 undef = .pointer (some ⟨vb, 0, none⟩) → t.getD 4 undef = .slice ad 12 cap → t.getD 6 undef = .pointer (some ⟨rb, 0, none⟩) → t.getD 7 undef = .int .i64 k → Code.wp Tryd.prog (.seq (fstC (bodyOf Tryd.f3)) (.seq (.block 3 (actOf Tryd.f3)) (sndC (sndC (bodyOf Tryd.f3))))) (Exit.then (More w vb hd nb ad cap V rb (.slice ac len lc) k len) (Out w)) ⟨t, []⟩ wr) ?_ t hz h0 h3 h4 h6 h7
  clear h0 h3 h4 h6 h7 hz t
  intro c0 c1 c2 c3 c4 c5 c6 c7 c8 c9 c10 c11 c12 c13 c14 c15 c16 c17 c18 c19 c20 c21 c22 c23 c24 c25 c26 c27 c28 c29 c30 c31 c32 c33 c34 c35 c36 c37 c38 c39 c40 c41 c42 c43 c44 c45 c46 c47 c48 c49 c50 c51 c52 c53 c54 c55 c56 c57 c58 c59 c60 c61 c62 c63 c64 c65 c66 c67 c68 c69 c70 c71 c72 c73 c74 c75 c76 c77 c78 c79 c80 c81 c82 c83 c84 c85 c86 c87 c88 c89 c90 c91 c92 c93 c94 c95 c96 c97 c98 c99 c100 c101 c102 c103 c104 c105 c106 c107 c108 c109 c110 c111 c112 c113 c114 c115 c116 c117 c118 c119 c120 c121 c122 c123 c124 c125 c126 c127 c128 c129 c130 c131 c132 c133 c134 c135 c136 c137 c138 c139 c140 c141 c142 c143 c144 c145 c146 c147 c148 c149 c150 c151 c152 c153 c154 c155 c156 c157 c158 c159 c160 c161 c162 c163 c164 c165 c166 c167 c168 c169 c170 c171 c172 c173 c174 c175 c176 c177 c178 c179 c180 c181 c182 c183 c184 c185 c186 c187 c188 c189 c190 c191 c192 c193 c194 c195 c196 c197 c198 c199 c200 c201 c202 c203 c204 c205 c206 c207 c208 c209 c210 c211 c212 c213 c214 c215 c216 c217 c218 c219 c220 c221 c222 c223 c224 c225 c226 c227 c228 c229 h0 h3 h4 h6 h7
  replace h0 : c0 = .slice ac len lc := h0
  replace h3 : c3 = .pointer (some ⟨vb, 0, none⟩) := h3
  replace h4 : c4 = .slice ad 12 cap := h4
  replace h6 : c6 = .pointer (some ⟨rb, 0, none⟩) := h6
  replace h7 : c7 = .int .i64 k := h7
  subst h0
  subst h3
  subst h4
  subst h6
  subst h7
  refine wp_seq_k fun K hK => ?_
  have HK := Lib.hid hK
  clear hK
  conv => arg 2; whnf
  by_cases hlt : k < len
  · have hkz : (k : Int) < (len : Int) := by omega
    go_wp2
    refine HK.out _ _ ?_
    clear HK K
    have hv := HV.out
    have hcap : len ≤ lc ∧ lc ≤ maxLen := by
      rcases hv with ⟨-, h0, -⟩ | ⟨x, -, h1, h2, -⟩
      · omega
      · exact ⟨h1, h2⟩
    obtain ⟨x, rfl⟩ : ∃ x, ac = some x := by
      rcases hv with ⟨-, h0, -⟩ | ⟨x, h, -⟩
      · omega
      · exact ⟨x, h⟩
    refine wp_seq (wp_block (wp_mono (act_all hv hlt hl hcap HTB.out ⟨L, R, ra, rc, rfl, ⟨rfl, rfl, rfl, rfl, rfl, rfl⟩, HA.out⟩) ?_))
    intro e a' w' hp
    cases e with
    | normal => exact act_step hlt hl hp
    | exit j =>
      obtain ⟨rfl, hp'⟩ := Qc_exit hp
      exact act_step hlt hl hp'
    | _ => exact hp.elim
  · obtain rfl : k = len := by omega
    go_wp2
    exact ⟨rfl, rfl, rfl, HC.out⟩

/-- the first j nodes are made -/
structure Mk (w : World) (vb : Nat) (hd : Nat → Nat) (j : Nat) (nb : Nat → Nat) (V : Nat → Int) (ad : Option Addr) (cap : Nat) (W : World) : Prop where
  l : IsLv W vb hd (fun _ => []) V
  f : ∀ i, i < j → IsN W (nb i) (V (nb i)) none none none
  v : ∀ i, i < j → V (nb i) = (i : Nat)
  r : RowM W ad j cap nb
  inj : ∀ i i', i < j → i' < j → nb i = nb i' → i = i'
  nl : ∀ i, i < j → ¬ LvB vb hd (fun _ => []) (nb i)
  ra : ∀ g, OwnS ad g → ¬ LvB vb hd (fun _ => []) g ∧ ∀ i, i < j → g ≠ nb i
  hi : ∀ x, LvB vb hd (fun _ => []) x → w.heap.size ≤ x
  hn : ∀ i, i < j → w.heap.size ≤ nb i
  hr : ∀ g, OwnS ad g → w.heap.size ≤ g
  c : Ch Nil w W
theorem Mk.more {w W w6 : World} {vb j cap g cap6 H : Nat} {hd nb : Nat → Nat} {V : Nat → Int} {ad : Option Addr} {ty ty2 : TypeId} (h : Mk w vb hd j nb V ad cap W)
    (c6 : Ch (OwnS ad) (W.alloc (.cells #[.int .i64 (j : Nat), .pointer none, .pointer none, .pointer none] ty)) w6) (row6 : RowM w6 (some ⟨g, 0, none⟩) (j + 1) cap6 (upd nb j W.heap.size)) (at6 : OwnS ad g ∨ g = H) (hH : W.heap.size < H) :
    Mk w vb hd (j + 1) (upd nb j W.heap.size) (upd V W.heap.size (j : Nat)) (some ⟨g, 0, none⟩) cap6 w6 := by
  have c4 : Ch Nil W (W.alloc (.cells #[.int .i64 (j : Nat), .pointer none, .pointer none, .pointer none] ty)) := (Ch.refl _ _).alloc _
  have nn := IsN.made W (j : Nat) ty
  have hw := h.c.size
  have l1 : ∀ x, LvB vb hd (fun _ => []) x → x < W.heap.size := fun x hx => h.l.lt hx
  have l2 : ∀ i, i < j → nb i < W.heap.size := fun i hi => (h.f i hi).lt
  have l3 : ∀ x, OwnS ad x → x < W.heap.size := fun x hx => h.r.lt x hx
  have gg : ∀ g', OwnS (some ⟨g, 0, none⟩) g' → OwnS ad g' ∨ g' = H := fun g' e => by cases e; exact at6
  have sj : ∀ i, i < j + 1 → i = j ∨ i < j := fun i hi => by omega
  refine ⟨((h.l.kept c4 (fun _ _ e => e)).kept c6 (fun x hx e => (h.ra x e).1 hx)).congr _ (fun i b _ hb => by cases hb), fun i hi => ?_, fun i hi => ?_, row6, fun i i' hi hi' e => ?_, fun i hi => ?_, fun g' hg' => ?_, h.hi, fun i hi => ?_, fun g' hg' => ?_, (h.c.trans c4).up c6 h.hr⟩
  · rcases sj i hi with rfl | hi'
    · rw [upd_same, upd_same]; exact nn.kept c6 (fun e => by have := l3 _ e; omega)
    · have := l2 i hi'
      rw [upd_other _ _ _ _ (by omega), upd_other _ _ _ _ (by omega)]
      exact ((h.f i hi').kept c4 (fun e => e)).kept c6 (fun e => (h.ra _ e).2 i hi' rfl)
  · rcases sj i hi with rfl | hi'
    · rw [upd_same, upd_same]
    · have := l2 i hi'
      rw [show upd nb j W.heap.size i = nb i from upd_other _ _ _ _ (by omega), upd_other _ _ _ _ (by omega)]; exact h.v i hi'
  · rcases sj i hi with rfl | h1 <;> rcases sj i' hi' with rfl | h2
    · rfl
    · have := l2 i' h2; rw [upd_same, upd_other _ _ _ _ (by omega)] at e; omega
    · have := l2 i h1; rw [upd_same, upd_other _ _ _ _ (by omega)] at e; omega
    · rw [upd_other _ _ _ _ (by omega), upd_other _ _ _ _ (by omega)] at e; exact h.inj i i' h1 h2 e
  · rcases sj i hi with rfl | hi'
    · rw [upd_same]; intro e; have := l1 _ e; omega
    · rw [upd_other _ _ _ _ (by omega)]; exact h.nl i hi'
  · rcases gg g' hg' with e | e
    · refine ⟨(h.ra g' e).1, fun i hi => ?_⟩
      rcases sj i hi with rfl | hi'
      · rw [upd_same]; have := l3 _ e; omega
      · rw [upd_other _ _ _ _ (by omega)]; exact (h.ra g' e).2 i hi'
    · refine ⟨fun e' => by have := l1 _ e'; omega, fun i hi => ?_⟩
      rcases sj i hi with rfl | hi'
      · rw [upd_same]; omega
      · rw [upd_other _ _ _ _ (by omega)]; have := l2 i hi'; omega
  · rcases sj i hi with rfl | hi'
    · rw [upd_same]; exact hw
    · rw [upd_other _ _ _ _ (by omega)]; exact h.hn i hi'
  · rcases gg g' hg' with e | e
    · exact h.hr g' e
    · omega
/-- the document's zero -/
def rfZ : Array Value := Array.replicate 64 (.slice none 0 0)
theorem rfZ_zero (w : World) : (zeroValue 34).run Tryd.prog w = .ok (.agg rfZ) w := zero_of (by kernel_rfl) w
theorem rfZ_at (i : Nat) (h : i < 64) : rfZ[i]? = some (.slice none 0 0) := by unfold rfZ; rw [Array.getElem?_replicate, if_pos h]
/-- all is made -/
theorem Mk.duo {w W : World} {vb cap : Nat} {hd nb : Nat → Nat} {V : Nat → Int} {ad : Option Addr} (h : Mk w vb hd 12 nb V ad cap W) (ty : TypeId) :
    Duo w vb hd nb ad cap V W.heap.size 0 (fun _ => []) (fun _ => []) (One W.heap.size) (fun _ => none) (fun _ => 0) (W.alloc (.cells rfZ ty)) := by
  have c : Ch Nil W (W.alloc (.cells rfZ ty)) := (Ch.refl _ _).alloc _
  have hw := h.c.size
  have a : LevA vb hd nb ad cap V 0 (fun _ => []) (W.alloc (.cells rfZ ty)) := by
    refine ⟨h.l.kept c (fun _ _ e => e), fun i hi _ => (h.f i hi).kept c (fun e => e), fun s _ i hi => (by cases hi), fun s s' i _ _ hi => (by cases hi), fun s _ => List.nodup_nil, fun s _ => Nat.le_refl _, h.r.kept c (fun _ _ e => e), h.v, h.inj, fun i hi => ⟨fun e => h.nl i hi (.inl e), fun s hs e => h.nl i hi (.inr ⟨s, hs, .inl e⟩)⟩, fun g hg => ⟨fun e => (h.ra g hg).1 (.inl e), fun s hs e => (h.ra g hg).1 (.inr ⟨s, hs, .inl e⟩), (h.ra g hg).2⟩⟩
  have gw : ∀ j, GB vb hd nb ad j → j < W.heap.size := by
    rintro j (rfl | ⟨s, hs, rfl⟩ | ⟨i, hi, rfl⟩ | hj)
    · exact h.l.lt (.inl rfl)
    · exact h.l.lt (.inr ⟨s, hs, .inl rfl⟩)
    · exact (h.f i hi).lt
    · exact h.r.lt j hj
  refine ⟨a, ⟨fun i hi => ?_, Blk.new _ _ _, fun i hi => Row.nil _ _ _ _, rfl, fun i hi j hj => (by cases hj), fun i hi e => (by cases e), fun i i' j _ _ e => (by cases e), fun j e => ?_⟩, fun j e e' => ?_, fun j hj => ?_, fun j e => ?_, h.c.trans c⟩
  · rw [cell_fresh]; exact rfZ_at i hi
  · have e' : j = W.heap.size := e
    rw [e']; simp
  · have := gw j e'; have e2 : j = W.heap.size := e; omega
  · rcases hj with rfl | ⟨s, hs, rfl⟩ | ⟨i, hi, rfl⟩ | hj
    · exact h.hi _ (.inl rfl)
    · exact h.hi _ (.inr ⟨s, hs, .inl rfl⟩)
    · exact h.hn i hi
    · exact h.hr j hj
  · have e' : j = W.heap.size := e
    omega

set_option maxRecDepth 100000 in
set_option maxHeartbeats 0 in
theorem LevelActs_walk (a : Option Addr) (len cap : Nat) (w : World) (hv : IsTab [.i .i64, .i .i64, .i .i64] w a len cap) (T : Tab w) :
    Calls Tryd.prog 3 #[.slice a len cap] w fun e w' => e = .returned (.bool true) ∧ Below w.heap.size w w' := by
  have hsm := hv.small
  have HV := Lib.hid hv
  have HT := Lib.hid T
  clear hv T
  go_enter Tryd.func3, Tryd.ntmps3
  go_wp2_with fail
  refine (alive_any _ HT.out).mono ?_
  rintro e w1 ⟨rfl, c1⟩
  have C1 := Lib.hid c1
  clear c1
  by_cases h100 : 100 < len
  · go_wp2
    go_ret
    exact ⟨rfl, C1.out.below (Nat.le_refl _) (fun _ _ h => h.elim)⟩
  have hz2 : (len : Int) ≤ 100 := by omega
  go_wp2_with fail
  refine (newv_of _ (fun _ => 0)).mono ?_
  rintro e w2 ⟨vb, hd, rfl, h2, g2, c2⟩
  have hw := C1.out.size
  have M0 : Hid (Mk w vb hd 0 (fun _ => 0) (fun _ => 0) none 0 w2) :=
    Lib.hid ⟨h2, fun i hi => by omega, fun i hi => by omega, Row.nil _ _ _ _, fun i i' hi => by omega, fun i hi => by omega, fun g hg => (by cases hg), fun x hx => Nat.le_trans hw (g2 x hx), fun i hi => by omega, fun g hg => (by cases hg), C1.out.trans c2⟩
  clear h2 g2 c2
  have zz := rfZ_zero
  go_wp2
  go_loopw [4, 5] (fun ns i wr => ∃ (j : Nat) (nb : Nat → Nat) (V : Nat → Int) (ad : Option Addr) (c : Nat), j ≤ 12 ∧ ns = .slice ad j c ∧ i = .int .i64 j ∧ Mk w vb hd j nb V ad c wr) (fun _ i _ => 12 - (intOf i).toNat)
  case atStart => exact ⟨0, _, _, none, 0, by omega, rfl, rfl, M0.out⟩
  case round =>
    clear M0
    obtain ⟨j, nb, V, ad, c, hj, rfl, rfl, hm⟩ := hrel
    have M := Lib.hid hm
    clear hm
    by_cases hlt : j < 12
    · have hjz : (j : Int) < 12 := by omega
      have R5 := Lib.hid ((M.out.r.kept (S := Nil) ((Ch.refl Nil wr).alloc (Obj.cells #[.int .i64 (j : Nat), .pointer none, .pointer none, .pointer none] 30)) (fun _ _ e => e)).kept (S := Nil) ((Ch.refl Nil _).alloc (Obj.cells #[.pointer (some ⟨wr.heap.size, 0, none⟩)] 27)) (fun _ _ e => e))
      have hsz : (wr.alloc (Obj.cells #[.int .i64 (j : Nat), .pointer none, .pointer none, .pointer none] 30)).heap.size = wr.heap.size + 1 := by simp
      have HSZ := Lib.hid hsz
      clear hsz
      go_wp2_with (at_builtin; refine append_row _ rfl _ _ _ rfl 27 (.pointer none) 1 8 Tryd.underlying26 (by kernel_rfl) rfl (by omega) (by omega) rfl R5.out (by omega) (wr.heap.size + 1) 1 [.pointer (some ⟨wr.heap.size, 0, none⟩)] 27 rfl rfl (by have := heap_alloc_new (wr.alloc (Obj.cells #[.int .i64 (j : Nat), .pointer none, .pointer none, .pointer none] 30)) (Obj.cells #[.pointer (some ⟨wr.heap.size, 0, none⟩)] 27); rw [HSZ.out] at this; exact this) (by simp [Value.oneCell']) (ptrM (upd nb j wr.heap.size)) (fun i hi => by dsimp only [ptrM]; rw [upd_other _ _ _ _ (by omega)]) (by intro m u hu; obtain rfl : m = 0 := (by cases m; rfl; simp at hu); simp at hu; subst hu; simp [ptrM, upd_same]) _ rfl ?_)
      intro g6 cap6 w6 row6 ch6 at6 lt6
      have c6 : Ch (OwnS ad) (wr.alloc (Obj.cells #[.int .i64 (j : Nat), .pointer none, .pointer none, .pointer none] 30)) w6 := (((Ch.refl Nil _).alloc _).mono (fun _ _ e => e.elim)).trans ch6
      have FIN := Lib.hid (M.out.more (ty2 := 0) c6 row6 at6 (by first | omega | (simp; omega) | simp))
      clear ch6 row6 at6 lt6 R5 c6 HSZ
      go_wp2
      go_roundw
      case rel => exact ⟨j + 1, _, _, _, _, by omega, rfl, by go_num, FIN.out⟩
      case measure => simp [intOf]; omega
    · obtain rfl : j = 12 := by omega
      go_wp2
      have A0 := Lib.hid (M.out.duo 34)
      clear M
      generalize wr.alloc (.cells rfZ 34) = w5 at A0 ⊢
      obtain ⟨rb, hrb⟩ : ∃ rb, rb = wr.heap.size := ⟨_, rfl⟩
      rw [← hrb] at A0 ⊢
      clear hrb zz
      refine wp_mono (wp_loop (c := bodyOf Tryd.f3) (Q := Out w) (fun a' wr => ∃ k, k ≤ len ∧ Inv w vb hd nb ad c V rb (.slice a len cap) k k a' wr) (fun a' _ => len - (intOf (a'.tmps.getD 7 undef)).toNat) ⟨0, Nat.zero_le _, _, _, _, _, rfl, ⟨rfl, rfl, rfl, rfl, rfl, rfl⟩, A0.out⟩ ?_) ?_
      · rintro a' wr ⟨k, hk, h⟩
        refine wp_mono (act_round HV.out hk (by omega) HT.out h) ?_
        intro e a2 w2 hp
        cases e with
        | normal =>
          obtain ⟨k', h1, h2, h3⟩ := hp
          refine ⟨⟨k', h2, h3⟩, ?_⟩
          obtain ⟨L, R, ra, rc, hd', F, hA⟩ := h
          obtain ⟨L', R', ra', rc', hd'', F', hA'⟩ := h3
          rw [F.i, F'.i]
          simp only [intOf, Int.toNat_natCast]
          omega
        | _ => exact hp
      · rintro e ⟨t, ds⟩ w' ⟨rfl, hd', hz, hc⟩
        replace hd' : ds = [] := hd'
        subst hd'
        have HC := Lib.hid hc
        clear hc A0
        replace hz : t.size = 230 := hz
        refine openFr (P := fun t => Exit.inBlock 2 (Exit.then _ _) (.exit 2) ⟨t, []⟩ w') ?_ t hz
        clear hz t
        intro c0 c1 c2 c3 c4 c5 c6 c7 c8 c9 c10 c11 c12 c13 c14 c15 c16 c17 c18 c19 c20 c21 c22 c23 c24 c25 c26 c27 c28 c29 c30 c31 c32 c33 c34 c35 c36 c37 c38 c39 c40 c41 c42 c43 c44 c45 c46 c47 c48 c49 c50 c51 c52 c53 c54 c55 c56 c57 c58 c59 c60 c61 c62 c63 c64 c65 c66 c67 c68 c69 c70 c71 c72 c73 c74 c75 c76 c77 c78 c79 c80 c81 c82 c83 c84 c85 c86 c87 c88 c89 c90 c91 c92 c93 c94 c95 c96 c97 c98 c99 c100 c101 c102 c103 c104 c105 c106 c107 c108 c109 c110 c111 c112 c113 c114 c115 c116 c117 c118 c119 c120 c121 c122 c123 c124 c125 c126 c127 c128 c129 c130 c131 c132 c133 c134 c135 c136 c137 c138 c139 c140 c141 c142 c143 c144 c145 c146 c147 c148 c149 c150 c151 c152 c153 c154 c155 c156 c157 c158 c159 c160 c161 c162 c163 c164 c165 c166 c167 c168 c169 c170 c171 c172 c173 c174 c175 c176 c177 c178 c179 c180 c181 c182 c183 c184 c185 c186 c187 c188 c189 c190 c191 c192 c193 c194 c195 c196 c197 c198 c199 c200 c201 c202 c203 c204 c205 c206 c207 c208 c209 c210 c211 c212 c213 c214 c215 c216 c217 c218 c219 c220 c221 c222 c223 c224 c225 c226 c227 c228 c229
        go_wp2
        go_ret
        exact ⟨rfl, HC.out.below (Nat.le_refl _) (fun _ _ h => h.elim)⟩

theorem LevelActs_own : ownKnob Tryd.prog.godebug = none := by kernel_rfl
theorem LevelActs_laidOut : laidOutB Tryd.prog = true := by kernel_rfl

set_option maxRecDepth 100000 in
theorem LevelActs_lifted (os : Os) (started : os.Started) (H : Type) (enc : TypeId × Value → H) :
    ReturnsInHanded {} Tryd.checked os 3 .any (fun w args => (Rows.levelActsSpec.pre enc Tryd.prog Tryd.f3 [] false w args ∧ laidMetH Tryd.prog laidTab w) ∧ sizedMet enc Tryd.prog Tryd.f3 (OpenSpec.ofChange Rows.levelActsSpec) false w args) (Rows.levelActsSpec.post enc Tryd.prog Tryd.f3 false true false false) := by
  refine returnsInHanded_of_change_and (C := Tryd.checked) (X := fun w _ => laidMetH Tryd.prog laidTab w) (fun _ _ _ hh h => h.of_heap hh) LevelActs_own started (by kernel_rfl) Tryd.func3
    (ChangeSpec.witness_shaped (enc := enc) (C := Tryd.checked) (os := os) (X := fun w _ => laidMetH Tryd.prog laidTab w) false (World.doorLaid Tryd.prog doorSteps os) #[.slice none 0 0] 8 rfl (World.shaped_of_RefB (by kernel_rfl) (by kernel_rfl)) (by kernel_rfl) (by kernel_rfl) (by kernel_rfl) (door_met os _)) ?_
  intro W base args ds gs before hval0 hW _ _ hL _
  have TB := tab_of_laid hL
  have hval : ∀ (j : Nat) t v, Tryd.f3.params[j]? = some t → args[j]? = some v → Value.okWide Tryd.prog W .any base t v := hval0
  have hW' := hW
  obtain ⟨p, q, hA0, hV, rfl, hfz, hnd⟩ := hW
  have hA : DataW.TrodAll enc Tryd.prog W 0 (fun _ => true) true Tryd.f3.params.toList args.toList ds p := hA0
  rw [Tryd.params3] at hA hval
  obtain ⟨v0, vs0, d0, ds0, p0, q0, hargs, rfl, rfl, h0, r0⟩ := trodAll_cons hA
  obtain ⟨rfl, rfl, rfl⟩ := trodAll_nil r0
  obtain rfl : args = #[v0] := by cases args; simp_all
  obtain ⟨rfl, rfl⟩ := trodVars_none hV
  obtain ⟨a0, len0, cap0, rfl⟩ := okWide_slice Tryd.underlying22 (hval 0 22 v0 rfl rfl)
  have k0 := h0
  have lt0 : ∀ x ∈ p0, x.block < W.heap.size := by obtain ⟨m, hm⟩ := k0; exact DataW.trod_lt m _ _ _ hm
  have w0 : IsTab [.i .i64, .i .i64, .i .i64] W a0 len0 cap0 := by
    obtain ⟨fuel, hf⟩ := h0
    exact open_tab _ Tryd.underlying22 Tryd.underlying36 (by kernel_rfl) (by kernel_rfl) hf
  clear hA0 hval0
  refine (LevelActs_walk a0 len0 cap0 W w0 TB).mono fun e W' ⟨he, bel⟩ => ?_
  subst he
  exact ⟨_, rfl, _, _, _, [], _, [], hW', trodAll_mk1 (shut_bool Tryd.underlying4 _), (trodAll_cons_mk (Below.trod LevelActs_laidOut (by kernel_rfl) (of_decide_eq_true (by kernel_rfl)) k0 bel lt0) trodAll_mk0), rfl, bel.frame _, fun h => by cases h⟩

theorem levelActs_holds : Rows.LevelActsSaid :=
  OpenClaim.holds_of_wide 3 Tryd.f3 rfl rfl rfl rfl rfl rfl rfl ⟨rfl, rfl, rfl, rfl, rfl⟩ rfl rfl rfl rfl rfl (by kernel_rfl) Tryd.func3 (by kernel_rfl)
    (of_decide_eq_true (by kernel_rfl)) (by unfold Func.isWrapper; rw [if_neg (of_decide_eq_false (by kernel_rfl))]; exact ⟨rfl, rfl⟩)
    (fun os started H enc _ => LevelActs_lifted os started H enc)

theorem levelActs_card_holds : Rows.LevelActsCardSaid :=
  Claim7.holds_tied_plain_at .later [] [.data] true (true, "a12f025456261448af86dfd14c67baf3c7b44116e69f89940250fcbef63c66f8") false
    levelActs_holds (fun _ h => by cases h) (by kernel_rfl) (fun _ h => by cases h) levelActs_row_tie rfl ⟨rfl, rfl⟩ (by kernel_rfl) rfl
    (fun f fn hf hfn => by
      obtain rfl : f = 3 := Option.some.inj ((show Tryd.prog.funcNamed Rows.levelActsRow.func = some 3 by kernel_rfl).symm.trans hf) |>.symm
      obtain rfl : fn = Tryd.f3 := (Option.some.inj (Tryd.func3.symm.trans hfn)).symm
      exact ⟨by kernel_rfl, fun j t ht => by
        rw [Tryd.params3] at ht
        have hm : t ∈ [22] := by have := Array.mem_of_getElem? ht; simp at this; simp [this]
        have hall : ([22].all fun u => !Tryd.prog.wantsStandIn u) = true := by kernel_rfl
        exact (show Tryd.prog.wantsStandIn t = false by simpa using List.all_eq_true.1 hall t hm)⟩)
    (by kernel_rfl)
end Go.Proofs.YtgaakhiapgmnbaaDoor
