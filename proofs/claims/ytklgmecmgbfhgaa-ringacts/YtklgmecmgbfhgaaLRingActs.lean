/-
  Proved: for every n and acts the statement RingActs returns true: however tickets step between each other, fill, and things are popped, what each answers, and how many positions are taken, are the document's all along; and nothing that was there is changed. Conditions: none.
-/
import Derived.Test.YtklgmecmgbfhgaaRingAlive
import Derived.Test.YtklgmecmgbfhgaaRingMach
import Derived.Test.YtklgmecmgbfhgaaRingRef3
import Derived.Test.YtklgmecmgbfhgaaIsTab
import Derived.ProofKit
import Derived.OpenShut
import Derived.ChangeOld
import Derived.Below
namespace Go.Proofs.Ytklgmecmgbfhgaa
open Go.ChangeShapes Go.WideShapes Go.ChangeAt Go.RowKit Verge RI
set_option linter.unusedVariables false
set_option linter.unusedSimpArgs false
attribute [local go_sem] Oper.semAt_some

abbrev atT (T : Nat → TSt) : Nat → Int := fun k => atOf (T k)
abbrev posT (T : Nat → TSt) : Nat → Nat := fun k => (T k).pos
abbrev ptrT (tb : Nat → Nat) : Nat → Value := fun k => .pointer (some ⟨tb k, 0, none⟩)
/-- what the loop keeps -/
structure ActsIn (w wr : World) (b sb c n kk nx fi q : Nat) (P : Nat → Bool) (V : Nat → Int) (T : Nat → TSt) (tb : Nat → Nat) (M R : Nat → Prop) (al : Option Addr) (kl : Nat) : Prop where
  m : Mach wr M b sb n nx fi q P V tb T
  r : Ref wr R c n nx fi q P V (atT T) (posT T)
  l : Row wr 37 1 al q kl (ptrT tb)
  inv : Inv n nx fi q P T
  mr : ∀ k, M k → ¬ R k
  ml : ∀ k, M k → ¬ OwnS al k
  rl : ∀ k, R k → ¬ OwnS al k
  mw : ∀ k, M k → w.heap.size ≤ k
  rw : ∀ k, R k → w.heap.size ≤ k
  lw : ∀ k, OwnS al k → w.heap.size ≤ k
  few : q ≤ kk
  few2 : nx ≤ kk
  ch : Ch Nil w wr
/-- wherever it lies -/
def Acts (w wr : World) (b sb c n kk : Nat) (l : Value) : Prop := ∃ nx fi q P V T tb M R al kl, l = .slice al q kl ∧ ActsIn w wr b sb c n kk nx fi q P V T tb M R al kl

section
variable {w wr w' : World} {b sb c n kk nx fi q : Nat} {P : Nat → Bool} {V : Nat → Int} {T : Nat → TSt} {tb : Nat → Nat} {M R : Nat → Prop} {al : Option Addr} {kl : Nat}
theorem ActsIn.keptN (h : ActsIn w wr b sb c n kk nx fi q P V T tb M R al kl) (c0 : Ch Nil wr w') : ActsIn w w' b sb c n kk nx fi q P V T tb M R al kl :=
  ⟨h.m.kept c0 (fun _ _ e => e), h.r.kept c0 (fun _ _ e => e), h.l.kept c0 (fun _ _ e => e), h.inv, h.mr, h.ml, h.rl, h.mw, h.rw, h.lw, h.few, h.few2, h.ch.trans c0⟩
theorem ActsIn.more (h : ActsIn w wr b sb c n kk nx fi q P V T tb M R al kl) : ActsIn w wr b sb c n (kk + 1) nx fi q P V T tb M R al kl :=
  ⟨h.m, h.r, h.l, h.inv, h.mr, h.ml, h.rl, h.mw, h.rw, h.lw, by have := h.few; omega, by have := h.few2; omega, h.ch⟩
end
/-- the box of an act -/
structure Box3 (w : World) (B : Nat) (y0 y1 y2 : Int) : Prop where
  a : w.cell? ⟨B, 0, none⟩ = some (.int .i64 y0)
  b : w.cell? ⟨B, 1, none⟩ = some (.int .i64 y1)
  c : w.cell? ⟨B, 2, none⟩ = some (.int .i64 y2)
theorem Box3.kept {S : Nat → Prop} {w w' : World} {B : Nat} {y0 y1 y2 : Int} (h : Box3 w B y0 y1 y2) (c : Ch S w w') (hn : ¬ S B) : Box3 w' B y0 y1 y2 := ⟨c.keeps h.a hn, c.keeps h.b hn, c.keeps h.c hn⟩
theorem Box3.lt {w : World} {B : Nat} {y0 y1 y2 : Int} (h : Box3 w B y0 y1 y2) : B < w.heap.size := lt_of_cell h.a
/-- behind the first 'if' -/
def Mid1 (w wc : World) (b sb c n k B : Nat) (y0 y1 y2 : Int) (l : Value) : Prop := ∃ nx fi q P V T tb M R al kl, l = .slice al q kl ∧ ActsIn w wc b sb c n (k + 1) nx fi q P V T tb M R al kl ∧ Box3 wc B y0 y1 y2 ∧ ¬ M B ∧ ¬ R B ∧ ¬ OwnS al B ∧ nx ≤ k
theorem tk_old (T : Nat → TSt) (q : Nat) (t : TSt) (i : Nat) (hi : i < q * 2) : tkCell (atT (upd T q t)) (posT (upd T q t)) i = tkCell (atT T) (posT T) i := by
  unfold tkCell atT posT
  rw [upd_other _ _ _ _ (by omega)]
theorem tk_new (T : Nat → TSt) (q : Nat) (j : Nat) (u : Value) (hu : [Value.int .i64 0, .int .i64 0][j]? = some u) : tkCell (atT (upd T q ⟨0, 0, 0, false⟩)) (posT (upd T q ⟨0, 0, 0, false⟩)) (q * 2 + j) = u := by
  match j with
  | 0 => simp at hu; subst hu; rw [Nat.add_zero, tkCell_at]; simp [atT, upd_same, atOf]
  | 1 => simp at hu; subst hu; rw [tkCell_pos]; simp [posT, upd_same]
  | n + 2 => simp at hu
/-- a new ticket, on both sides -/
theorem acts_begin {w w4 w5 w6 w7 w8 : World} {b sb c n k nx fi q t g g3 H6 H8 : Nat} {P : Nat → Bool} {V : Nat → Int} {T : Nat → TSt} {tb : Nat → Nat} {M R : Nat → Prop} {al : Option Addr} {kl cap : Nat} {a1 a2 a3 : Option Addr} {k1 k2 k3 cap3 : Nat}
    (h : ActsIn w w4 b sb c n k nx fi q P V T tb M R al kl) (ht : w4.heap.size ≤ t) (hm : Mach w5 (fun k => M k ∨ k = t) b sb n nx fi (q + 1) P V (upd tb q t) (upd T q ⟨0, 0, 0, false⟩)) (c5 : Ch Nil w4 w5)
    (c6 : Ch (OwnS al) w5 w6) (r6 : Row w6 37 1 (some ⟨g, 0, none⟩) (q + 1) cap (ptrT (upd tb q t))) (hat : OwnS al g ∨ g = H6) (h6 : w5.heap.size ≤ H6)
    (hr : IsRefG w6 R c n nx nx fi q P V (atT T) (posT T) a1 a2 a3 k1 k2 k3) (c7 : Ch Nil w6 w7) (c8 : Ch (OwnS a3) w7 w8) (r8 : Row w8 40 2 (some ⟨g3, 0, none⟩) (q + 1) cap3 (tkCell (atT (upd T q ⟨0, 0, 0, false⟩)) (posT (upd T q ⟨0, 0, 0, false⟩)))) (hat3 : OwnS a3 g3 ∨ g3 = H8) (h8 : w6.heap.size ≤ H8) (hl8 : g3 < w8.heap.size) :
    ∃ R', ActsIn w (w8.setCell ⟨c, 4, none⟩ (.slice (some ⟨g3, 0, none⟩) (q + 1) cap3)) b sb c n (k + 1) nx fi (q + 1) P V (upd T q ⟨0, 0, 0, false⟩) (upd tb q t) (fun k => M k ∨ k = t) R' (some ⟨g, 0, none⟩) cap
      ∧ (∀ k, R' k → R k ∨ w6.heap.size ≤ k) ∧ Ch (fun k => OwnS al k ∨ R k) w4 (w8.setCell ⟨c, 4, none⟩ (.slice (some ⟨g3, 0, none⟩) (q + 1) cap3)) := by
  obtain ⟨hg, cg⟩ := hr.growT c7 c8 h8 hat3 hl8 r8
  have s5 := c5.size
  have s6 := c6.size
  have s7 := cg.size
  have s4 := h.ch.size
  have lal : ∀ k, OwnS al k → k < w4.heap.size := h.l.lt
  have lM : ∀ k, M k → k < w4.heap.size := h.m.lt
  have lR : ∀ k, R k → k < w4.heap.size := by
    obtain ⟨_, _, _, _, _, _, hh⟩ := h.r
    exact hh.lt
  have r6' : ∀ k, (R k ∨ k = g3) → R k ∨ w6.heap.size ≤ k := by
    intro k hk
    rcases hk with hk | rfl
    · exact .inl hk
    · rcases hat3 with e | e
      · exact .inl (hr.r3 _ e)
      · right; omega
  have gal : g < w4.heap.size → OwnS al g := by
    intro hlt
    rcases hat with e | e
    · exact e
    · omega
  have gw : w.heap.size ≤ g := by
    rcases hat with e | e
    · exact h.lw g e
    · omega
  have mt5 : ∀ k, (M k ∨ k = t) → ¬ OwnS al k := by
    intro k hk e
    rcases hk with hk | rfl
    · exact h.ml k hk e
    · have := lal _ e; omega
  have m6 := hm.kept c6 mt5
  have mR : ∀ k, (M k ∨ k = t) → ¬ R k := by
    intro k hk e
    rcases hk with hk | rfl
    · exact h.mr k hk e
    · have := lR _ e; omega
  have m8 := m6.kept cg mR
  have lm6 := m6.lt
  have lg6 : g < w6.heap.size := r6.lt g rfl
  have gR : ¬ R g := by
    intro e
    have := lR g e
    exact h.rl g e (gal this)
  have gm : ∀ k, (M k ∨ k = t) → k ≠ g := by
    intro k hk e
    subst e
    rcases hat with e | e
    · exact mt5 k hk e
    · have := hm.lt k hk; omega
  refine ⟨fun k => R k ∨ k = g3, ⟨m8, ⟨_, _, _, _, _, _, hg⟩, r6.kept cg (fun k hk e => ?_), h.inv.begin, ?_, ?_, ?_, ?_, ?_, ?_, ?_, ?_, ?_⟩, r6', ?_⟩
  · have := own_eq hk; subst this; exact gR e
  · intro k hk e
    rcases e with e | e
    · exact mR k hk e
    · subst e
      rcases r6' k (.inr rfl) with e | e
      · exact mR k hk e
      · have := lm6 k hk; omega
  · intro k hk e; exact gm k hk (own_eq e)
  · intro k hk e
    have := own_eq e
    subst this
    rcases hk with hk | hk
    · exact gR hk
    · rcases r6' k (.inr hk) with e | e
      · exact gR e
      · omega
  · intro k hk
    rcases hk with hk | rfl
    · exact h.mw k hk
    · omega
  · intro k hk
    rcases r6' k hk with e | e
    · exact h.rw k e
    · omega
  · intro k hk; rw [own_eq hk]; exact gw
  · have := h.few; omega
  · have := h.few2; omega
  · refine ((h.ch.trans c5).then c6 (fun i hi e => ?_)).then cg (fun i hi e => ?_)
    · have := h.lw i e; omega
    · have := h.rw i e; omega
  · exact ((c5.mono fun _ _ e => e.elim).then (S' := OwnS al) c6 (fun i hi e => .inl e)).then cg (fun i hi e => .inr e)

/-- behind the switch -/
def Mid2 (w wc : World) (b sb c n k q : Nat) (al : Option Addr) (kl : Nat) : Prop := ∃ nx fi P V T tb M R, ActsIn w wc b sb c n (k + 1) nx fi q P V T tb M R al kl
theorem atT_upd (T : Nat → TSt) (j : Nat) (s : TSt) : upd (atT T) j (atOf s) = atT (upd T j s) := by
  funext i; unfold upd atT; dsimp only; split <;> rfl
theorem posT_upd (T : Nat → TSt) (j : Nat) (s : TSt) : upd (posT T) j s.pos = posT (upd T j s) := by
  funext i; unfold upd posT; dsimp only; split <;> rfl
theorem posT_same (T : Nat → TSt) (j : Nat) (x y : Int) (f : Bool) : posT (upd T j ⟨x, y, (T j).pos, f⟩) = posT T := by
  funext i; unfold upd posT; dsimp only; split
  · rename_i e; rw [e]
  · rfl
theorem at_ne4 (t : TSt) (h : t.st = 0 ∨ t.st = 1 ∨ t.st = 2) (h2 : t.su ≠ 2 ∨ t.fl = true) : atOf t ≠ 4 := by
  unfold atOf
  by_cases a : t.su = 1
  · simp [a]
  · by_cases b : t.su = 2
    · rcases h2 with h2 | h2
      · exact absurd b h2
      · simp [b, h2]
    · simp [a, b]; omega
/-- the ring turned, then the document's -/
theorem acts_both {w wc w5 w6 : World} {b sb c n k nx fi q nx' fi' : Nat} {P P' : Nat → Bool} {V V' : Nat → Int} {T T' : Nat → TSt} {tb : Nat → Nat} {M R R' : Nat → Prop} {al : Option Addr} {kl : Nat}
    (h : ActsIn w wc b sb c n k nx fi q P V T tb M R al kl) (hm : Mach w5 M b sb n nx' fi' q P' V' tb T') (c5 : Ch M wc w5) (hr : Ref w6 R' c n nx' fi' q P' V' (atT T') (posT T')) (hR : ∀ k, R' k → R k ∨ w5.heap.size ≤ k) (c6 : Ch R w5 w6)
    (hi : Inv n nx' fi' q P' T') (hn : nx' ≤ k) : ActsIn w w6 b sb c n k nx' fi' q P' V' T' tb M R' al kl := by
  have s5 := c5.size
  have s4 := h.ch.size
  have lal := h.l.lt
  have lM := hm.lt
  refine ⟨hm.kept c6 h.mr, hr, (h.l.kept c5 (fun k hk e => h.ml k e hk)).kept c6 (fun k hk e => h.rl k e hk), hi, ?_, h.ml, ?_, h.mw, ?_, h.lw, h.few, hn, (h.ch.then c5 (fun i hi e => ?_)).then c6 (fun i hi e => ?_)⟩
  · intro k hk e
    rcases hR k e with e | e
    · exact h.mr k hk e
    · have := lM k hk; omega
  · intro k hk e
    rcases hR k hk with e1 | e1
    · exact h.rl k e1 e
    · have := lal k e; omega
  · intro k hk
    rcases hR k hk with e1 | e1
    · exact h.rw k e1
    · omega
  · have := h.mw i e; omega
  · have := h.rw i e; omega

set_option maxHeartbeats 16000000 in
set_option maxRecDepth 100000 in
theorem RingActs_walk (n : Int) (a1 : Option Addr) (len cap : Nat) (wa : (Lit.int .i64 n).wf = true) (w : World) (hr : IsTab [.i .i64, .i .i64, .i .i64] w a1 len cap) :
    Calls Try.prog 3 #[.int .i64 n, .slice a1 len cap] w fun e w' => e = .returned (.bool true) ∧ Below w.heap.size w w' := by
  clear wa
  have HR := Lib.hid hr
  have hsm := hr.small
  clear hr
  by_cases h2 : 200 < (len : Int)
  · go_enter Try.func3, Try.ntmps3
    go_wp2_with fail
    refine (alive_any _).mono ?_
    rintro e w1 ⟨rfl, c1⟩
    go_wp2
    go_ret
    exact ⟨rfl, c1.below (Nat.le_refl _) (fun _ _ h => h.elim)⟩
  · by_cases hn : n < 1 ∨ 64 < n
    · have HN := Lib.hid hn
      have d : decide (n < 1) = true ∨ (decide (n < 1) = false ∧ decide (64 < n) = true) := by
        by_cases h1 : n < 1
        · left; simpa using h1
        · right; exact ⟨by simpa using h1, by have : 64 < n := by omega
                                              simpa using this⟩
      clear hn
      rcases d with d1 | ⟨d1, d2⟩
      · go_enter Try.func3, Try.ntmps3
        go_wp2_with fail
        refine (alive_any _).mono ?_
        rintro e w1 ⟨rfl, c1⟩
        go_wp2_with fail
        refine (new_out n _ HN).mono ?_
        rintro e w2 ⟨rfl, rfl⟩
        go_wp2
        go_ret
        exact ⟨rfl, c1.below (Nat.le_refl _) (fun _ _ h => h.elim)⟩
      · go_enter Try.func3, Try.ntmps3
        go_wp2_with fail
        refine (alive_any _).mono ?_
        rintro e w1 ⟨rfl, c1⟩
        go_wp2_with fail
        refine (new_out n _ HN).mono ?_
        rintro e w2 ⟨rfl, rfl⟩
        go_wp2
        go_ret
        exact ⟨rfl, c1.below (Nat.le_refl _) (fun _ _ h => h.elim)⟩
    · obtain ⟨m, rfl⟩ : ∃ m : Nat, n = (m : Int) := ⟨n.toNat, by omega⟩
      have m0 : 0 < m := by omega
      have m1 : m ≤ 64 := by omega
      have d1 : decide ((m : Int) < 1) = false := by rw [decide_eq_false_iff_not]; omega
      have d2 : decide (64 < (m : Int)) = false := by rw [decide_eq_false_iff_not]; omega
      clear hn
      go_enter Try.func3, Try.ntmps3
      go_wp2_with fail
      refine (alive_any _).mono ?_
      rintro e w1 ⟨rfl, c1⟩
      go_wp2_with fail
      refine (mach_new m _ m0 m1 (fun _ => ⟨0, 0, 0, false⟩) (fun _ => 0)).mono ?_
      rintro e w2 ⟨b, sb, M, rfl, hM, h2', c2⟩
      have hMw : ∀ k, M k → w.heap.size ≤ k := fun k hk => by have := hM k hk; have := c1.size; omega
      have A0 : Hid (Acts w (w2.alloc (Obj.cells #[.int .i64 m, .slice none 0 0, .slice none 0 0, .int .i64 0, .slice none 0 0] 33)) b sb w2.heap.size m 0 (.slice none 0 0)) := by
        have cA : Ch Nil w2 (w2.alloc (Obj.cells #[.int .i64 m, .slice none 0 0, .slice none 0 0, .int .i64 0, .slice none 0 0] 33)) := (Ch.refl _ _).alloc _
        have hsz := c1.size
        have hsz2 := c2.size
        have hone : ∀ k, ¬ OwnS none k := fun k e => by cases e
        refine ⟨0, 0, 0, fun _ => false, fun _ => 0, fun _ => ⟨0, 0, 0, false⟩, fun _ => 0, M, One w2.heap.size, none, 0, rfl, h2'.kept cA (fun _ _ e => e), ⟨none, none, none, 0, 0, 0, ?_⟩, Row.nil _ _ _ _, Inv.new _ _, ?_, fun k _ => hone k, fun k _ => hone k, hMw, ?_, fun k e => absurd e (hone k), Nat.le_refl _, Nat.le_refl _, (c1.trans c2).trans cA⟩
        · refine ⟨?_, ?_, ?_, ?_, ?_, Row.nil _ _ _ _, Row.nil _ _ _ _, Row.nil _ _ _ _, ?_, rfl, fun k e => absurd e (hone k), fun k e => absurd e (hone k), fun k e => absurd e (hone k), hone _, hone _, hone _, fun k e => absurd e (hone k), fun k e => absurd e (hone k), fun k e => absurd e (hone k), ?_⟩
          all_goals (try intro i)
          all_goals (try simp [go_sem])
          intro e; omega
        · intro k hk e
          have := h2'.lt k hk
          change k = _ at e
          omega
        · intro k e
          change k = _ at e
          omega
      clear h2' hMw hM
      go_wp2
      generalize w2.alloc (Obj.cells #[.int .i64 m, .slice none 0 0, .slice none 0 0, .int .i64 0, .slice none 0 0] 33) = w3 at A0 ⊢
      have hcw : w.heap.size ≤ w2.heap.size := by have := c1.size; have := c2.size; omega
      generalize w2.heap.size = c at A0 hcw ⊢
      clear c1 c2
      go_loopw [8, 9] (fun l i wr => ∃ k : Nat, k ≤ len ∧ i = .int .i64 k ∧ Acts w wr b sb c m k l) (fun _ i _ => len - (intOf i).toNat)
      case atStart => exact ⟨0, Nat.zero_le _, rfl, A0.out⟩
      case round =>
        clear A0
        obtain ⟨k, hk, rfl, nx, fi, q, P, V, T, tb, M, R, al, kl, rfl, hA⟩ := hrel
        have A := Lib.hid hA
        clear hA
        by_cases hlt : k < len
        · rcases HR.out with ⟨-, h0, -⟩ | ⟨x, rfl, -, -, hx⟩
          · omega
          obtain ⟨_, q0, y0, rfl, -⟩ := hx k hlt 0 _ rfl
          obtain ⟨_, q1, y1, rfl, wy1⟩ := hx k hlt 1 _ rfl
          obtain ⟨_, q2, y2, rfl, -⟩ := hx k hlt 2 _ rfl
          clear hx
          have q0' := A.out.ch.keeps q0 (fun e => e)
          have q1' := cell_at (k * 3) 1 (A.out.ch.keeps q1 (fun e => e))
          have q2' := cell_at (k * 3) 2 (A.out.ch.keeps q2 (fun e => e))
          rw [show k * [Leaf.i .i64, .i .i64, .i .i64].length + 0 = k * 3 from rfl] at q0'
          clear q0 q1 q2
          go_upto_region 16 with (fail)
          clear q0' q1' q2'
          have cA : Ch Nil wr (wr.alloc (Obj.cells #[.int .i64 y0, .int .i64 y1, .int .i64 y2] 36)) := (Ch.refl _ _).alloc _
          have hb3 : Box3 (wr.alloc (Obj.cells #[.int .i64 y0, .int .i64 y1, .int .i64 y2] 36)) wr.heap.size y0 y1 y2 := by constructor <;> simp [go_sem]
          have A4 := Lib.hid (A.out.keptN cA)
          have nM : ¬ M wr.heap.size := fun e => by have := A.out.m.lt _ e; omega
          have nR : ¬ R wr.heap.size := fun e => by
            obtain ⟨_, _, _, _, _, _, hh⟩ := A.out.r
            have := hh.lt _ e
            omega
          have nL : ¬ OwnS al wr.heap.size := fun e => by have := A.out.l.lt _ e; omega
          have B4 := Lib.hid hb3
          clear cA hb3 A
          generalize wr.heap.size = B at nM nR nL B4 ⊢
          generalize wr.alloc (Obj.cells #[.int .i64 y0, .int .i64 y1, .int .i64 y2] 36) = w4 at A4 B4 ⊢
          have bx0 := B4.out.a
          go_upto_if 60 with (fail)
          clear bx0
          go_cut [8] from 48 to 171 (fun l wc => Mid1 w wc b sb c m k B y0 y1 y2 l)
          case first =>
            by_cases hy0 : y0 = 0
            · have t0 : (y0 == 0) = true := by simpa using hy0
              clear hy0
              go_wp2_with fail
              refine (mach_begin A4.out.m).mono ?_
              rintro e w5 ⟨t, rfl, ht, hm5, c5⟩
              have M5 := Lib.hid hm5
              have C5 := Lib.hid c5
              have R5 := Lib.hid ((A4.out.l.kept c5 (fun _ _ e => e)).kept (S := Nil) ((Ch.refl Nil w5).alloc (Obj.cells #[.pointer (some ⟨t, 0, none⟩)] 37)) (fun _ _ e => e))
              clear hm5 c5
              have hq := A4.out.few
              go_wp2_with (at_builtin; refine append_row _ rfl _ _ _ rfl 37 (.pointer none) 1 8 Try.underlying34 (by kernel_rfl) rfl (by omega) (by omega) rfl R5.out (by omega) w5.heap.size 1 [.pointer (some ⟨t, 0, none⟩)] 37 rfl rfl (heap_alloc_new w5 _) (by simp [Value.oneCell']) (ptrT (upd tb q t)) (fun i hi => by dsimp only [ptrT]; rw [upd_other _ _ _ _ (by omega)]) (by intro j u hu; obtain rfl : j = 0 := (by cases j; rfl; simp at hu); simp at hu; subst hu; simp [ptrT, upd_same]) _ rfl ?_)
              intro g cap6 w6 row6 ch6 at6 lt6
              have C6 : Hid (Ch (OwnS al) w5 w6) := (((Ch.refl Nil w5).alloc _).mono (fun _ _ e => e.elim)).trans ch6
              have ROW6 := Lib.hid row6
              have AT6 := Lib.hid at6
              obtain ⟨a1, a2, a3, k1, k2, k3, hr6⟩ := (A4.out.r.kept C5.out (fun _ _ e => e)).kept C6.out A4.out.rl
              have HR6 := Lib.hid hr6
              have ht6 := hr6.t
              have R7 := Lib.hid (hr6.rt.kept (S := Nil) ((Ch.refl Nil w6).alloc (Obj.cells #[.int .i64 0, .int .i64 0] 40)) (fun _ _ e => e))
              clear ch6 row6 at6 lt6 R5 hr6
              go_wp2_with (at_builtin; refine append_row _ rfl _ _ _ rfl 40 (.agg #[.int .i64 0, .int .i64 0]) 2 16 Try.underlying31 (by kernel_rfl) rfl (by omega) (by omega) rfl R7.out (by omega) w6.heap.size 1 [.int .i64 0, .int .i64 0] 40 rfl rfl (heap_alloc_new w6 _) (by simp [Value.oneCell']) (tkCell (atT (upd T q ⟨0, 0, 0, false⟩)) (posT (upd T q ⟨0, 0, 0, false⟩))) (fun i hi => tk_old _ _ _ _ hi) (fun j u hu => tk_new _ _ _ _ hu) _ rfl ?_)
              intro g3 cap8 w8 row8 ch8 at8 lt8
              have c7 : Ch Nil w6 (w6.alloc (Obj.cells #[.int .i64 0, .int .i64 0] 40)) := (Ch.refl _ _).alloc _
              have fin := acts_begin A4.out ht M5.out C5.out C6.out ROW6.out AT6.out (by omega) HR6.out c7 ch8 row8 at8 (by omega) lt8
              have q1 := ((c7.mono (S' := OwnS a3) fun _ _ e => e.elim).trans ch8).keeps HR6.out.t HR6.out.c3
              have q2 := (((c7.mono (S' := OwnS a3) fun _ _ e => e.elim).trans ch8).frozen (p := ⟨c, 4, none⟩) (HR6.out.lt _ HR6.out.rc) HR6.out.c3).trans (HR6.out.f 4)
              have FIN := Lib.hid fin
              have s56 := C5.out.size
              have s67 := C6.out.size
              have hBl := B4.out.lt
              clear fin ht6 R7 c7 ch8 row8 at8 lt8
              go_wp2
              go_meet
              case rel =>
                obtain ⟨R', hA8, hR', c48⟩ := FIN.out
                refine ⟨nx, fi, q + 1, P, V, _, _, _, R', _, _, rfl, hA8, B4.out.kept c48 (fun e => e.elim nL nR), ?_, ?_, ?_, A4.out.few2⟩
                · intro e; rcases e with e | e
                  · exact nM e
                  · omega
                · intro e; rcases hR' B e with e | e
                  · exact nR e
                  · omega
                · intro e
                  have e1 := own_eq e
                  rcases AT6.out with e | e
                  · exact nL (e1 ▸ e)
                  · omega
            · have t0 : (y0 == 0) = false := by rw [beq_eq_false_iff_ne]; exact hy0
              clear hy0
              go_wp2
              go_meet
              case rel => exact ⟨nx, fi, q, P, V, T, tb, M, R, al, kl, rfl, A4.out.more, B4.out, nM, nR, nL, A4.out.few2⟩
          case rest =>
            clear A4 B4 nM nR nL
            obtain ⟨nx, fi, q, P, V, T, tb, M, R, al, kl, rfl, hA, hB, nM, nR, nL, hnx⟩ := hcut
            have A := Lib.hid hA
            have B5 := Lib.hid hB
            have hqk := hA.few
            clear hA hB
            by_cases hq0 : q = 0
            · subst hq0
              go_wp2
              go_roundw
              case rel => exact ⟨k + 1, by omega, by go_num, nx, fi, 0, P, V, T, tb, M, R, al, kl, rfl, A.out⟩
              case measure => simp [intOf]; omega
            · have dq : ((q : Int) == 0) = false := by rw [beq_eq_false_iff_ne]; omega
              have dq2 : (q == 0) = false := by rw [beq_eq_false_iff_ne]; omega
              have bx1 := B5.out.b
              have bx0 := B5.out.a
              obtain ⟨j, hj⟩ : ∃ j : Nat, (if 0 < y1 then y1 else 0) % (q : Int) = (j : Int) := ⟨((if 0 < y1 then y1 else 0) % (q : Int)).toNat, by have := Int.emod_nonneg (if 0 < y1 then y1 else 0) (show (q : Int) ≠ 0 by omega); omega⟩
              have hjq : j < q := by have := Int.emod_lt_of_pos (if 0 < y1 then y1 else 0) (show (0 : Int) < q by omega); omega
              have HJ := Lib.hid hj
              clear hj
              go_upto_block 2 with (fail)
              rw [HJ.out]
              clear HJ bx1 bx0
              generalize (if 0 < y1 then y1 else 0) = z1
              obtain ⟨g, rfl, hgl⟩ := A.out.l.form (by omega)
              have hk2 : k ≤ 200 := by omega
              have lc : wc.cell? ⟨g, j, none⟩ = some (.pointer (some ⟨tb j, 0, none⟩)) := A.out.l.cell j (by omega)
              have LC := Lib.hid lc
              clear lc
              have nxk : nx ≤ 900000 := by omega
              go_cut [12, 13, 14, 15, 16] from 48 to 171 (fun _ _ _ _ _ wc' => Mid2 w wc' b sb c m k q (some ⟨g, 0, none⟩) kl)
              case first =>
                by_cases hy1 : y0 = 1
                · have t1 : (y0 == 1) = true := by simpa using hy1
                  clear hy1
                  obtain ⟨⟨nx', s'⟩, hp⟩ : ∃ p, tickStep m nx fi P (T j) = p := ⟨_, rfl⟩
                  have HP := Lib.hid hp
                  have hrs := ref_same A.out.inv hjq
                  have hin := A.out.inv.step hjq
                  rw [hp] at hrs hin
                  have HRS := Lib.hid hrs
                  have HIN := Lib.hid hin
                  have lc := LC.out
                  clear hp hrs hin
                  go_wp2_with fail
                  clear lc
                  refine (mach_step A.out.m A.out.inv nxk j hjq s' nx' HP.out _ rfl).mono ?_
                  rintro e w5 ⟨rfl, m5, c5⟩
                  have M5 := Lib.hid m5
                  have C5 := Lib.hid c5
                  have R5 := Lib.hid (A.out.r.kept c5 (fun k hk e => A.out.mr k e hk))
                  clear m5 c5
                  have hpp := A.out.inv.pos j hjq
                  have hpn := A.out.inv.pub nx (Nat.le_refl _)
                  have HPN := Lib.hid hpn
                  have hle := A.out.inv.le
                  clear hpn
                  go_wp2_with fail
                  refine (ref_step R5.out j hjq (by omega) nxk (by omega) (by omega) (show (T j).pos ≤ 900000 by omega) HPN.out (nx', atOf s', s'.pos) (Lib.hid HRS.out.1)).mono ?_
                  rw [HRS.out.2]
                  rintro e w6 ⟨rfl, R', r6, hR6, c6⟩
                  have R6 := Lib.hid r6
                  have HR6 := Lib.hid hR6
                  have C6 := Lib.hid c6
                  clear r6 hR6 c6
                  have eS : (s'.su != s'.su) = false := by simp
                  go_wp2
                  go_meet
                  case rel =>
                    have hv : ∀ p, P p = true → refV V nx nx' p = V p := by
                      intro p hp
                      unfold refV
                      split
                      · rfl
                      · rw [upd_other]; intro e; rw [e, HPN.out] at hp; cases hp
                    have r6 := R6.out
                    rw [atT_upd, posT_upd] at r6
                    have hx1 : nx' ≤ nx + 1 := by
                      have := HP.out
                      unfold tickStep at this
                      repeat' split at this
                      all_goals (simp only [Prod.mk.injEq] at this; omega)
                    exact ⟨nx', fi, P, refV V nx nx', upd T j s', tb, M, R', acts_both A.out (M5.out.setV _ hv) C5.out r6 HR6.out C6.out HIN.out (by omega)⟩
                · have t1 : (y0 == 1) = false := by rw [beq_eq_false_iff_ne]; exact hy1
                  by_cases hy2 : y0 = 2
                  · have t2 : (y0 == 2) = true := by simpa using hy2
                    clear hy1 hy2
                    go_upto_region 26 with (fail)
                    have hS : wc.drew.cell? ⟨g, j, none⟩ = some (.pointer (some ⟨tb j, 0, none⟩)) ∧ wc.drew.cell? ⟨B, 2, none⟩ = some (.int .i64 y2) := ⟨LC.out, B5.out.c⟩
                    refine wp_region_held_drew (S := fun w' => w'.cell? ⟨g, j, none⟩ = some (.pointer (some ⟨tb j, 0, none⟩)) ∧ w'.cell? ⟨B, 2, none⟩ = some (.int .i64 y2)) (by kernel_rfl) hS (fun hHeld => ?_)
                    clear hS
                    have A5 := Lib.hid (A.out.keptN (Ch.refl _ _).drew)
                    have B6 := Lib.hid (B5.out.kept (S := Nil) (Ch.refl _ _).drew (fun e => e))
                    generalize wc.drew = wd at hHeld A5 B6 ⊢
                    refine take_at (v := ?_) 0 (some 100) rfl (by kernel_rfl) (by kernel_rfl) (by kernel_rfl) (by kernel_rfl) (fun _ _ _ h => h) (Or.inl ⟨by rfl, ?_⟩) (by assumption) ?_
                    rotate_left
                    · intro w hSw; (try dsimp only at hSw); go_simp; try (with_reducible rfl)
                    (try simp only [Act.put, List.setIfInBounds_toArray, List.set_cons_zero, List.set_cons_succ])
                    refine take_at (v := ?_) 1 (some 101) rfl (by kernel_rfl) (by kernel_rfl) (by kernel_rfl) (by kernel_rfl) (fun _ _ _ h => h) (Or.inl ⟨by rfl, ?_⟩) (by assumption) ?_
                    rotate_left
                    · intro w hSw; (try dsimp only at hSw); go_simp; try (with_reducible rfl)
                    (try simp only [Act.put, List.setIfInBounds_toArray, List.set_cons_zero, List.set_cons_succ])
                    refine take_at (v := ?_) 2 (some 102) rfl (by kernel_rfl) (by kernel_rfl) (by kernel_rfl) (by kernel_rfl) (fun _ _ _ h => h) (Or.inl ⟨by rfl, ?_⟩) (by assumption) ?_
                    rotate_left
                    · intro w hSw; (try dsimp only at hSw); go_simp; try (with_reducible rfl)
                    (try simp only [Act.put, List.setIfInBounds_toArray, List.set_cons_zero, List.set_cons_succ])
                    refine take_at (v := ?_) 3 (some 103) rfl (by kernel_rfl) (by kernel_rfl) (by kernel_rfl) (by kernel_rfl) (fun _ _ _ h => h) (Or.inl ⟨by rfl, ?_⟩) (by assumption) ?_
                    rotate_left
                    · intro w hSw; (try dsimp only at hSw); go_simp; try (with_reducible rfl)
                    (try simp only [Act.put, List.setIfInBounds_toArray, List.set_cons_zero, List.set_cons_succ])
                    refine take_at (v := ?_) 4 (some 104) rfl (by kernel_rfl) (by kernel_rfl) (by kernel_rfl) (by kernel_rfl) (fun _ _ _ h => h) (Or.inl ⟨by rfl, ?_⟩) (by assumption) ?_
                    rotate_left
                    · intro w hSw; (try dsimp only at hSw); go_simp; try (with_reducible rfl)
                    (try simp only [Act.put, List.setIfInBounds_toArray, List.set_cons_zero, List.set_cons_succ])
                    refine take_at (v := ?_) 5 (some 105) rfl (by kernel_rfl) (by kernel_rfl) (by kernel_rfl) (by kernel_rfl) (fun _ _ _ h => h) (Or.inl ⟨by rfl, ?_⟩) (by assumption) ?_
                    rotate_left
                    · intro w hSw; (try dsimp only at hSw); go_simp; try (with_reducible rfl)
                    (try simp only [Act.put, List.setIfInBounds_toArray, List.set_cons_zero, List.set_cons_succ])
                    refine wpAnyH_ready (rs := [6]) (by kernel_rfl) (by simp) ?_
                    refine AllReadyH.cons rfl (fun K' hK => ?_) AllReadyH.nil
                    go_simp
                    have ngM : ¬ M g := fun e => A5.out.ml g e rfl
                    by_cases hfl : (T j).su = 2 ∧ (T j).fl = false
                    · have hf := A5.out.inv.fill hjq hfl.1 hfl.2
                      have HF := Lib.hid hf
                      have HFL := Lib.hid hfl
                      clear hf hfl
                      refine (mach_fill A5.out.m A5.out.inv nxk j hjq HFL.out.1 HFL.out.2 y2 _ rfl).mono ?_
                      rintro e w5 ⟨rfl, m5, c5⟩
                      refine hK.out _ _ ⟨c5.keeps hHeld.1 ngM, c5.keeps hHeld.2 nM⟩ (fun _ => ?_)
                      have M5 := Lib.hid m5
                      have C5 := Lib.hid c5
                      have R5 := Lib.hid (A5.out.r.kept c5 (fun k hk e => A5.out.mr k e hk))
                      have bx2 := c5.keeps hHeld.2 nM
                      clear hK K' hHeld m5 c5
                      (try simp only [Act.put, List.setIfInBounds_toArray, List.set_cons_zero, List.set_cons_succ])
                      have hSS : True := trivial
                      refine take_at (v := ?_) 7 (some 12) rfl (by kernel_rfl) (by kernel_rfl) (by kernel_rfl) (by kernel_rfl) (fun _ _ _ h => h) (Or.inl ⟨by rfl, ?_⟩) (by assumption) ?_
                      rotate_left
                      · intro w hSw; (try dsimp only at hSw); go_simp; try (with_reducible rfl)
                      (try simp only [Act.put, List.setIfInBounds_toArray, List.set_cons_zero, List.set_cons_succ])
                      refine wpAnyH_done (by kernel_rfl) ?_ _
                      go_wp2_with fail
                      clear bx2
                      refine (ref_fill R5.out j hjq (by omega) nxk (show Hid (atOf (T j) = 4) from by show atOf (T j) = 4; simp [atOf, HFL.out.1, HFL.out.2]) HF.out.1.2 y2).mono ?_
                      rintro e w6 ⟨rfl, r6, c6⟩
                      have R6 := Lib.hid r6
                      have C6 := Lib.hid c6
                      clear r6 c6
                      go_wp2
                      go_meet
                      case rel =>
                        have r6 := R6.out
                        have e5 : atOf ⟨(T j).st, (T j).su, (T j).pos, true⟩ = 5 := by simp [atOf, HFL.out.1]
                        rw [← e5, atT_upd] at r6
                        rw [← posT_same T j (T j).st (T j).su true] at r6
                        exact ⟨nx, fi, _, _, _, tb, M, R, acts_both A5.out M5.out C5.out (by rw [posT_same] at r6 ⊢; exact r6) (fun k hk => .inl hk) C6.out HF.out.2 (by omega)⟩
                    · have hfl' : (T j).su ≠ 2 ∨ (T j).fl = true := by
                        by_cases hu : (T j).su = 2
                        · right; cases hfe : (T j).fl with
                          | true => rfl
                          | false => exact absurd ⟨hu, hfe⟩ hfl
                        · exact .inl hu
                      have h4 : atOf (T j) ≠ 4 := at_ne4 _ (A5.out.inv.st j hjq) hfl'
                      have HFL := Lib.hid hfl'
                      have H4 := Lib.hid h4
                      clear hfl hfl' h4
                      refine (mach_refuse A5.out.m j hjq HFL.out y2 _ rfl).mono ?_
                      rintro e w5 ⟨rfl, rfl⟩
                      refine hK.out _ _ hHeld (fun _ => ?_)
                      have bx2 := hHeld.2
                      clear hK K'
                      (try simp only [Act.put, List.setIfInBounds_toArray, List.set_cons_zero, List.set_cons_succ])
                      refine take_at (v := ?_) 7 (some 12) rfl (by kernel_rfl) (by kernel_rfl) (by kernel_rfl) (by kernel_rfl) (fun _ _ _ h => h) (Or.inl ⟨by rfl, ?_⟩) (by assumption) ?_
                      rotate_left
                      · intro w hSw; (try dsimp only at hSw); go_simp; try (with_reducible rfl)
                      (try simp only [Act.put, List.setIfInBounds_toArray, List.set_cons_zero, List.set_cons_succ])
                      refine wpAnyH_done (by kernel_rfl) ?_ _
                      clear hHeld
                      go_wp2_with fail
                      clear bx2
                      refine (ref_fillno A5.out.r j hjq (by omega) H4.out y2).mono ?_
                      rintro e w6 ⟨rfl, rfl⟩
                      go_wp2
                      go_meet
                      case rel => exact ⟨nx, fi, P, V, T, tb, M, R, A5.out⟩
                  · have t2 : (y0 == 2) = false := by rw [beq_eq_false_iff_ne]; exact hy2
                    by_cases hy3 : y0 = 3
                    · have t3 : (y0 == 3) = true := by simpa using hy3
                      clear hy1 hy2 hy3
                      cases hP : P fi with
                      | true =>
                        have HPt := Lib.hid hP
                        have hpo := A.out.inv.pop hP
                        have HPO := Lib.hid hpo
                        have hgo : nx ≤ fi → P fi = false := fun hh => absurd hpo.1 (by omega)
                        have HG := Lib.hid hgo
                        clear hP hpo hgo
                        go_wp2_with fail
                        refine (mach_pop A.out.m A.out.inv nxk HPt.out).mono ?_
                        rintro e w5 ⟨rfl, m5, c5⟩
                        have M5 := Lib.hid m5
                        have C5 := Lib.hid c5
                        have R5 := Lib.hid (A.out.r.kept c5 (fun k hk e => A.out.mr k e hk))
                        have hfx : fi ≤ 900000 := by have := A.out.inv.le; omega
                        clear m5 c5
                        go_wp2_with fail
                        refine (ref_pop R5.out HG hfx HPt.out).mono ?_
                        rintro e w6 ⟨rfl, r6, c6⟩
                        have R6 := Lib.hid r6
                        have C6 := Lib.hid c6
                        clear r6 c6
                        have eV : (V fi != V fi) = false := by simp
                        go_wp2
                        go_meet
                        case rel => exact ⟨nx, fi + 1, P, V, T, tb, M, R, acts_both A.out M5.out C5.out R6.out (fun k hk => .inl hk) C6.out HPO.out.2 (by omega)⟩
                      | false =>
                        have HPt := Lib.hid hP
                        have hgo : nx ≤ fi → P fi = false := fun _ => hP
                        have HG := Lib.hid hgo
                        clear hP hgo
                        go_wp2_with fail
                        refine (mach_popnone A.out.m A.out.inv nxk HPt.out).mono ?_
                        rintro e w5 ⟨rfl, m5, c5⟩
                        have M5 := Lib.hid m5
                        have C5 := Lib.hid c5
                        have R5 := Lib.hid (A.out.r.kept c5 (fun k hk e => A.out.mr k e hk))
                        have hfx : fi ≤ 900000 := by have := A.out.inv.le; omega
                        clear m5 c5
                        go_wp2_with fail
                        refine (ref_popnone R5.out HG hfx HPt.out).mono ?_
                        rintro e w6 ⟨rfl, kk, hw6⟩
                        have c6 : Ch R w5 w6 := by rw [hw6]; exact (Ch.refl _ _).drewN kk
                        have R6 := Lib.hid (R5.out.kept (S := Nil) (w' := w6) (by rw [hw6]; exact (Ch.refl _ _).drewN kk) (fun _ _ e => e))
                        have C6 := Lib.hid c6
                        clear c6 hw6
                        go_wp2
                        go_meet
                        case rel => exact ⟨nx, fi, P, V, T, tb, M, R, acts_both A.out M5.out C5.out R6.out (fun k hk => .inl hk) C6.out A.out.inv (by omega)⟩
                    · have t3 : (y0 == 3) = false := by rw [beq_eq_false_iff_ne]; exact hy3
                      clear hy1 hy2 hy3
                      go_wp2
                      go_meet
                      case rel => exact ⟨nx, fi, P, V, T, tb, M, R, A.out⟩
              case rest =>
                clear A B5 nM nR nL hnx nxk LC hq0 dq dq2
                obtain ⟨nx, fi, P, V, T, tb, M, R, hA⟩ := hcut
                have A := Lib.hid hA
                clear hA
                have hle := A.out.inv.le
                have hnx := A.out.few2
                have nxk : nx ≤ 900000 := by omega
                have fik : fi ≤ 900000 := by omega
                obtain ⟨d, hd⟩ : ∃ d, nx = fi + d := ⟨nx - fi, by omega⟩
                have e1 : IntKind.i64.wrap ((nx : Int) - (fi : Int)) = (d : Int) := by rw [IntWalk.i64_in _ (by omega)]; omega
                have HD := Lib.hid hd
                have hgo : nx ≤ fi → P fi = false := fun hh => A.out.inv.pub fi hh
                have HG := Lib.hid hgo
                obtain ⟨a1, a2, a3, k1, k2, k3, hr⟩ := A.out.r
                have rc := hr.rc
                have mrc : ¬ M c := fun e => A.out.mr c e rc
                have hS : wc.drew.cell? ⟨c, 1, none⟩ = some (.slice a1 nx k1) ∧ wc.drew.cell? ⟨c, 3, none⟩ = some (.int .i64 fi) := ⟨hr.p, hr.o⟩
                clear hd hgo hr
                go_upto_region 34 with (fail)
                refine wp_region_held_drew (S := fun w' => w'.cell? ⟨c, 1, none⟩ = some (.slice a1 nx k1) ∧ w'.cell? ⟨c, 3, none⟩ = some (.int .i64 fi)) (by kernel_rfl) hS (fun hHeld => ?_)
                clear hS
                have A5 := Lib.hid (A.out.keptN (Ch.refl _ _).drew)
                clear A
                generalize wc.drew = wd at hHeld A5 ⊢
                refine take_at (v := ?_) 0 (some 152) rfl (by kernel_rfl) (by kernel_rfl) (by kernel_rfl) (by kernel_rfl) (fun _ _ _ h => h) (Or.inl ⟨by rfl, ?_⟩) (by assumption) ?_
                rotate_left
                · intro w hSw; (try dsimp only at hSw); go_simp; try (with_reducible rfl)
                (try simp only [Act.put, List.setIfInBounds_toArray, List.set_cons_zero, List.set_cons_succ])
                refine take_at (v := ?_) 2 (some 154) rfl (by kernel_rfl) (by kernel_rfl) (by kernel_rfl) (by kernel_rfl) (fun _ _ _ h => h) (Or.inl ⟨by rfl, ?_⟩) (by assumption) ?_
                rotate_left
                · intro w hSw; (try dsimp only at hSw); go_simp; try (with_reducible rfl)
                (try simp only [Act.put, List.setIfInBounds_toArray, List.set_cons_zero, List.set_cons_succ])
                refine take_at (v := ?_) 3 (some 155) rfl (by kernel_rfl) (by kernel_rfl) (by kernel_rfl) (by kernel_rfl) (fun _ _ _ h => h) (Or.inl ⟨by rfl, ?_⟩) (by assumption) ?_
                rotate_left
                · intro w hSw; (try dsimp only at hSw); go_simp; try (with_reducible rfl)
                (try simp only [Act.put, List.setIfInBounds_toArray, List.set_cons_zero, List.set_cons_succ])
                refine take_at (v := ?_) 4 (some 156) rfl (by kernel_rfl) (by kernel_rfl) (by kernel_rfl) (by kernel_rfl) (fun _ _ _ h => h) (Or.inl ⟨by rfl, ?_⟩) (by assumption) ?_
                rotate_left
                · intro w hSw; (try dsimp only at hSw); go_simp; try (with_reducible rfl)
                (try simp only [Act.put, List.setIfInBounds_toArray, List.set_cons_zero, List.set_cons_succ])
                refine take_at (v := ?_) 5 (some 157) rfl (by kernel_rfl) (by kernel_rfl) (by kernel_rfl) (by kernel_rfl) (fun _ _ _ h => h) (Or.inl ⟨by rfl, ?_⟩) (by assumption) ?_
                rotate_left
                · intro w hSw; (try dsimp only at hSw); go_simp; try (with_reducible rfl)
                (try simp only [Act.put, List.setIfInBounds_toArray, List.set_cons_zero, List.set_cons_succ])
                refine take_at (v := ?_) 6 (some 158) rfl (by kernel_rfl) (by kernel_rfl) (by kernel_rfl) (by kernel_rfl) (fun _ _ _ h => h) (Or.inl ⟨by rfl, ?_⟩) (by assumption) ?_
                rotate_left
                · intro w hSw; (try dsimp only at hSw); go_simp; try (with_reducible rfl)
                (try simp only [Act.put, List.setIfInBounds_toArray, List.set_cons_zero, List.set_cons_succ])
                refine take_at (v := ?_) 7 (some 159) rfl (by kernel_rfl) (by kernel_rfl) (by kernel_rfl) (by kernel_rfl) (fun _ _ _ h => h) (Or.inl ⟨by rfl, ?_⟩) (by assumption) ?_
                rotate_left
                · intro w hSw; (try dsimp only at hSw); go_simp; try (with_reducible rfl)
                (try simp only [Act.put, List.setIfInBounds_toArray, List.set_cons_zero, List.set_cons_succ])
                refine take_at (v := ?_) 8 (some 160) rfl (by kernel_rfl) (by kernel_rfl) (by kernel_rfl) (by kernel_rfl) (fun _ _ _ h => h) (Or.inl ⟨by rfl, ?_⟩) (by assumption) ?_
                rotate_left
                · intro w hSw; (try dsimp only at hSw); go_simp; try (with_reducible rfl)
                (try simp only [Act.put, List.setIfInBounds_toArray, List.set_cons_zero, List.set_cons_succ])
                refine take_at (v := ?_) 9 (some 161) rfl (by kernel_rfl) (by kernel_rfl) (by kernel_rfl) (by kernel_rfl) (fun _ _ _ h => h) (Or.inl ⟨by rfl, ?_⟩) (by assumption) ?_
                rotate_left
                · intro w hSw; (try dsimp only at hSw); go_simp; try (with_reducible rfl)
                (try simp only [Act.put, List.setIfInBounds_toArray, List.set_cons_zero, List.set_cons_succ])
                refine take_at (v := ?_) 10 (some 162) rfl (by kernel_rfl) (by kernel_rfl) (by kernel_rfl) (by kernel_rfl) (fun _ _ _ h => h) (Or.inl ⟨by rfl, ?_⟩) (by assumption) ?_
                rotate_left
                · intro w hSw; (try dsimp only at hSw); go_simp; try (with_reducible rfl)
                (try simp only [Act.put, List.setIfInBounds_toArray, List.set_cons_zero, List.set_cons_succ])
                refine take_at (v := ?_) 11 (some 163) rfl (by kernel_rfl) (by kernel_rfl) (by kernel_rfl) (by kernel_rfl) (fun _ _ _ h => h) (Or.inl ⟨by rfl, ?_⟩) (by assumption) ?_
                rotate_left
                · intro w hSw; (try dsimp only at hSw); go_simp; try (with_reducible rfl)
                (try simp only [Act.put, List.setIfInBounds_toArray, List.set_cons_zero, List.set_cons_succ])
                clear e1
                refine wpAnyH_ready (rs := [1]) (by kernel_rfl) (by simp) ?_
                refine AllReadyH.cons rfl (fun K' hK => ?_) AllReadyH.nil
                go_simp
                refine (mach_len A5.out.m nxk d HD).mono ?_
                rintro e w5 ⟨rfl, m5, c5⟩
                refine hK.out _ _ ⟨c5.keeps hHeld.1 mrc, c5.keeps hHeld.2 mrc⟩ (fun hHeld => ?_)
                have A6 := Lib.hid (acts_both A5.out m5 c5 (A5.out.r.kept c5 (fun k hk e => A5.out.mr k e hk)) (fun k hk => .inl hk) (Ch.refl _ _) A5.out.inv A5.out.few2)
                clear hK K' m5 c5 A5
                (try simp only [Act.put, List.setIfInBounds_toArray, List.set_cons_zero, List.set_cons_succ])
                have e2 : ((d : Int) != (d : Int)) = false := by simp
                refine take_at (v := ?_) 12 (some 164) rfl (by kernel_rfl) (by kernel_rfl) (by kernel_rfl) (by kernel_rfl) (fun _ _ _ h => h) (Or.inl ⟨by rfl, ?_⟩) (by assumption) ?_
                rotate_left
                · intro w hSw; (try dsimp only at hSw); go_simp; try (with_reducible rfl)
                (try simp only [Act.put, List.setIfInBounds_toArray, List.set_cons_zero, List.set_cons_succ])
                refine take_at (v := ?_) 13 (some 165) rfl (by kernel_rfl) (by kernel_rfl) (by kernel_rfl) (by kernel_rfl) (fun _ _ _ h => h) (Or.inl ⟨by rfl, ?_⟩) (by assumption) ?_
                rotate_left
                · intro w hSw; (try dsimp only at hSw); go_simp; try (with_reducible rfl)
                (try simp only [Act.put, List.setIfInBounds_toArray, List.set_cons_zero, List.set_cons_succ])
                refine take_at (v := ?_) 14 (some 166) rfl (by kernel_rfl) (by kernel_rfl) (by kernel_rfl) (by kernel_rfl) (fun _ _ _ h => h) (Or.inl ⟨by rfl, ?_⟩) (by assumption) ?_
                rotate_left
                · intro w hSw; (try dsimp only at hSw); go_simp; try (with_reducible rfl)
                (try simp only [Act.put, List.setIfInBounds_toArray, List.set_cons_zero, List.set_cons_succ])
                refine take_at (v := ?_) 16 (some 168) rfl (by kernel_rfl) (by kernel_rfl) (by kernel_rfl) (by kernel_rfl) (fun _ _ _ h => h) (Or.inl ⟨by rfl, ?_⟩) (by assumption) ?_
                rotate_left
                · intro w hSw; (try dsimp only at hSw); go_simp; try (with_reducible rfl)
                (try simp only [Act.put, List.setIfInBounds_toArray, List.set_cons_zero, List.set_cons_succ])
                refine wpAnyH_ready (rs := [15]) (by kernel_rfl) (by simp) ?_
                refine AllReadyH.cons rfl (fun K' hK => ?_) AllReadyH.nil
                go_simp
                refine (mach_ready A6.out.m A6.out.inv nxk).mono ?_
                rintro e w6 ⟨rfl, m5, c5⟩
                refine hK.out _ _ ⟨c5.keeps hHeld.1 mrc, c5.keeps hHeld.2 mrc⟩ (fun hHeld => ?_)
                have A7 := Lib.hid (acts_both A6.out m5 c5 (A6.out.r.kept c5 (fun k hk e => A6.out.mr k e hk)) (fun k hk => .inl hk) (Ch.refl _ _) A6.out.inv A6.out.few2)
                clear hK K' m5 c5 A6
                (try simp only [Act.put, List.setIfInBounds_toArray, List.set_cons_zero, List.set_cons_succ])
                refine wpAnyH_ready (rs := [17]) (by kernel_rfl) (by simp) ?_
                refine AllReadyH.cons rfl (fun K' hK => ?_) AllReadyH.nil
                go_simp
                refine (ref_ready A7.out.r HG fik).mono ?_
                rintro e w7 ⟨rfl, kk, hw7⟩
                have c7 : Ch Nil w6 w7 := by rw [hw7]; exact (Ch.refl _ _).drewN kk
                refine hK.out _ _ ⟨c7.keeps hHeld.1 (fun e => e), c7.keeps hHeld.2 (fun e => e)⟩ (fun hHeld => ?_)
                have A8 := Lib.hid (A7.out.keptN c7)
                clear hK K' c7 hw7 A7
                (try simp only [Act.put, List.setIfInBounds_toArray, List.set_cons_zero, List.set_cons_succ])
                have e3 : (P fi != P fi) = false := by simp
                refine take_at (v := ?_) 18 (some 170) rfl (by kernel_rfl) (by kernel_rfl) (by kernel_rfl) (by kernel_rfl) (fun _ _ _ h => h) (Or.inl ⟨by rfl, ?_⟩) (by assumption) ?_
                rotate_left
                · intro w hSw; (try dsimp only at hSw); go_simp; try (with_reducible rfl)
                (try simp only [Act.put, List.setIfInBounds_toArray, List.set_cons_zero, List.set_cons_succ])
                refine take_at (v := ?_) 19 (some 171) rfl (by kernel_rfl) (by kernel_rfl) (by kernel_rfl) (by kernel_rfl) (fun _ _ _ h => h) (Or.inl ⟨by rfl, ?_⟩) (by assumption) ?_
                rotate_left
                · intro w hSw; (try dsimp only at hSw); go_simp; try (with_reducible rfl)
                (try simp only [Act.put, List.setIfInBounds_toArray, List.set_cons_zero, List.set_cons_succ])
                refine wpAnyH_done (by kernel_rfl) ?_ _
                clear hHeld
                go_wp2
                go_roundw
                case rel => exact ⟨k + 1, by omega, by go_num, nx, fi, q, P, V, T, tb, M, R, _, kl, rfl, A8.out⟩
                case measure => simp [intOf]; omega
        · obtain rfl : k = len := by omega
          clear hlt
          go_wp2
          go_ret
          exact ⟨rfl, A.out.ch.below (Nat.le_refl _) (fun _ _ h => h.elim)⟩

theorem RingActs_own : ownKnob Try.prog.godebug = none := by kernel_rfl
theorem RingActs_laidOut : laidOutB Try.prog = true := by kernel_rfl

set_option maxRecDepth 100000 in
theorem RingActs_lifted (os : Os) (started : os.Started) (H : Type) (enc : TypeId × Value → H) :
    ReturnsInHanded {} Try.checked os 3 .any (Rows.ringActsSpec.pre6 enc Try.prog Try.f3 Rows.ringActsRow.domain false) (Rows.ringActsSpec.post enc Try.prog Try.f3 false true false false) := by
  refine returnsInHanded_of_change (C := Try.checked) RingActs_own started (by kernel_rfl) Try.func3
    (ChangeSpec.witness6 (enc := enc) (C := Try.checked) false ⟨#[], #[.int .i64 0, .slice none 0 0], []⟩ 8 (by kernel_rfl) (by kernel_rfl) (by kernel_rfl) (by kernel_rfl)) ?_
  intro W base args ds gs before hval0 hW hcnd _
  have hval : ∀ (j : Nat) t v, Try.f3.params[j]? = some t → args[j]? = some v → Value.okWide Try.prog W .any base t v := hval0
  have hW' := hW
  obtain ⟨p, q, hA0, hV, rfl, hfz, hnd⟩ := hW
  have hA : DataW.TrodAll enc Try.prog W 0 (fun _ => true) true Try.f3.params.toList args.toList ds p := hA0
  rw [Try.params3] at hA hval
  obtain ⟨v0, vs0, d0, ds0, p0, q0, hargs, rfl, rfl, h0, r0⟩ := trodAll_cons hA
  obtain ⟨v1, vs1, d1, ds1, p1, q1, rfl, rfl, rfl, h1, r1⟩ := trodAll_cons r0
  obtain ⟨rfl, rfl, rfl⟩ := trodAll_nil r1
  obtain rfl : args = #[v0, v1] := by cases args; simp_all
  obtain ⟨rfl, rfl⟩ := trodVars_none hV
  obtain ⟨a0, rfl, rfl, rfl, w0⟩ := open_int Try.underlying3 (hval 0 3 v0 rfl rfl) h0
  obtain ⟨a1, len1, cap1, rfl⟩ := okWide_slice Try.underlying22 (hval 1 22 v1 rfl rfl)
  have k1 := h1
  have lt1 : ∀ x ∈ p1, x.block < W.heap.size := by obtain ⟨m, hm⟩ := k1; exact DataW.trod_lt m _ _ _ hm
  have w1 : IsTab [.i .i64, .i .i64, .i .i64] W a1 len1 cap1 := by
    obtain ⟨fuel, hf⟩ := h1
    exact open_tab _ Try.underlying22 Try.underlying36 (by kernel_rfl) (by kernel_rfl) hf
  clear hA0 hval0
  refine (RingActs_walk a0 a1 len1 cap1 w0 W w1).mono fun e W' ⟨he, bel⟩ => ?_
  subst he
  exact ⟨_, rfl, _, _, _, [], _, [], hW', trodAll_mk1 (shut_bool Try.underlying4 _), (trodAll_cons_mk (shut_int Try.underlying3 w0) (trodAll_cons_mk (Below.trod RingActs_laidOut (by kernel_rfl) (of_decide_eq_true (by kernel_rfl)) k1 bel lt1) trodAll_mk0)), rfl, bel.frame _, fun h => by cases h⟩

theorem ringActs_holds : Rows.RingActsSaid :=
  OpenClaim.holds_of_wide 3 Try.f3 rfl rfl rfl rfl rfl rfl rfl ⟨rfl, rfl, rfl, rfl, rfl⟩ rfl rfl rfl rfl rfl (by kernel_rfl) Try.func3 (by kernel_rfl)
    (of_decide_eq_true (by kernel_rfl)) (by unfold Func.isWrapper; rw [if_neg (of_decide_eq_false (by kernel_rfl))]; exact ⟨rfl, rfl⟩)
    (fun os started H enc _ => RingActs_lifted os started H enc)
end Go.Proofs.Ytklgmecmgbfhgaa
