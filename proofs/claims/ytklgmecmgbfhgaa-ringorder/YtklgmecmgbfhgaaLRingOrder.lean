/-
  Proved: for every n and picks the statement RingOrder returns true: however tickets step between each other, all that is filled is popped, each once, in the order in which positions were taken, and never more are taken than there is room; and nothing that was there is changed. Conditions: none.
-/
import Derived.Test.YtklgmecmgbfhgaaRingAlive
import Derived.Test.YtklgmecmgbfhgaaRingMach
import Derived.Test.YtklgmecmgbfhgaaOwnRow
import Derived.Test.YtklgmecmgbfhgaaRingMap
import Derived.Test.YtklgmecmgbfhgaaIsRow
import Derived.Deep.Cut
import Derived.Deep.CutRange
import Derived.Deep.CutBlock
import Derived.ProofKit
import Derived.OpenShut
import Derived.ChangeOld
import Derived.Below
namespace Go.Proofs.Ytklgmecmgbfhgaa
open Go.ChangeShapes Go.WideShapes Go.ChangeAt Go.RowKit Verge RI
set_option linter.unusedVariables false
set_option linter.unusedSimpArgs false
attribute [local go_sem] Oper.semAt_some

theorem own_some' (g : Nat) : OwnS (some ⟨g, 0, none⟩) g := rfl
theorem own_eq' {g k : Nat} (h : OwnS (some ⟨g, 0, none⟩) k) : k = g := by simpa [OwnS] using h.symm
abbrev ptrO (tb : Nat → Nat) : Nat → Value := fun k => .pointer (some ⟨tb k, 0, none⟩)
abbrev intO (hd : Nat → Nat) : Nat → Value := fun k => .int .i64 (hd k)
/-- what the loops keep -/
structure OrdB (w wr : World) (b sb mb n kk nx fi q cnt : Nat) (P : Nat → Bool) (V : Nat → Int) (T : Nat → TSt) (tb hd : Nat → Nat) (F : Nat → Bool) (M : Nat → Prop) (al ah : Option Addr) (kl kh : Nat) : Prop where
  m : Mach wr M b sb n nx fi q P V tb T
  l : Row wr 37 1 al q kl (ptrO tb)
  h : Row wr 3 1 ah nx kh (intO hd)
  f : MapB wr mb cnt F
  inv : Inv n nx fi q P T
  hdo : ∀ p, p < nx → hd p < q ∧ (T (hd p)).su = 2 ∧ (T (hd p)).pos = p
  val : ∀ p, P p = true → V p = hd p
  ml : ∀ k, M k → ¬ OwnS al k
  mh : ∀ k, M k → ¬ OwnS ah k
  lh : ∀ k, OwnS al k → ¬ OwnS ah k
  mm : ¬ M mb
  lm : ¬ OwnS al mb
  hm : ¬ OwnS ah mb
  mw : ∀ k, M k → w.heap.size ≤ k
  lw : ∀ k, OwnS al k → w.heap.size ≤ k
  hw : ∀ k, OwnS ah k → w.heap.size ≤ k
  bw : w.heap.size ≤ mb
  few : q ≤ kk
  few2 : nx ≤ kk
  few3 : cnt ≤ kk
  ch : Ch Nil w wr
/-- .. and the map says which tickets filled -/
structure OrdIn (w wr : World) (b sb mb n kk nx fi q cnt : Nat) (P : Nat → Bool) (V : Nat → Int) (T : Nat → TSt) (tb hd : Nat → Nat) (F : Nat → Bool) (M : Nat → Prop) (al ah : Option Addr) (kl kh : Nat) : Prop where
  o : OrdB w wr b sb mb n kk nx fi q cnt P V T tb hd F M al ah kl kh
  fl : ∀ k, k < q → F k = (T k).fl
  no : ∀ k, q ≤ k → F k = false
/-- wherever it lies -/
def Ord (w wr : World) (b sb mb n kk : Nat) (l h got : Value) : Prop := ∃ nx fi q cnt P V T tb hd F M al ah kl kh, l = .slice al q kl ∧ h = .slice ah nx kh ∧ got = .int .i64 (fi : Nat) ∧ OrdIn w wr b sb mb n kk nx fi q cnt P V T tb hd F M al ah kl kh

theorem tick_took {n nx fi nx' : Nat} {P : Nat → Bool} {t s' : TSt} (h : tickStep n nx fi P t = (nx', s')) : s'.fl = t.fl ∧ ((nx' = nx ∧ (t.su = 2 → s' = t)) ∨ (nx' = nx + 1 ∧ s'.su = 2 ∧ s'.pos = nx ∧ t.su = 0)) := by
  unfold tickStep at h
  split at h
  · simp only [Prod.mk.injEq] at h
    obtain ⟨rfl, rfl⟩ := h
    exact ⟨rfl, .inl ⟨rfl, fun _ => rfl⟩⟩
  · rename_i h0
    have h0' : t.su = 0 := by simpa using h0
    have no2 : t.su = 2 → s' = t := fun e => by rw [h0'] at e; cases e
    split at h
    · simp only [Prod.mk.injEq] at h
      obtain ⟨rfl, rfl⟩ := h
      exact ⟨rfl, .inl ⟨rfl, no2⟩⟩
    · split at h
      · split at h
        · simp only [Prod.mk.injEq] at h
          obtain ⟨rfl, rfl⟩ := h
          exact ⟨rfl, .inl ⟨rfl, no2⟩⟩
        · split at h
          · simp only [Prod.mk.injEq] at h
            obtain ⟨rfl, rfl⟩ := h
            exact ⟨rfl, .inl ⟨rfl, no2⟩⟩
          · simp only [Prod.mk.injEq] at h
            obtain ⟨rfl, rfl⟩ := h
            exact ⟨rfl, .inl ⟨rfl, no2⟩⟩
      · split at h
        · rename_i e
          simp only [Prod.mk.injEq] at h
          obtain ⟨rfl, rfl⟩ := h
          exact ⟨rfl, .inr ⟨rfl, rfl, e.symm, h0'⟩⟩
        · simp only [Prod.mk.injEq] at h
          obtain ⟨rfl, rfl⟩ := h
          exact ⟨rfl, .inl ⟨rfl, no2⟩⟩

section
variable {w wr w5 w6 : World} {b sb mb n kk nx fi q cnt : Nat} {P : Nat → Bool} {V : Nat → Int} {T : Nat → TSt} {tb hd : Nat → Nat} {F : Nat → Bool} {M : Nat → Prop} {al ah : Option Addr} {kl kh : Nat}
/-- the ring turned, no position was taken -/
theorem OrdB.turn {fi' : Nat} {P' : Nat → Bool} {V' : Nat → Int} {T' : Nat → TSt} (h : OrdB w wr b sb mb n kk nx fi q cnt P V T tb hd F M al ah kl kh) (hm : Mach w5 M b sb n nx fi' q P' V' tb T') (c5 : Ch M wr w5) (hi : Inv n nx fi' q P' T')
    (hh : ∀ p, p < nx → (T' (hd p)).su = 2 ∧ (T' (hd p)).pos = p) (hv : ∀ p, P' p = true → V' p = hd p) : OrdB w w5 b sb mb n kk nx fi' q cnt P' V' T' tb hd F M al ah kl kh :=
  ⟨hm, h.l.kept c5 (fun k hk e => h.ml k e hk), h.h.kept c5 (fun k hk e => h.mh k e hk), h.f.kept c5 h.mm, hi, fun p hp => ⟨(h.hdo p hp).1, hh p hp⟩, hv, h.ml, h.mh, h.lh, h.mm, h.lm, h.hm, h.mw, h.lw, h.hw, h.bw, h.few, h.few2, h.few3,
    h.ch.then c5 (fun i hi e => by have := h.mw i e; omega)⟩
theorem OrdB.still (h : OrdB w wr b sb mb n kk nx fi q cnt P V T tb hd F M al ah kl kh) (hm : Mach w5 M b sb n nx fi q P V tb T) (c5 : Ch M wr w5) : OrdB w w5 b sb mb n kk nx fi q cnt P V T tb hd F M al ah kl kh :=
  h.turn hm c5 h.inv (fun p hp => (h.hdo p hp).2) h.val
theorem OrdB.keptN (h : OrdB w wr b sb mb n kk nx fi q cnt P V T tb hd F M al ah kl kh) (c : Ch Nil wr w5) : OrdB w w5 b sb mb n kk nx fi q cnt P V T tb hd F M al ah kl kh :=
  h.still (h.m.kept c (fun _ _ e => e)) (c.mono fun _ _ e => e.elim)
theorem OrdB.more (h : OrdB w wr b sb mb n kk nx fi q cnt P V T tb hd F M al ah kl kh) : OrdB w wr b sb mb n (kk + 1) nx fi q cnt P V T tb hd F M al ah kl kh :=
  ⟨h.m, h.l, h.h, h.f, h.inv, h.hdo, h.val, h.ml, h.mh, h.lh, h.mm, h.lm, h.hm, h.mw, h.lw, h.hw, h.bw, by have := h.few; omega, by have := h.few2; omega, by have := h.few3; omega, h.ch⟩
/-- a new ticket -/
theorem OrdIn.begin {t g H6 cap : Nat} (h : OrdIn w wr b sb mb n kk nx fi q cnt P V T tb hd F M al ah kl kh) (ht : wr.heap.size ≤ t) (hm : Mach w5 (fun k => M k ∨ k = t) b sb n nx fi (q + 1) P V (upd tb q t) (upd T q ⟨0, 0, 0, false⟩)) (c5 : Ch Nil wr w5)
    (c6 : Ch (OwnS al) w5 w6) (r6 : Row w6 37 1 (some ⟨g, 0, none⟩) (q + 1) cap (ptrO (upd tb q t))) (hat : OwnS al g ∨ g = H6) (h6 : w5.heap.size ≤ H6) :
    OrdIn w w6 b sb mb n (kk + 1) nx fi (q + 1) cnt P V (upd T q ⟨0, 0, 0, false⟩) (upd tb q t) hd F (fun k => M k ∨ k = t) (some ⟨g, 0, none⟩) ah cap kh := by
  have s5 := c5.size
  have s4 := h.o.ch.size
  have lal := h.o.l.lt
  have lah := h.o.h.lt
  have lmb := h.o.f.lt
  have mt5 : ∀ k, (M k ∨ k = t) → ¬ OwnS al k := by
    intro k hk e
    rcases hk with hk | rfl
    · exact h.o.ml k hk e
    · have := lal _ e; omega
  have gm : ∀ k, (M k ∨ k = t) → k ≠ g := by
    intro k hk e
    subst e
    rcases hat with e | e
    · exact mt5 k hk e
    · have := hm.lt k hk; omega
  have gh : ¬ OwnS ah g := by
    intro e
    rcases hat with e1 | e1
    · exact h.o.lh g e1 e
    · have := lah g e; omega
  have gmb : g ≠ mb := by
    intro e
    rcases hat with e1 | e1
    · exact h.o.lm (e ▸ e1)
    · omega
  have gw : w.heap.size ≤ g := by
    rcases hat with e | e
    · exact h.o.lw g e
    · omega
  refine ⟨⟨hm.kept c6 mt5, r6, (h.o.h.kept c5 (fun _ _ e => e)).kept c6 (fun k hk e => h.o.lh k e hk), (h.o.f.kept c5 (fun e => e)).kept c6 h.o.lm, h.o.inv.begin, ?_, h.o.val, ?_, ?_, ?_, ?_, ?_, h.o.hm, ?_, ?_, h.o.hw, h.o.bw, ?_, ?_, ?_, ?_⟩, ?_, ?_⟩
  · intro p hp
    have := h.o.hdo p hp
    rw [upd_other _ _ _ _ (by omega)]
    exact ⟨by omega, this.2⟩
  · intro k hk e; exact gm k hk (own_eq' e)
  · intro k hk e
    rcases hk with hk | rfl
    · exact h.o.mh k hk e
    · have := lah _ e; omega
  · intro k hk e; rw [own_eq' hk] at e; exact gh e
  · intro e
    rcases e with e | e
    · exact h.o.mm e
    · omega
  · intro e; exact gmb (own_eq' e).symm
  · intro k hk
    rcases hk with hk | rfl
    · exact h.o.mw k hk
    · omega
  · intro k hk; rw [own_eq' hk]; exact gw
  · have := h.o.few; omega
  · have := h.o.few2; omega
  · have := h.o.few3; omega
  · exact (h.o.ch.trans c5).then c6 (fun i hi e => by have := h.o.lw i e; omega)
  · intro k hk
    by_cases e : k = q
    · subst e; rw [upd_same]; exact h.no k (Nat.le_refl _)
    · rw [upd_other _ _ _ _ e]; exact h.fl k (by omega)
  · intro k hk; exact h.no k (by omega)
/-- a position was taken -/
theorem OrdIn.taken {j g H6 cap : Nat} {s' : TSt} (h : OrdIn w wr b sb mb n kk nx fi q cnt P V T tb hd F M al ah kl kh) (hj : j < q) (hm : Mach w5 M b sb n (nx + 1) fi q P V tb (upd T j s')) (c5 : Ch M wr w5) (hi : Inv n (nx + 1) fi q P (upd T j s'))
    (h1 : s'.fl = (T j).fl) (h2 : s'.su = 2) (h3 : s'.pos = nx) (h4 : (T j).su = 0)
    (c6 : Ch (OwnS ah) w5 w6) (r6 : Row w6 3 1 (some ⟨g, 0, none⟩) (nx + 1) cap (intO (upd hd nx j))) (hat : OwnS ah g ∨ g = H6) (h6 : w5.heap.size ≤ H6) (hk : nx + 1 ≤ kk) :
    OrdIn w w6 b sb mb n kk (nx + 1) fi q cnt P V (upd T j s') tb (upd hd nx j) F M al (some ⟨g, 0, none⟩) kl cap := by
  have s5 := c5.size
  have s4 := h.o.ch.size
  have lal := h.o.l.lt
  have lah := h.o.h.lt
  have lmb := h.o.f.lt
  have gm : ∀ k, M k → k ≠ g := by
    intro k hk e
    subst e
    rcases hat with e | e
    · exact h.o.mh k hk e
    · have := h.o.m.lt k hk; omega
  have gl : ∀ k, OwnS al k → k ≠ g := by
    intro k hk e
    subst e
    rcases hat with e | e
    · exact h.o.lh k hk e
    · have := lal k hk; omega
  have gmb : g ≠ mb := by
    intro e
    rcases hat with e1 | e1
    · exact h.o.hm (e ▸ e1)
    · omega
  have gw : w.heap.size ≤ g := by
    rcases hat with e | e
    · exact h.o.hw g e
    · omega
  refine ⟨⟨hm.kept c6 h.o.mh, (h.o.l.kept c5 (fun k hk e => h.o.ml k e hk)).kept c6 h.o.lh, r6, (h.o.f.kept c5 h.o.mm).kept c6 h.o.hm, hi, ?_, ?_, h.o.ml, ?_, ?_, h.o.mm, h.o.lm, ?_, h.o.mw, h.o.lw, ?_, h.o.bw, h.o.few, hk, h.o.few3, ?_⟩, ?_, h.no⟩
  · intro p hp
    by_cases e : p = nx
    · subst e
      rw [upd_same, upd_same]
      exact ⟨hj, h2, h3⟩
    · rw [upd_other _ _ _ _ e]
      have := h.o.hdo p (by omega)
      rw [upd_other _ _ _ _ (by intro e2; rw [e2, h4] at this; exact absurd this.2.1 (by decide))]
      exact this
  · intro p hp
    have : p ≠ nx := by
      intro e
      rw [e, h.o.inv.pub nx (Nat.le_refl _)] at hp
      cases hp
    rw [upd_other _ _ _ _ this]
    exact h.o.val p hp
  · intro k hk e; exact gm k hk (own_eq' e)
  · intro k hk e; exact gl k hk (own_eq' e)
  · intro e; exact gmb (own_eq' e).symm
  · intro k hk; rw [own_eq' hk]; exact gw
  · exact (h.o.ch.then c5 (fun i hi e => by have := h.o.mw i e; omega)).then c6 (fun i hi e => by have := h.o.hw i e; omega)
  · intro k hk
    by_cases e : k = j
    · subst e; rw [upd_same, h1]; exact h.fl k hk
    · rw [upd_other _ _ _ _ e]; exact h.fl k hk
/-- a step that took no position -/
theorem OrdIn.stepped {j : Nat} {s' : TSt} (h : OrdIn w wr b sb mb n kk nx fi q cnt P V T tb hd F M al ah kl kh) (hj : j < q) (hm : Mach w5 M b sb n nx fi q P V tb (upd T j s')) (c5 : Ch M wr w5) (hi : Inv n nx fi q P (upd T j s'))
    (h1 : s'.fl = (T j).fl) (h2 : (T j).su = 2 → s' = T j) : OrdIn w w5 b sb mb n kk nx fi q cnt P V (upd T j s') tb hd F M al ah kl kh := by
  refine ⟨h.o.turn hm c5 hi (fun p hp => ?_) h.o.val, fun k hk => ?_, h.no⟩
  · have := (h.o.hdo p hp).2
    by_cases e : hd p = j
    · rw [e] at this ⊢
      rw [upd_same, h2 this.1]
      exact this
    · rw [upd_other _ _ _ _ e]; exact this
  · by_cases e : k = j
    · subst e; rw [upd_same, h1]; exact h.fl k hk
    · rw [upd_other _ _ _ _ e]; exact h.fl k hk
/-- a position was filled, by whom holds it, with its number -/
theorem OrdB.filled {j : Nat} (h : OrdB w wr b sb mb n kk nx fi q cnt P V T tb hd F M al ah kl kh) (hj : j < q) (h2 : (T j).su = 2) (h3 : (T j).fl = false)
    (hm : Mach w5 M b sb n nx fi q (upd P (T j).pos true) (upd V (T j).pos (j : Int)) tb (upd T j ⟨(T j).st, (T j).su, (T j).pos, true⟩)) (c5 : Ch M wr w5) :
    OrdB w w5 b sb mb n kk nx fi q cnt (upd P (T j).pos true) (upd V (T j).pos (j : Int)) (upd T j ⟨(T j).st, (T j).su, (T j).pos, true⟩) tb hd F M al ah kl kh := by
  have hf := h.inv.fill hj h2 h3
  have hjp : hd (T j).pos = j := by
    have := h.hdo _ hf.1.2
    exact h.inv.apart _ _ this.1 hj this.2.1 h2 this.2.2
  refine h.turn hm c5 hf.2 (fun p hp => ?_) (fun p hp => ?_)
  · have := (h.hdo p hp).2
    by_cases e : hd p = j
    · rw [e] at this ⊢
      rw [upd_same]
      exact ⟨h2, this.2⟩
    · rw [upd_other _ _ _ _ e]; exact this
  · by_cases e : p = (T j).pos
    · rw [e, upd_same, hjp]
    · rw [upd_other _ _ _ _ e] at hp ⊢; exact h.val p hp
/-- .. and set down in the map -/
theorem OrdIn.noted {j : Nat} (h : OrdIn w wr b sb mb n kk nx fi q cnt P V T tb hd F M al ah kl kh) (hj : j < q) (h2 : (T j).su = 2) (h3 : (T j).fl = false)
    (hm : Mach w5 M b sb n nx fi q (upd P (T j).pos true) (upd V (T j).pos (j : Int)) tb (upd T j ⟨(T j).st, (T j).su, (T j).pos, true⟩)) (c5 : Ch M wr w5) (hf : MapB w6 mb (cnt + 1) (upd F j true)) (c6 : Ch (One mb) w5 w6) (hc : cnt + 1 ≤ kk) :
    OrdIn w w6 b sb mb n kk nx fi q (cnt + 1) (upd P (T j).pos true) (upd V (T j).pos (j : Int)) (upd T j ⟨(T j).st, (T j).su, (T j).pos, true⟩) tb hd (upd F j true) M al ah kl kh := by
  have o := h.o.filled hj h2 h3 hm c5
  refine ⟨⟨o.m.kept c6 (fun k hk e => by change k = mb at e; subst e; exact o.mm hk), o.l.kept c6 (fun k hk e => by change k = mb at e; subst e; exact o.lm hk), o.h.kept c6 (fun k hk e => by change k = mb at e; subst e; exact o.hm hk), hf, o.inv, o.hdo, o.val, o.ml, o.mh, o.lh, o.mm, o.lm, o.hm, o.mw, o.lw, o.hw, o.bw, o.few, o.few2, hc,
    o.ch.then c6 (fun i hi e => by change i = mb at e; have := o.bw; omega)⟩, ?_, ?_⟩
  · intro k hk
    by_cases e : k = j
    · subst e; rw [upd_same, upd_same]
    · rw [upd_other _ _ _ _ e, upd_other _ _ _ _ e]; exact h.fl k hk
  · intro k hk
    rw [upd_other _ _ _ _ (by omega)]
    exact h.no k hk
end
/-- what the second loop keeps: i0 positions are published for good -/
def Fin2 (w wr : World) (b sb mb n kk nx fi q cnt : Nat) (tb hd : Nat → Nat) (F : Nat → Bool) (M : Nat → Prop) (al ah : Option Addr) (kl kh i0 : Nat) : Prop :=
  ∃ P V T, OrdB w wr b sb mb n kk nx fi q cnt P V T tb hd F M al ah kl kh ∧ (∀ p, p < i0 → P p = true) ∧ (∀ p, i0 ≤ p → p < nx → F (hd p) = (T (hd p)).fl)
/-- behind 'if r.Len() == was+1' -/
def MidO (w wc : World) (b sb mb n kk nx fi q : Nat) (P : Nat → Bool) (V : Nat → Int) (T : Nat → TSt) (tb : Nat → Nat) (F : Nat → Bool) (M : Nat → Prop) (al : Option Addr) (kl : Nat) (h : Value) : Prop :=
  ∃ cnt hd ah kh, h = .slice ah nx kh ∧ cnt + 1 ≤ kk ∧ OrdIn w wc b sb mb n kk nx fi q cnt P V T tb hd F M al ah kl kh
set_option maxHeartbeats 16000000 in
set_option maxRecDepth 100000 in
theorem RingOrder_walk (n : Int) (a1 : Option Addr) (len cap : Nat) (zs : List Int) (wa : (Lit.int .u8 n).wf = true) (w : World) (hr : IsRow .u8 w a1 len cap zs) :
    Calls Try.prog 4 #[.int .u8 n, .slice a1 len cap] w fun e w' => e = .returned (.bool true) ∧ Below w.heap.size w w' := by
  obtain ⟨ha, ha'⟩ := bounds_u8 wa
  obtain ⟨m, hm⟩ : ∃ m : Nat, 1 + n % 8 = (m : Int) := ⟨(1 + n % 8).toNat, by omega⟩
  have m0 : 0 < m := by omega
  have m1 : m ≤ 64 := by omega
  have HM := Lib.hid hm
  clear wa hm
  have HR := Lib.hid hr
  have hsm := hr.small
  clear hr
  by_cases h2 : 200 < (len : Int)
  · go_enter Try.func4, Try.ntmps4
    go_wp2_with fail
    refine (alive_any _).mono ?_
    rintro e w1 ⟨rfl, c1⟩
    go_wp2
    go_ret
    exact ⟨rfl, c1.below (Nat.le_refl _) (fun _ _ h => h.elim)⟩
  · go_enter Try.func4, Try.ntmps4
    go_wp2_with fail
    refine (alive_any _).mono ?_
    rintro e w1 ⟨rfl, c1⟩
    go_wp2_with fail
    rw [HM.out]
    refine (mach_new m _ m0 m1 (fun _ => ⟨0, 0, 0, false⟩) (fun _ => 0)).mono ?_
    rintro e w2 ⟨b, sb, M, rfl, hM, h2', c2⟩
    have hMw : ∀ k, M k → w.heap.size ≤ k := fun k hk => by have := hM k hk; have := c1.size; omega
    have A0 : Hid (Ord w (w2.alloc (.map #[] 0)) b sb w2.heap.size m 0 (.slice none 0 0) (.slice none 0 0) (.int .i64 0)) := by
      have cA : Ch Nil w2 (w2.alloc (.map #[] 0)) := (Ch.refl _ _).alloc _
      have hsz := c1.size
      have hsz2 := c2.size
      have hone : ∀ k, ¬ OwnS none k := fun k e => by cases e
      exact ⟨0, 0, 0, 0, fun _ => false, fun _ => 0, fun _ => ⟨0, 0, 0, false⟩, fun _ => 0, fun _ => 0, fun _ => false, M, none, none, 0, 0, rfl, rfl, rfl, ⟨h2'.kept cA (fun _ _ e => e), Row.nil _ _ _ _, Row.nil _ _ _ _, MapB.new w2, Inv.new _ _, by omega, (fun p hp => by cases hp),
        fun k _ => hone k, fun k _ => hone k, fun k e => absurd e (hone k), fun e => by have := h2'.lt _ e; omega, hone _, hone _, hMw, fun k e => absurd e (hone k), fun k e => absurd e (hone k), by omega, Nat.le_refl _, Nat.le_refl _, Nat.le_refl _, (c1.trans c2).trans cA⟩, by omega, fun _ _ => rfl⟩
    clear h2' hMw hM
    have hmm : ∀ (t : TypeId) (w : World), (Instr.makeMap t none).run Try.prog w = .ok (.map (some w.heap.size)) (w.alloc (.map #[] 0)) := fun _ _ => rfl
    go_wp2
    clear hmm
    generalize w2.alloc (.map #[] 0) = w3 at A0 ⊢
    generalize w2.heap.size = mb at A0 ⊢
    clear c1 c2
    go_loopw [8, 9, 10, 12] (fun l h got i wr => ∃ k : Nat, k ≤ len ∧ i = .int .i64 k ∧ Ord w wr b sb mb m k l h got) (fun _ _ _ i _ => len - (intOf i).toNat)
    case atStart => exact ⟨0, Nat.zero_le _, rfl, A0.out⟩
    case round =>
      clear A0
      obtain ⟨k, hk, rfl, nx, fi, q, cnt, P, V, T, tb, hd, F, M, al, ah, kl, kh, rfl, rfl, rfl, hA⟩ := hrel
      have A := Lib.hid hA
      clear hA
      by_cases hlt : k < len
      · obtain ⟨x, rfl, hc, hwf⟩ := HR.out.item hlt
        have hc' := A.out.o.ch.keeps hc (fun e => e)
        clear hc
        obtain ⟨z, hz⟩ : ∃ z, zs.getD k 0 = z := ⟨_, rfl⟩
        rw [hz] at hc' hwf
        clear hz
        obtain ⟨hz0, hz1⟩ := bounds_u8 hwf
        clear hwf
        go_upto_block 2 with (fail)
        clear hc'
        have hk2 : k ≤ 200 := by omega
        have nxs : nx ≤ 300 := by have := A.out.o.few2; omega
        have nxk : nx ≤ 900000 := by omega
        have fik : fi ≤ 900000 := by have := A.out.o.inv.le; omega
        have hqk := A.out.o.few
        go_cut [8, 9, 10, 14, 15, 16, 17, 18] from 43 to 148 (fun l h got _ _ _ _ _ wc => Ord w wc b sb mb m (k + 1) l h got)
        case first =>
          by_cases z1 : z < 60
          · go_wp2_with fail
            refine (mach_begin A.out.o.m).mono ?_
            rintro e w5 ⟨t, rfl, ht, hm5, c5⟩
            have M5 := Lib.hid hm5
            have C5 := Lib.hid c5
            have R5 := Lib.hid ((A.out.o.l.kept c5 (fun _ _ e => e)).kept (S := Nil) ((Ch.refl Nil w5).alloc (Obj.cells #[.pointer (some ⟨t, 0, none⟩)] 37)) (fun _ _ e => e))
            clear hm5 c5
            go_wp2_with (at_builtin; refine append_row _ rfl _ _ _ rfl 37 (.pointer none) 1 8 Try.underlying34 (by kernel_rfl) rfl (by omega) (by omega) rfl R5.out (by omega) w5.heap.size 1 [.pointer (some ⟨t, 0, none⟩)] 37 rfl rfl (heap_alloc_new w5 _) (by simp [Value.oneCell']) (ptrO (upd tb q t)) (fun i hi => by dsimp only [ptrO]; rw [upd_other _ _ _ _ (by omega)]) (by intro j u hu; obtain rfl : j = 0 := (by cases j; rfl; simp at hu); simp at hu; subst hu; simp [ptrO, upd_same]) _ rfl ?_)
            intro g cap6 w6 row6 ch6 at6 lt6
            have c6 : Ch (OwnS al) w5 w6 := (((Ch.refl Nil w5).alloc _).mono (fun _ _ e => e.elim)).trans ch6
            have FIN := Lib.hid (A.out.begin ht M5.out C5.out c6 row6 at6 (by omega))
            clear ch6 row6 at6 lt6 R5 c6
            go_wp2
            go_meet
            case rel => exact ⟨_, _, _, _, _, _, _, _, _, _, _, _, _, _, _, rfl, rfl, rfl, FIN.out⟩
          · by_cases z2 : z < 90
            · cases hP : P fi with
              | true =>
                have HPt := Lib.hid hP
                have hpo := A.out.o.inv.pop hP
                have hfn := hpo.1
                have HPO := Lib.hid hpo
                obtain ⟨hq0, hq1, hq2⟩ := A.out.o.hdo fi hfn
                have hFv : F (hd fi) = true := by rw [A.out.fl _ hq0, ← (A.out.o.inv.held _ hq0 hq1).2, hq2]; exact hP
                have HFV := Lib.hid hFv
                have hVf := A.out.o.val fi hP
                have HV := Lib.hid hVf
                clear hP hpo hq1 hq2 hFv hVf
                go_wp2_with fail
                refine (mach_pop A.out.o.m A.out.o.inv nxk HPt.out).mono ?_
                rw [HV.out]
                rintro e w5 ⟨rfl, m5, c5⟩
                have A5 : Hid (OrdIn w w5 b sb mb m k nx (fi + 1) q cnt P V T tb hd F M al ah kl kh) := ⟨A.out.o.turn m5 c5 HPO.out.2 (fun p hp => (A.out.o.hdo p hp).2) A.out.o.val, A.out.fl, A.out.no⟩
                clear m5 c5
                obtain ⟨gh, rfl, hgl⟩ := A5.out.o.h.form (by omega)
                have lc : w5.cell? ⟨gh, fi, none⟩ = some (.int .i64 (hd fi)) := A5.out.o.h.cell fi (by omega)
                have lk := A5.out.o.f.look (hd fi) (by omega)
                rw [HFV.out] at lk
                have d1 : decide ((nx : Int) ≤ (fi : Int)) = false := by rw [decide_eq_false_iff_not]; omega
                have d2 : decide (nx ≤ fi) = false := by rw [decide_eq_false_iff_not]; omega
                have eV : ((hd fi : Int) != (hd fi : Int)) = false := by simp
                go_wp2
                clear lc lk
                go_meet
                case rel => exact ⟨_, _, _, _, _, _, _, _, _, _, _, _, _, _, _, rfl, rfl, by go_num, ⟨A5.out.o.more, A5.out.fl, A5.out.no⟩⟩
              | false =>
                have HPt := Lib.hid hP
                clear hP
                go_wp2_with fail
                refine (mach_popnone A.out.o.m A.out.o.inv nxk HPt.out).mono ?_
                rintro e w5 ⟨rfl, m5, c5⟩
                have A5 : Hid (OrdIn w w5 b sb mb m k nx fi q cnt P V T tb hd F M al ah kl kh) := ⟨A.out.o.still m5 c5, A.out.fl, A.out.no⟩
                clear m5 c5
                go_wp2
                go_meet
                case rel => exact ⟨_, _, _, _, _, _, _, _, _, _, _, _, _, _, _, rfl, rfl, rfl, ⟨A5.out.o.more, A5.out.fl, A5.out.no⟩⟩
            · by_cases hq0 : q = 0
              · subst hq0
                go_wp2
                go_meet
                case rel => exact ⟨_, _, _, _, _, _, _, _, _, _, _, _, _, _, _, rfl, rfl, rfl, ⟨A.out.o.more, A.out.fl, A.out.no⟩⟩
              · have dq : decide (0 < q) = true := by rw [decide_eq_true_eq]; omega
                have dq2 : decide ((0 : Int) < (q : Int)) = true := by rw [decide_eq_true_eq]; omega
                obtain ⟨j, hj⟩ : ∃ j : Nat, z % (q : Int) = (j : Int) := ⟨(z % (q : Int)).toNat, by have := Int.emod_nonneg z (show (q : Int) ≠ 0 by omega); omega⟩
                have hjq : j < q := by have := Int.emod_lt_of_pos z (show (0 : Int) < q by omega); omega
                have HJ := Lib.hid hj
                clear hj
                obtain ⟨gl, rfl, hgl⟩ := A.out.o.l.form (by omega)
                obtain ⟨d, hd'⟩ : ∃ d, nx = fi + d := ⟨nx - fi, by have := A.out.o.inv.le; omega⟩
                have HD := Lib.hid hd'
                have hdk : d ≤ 900000 := by omega
                clear hd'
                go_wp2_with fail
                rw [HJ.out]
                refine (mach_len A.out.o.m nxk d HD).mono ?_
                rintro e w4 ⟨rfl, m4, c4⟩
                have A4 : Hid (OrdIn w w4 b sb mb m k nx fi q cnt P V T tb hd F M (some ⟨gl, 0, none⟩) ah kl kh) := ⟨A.out.o.still m4 c4, A.out.fl, A.out.no⟩
                clear m4 c4 A
                obtain ⟨⟨nx', s'⟩, hp⟩ : ∃ p, tickStep m nx fi P (T j) = p := ⟨_, rfl⟩
                have HP := Lib.hid hp
                have hin := A4.out.o.inv.step hjq
                rw [hp] at hin
                have HIN := Lib.hid hin
                have lc : w4.cell? ⟨gl, j, none⟩ = some (.pointer (some ⟨tb j, 0, none⟩)) := A4.out.o.l.cell j (by omega)
                clear hp hin
                go_wp2_with fail
                clear lc
                refine (mach_step A4.out.o.m A4.out.o.inv nxk j hjq s' nx' HP.out _ rfl).mono ?_
                rintro e w5 ⟨rfl, m5, c5⟩
                have M5 := Lib.hid m5
                have C5 := Lib.hid c5
                clear m5 c5
                have htk := tick_took HP.out
                have hxs : nx' ≤ nx + 1 := by rcases htk.2 with h | h <;> omega
                have HTK := Lib.hid htk
                clear htk
                obtain ⟨d', hd''⟩ : ∃ d', nx' = fi + d' := ⟨nx' - fi, by have := HIN.out.le; omega⟩
                have HD' := Lib.hid hd''
                have nxk' : nx' ≤ 900000 := by omega
                clear hd''
                go_wp2_with fail
                refine (mach_len M5.out nxk' d' HD').mono ?_
                rintro e w6 ⟨rfl, m6, c6⟩
                have M6 := Lib.hid m6
                have C6 := Lib.hid (C5.out.trans c6)
                clear m6 c6 M5 C5
                go_upto_if 111 with (fail)
                go_cut [9] from 43 to 148 (fun h wc => MidO w wc b sb mb m (k + 1) nx' fi q P V (upd T j s') tb F M (some ⟨gl, 0, none⟩) kl h)
                case first =>
                  rcases HTK.out.2 with ⟨hn, hs2⟩ | ⟨hn, hs2, hs3, hs4⟩
                  · subst hn
                    obtain rfl : d' = d := by have := HD.out; have := HD'.out; omega
                    have df : ((d' : Int) == (d' : Int) + 1) = false := by rw [beq_eq_false_iff_ne]; omega
                    have FIN := Lib.hid (A4.out.stepped hjq M6.out C6.out HIN.out HTK.out.1 hs2)
                    clear hs2
                    go_wp2
                    go_meet
                    case rel => exact ⟨cnt, hd, ah, kh, rfl, by have := A4.out.o.few3; omega, FIN.out.o.more, FIN.out.fl, FIN.out.no⟩
                  · subst hn
                    obtain rfl : d' = d + 1 := by have := HD.out; have := HD'.out; omega
                    have ds : (s'.su != 2) = false := by simpa using hs2
                    have dc : (((d + 1 : Nat) : Int) == (d : Int) + 1) = true := by rw [beq_iff_eq]; omega
                    have HS := Lib.hid (And.intro hs2 (And.intro hs3 hs4))
                    clear hs2 hs3 hs4
                    have R5 := Lib.hid ((A4.out.o.h.kept C6.out (fun k hk e => A4.out.o.mh k e hk)).kept (S := Nil) ((Ch.refl Nil w6).alloc (Obj.cells #[.int .i64 (j : Int)] 3)) (fun _ _ e => e))
                    go_wp2_with (at_builtin; refine append_row _ rfl _ _ _ rfl 3 (.int .i64 0) 1 8 Try.underlying30 (by kernel_rfl) rfl (by omega) (by omega) rfl R5.out (by omega) w6.heap.size 1 [.int .i64 (j : Int)] 3 rfl rfl (heap_alloc_new w6 _) (by simp [Value.oneCell']) (intO (upd hd nx j)) (fun i hi => by dsimp only [intO]; rw [upd_other _ _ _ _ (by omega)]) (by intro jj u hu; obtain rfl : jj = 0 := (by cases jj; rfl; simp at hu); simp at hu; subst hu; simp [intO, upd_same]) _ rfl ?_)
                    intro g cap6 w7 row6 ch6 at6 lt6
                    have c7 : Ch (OwnS ah) w6 w7 := (((Ch.refl Nil w6).alloc _).mono (fun _ _ e => e.elim)).trans ch6
                    have FIN := Lib.hid (OrdIn.taken (kk := k + 1) ⟨A4.out.o.more, A4.out.fl, A4.out.no⟩ hjq M6.out C6.out HIN.out HTK.out.1 HS.out.1 HS.out.2.1 HS.out.2.2 c7 row6 at6 (by omega) (by have := A4.out.o.few2; omega))
                    clear ch6 row6 at6 lt6 R5 c7
                    go_wp2
                    go_meet
                    case rel => exact ⟨cnt, _, _, _, rfl, by have := A4.out.o.few3; omega, FIN.out⟩
                case rest =>
                  clear A4 M6 C6 HTK HIN HP
                  obtain ⟨cnt, hd, ah, kh, rfl, hcnt, hA⟩ := hcut
                  have A := Lib.hid hA
                  clear hA
                  by_cases hs2 : s'.su = 2
                  · have ds : (s'.su == 2) = true := by simpa using hs2
                    by_cases hz3 : z % 3 = 0
                    · have dz : (z % 3 == 0) = true := by simpa using hz3
                      have hTj : upd T j s' j = s' := upd_same _ _ _
                      have HTJ := Lib.hid hTj
                      have HS2 := Lib.hid hs2
                      have lc : wc.cell? ⟨gl, j, none⟩ = some (.pointer (some ⟨tb j, 0, none⟩)) := A.out.o.l.cell j (by omega)
                      clear hTj hs2
                      have hu2 : Hid ((upd T j s' j).su = 2) := by show _ = _; rw [HTJ.out]; exact HS2.out
                      cases hfl : s'.fl with
                      | false =>
                        have hu3 : Hid ((upd T j s' j).fl = false) := by show _ = _; rw [HTJ.out]; exact hfl
                        clear hfl
                        go_wp2_with fail
                        clear lc
                        refine (mach_fill A.out.o.m A.out.o.inv nxk' j hjq hu2 hu3 (j : Int) _ rfl).mono ?_
                        rintro e w7 ⟨rfl, m7, c7⟩
                        obtain ⟨w8, hput, hf8, c8⟩ := (A.out.o.f.kept c7 A.out.o.mm).put j (by omega) (by omega)
                        have FIN := Lib.hid (A.out.noted hjq hu2.out hu3.out m7 c7 hf8 c8 hcnt)
                        clear m7 c7 hf8 c8
                        go_wp2
                        clear hput
                        go_meet
                        case rel => exact ⟨_, _, _, _, _, _, _, _, _, _, _, _, _, _, _, rfl, rfl, rfl, FIN.out⟩
                      | true =>
                        have hu3 : Hid ((upd T j s' j).su ≠ 2 ∨ (upd T j s' j).fl = true) := by show _ ∨ _; right; rw [HTJ.out]; exact hfl
                        clear hfl
                        go_wp2_with fail
                        clear lc
                        refine (mach_refuse A.out.o.m j hjq hu3 (j : Int) _ rfl).mono ?_
                        rintro e w7 ⟨rfl, rfl⟩
                        go_wp2
                        go_meet
                        case rel => exact ⟨_, _, _, _, _, _, _, _, _, _, _, _, _, _, _, rfl, rfl, rfl, A.out⟩
                    · have dz : (z % 3 == 0) = false := by rw [beq_eq_false_iff_ne]; exact hz3
                      clear hs2
                      go_wp2
                      go_meet
                      case rel => exact ⟨_, _, _, _, _, _, _, _, _, _, _, _, _, _, _, rfl, rfl, rfl, A.out⟩
                  · have ds : (s'.su == 2) = false := by rw [beq_eq_false_iff_ne]; exact hs2
                    clear hs2
                    go_wp2
                    go_meet
                    case rel => exact ⟨_, _, _, _, _, _, _, _, _, _, _, _, _, _, _, rfl, rfl, rfl, A.out⟩
        case rest =>
          clear A nxk fik hqk nxs
          obtain ⟨nx, fi, q, cnt, P, V, T, tb, hd, F, M, al, ah, kl, kh, rfl, rfl, rfl, hA⟩ := hcut
          have A := Lib.hid hA
          clear hA
          have nxk : nx ≤ 900000 := by have := A.out.o.few2; omega
          obtain ⟨d, hd'⟩ : ∃ d, nx = fi + d := ⟨nx - fi, by have := A.out.o.inv.le; omega⟩
          have d1 : decide ((m : Int) < (d : Int)) = false := by have := A.out.o.inv.room; rw [decide_eq_false_iff_not]; omega
          have d2 : decide (m < d) = false := by have := A.out.o.inv.room; rw [decide_eq_false_iff_not]; omega
          have e0 : ((d : Int) != (nx : Int) - (fi : Int)) = false := by rw [bne_eq_false_iff_eq]; omega
          have HD := Lib.hid hd'
          have hfi : fi ≤ 900000 := by omega
          clear hd'
          go_wp2_with fail
          refine (mach_len A.out.o.m nxk d HD).mono ?_
          rintro e w4 ⟨rfl, m4, c4⟩
          have A4 : Hid (OrdIn w w4 b sb mb m (k + 1) nx fi q cnt P V T tb hd F M al ah kl kh) := ⟨A.out.o.still m4 c4, A.out.fl, A.out.no⟩
          clear m4 c4 A
          go_wp2_with fail
          refine (mach_len A4.out.o.m nxk d HD).mono ?_
          rintro e w5 ⟨rfl, m5, c5⟩
          have A5 : Hid (OrdIn w w5 b sb mb m (k + 1) nx fi q cnt P V T tb hd F M al ah kl kh) := ⟨A4.out.o.still m5 c5, A4.out.fl, A4.out.no⟩
          clear m5 c5 A4
          go_wp2
          go_roundw
          case rel => exact ⟨k + 1, by omega, by go_num, _, _, _, _, _, _, _, _, _, _, _, _, _, _, _, rfl, rfl, rfl, A5.out⟩
          case measure => simp [intOf]; omega
      · obtain rfl : k = len := by omega
        clear hlt
        go_wp2
        have hk2 : k ≤ 200 := by omega
        have nxs : nx ≤ 300 := by have := A.out.o.few2; omega
        have nxk : nx ≤ 900000 := by omega
        have hqk := A.out.o.few
        go_loopw [19] (fun i wr' => ∃ i0 : Nat, i0 ≤ nx ∧ i = .int .i64 i0 ∧ Fin2 w wr' b sb mb m k nx fi q cnt tb hd F M al ah kl kh i0) (fun i _ => nx - (intOf i).toNat)
        case atStart => exact ⟨0, Nat.zero_le _, rfl, P, V, T, A.out.o, by omega, fun p _ hp => A.out.fl _ (A.out.o.hdo p hp).1⟩
        case round =>
          clear A
          obtain ⟨i0, hi0, rfl, P, V, T, o, hdone, htodo⟩ := hrel
          have O := Lib.hid o
          have HDN := Lib.hid hdone
          have HTD := Lib.hid htodo
          clear o hdone htodo
          by_cases hil : i0 < nx
          · obtain ⟨gh, rfl, hgh⟩ := O.out.h.form (by omega)
            obtain ⟨hq0, hq1, hq2⟩ := O.out.hdo i0 hil
            obtain ⟨gl, rfl, hgl⟩ := O.out.l.form (by omega)
            have lc : wr.cell? ⟨gh, i0, none⟩ = some (.int .i64 (hd i0)) := O.out.h.cell i0 (by omega)
            have lp : wr.cell? ⟨gl, hd i0, none⟩ = some (.pointer (some ⟨tb (hd i0), 0, none⟩)) := O.out.l.cell (hd i0) (by omega)
            have lk := O.out.f.look (hd i0) (by omega)
            have LC := Lib.hid lc
            have LP := Lib.hid lp
            have htd := HTD.out i0 (Nat.le_refl _) hil
            have HQ1 := Lib.hid hq1
            have HQ2 := Lib.hid hq2
            clear lc lp hq1 hq2
            go_upto_region 40 with (fail)
            have O5 := Lib.hid (O.out.keptN (Ch.refl _ _).drew)
            have ngh : ¬ M gh := fun e => O.out.mh gh e rfl
            have ngl : ¬ M gl := fun e => O.out.ml gl e rfl
            have lk' := O5.out.f.look (hd i0) (by omega)
            clear lk
            cases hfl : (T (hd i0)).fl with
            | false =>
              have HFL := Lib.hid hfl
              rw [htd, hfl] at lk'
              clear hfl htd
              have hS : (wr.drew.cell? ⟨gh, i0, none⟩ = some (.int .i64 (hd i0)) ∧ wr.drew.cell? ⟨gl, hd i0, none⟩ = some (.pointer (some ⟨tb (hd i0), 0, none⟩))) ∧ (Instr.lookup 53 (.map (some mb)) (.int .i64 (hd i0 : Int)) false).run Try.prog wr.drew = .ok (.bool false) wr.drew := ⟨⟨LC.out, LP.out⟩, lk'⟩
              clear lk'
              refine wp_region_held_drew (S := fun w' => (w'.cell? ⟨gh, i0, none⟩ = some (.int .i64 (hd i0)) ∧ w'.cell? ⟨gl, hd i0, none⟩ = some (.pointer (some ⟨tb (hd i0), 0, none⟩))) ∧ (Instr.lookup 53 (.map (some mb)) (.int .i64 (hd i0 : Int)) false).run Try.prog w' = .ok (.bool false) w') (by kernel_rfl) hS (fun hHeld => ?_)
              clear hS
              generalize wr.drew = wd at hHeld O5 ⊢
              refine take_at (v := ?_) 0 (some 155) rfl (by kernel_rfl) (by kernel_rfl) (by kernel_rfl) (by kernel_rfl) (fun _ _ _ h => h) (Or.inl ⟨by rfl, ?_⟩) (by assumption) ?_
              rotate_left
              · intro w hSw; (try dsimp only at hSw); go_simp; try (with_reducible rfl)
              (try simp only [Act.put, List.setIfInBounds_toArray, List.set_cons_zero, List.set_cons_succ])
              refine take_at (v := ?_) 1 (some 156) rfl (by kernel_rfl) (by kernel_rfl) (by kernel_rfl) (by kernel_rfl) (fun _ _ _ h => h) (Or.inl ⟨by rfl, ?_⟩) (by assumption) ?_
              rotate_left
              · intro w hSw; (try dsimp only at hSw); go_simp; try (with_reducible rfl)
              (try simp only [Act.put, List.setIfInBounds_toArray, List.set_cons_zero, List.set_cons_succ])
              refine take_at (v := ?_) 2 (some 157) rfl (by kernel_rfl) (by kernel_rfl) (by kernel_rfl) (by kernel_rfl) (fun _ _ _ h => h) (Or.inl ⟨by rfl, ?_⟩) (by assumption) ?_
              rotate_left
              · intro w hSw; (try dsimp only at hSw); go_simp; try (with_reducible rfl)
              (try simp only [Act.put, List.setIfInBounds_toArray, List.set_cons_zero, List.set_cons_succ])
              refine take_at (v := ?_) 3 (some 158) rfl (by kernel_rfl) (by kernel_rfl) (by kernel_rfl) (by kernel_rfl) (fun _ _ _ h => h) (Or.inl ⟨by rfl, ?_⟩) (by assumption) ?_
              rotate_left
              · intro w hSw; (try dsimp only at hSw); go_simp; try (with_reducible rfl)
              (try simp only [Act.put, List.setIfInBounds_toArray, List.set_cons_zero, List.set_cons_succ])
              refine take_at (v := ?_) 4 (some 159) rfl (by kernel_rfl) (by kernel_rfl) (by kernel_rfl) (by kernel_rfl) (fun _ _ _ h => h) (Or.inl ⟨by rfl, ?_⟩) (by assumption) ?_
              rotate_left
              · intro w hSw; (try dsimp only at hSw); go_simp; try (with_reducible rfl)
              (try simp only [Act.put, List.setIfInBounds_toArray, List.set_cons_zero, List.set_cons_succ])
              refine take_at (v := ?_) 5 (some 160) rfl (by kernel_rfl) (by kernel_rfl) (by kernel_rfl) (by kernel_rfl) (fun _ _ _ h => h) (Or.inl ⟨by rfl, ?_⟩) (by assumption) ?_
              rotate_left
              · intro w hSw; (try dsimp only at hSw); go_simp; try (with_reducible rfl)
              (try simp only [Act.put, List.setIfInBounds_toArray, List.set_cons_zero, List.set_cons_succ])
              refine take_at (v := ?_) 6 (some 161) rfl (by kernel_rfl) (by kernel_rfl) (by kernel_rfl) (by kernel_rfl) (fun _ _ _ h => h) (Or.inl ⟨by rfl, ?_⟩) (by assumption) ?_
              rotate_left
              · intro w hSw; (try dsimp only at hSw); go_simp; try (with_reducible rfl)
              (try simp only [Act.put, List.setIfInBounds_toArray, List.set_cons_zero, List.set_cons_succ])
              refine take_at (v := ?_) 7 (some 162) rfl (by kernel_rfl) (by kernel_rfl) (by kernel_rfl) (by kernel_rfl) (fun _ _ _ h => h) (Or.inl ⟨by rfl, ?_⟩) (by assumption) ?_
              rotate_left
              · intro w hSw; (try dsimp only at hSw); go_simp; try (with_reducible rfl)
              (try simp only [Act.put, List.setIfInBounds_toArray, List.set_cons_zero, List.set_cons_succ])
              refine take_at (v := ?_) 8 (some 163) rfl (by kernel_rfl) (by kernel_rfl) (by kernel_rfl) (by kernel_rfl) (fun _ _ _ h => h) (Or.inl ⟨by rfl, ?_⟩) (by assumption) ?_
              rotate_left
              · intro w hSw; (try dsimp only at hSw); go_simp; try (with_reducible rfl)
              (try simp only [Act.put, List.setIfInBounds_toArray, List.set_cons_zero, List.set_cons_succ])
              refine take_at (v := ?_) 9 (some 164) rfl (by kernel_rfl) (by kernel_rfl) (by kernel_rfl) (by kernel_rfl) (fun _ _ _ h => h) (Or.inl ⟨by rfl, ?_⟩) (by assumption) ?_
              rotate_left
              · intro w hSw; (try dsimp only at hSw); go_simp; try (with_reducible rfl)
              (try simp only [Act.put, List.setIfInBounds_toArray, List.set_cons_zero, List.set_cons_succ])
              refine take_at (v := ?_) 10 (some 165) rfl (by kernel_rfl) (by kernel_rfl) (by kernel_rfl) (by kernel_rfl) (fun _ _ _ h => h) (Or.inl ⟨by rfl, ?_⟩) (by assumption) ?_
              rotate_left
              · intro w hSw; (try dsimp only at hSw); go_simp; try (with_reducible rfl)
              (try simp only [Act.put, List.setIfInBounds_toArray, List.set_cons_zero, List.set_cons_succ])
              refine take_at (v := ?_) 13 (some 168) rfl (by kernel_rfl) (by kernel_rfl) (by kernel_rfl) (by kernel_rfl) (fun _ _ _ h => h) (Or.inl ⟨by rfl, ?_⟩) (by assumption) ?_
              rotate_left
              · intro w hSw; (try dsimp only at hSw); go_simp; try (with_reducible rfl)
              (try simp only [Act.put, List.setIfInBounds_toArray, List.set_cons_zero, List.set_cons_succ])
              refine take_at (v := ?_) 14 (some 169) rfl (by kernel_rfl) (by kernel_rfl) (by kernel_rfl) (by kernel_rfl) (fun _ _ _ h => h) (Or.inl ⟨by rfl, ?_⟩) (by assumption) ?_
              rotate_left
              · intro w hSw; (try dsimp only at hSw); go_simp; try (with_reducible rfl)
              (try simp only [Act.put, List.setIfInBounds_toArray, List.set_cons_zero, List.set_cons_succ])
              refine take_at (v := ?_) 15 (some 170) rfl (by kernel_rfl) (by kernel_rfl) (by kernel_rfl) (by kernel_rfl) (fun _ _ _ h => h) (Or.inl ⟨by rfl, ?_⟩) (by assumption) ?_
              rotate_left
              · intro w hSw; (try dsimp only at hSw); go_simp; try (with_reducible rfl)
              (try simp only [Act.put, List.setIfInBounds_toArray, List.set_cons_zero, List.set_cons_succ])
              refine take_at (v := ?_) 16 (some 171) rfl (by kernel_rfl) (by kernel_rfl) (by kernel_rfl) (by kernel_rfl) (fun _ _ _ h => h) (Or.inl ⟨by rfl, ?_⟩) (by assumption) ?_
              rotate_left
              · intro w hSw; (try dsimp only at hSw); go_simp; try (with_reducible rfl)
              (try simp only [Act.put, List.setIfInBounds_toArray, List.set_cons_zero, List.set_cons_succ])
              refine take_at (v := ?_) 17 (some 172) rfl (by kernel_rfl) (by kernel_rfl) (by kernel_rfl) (by kernel_rfl) (fun _ _ _ h => h) (Or.inl ⟨by rfl, ?_⟩) (by assumption) ?_
              rotate_left
              · intro w hSw; (try dsimp only at hSw); go_simp; try (with_reducible rfl)
              (try simp only [Act.put, List.setIfInBounds_toArray, List.set_cons_zero, List.set_cons_succ])
              refine take_at (v := ?_) 18 (some 173) rfl (by kernel_rfl) (by kernel_rfl) (by kernel_rfl) (by kernel_rfl) (fun _ _ _ h => h) (Or.inl ⟨by rfl, ?_⟩) (by assumption) ?_
              rotate_left
              · intro w hSw; (try dsimp only at hSw); go_simp; try (with_reducible rfl)
              (try simp only [Act.put, List.setIfInBounds_toArray, List.set_cons_zero, List.set_cons_succ])
              refine wpAnyH_ready (rs := [11]) (by kernel_rfl) (by simp) ?_
              refine AllReadyH.cons rfl (fun K' hK => ?_) AllReadyH.nil
              go_simp
              refine (mach_fill O5.out.m O5.out.inv nxk (hd i0) hq0 HQ1 HFL (hd i0 : Int) _ rfl).mono ?_
              rintro e w5 ⟨rfl, m5, c5⟩
              have O6 := Lib.hid (O5.out.filled hq0 HQ1.out HFL.out m5 c5)
              have lk2 : (Instr.lookup 53 (.map (some mb)) (.int .i64 (hd i0 : Int)) false).run Try.prog w5 = .ok (.bool false) w5 := by
                have := O6.out.f.look (hd i0) (by omega)
                rw [HTD.out i0 (Nat.le_refl _) hil, HFL.out] at this
                exact this
              refine hK.out _ _ ⟨⟨c5.keeps hHeld.1.1 ngh, c5.keeps hHeld.1.2 ngl⟩, lk2⟩ (fun hHeld => ?_)
              clear hK K' m5 c5 O5 lk2
              (try simp only [Act.put, List.setIfInBounds_toArray, List.set_cons_zero, List.set_cons_succ])
              refine take_at (v := ?_) 12 (some 167) rfl (by kernel_rfl) (by kernel_rfl) (by kernel_rfl) (by kernel_rfl) (fun _ _ _ h => h) (Or.inl ⟨by rfl, ?_⟩) (by assumption) ?_
              rotate_left
              · intro w hSw; (try dsimp only at hSw); go_simp; try (with_reducible rfl)
              (try simp only [Act.put, List.setIfInBounds_toArray, List.set_cons_zero, List.set_cons_succ])
              refine take_at (v := ?_) 19 (some 174) rfl (by kernel_rfl) (by kernel_rfl) (by kernel_rfl) (by kernel_rfl) (fun _ _ _ h => h) (Or.inl ⟨by rfl, ?_⟩) (by assumption) ?_
              rotate_left
              · intro w hSw; (try dsimp only at hSw); go_simp; try (with_reducible rfl)
              (try simp only [Act.put, List.setIfInBounds_toArray, List.set_cons_zero, List.set_cons_succ])
              refine wpAnyH_done (by kernel_rfl) ?_ _
              clear hHeld
              go_wp2
              go_roundw
              case rel =>
                refine ⟨i0 + 1, by omega, by go_num, _, _, _, O6.out, ?_, ?_⟩
                · intro p hp
                  by_cases e : p = i0
                  · rw [e, HQ2.out, upd_same]
                  · rw [upd_other _ _ _ _ (by rw [HQ2.out]; exact e)]; exact HDN.out p (by omega)
                · intro p hp1 hp2
                  have := HTD.out p (by omega) hp2
                  have hne : hd p ≠ hd i0 := by
                    intro e
                    have h1 := (O.out.hdo p hp2).2.2
                    rw [e, HQ2.out] at h1
                    omega
                  rw [upd_other _ _ _ _ hne]
                  exact this
              case measure => simp [intOf]; omega
            | true =>
              have HFL := Lib.hid hfl
              rw [htd, hfl] at lk'
              clear hfl htd
              have hS : (wr.drew.cell? ⟨gh, i0, none⟩ = some (.int .i64 (hd i0)) ∧ wr.drew.cell? ⟨gl, hd i0, none⟩ = some (.pointer (some ⟨tb (hd i0), 0, none⟩))) ∧ (Instr.lookup 53 (.map (some mb)) (.int .i64 (hd i0 : Int)) false).run Try.prog wr.drew = .ok (.bool true) wr.drew := ⟨⟨LC.out, LP.out⟩, lk'⟩
              clear lk'
              refine wp_region_held_drew (S := fun w' => (w'.cell? ⟨gh, i0, none⟩ = some (.int .i64 (hd i0)) ∧ w'.cell? ⟨gl, hd i0, none⟩ = some (.pointer (some ⟨tb (hd i0), 0, none⟩))) ∧ (Instr.lookup 53 (.map (some mb)) (.int .i64 (hd i0 : Int)) false).run Try.prog w' = .ok (.bool true) w') (by kernel_rfl) hS (fun hHeld => ?_)
              clear hS
              generalize wr.drew = wd at hHeld O5 ⊢
              refine take_at (v := ?_) 0 (some 155) rfl (by kernel_rfl) (by kernel_rfl) (by kernel_rfl) (by kernel_rfl) (fun _ _ _ h => h) (Or.inl ⟨by rfl, ?_⟩) (by assumption) ?_
              rotate_left
              · intro w hSw; (try dsimp only at hSw); go_simp; try (with_reducible rfl)
              (try simp only [Act.put, List.setIfInBounds_toArray, List.set_cons_zero, List.set_cons_succ])
              refine take_at (v := ?_) 1 (some 156) rfl (by kernel_rfl) (by kernel_rfl) (by kernel_rfl) (by kernel_rfl) (fun _ _ _ h => h) (Or.inl ⟨by rfl, ?_⟩) (by assumption) ?_
              rotate_left
              · intro w hSw; (try dsimp only at hSw); go_simp; try (with_reducible rfl)
              (try simp only [Act.put, List.setIfInBounds_toArray, List.set_cons_zero, List.set_cons_succ])
              refine take_at (v := ?_) 2 (some 157) rfl (by kernel_rfl) (by kernel_rfl) (by kernel_rfl) (by kernel_rfl) (fun _ _ _ h => h) (Or.inl ⟨by rfl, ?_⟩) (by assumption) ?_
              rotate_left
              · intro w hSw; (try dsimp only at hSw); go_simp; try (with_reducible rfl)
              (try simp only [Act.put, List.setIfInBounds_toArray, List.set_cons_zero, List.set_cons_succ])
              refine take_at (v := ?_) 3 (some 158) rfl (by kernel_rfl) (by kernel_rfl) (by kernel_rfl) (by kernel_rfl) (fun _ _ _ h => h) (Or.inl ⟨by rfl, ?_⟩) (by assumption) ?_
              rotate_left
              · intro w hSw; (try dsimp only at hSw); go_simp; try (with_reducible rfl)
              (try simp only [Act.put, List.setIfInBounds_toArray, List.set_cons_zero, List.set_cons_succ])
              refine take_at (v := ?_) 4 (some 159) rfl (by kernel_rfl) (by kernel_rfl) (by kernel_rfl) (by kernel_rfl) (fun _ _ _ h => h) (Or.inl ⟨by rfl, ?_⟩) (by assumption) ?_
              rotate_left
              · intro w hSw; (try dsimp only at hSw); go_simp; try (with_reducible rfl)
              (try simp only [Act.put, List.setIfInBounds_toArray, List.set_cons_zero, List.set_cons_succ])
              refine take_at (v := ?_) 5 (some 160) rfl (by kernel_rfl) (by kernel_rfl) (by kernel_rfl) (by kernel_rfl) (fun _ _ _ h => h) (Or.inl ⟨by rfl, ?_⟩) (by assumption) ?_
              rotate_left
              · intro w hSw; (try dsimp only at hSw); go_simp; try (with_reducible rfl)
              (try simp only [Act.put, List.setIfInBounds_toArray, List.set_cons_zero, List.set_cons_succ])
              refine take_at (v := ?_) 6 (some 161) rfl (by kernel_rfl) (by kernel_rfl) (by kernel_rfl) (by kernel_rfl) (fun _ _ _ h => h) (Or.inl ⟨by rfl, ?_⟩) (by assumption) ?_
              rotate_left
              · intro w hSw; (try dsimp only at hSw); go_simp; try (with_reducible rfl)
              (try simp only [Act.put, List.setIfInBounds_toArray, List.set_cons_zero, List.set_cons_succ])
              refine take_at (v := ?_) 7 (some 162) rfl (by kernel_rfl) (by kernel_rfl) (by kernel_rfl) (by kernel_rfl) (fun _ _ _ h => h) (Or.inl ⟨by rfl, ?_⟩) (by assumption) ?_
              rotate_left
              · intro w hSw; (try dsimp only at hSw); go_simp; try (with_reducible rfl)
              (try simp only [Act.put, List.setIfInBounds_toArray, List.set_cons_zero, List.set_cons_succ])
              refine take_at (v := ?_) 8 (some 163) rfl (by kernel_rfl) (by kernel_rfl) (by kernel_rfl) (by kernel_rfl) (fun _ _ _ h => h) (Or.inl ⟨by rfl, ?_⟩) (by assumption) ?_
              rotate_left
              · intro w hSw; (try dsimp only at hSw); go_simp; try (with_reducible rfl)
              (try simp only [Act.put, List.setIfInBounds_toArray, List.set_cons_zero, List.set_cons_succ])
              refine take_at (v := ?_) 9 (some 164) rfl (by kernel_rfl) (by kernel_rfl) (by kernel_rfl) (by kernel_rfl) (fun _ _ _ h => h) (Or.inl ⟨by rfl, ?_⟩) (by assumption) ?_
              rotate_left
              · intro w hSw; (try dsimp only at hSw); go_simp; try (with_reducible rfl)
              (try simp only [Act.put, List.setIfInBounds_toArray, List.set_cons_zero, List.set_cons_succ])
              refine take_at (v := ?_) 10 (some 165) rfl (by kernel_rfl) (by kernel_rfl) (by kernel_rfl) (by kernel_rfl) (fun _ _ _ h => h) (Or.inl ⟨by rfl, ?_⟩) (by assumption) ?_
              rotate_left
              · intro w hSw; (try dsimp only at hSw); go_simp; try (with_reducible rfl)
              (try simp only [Act.put, List.setIfInBounds_toArray, List.set_cons_zero, List.set_cons_succ])
              refine take_at (v := ?_) 13 (some 168) rfl (by kernel_rfl) (by kernel_rfl) (by kernel_rfl) (by kernel_rfl) (fun _ _ _ h => h) (Or.inl ⟨by rfl, ?_⟩) (by assumption) ?_
              rotate_left
              · intro w hSw; (try dsimp only at hSw); go_simp; try (with_reducible rfl)
              (try simp only [Act.put, List.setIfInBounds_toArray, List.set_cons_zero, List.set_cons_succ])
              refine take_at (v := ?_) 14 (some 169) rfl (by kernel_rfl) (by kernel_rfl) (by kernel_rfl) (by kernel_rfl) (fun _ _ _ h => h) (Or.inl ⟨by rfl, ?_⟩) (by assumption) ?_
              rotate_left
              · intro w hSw; (try dsimp only at hSw); go_simp; try (with_reducible rfl)
              (try simp only [Act.put, List.setIfInBounds_toArray, List.set_cons_zero, List.set_cons_succ])
              refine take_at (v := ?_) 15 (some 170) rfl (by kernel_rfl) (by kernel_rfl) (by kernel_rfl) (by kernel_rfl) (fun _ _ _ h => h) (Or.inl ⟨by rfl, ?_⟩) (by assumption) ?_
              rotate_left
              · intro w hSw; (try dsimp only at hSw); go_simp; try (with_reducible rfl)
              (try simp only [Act.put, List.setIfInBounds_toArray, List.set_cons_zero, List.set_cons_succ])
              refine take_at (v := ?_) 16 (some 171) rfl (by kernel_rfl) (by kernel_rfl) (by kernel_rfl) (by kernel_rfl) (fun _ _ _ h => h) (Or.inl ⟨by rfl, ?_⟩) (by assumption) ?_
              rotate_left
              · intro w hSw; (try dsimp only at hSw); go_simp; try (with_reducible rfl)
              (try simp only [Act.put, List.setIfInBounds_toArray, List.set_cons_zero, List.set_cons_succ])
              refine take_at (v := ?_) 17 (some 172) rfl (by kernel_rfl) (by kernel_rfl) (by kernel_rfl) (by kernel_rfl) (fun _ _ _ h => h) (Or.inl ⟨by rfl, ?_⟩) (by assumption) ?_
              rotate_left
              · intro w hSw; (try dsimp only at hSw); go_simp; try (with_reducible rfl)
              (try simp only [Act.put, List.setIfInBounds_toArray, List.set_cons_zero, List.set_cons_succ])
              refine take_at (v := ?_) 18 (some 173) rfl (by kernel_rfl) (by kernel_rfl) (by kernel_rfl) (by kernel_rfl) (fun _ _ _ h => h) (Or.inl ⟨by rfl, ?_⟩) (by assumption) ?_
              rotate_left
              · intro w hSw; (try dsimp only at hSw); go_simp; try (with_reducible rfl)
              (try simp only [Act.put, List.setIfInBounds_toArray, List.set_cons_zero, List.set_cons_succ])
              refine wpAnyH_ready (rs := [11]) (by kernel_rfl) (by simp) ?_
              refine AllReadyH.cons rfl (fun K' hK => ?_) AllReadyH.nil
              go_simp
              refine (mach_refuse O5.out.m (hd i0) hq0 (show Hid _ from .inr HFL.out) (hd i0 : Int) _ rfl).mono ?_
              rintro e w5 ⟨rfl, rfl⟩
              refine hK.out _ _ hHeld (fun hHeld2 => ?_)
              clear hK K' hHeld2
              (try simp only [Act.put, List.setIfInBounds_toArray, List.set_cons_zero, List.set_cons_succ])
              refine take_at (v := ?_) 12 (some 167) rfl (by kernel_rfl) (by kernel_rfl) (by kernel_rfl) (by kernel_rfl) (fun _ _ _ h => h) (Or.inl ⟨by rfl, ?_⟩) (by assumption) ?_
              rotate_left
              · intro w hSw; (try dsimp only at hSw); go_simp; try (with_reducible rfl)
              (try simp only [Act.put, List.setIfInBounds_toArray, List.set_cons_zero, List.set_cons_succ])
              refine take_at (v := ?_) 19 (some 174) rfl (by kernel_rfl) (by kernel_rfl) (by kernel_rfl) (by kernel_rfl) (fun _ _ _ h => h) (Or.inl ⟨by rfl, ?_⟩) (by assumption) ?_
              rotate_left
              · intro w hSw; (try dsimp only at hSw); go_simp; try (with_reducible rfl)
              (try simp only [Act.put, List.setIfInBounds_toArray, List.set_cons_zero, List.set_cons_succ])
              refine wpAnyH_done (by kernel_rfl) ?_ _
              clear hHeld
              go_wp2
              go_roundw
              case rel =>
                refine ⟨i0 + 1, by omega, by go_num, P, V, T, O5.out, ?_, fun p hp1 hp2 => HTD.out p (by omega) hp2⟩
                intro p hp
                by_cases e : p = i0
                · rw [e, ← HQ2.out, (O.out.inv.held _ hq0 HQ1.out).2]; exact HFL.out
                · exact HDN.out p (by omega)
              case measure => simp [intOf]; omega
          · obtain rfl : i0 = nx := by omega
            clear hil
            go_wp2
            go_loopw [10] (fun got wr' => ∃ fi' : Nat, fi' ≤ i0 ∧ got = .int .i64 fi' ∧ OrdB w wr' b sb mb m k i0 fi' q cnt P V T tb hd F M al ah kl kh) (fun got _ => i0 - (intOf got).toNat)
            case atStart => exact ⟨fi, O.out.inv.le, rfl, O.out⟩
            case round =>
              clear O
              obtain ⟨f, hf, rfl, o⟩ := hrel
              have O := Lib.hid o
              clear o
              by_cases hfl : f < i0
              · have hP := HDN.out f hfl
                have HPt := Lib.hid hP
                have hpo := O.out.inv.pop hP
                have HPO := Lib.hid hpo
                have hVf := O.out.val f hP
                have HV := Lib.hid hVf
                clear hP hpo hVf
                go_wp2_with fail
                refine (mach_pop O.out.m O.out.inv nxk HPt.out).mono ?_
                rw [HV.out]
                rintro e w5 ⟨rfl, m5, c5⟩
                have O5 := Lib.hid (O.out.turn m5 c5 HPO.out.2 (fun p hp => (O.out.hdo p hp).2) O.out.val)
                clear m5 c5
                obtain ⟨gh, rfl, hgl⟩ := O5.out.h.form (by omega)
                have lc : w5.cell? ⟨gh, f, none⟩ = some (.int .i64 (hd f)) := O5.out.h.cell f (by omega)
                have eV : ((hd f : Int) != (hd f : Int)) = false := by simp
                go_wp2
                clear lc
                go_roundw
                case rel => exact ⟨f + 1, by omega, by go_num, O5.out⟩
                case measure => simp [intOf]; omega
              · obtain rfl : f = i0 := by omega
                clear hfl
                have hpn := O.out.inv.pub f (Nat.le_refl _)
                have HPN := Lib.hid hpn
                clear hpn
                go_wp2_with fail
                refine (mach_len O.out.m nxk 0 (show Hid (f = f + 0) from rfl)).mono ?_
                rintro e w5 ⟨rfl, m5, c5⟩
                have O5 := Lib.hid (O.out.still m5 c5)
                clear m5 c5
                go_wp2_with fail
                refine (mach_ready O5.out.m O5.out.inv nxk).mono ?_
                rw [HPN.out]
                rintro e w6 ⟨rfl, m6, c6⟩
                have O6 := Lib.hid (O5.out.still m6 c6)
                clear m6 c6
                go_wp2
                go_ret
                exact ⟨rfl, O6.out.ch.below (Nat.le_refl _) (fun _ _ h => h.elim)⟩

theorem RingOrder_own : ownKnob Try.prog.godebug = none := by kernel_rfl
theorem RingOrder_laidOut : laidOutB Try.prog = true := by kernel_rfl

set_option maxRecDepth 100000 in
theorem RingOrder_lifted (os : Os) (started : os.Started) (H : Type) (enc : TypeId × Value → H) :
    ReturnsInHanded {} Try.checked os 4 .any (Rows.ringOrderSpec.pre6 enc Try.prog Try.f4 Rows.ringOrderRow.domain false) (Rows.ringOrderSpec.post enc Try.prog Try.f4 false true false false) := by
  refine returnsInHanded_of_change (C := Try.checked) RingOrder_own started (by kernel_rfl) Try.func4
    (ChangeSpec.witness6 (enc := enc) (C := Try.checked) false ⟨#[], #[.int .u8 0, .slice none 0 0], []⟩ 8 (by kernel_rfl) (by kernel_rfl) (by kernel_rfl) (by kernel_rfl)) ?_
  intro W base args ds gs before hval0 hW hcnd _
  have hval : ∀ (j : Nat) t v, Try.f4.params[j]? = some t → args[j]? = some v → Value.okWide Try.prog W .any base t v := hval0
  have hW' := hW
  obtain ⟨p, q, hA0, hV, rfl, hfz, hnd⟩ := hW
  have hA : DataW.TrodAll enc Try.prog W 0 (fun _ => true) true Try.f4.params.toList args.toList ds p := hA0
  rw [Try.params4] at hA hval
  obtain ⟨v0, vs0, d0, ds0, p0, q0, hargs, rfl, rfl, h0, r0⟩ := trodAll_cons hA
  obtain ⟨v1, vs1, d1, ds1, p1, q1, rfl, rfl, rfl, h1, r1⟩ := trodAll_cons r0
  obtain ⟨rfl, rfl, rfl⟩ := trodAll_nil r1
  obtain rfl : args = #[v0, v1] := by cases args; simp_all
  obtain ⟨rfl, rfl⟩ := trodVars_none hV
  obtain ⟨a0, rfl, rfl, rfl, w0⟩ := open_int Try.underlying5 (hval 0 5 v0 rfl rfl) h0
  obtain ⟨a1, len1, cap1, rfl⟩ := okWide_slice Try.underlying52 (hval 1 52 v1 rfl rfl)
  have k1 := h1
  have lt1 : ∀ x ∈ p1, x.block < W.heap.size := by obtain ⟨m, hm⟩ := k1; exact DataW.trod_lt m _ _ _ hm
  obtain ⟨z1, w1⟩ : ∃ zs, IsRow .u8 W a1 len1 cap1 zs := by
    obtain ⟨fuel, hf⟩ := h1
    rcases open_ints Try.underlying52 Try.underlying5 (by kernel_rfl) hf with ⟨hcs, _⟩ | ⟨x, l, c, zs, hcs, _, hl, hm, hz, _, hcell, hwz⟩
    · simp [Value.cells] at hcs
      obtain ⟨rfl, rfl, rfl⟩ := hcs
      exact ⟨[], .inl ⟨rfl, rfl, rfl, rfl⟩⟩
    · simp [Value.cells] at hcs
      obtain ⟨rfl, rfl, rfl⟩ := hcs
      exact ⟨zs, .inr ⟨_, rfl, hl, hm, by simpa using hz, hcell, hwz⟩⟩
  clear hA0 hval0
  refine (RingOrder_walk a0 a1 len1 cap1 z1 w0 W w1).mono fun e W' ⟨he, bel⟩ => ?_
  subst he
  exact ⟨_, rfl, _, _, _, [], _, [], hW', trodAll_mk1 (shut_bool Try.underlying4 _), (trodAll_cons_mk (shut_int Try.underlying5 w0) (trodAll_cons_mk (Below.trod RingOrder_laidOut (by kernel_rfl) (of_decide_eq_true (by kernel_rfl)) k1 bel lt1) trodAll_mk0)), rfl, bel.frame _, fun h => by cases h⟩

theorem ringOrder_holds : Rows.RingOrderSaid :=
  OpenClaim.holds_of_wide 4 Try.f4 rfl rfl rfl rfl rfl rfl rfl ⟨rfl, rfl, rfl, rfl, rfl⟩ rfl rfl rfl rfl rfl (by kernel_rfl) Try.func4 (by kernel_rfl)
    (of_decide_eq_true (by kernel_rfl)) (by unfold Func.isWrapper; rw [if_neg (of_decide_eq_false (by kernel_rfl))]; exact ⟨rfl, rfl⟩)
    (fun os started H enc _ => RingOrder_lifted os started H enc)
end Go.Proofs.Ytklgmecmgbfhgaa
