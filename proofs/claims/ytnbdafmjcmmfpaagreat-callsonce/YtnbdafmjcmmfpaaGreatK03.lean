import Derived.Test.YtnbdafmjcmmfpaaGreatK02
import Derived.Test.YtnbdafmjcmmfpaaGreatRows
import Derived.Deep.RegionHeld
import Derived.Deep.QuietTactic
import Derived.BigQuiet
import Derived.RegionTactic
import Derived.BigRegion
import Derived.Deep.Cut
import Derived.Deep.CutRange
import Derived.Deep.CutBlock
import Derived.IntWalk
import Derived.Defers
import Derived.Recover
import Derived.Laws.StructEq
/-
  Works, without Go: what holds of one at each stage, and that a step keeps it.
-/
namespace Verge
set_option linter.unusedVariables false
open Go.Proofs.YtnbdafmjcmmfpaaGreat

/-- which kinds come to a stage -/
def kdOk (sg : Sg) (kd : Nat) : Prop :=
  match sg with
  | .aBegin | .aCheck | .aEnter | .aAsk | .aTake | .aWait | .aGive | .aDrop | .aSubmit | .aFill _ => kd ≤ 2
  | .rEnter | .rBegin | .rFind | .rWait | .rAgain | .rChange _ _ | .rFill _ _ | .rNone => kd = 3
  | .eBegin | .eFind | .eStrike _ _ => 4 ≤ kd
  | .eRelease _ | .eDrop => kd = 4
  | .leave => kd ≤ 3
  | .fin | .over => True
/-- what a stage asks of its request, its ticket, what it saw -/
def sgOk (n : Nat) (k : Wk) : Prop :=
  match k.sg with
  | .aTake => k.q.ss = 0
  | .aWait | .rWait => k.t.su = 0 ∧ k.t.fl = false
  | .aSubmit | .aFill _ | .rAgain | .rNone => k.t.su = 2 ∧ k.t.fl = false
  | .rChange s v => k.t.su = 2 ∧ k.t.fl = false ∧ s < n ∧ v < 18446744073709551616
  | .rFill s _ => k.t.su = 2 ∧ k.t.fl = false ∧ s < n
  | .eStrike s v => s < n ∧ v < 18446744073709551616
  | .eRelease s => s < n
  | _ => True
structure Pw (N : Nm) (m : Nat) (k : Wk) : Prop where
  id : k.id < 18446744073709551616
  d : k.d < 18446744073709551616
  p : k.p < 18446744073709551616
  qs : k.q.st ≤ 2
  qn : k.q.seen ≤ 64
  ql : k.q.slot < N.n
  sl : k.asl < N.n
  ts : k.t.st = 0 ∨ k.t.st = 1 ∨ k.t.st = 2
  tp : k.t.pos ≤ m
  kd : kdOk k.sg k.kd
  sg : sgOk N.n k
/-- a held place that is to be filled lies in its ring's window -/
def Win (N : Nm) (σ : Wd) (k : Wk) : Prop :=
  match k.sg with
  | .aFill _ | .rFill _ _ | .rNone => (σ.g (k.h N)).fi ≤ k.t.pos ∧ k.t.pos < (σ.g (k.h N)).fi + N.r
  | _ => True
theorem per_lt {k : Wk} (h : k.p < 18446744073709551616) : k.per < 18446744073709551616 := by unfold Wk.per; split <;> omega
/-- what a request's step makes of the request -/
theorem stepM_q (n cnt : Nat) (R : Nat → Rec) (r : Rq) (h1 : r.st ≤ 2) (h2 : r.seen ≤ 64) (h3 : r.slot < n) (hc : cnt ≤ 64) (hn : n ≤ 64) :
    (stepM n cnt R r).2.2.st ≤ 2 ∧ (stepM n cnt R r).2.2.seen ≤ 64 ∧ (stepM n cnt R r).2.2.slot < n ∧ (r.ss = 0 → (stepM n cnt R r).2.2.ss = 0 ∨ (stepM n cnt R r).2.2.ss = 1 ∨
      ((stepM n cnt R r).2.2.ss = 2 ∧ (stepM n cnt R r).2.2.id = ((R r.slot).gv + 1) * 64 + r.slot ∧ (stepM n cnt R r).2.1 = upR R r.slot ⟨(nxW (R r.slot).wd 1 (r.pd != 0)).1, (R r.slot).gv + 1, r.pd⟩ ∧ (nxW (R r.slot).wd 1 (r.pd != 0)).2 = 0 ∧ (stepM n cnt R r).1 = cnt ∧ r.st = 2)) := by
  unfold stepM
  by_cases e1 : r.ss ≠ 0
  · rw [if_pos e1]; exact ⟨h1, h2, h3, fun h => absurd h e1⟩
  · rw [if_neg e1]
    have e1' : r.ss = 0 := by omega
    by_cases e2 : r.st = 0
    · rw [if_pos e2]
      by_cases e3 : cnt = n
      · rw [if_pos e3]; exact ⟨by dsimp only; omega, by dsimp only; omega, h3, fun _ => .inr (.inl rfl)⟩
      · rw [if_neg e3]; exact ⟨by dsimp only; omega, by dsimp only; omega, h3, fun _ => .inl e1'⟩
    · rw [if_neg e2]
      by_cases e3 : r.st = 1
      · rw [if_pos e3]
        by_cases e4 : cnt = r.seen
        · rw [if_pos e4]; exact ⟨by dsimp only; omega, h2, h3, fun _ => .inl e1'⟩
        · rw [if_neg e4]; exact ⟨by dsimp only; omega, h2, h3, fun _ => .inl e1'⟩
      · rw [if_neg e3]
        by_cases e4 : (nxW (R r.slot).wd 1 (r.pd != 0)).2 = 0
        · rw [if_pos e4]; exact ⟨h1, h2, h3, fun _ => .inr (.inr ⟨rfl, rfl, rfl, e4, rfl, by omega⟩)⟩
        · rw [if_neg e4]; exact ⟨h1, h2, Nat.mod_lt _ (by omega), fun _ => .inl e1'⟩
theorem tick_t (n nx fi : Nat) (P : Nat → Bool) (t : TSt) (m : Nat) (h1 : t.st = 0 ∨ t.st = 1 ∨ t.st = 2) (hp : t.pos ≤ m) (hx : nx ≤ m) :
    ((tickStep n nx fi P t).2.st = 0 ∨ (tickStep n nx fi P t).2.st = 1 ∨ (tickStep n nx fi P t).2.st = 2) ∧ (tickStep n nx fi P t).2.pos ≤ m ∧ (tickStep n nx fi P t).2.fl = t.fl ∧
      (t.su = 0 → (tickStep n nx fi P t).2.su = 0 ∨ (tickStep n nx fi P t).2.su = 1 ∨ (tickStep n nx fi P t).2.su = 2) := by
  unfold tickStep
  repeat' split
  all_goals (refine ⟨?_, ?_, ?_, ?_⟩ <;> first | omega | rfl | (intro h; first | exact .inl rfl | exact .inr (.inl rfl) | exact .inr (.inr rfl) | exact absurd h (by assumption) | omega) | (left; rfl) | (right; left; rfl) | (right; right; rfl) | assumption | (dsimp only; omega))
theorem was_lt {N : Nm} {R : Nat → Rec} {id : Nat} (h : wasW N R id = true) : id % 64 < N.n ∧ 1 ≤ id / 64 ∧ id / 64 ≤ (R (id % 64)).gv := by
  unfold wasW at h; rw [decide_eq_true_eq] at h; exact h
theorem Pw.up {N : Nm} {m m' : Nat} {k : Wk} (h : Pw N m k) (hm : m ≤ m') : Pw N m' k := ⟨h.id, h.d, h.p, h.qs, h.qn, h.ql, h.sl, h.ts, Nat.le_trans h.tp hm, h.kd, h.sg⟩
/-- a look keeps it -/
theorem Pw.look {N : Nm} {m : Nat} {k on : Wk} {σ : Wd} {ev : Int} {gone : Sg} (h : Pw N m k) (hk : kdOk gone k.kd) (hs : sgOk N.n { k with sg := gone }) (ho : wasW N σ.R k.id = true → mayW σ.R k.id ev = true → Pw N m on) : Pw N m (lookW N σ k ev gone on) := by
  have hs' : ∀ e, sgOk N.n (refW k e gone) := fun e => by
    unfold sgOk refW at *
    dsimp only at hs ⊢
    exact hs
  unfold lookW
  by_cases h1 : wasW N σ.R k.id = false
  · rw [if_pos h1]; exact ⟨h.id, h.d, h.p, h.qs, h.qn, h.ql, h.sl, h.ts, h.tp, hk, hs' 1⟩
  · rw [if_neg h1]
    by_cases h2 : mayW σ.R k.id ev = false
    · rw [if_pos h2]; exact ⟨h.id, h.d, h.p, h.qs, h.qn, h.ql, h.sl, h.ts, h.tp, hk, hs' 0⟩
    · rw [if_neg h2]; exact ho (by simpa using h1) (by simpa using h2)
theorem pw_step {N : Nm} {m : Nat} {k : Wk} {σ : Wd} (h : Pw N m k) (hn : N.n ≤ 64) (hc : σ.cnt ≤ 64) (hx : (σ.g (k.h N)).nx ≤ m) (hw : ∀ j, j < N.n → (σ.R j).wd < 18446744073709551616) : Pw N m (stepC N σ k).2 := by
  obtain ⟨kd, id, d, p, sg, a, q, t, aid, asl⟩ := k
  obtain ⟨p1, p2, p3, p4, p5, p6, p7, p8, p9, p10, p11⟩ := h
  have hq := stepM_q N.n σ.cnt σ.R q p4 p5 p6 hc hn
  have ht := tick_t N.r (σ.g (asl % N.m)).nx (σ.g (asl % N.m)).fi (σ.g (asl % N.m)).P t m p8 p9 hx
  cases sg with
  | aBegin => exact ⟨p1, p2, p3, p4, p5, p6, p7, p8, p9, p10, trivial⟩
  | aCheck =>
    simp only [stepC]
    split
    · exact ⟨p1, p2, p3, p4, p5, p6, p7, p8, p9, trivial, trivial⟩
    · exact ⟨p1, p2, p3, p4, p5, p6, p7, p8, p9, p10, trivial⟩
  | aEnter => exact ⟨p1, p2, p3, p4, p5, p6, p7, p8, p9, p10, trivial⟩
  | aAsk =>
    simp only [stepC]
    split
    · exact ⟨p1, p2, p3, p4, p5, p6, p7, p8, p9, Nat.le_trans p10 (by omega), trivial⟩
    · exact ⟨p1, p2, p3, Nat.zero_le _, Nat.zero_le _, Nat.lt_of_le_of_lt (Nat.zero_le _) p6, p7, p8, p9, p10, rfl⟩
  | aTake =>
    obtain ⟨q1, q2, q3, q4⟩ := hq
    have q5 := q4 p11
    simp only [stepC]
    by_cases e1 : (stepM N.n σ.cnt σ.R q).2.2.ss = 1
    · rw [if_pos e1]; exact ⟨p1, p2, p3, q1, q2, q3, p7, p8, p9, Nat.le_trans p10 (by omega), trivial⟩
    · rw [if_neg e1]
      by_cases e2 : (stepM N.n σ.cnt σ.R q).2.2.ss = 2
      · rw [if_pos e2]
        have q6 : (stepM N.n σ.cnt σ.R q).2.2.id = ((σ.R q.slot).gv + 1) * 64 + q.slot := by
          rcases q5 with e | e | e
          · omega
          · omega
          · exact e.2.1
        exact ⟨p1, p2, p3, q1, q2, q3, by show (stepM N.n σ.cnt σ.R q).2.2.id % 64 < N.n; have h6 : q.slot < N.n := p6; omega, .inl rfl, Nat.zero_le _, p10, ⟨rfl, rfl⟩⟩
      · rw [if_neg e2]
        refine ⟨p1, p2, p3, q1, q2, q3, p7, p8, p9, p10, ?_⟩
        rcases q5 with e | e | e
        · exact e
        · exact absurd e e1
        · exact absurd e.1 e2
  | aWait =>
    obtain ⟨t1, t2, t3, t4⟩ := ht
    have fl : t.fl = false := p11.2
    have e : (stepC N σ ⟨kd, id, d, p, .aWait, a, q, t, aid, asl⟩).2 = if (tickStep N.r (σ.g (asl % N.m)).nx (σ.g (asl % N.m)).fi (σ.g (asl % N.m)).P t).2.su = 1 then ⟨kd, id, d, p, .aGive, a, q, (tickStep N.r (σ.g (asl % N.m)).nx (σ.g (asl % N.m)).fi (σ.g (asl % N.m)).P t).2, aid, asl⟩ else if (tickStep N.r (σ.g (asl % N.m)).nx (σ.g (asl % N.m)).fi (σ.g (asl % N.m)).P t).2.su = 2 then ⟨kd, id, d, p, .aSubmit, a, q, (tickStep N.r (σ.g (asl % N.m)).nx (σ.g (asl % N.m)).fi (σ.g (asl % N.m)).P t).2, aid, asl⟩ else ⟨kd, id, d, p, .aWait, a, q, (tickStep N.r (σ.g (asl % N.m)).nx (σ.g (asl % N.m)).fi (σ.g (asl % N.m)).P t).2, aid, asl⟩ := rfl
    rw [e]
    clear e
    split
    · exact ⟨p1, p2, p3, p4, p5, p6, p7, t1, t2, p10, trivial⟩
    · rename_i e1
      split
      · rename_i e2
        exact ⟨p1, p2, p3, p4, p5, p6, p7, t1, t2, p10, ⟨e2, t3.trans fl⟩⟩
      · rename_i e2
        refine ⟨p1, p2, p3, p4, p5, p6, p7, t1, t2, p10, ⟨?_, t3.trans fl⟩⟩
        rcases t4 p11.1 with e | e | e
        · exact e
        · exact absurd e e1
        · exact absurd e e2
  | aGive => exact ⟨p1, p2, p3, p4, p5, p6, p7, p8, p9, p10, trivial⟩
  | aDrop => exact ⟨p1, p2, p3, p4, p5, p6, p7, p8, p9, Nat.le_trans p10 (by omega), trivial⟩
  | aSubmit => exact ⟨p1, p2, p3, p4, p5, p6, p7, p8, p9, p10, p11⟩
  | aFill g => exact ⟨p1, p2, p3, p4, p5, p6, p7, p8, p9, Nat.le_trans p10 (by omega), trivial⟩
  | rEnter => exact ⟨p1, p2, p3, p4, p5, p6, p7, p8, p9, p10, trivial⟩
  | rBegin =>
    simp only [stepC]
    split
    · exact ⟨p1, p2, p3, p4, p5, p6, p7, p8, p9, Nat.le_of_eq p10, trivial⟩
    · exact ⟨p1, p2, p3, p4, p5, p6, p7, p8, p9, p10, trivial⟩
  | rFind =>
    exact Pw.look (k := ⟨kd, id, d, p, .rFind, a, q, t, aid, asl⟩) ⟨p1, p2, p3, p4, p5, p6, p7, p8, p9, p10, p11⟩ (Nat.le_of_eq p10) trivial (fun hw _ => ⟨p1, p2, p3, p4, p5, p6, (was_lt hw).1, .inl rfl, Nat.zero_le _, p10, ⟨rfl, rfl⟩⟩)
  | rWait =>
    obtain ⟨t1, t2, t3, t4⟩ := ht
    have fl : t.fl = false := p11.2
    have e : (stepC N σ ⟨kd, id, d, p, .rWait, a, q, t, aid, asl⟩).2 = if (tickStep N.r (σ.g (asl % N.m)).nx (σ.g (asl % N.m)).fi (σ.g (asl % N.m)).P t).2.su = 1 then refW ⟨kd, id, d, p, .rWait, a, q, (tickStep N.r (σ.g (asl % N.m)).nx (σ.g (asl % N.m)).fi (σ.g (asl % N.m)).P t).2, aid, asl⟩ 2 .leave else if (tickStep N.r (σ.g (asl % N.m)).nx (σ.g (asl % N.m)).fi (σ.g (asl % N.m)).P t).2.su = 2 then ⟨kd, id, d, p, .rAgain, a, q, (tickStep N.r (σ.g (asl % N.m)).nx (σ.g (asl % N.m)).fi (σ.g (asl % N.m)).P t).2, aid, asl⟩ else ⟨kd, id, d, p, .rWait, a, q, (tickStep N.r (σ.g (asl % N.m)).nx (σ.g (asl % N.m)).fi (σ.g (asl % N.m)).P t).2, aid, asl⟩ := rfl
    rw [e]
    clear e
    split
    · exact ⟨p1, p2, p3, p4, p5, p6, p7, t1, t2, Nat.le_of_eq p10, trivial⟩
    · rename_i e1
      split
      · rename_i e2
        exact ⟨p1, p2, p3, p4, p5, p6, p7, t1, t2, p10, ⟨e2, t3.trans fl⟩⟩
      · rename_i e2
        refine ⟨p1, p2, p3, p4, p5, p6, p7, t1, t2, p10, ⟨?_, t3.trans fl⟩⟩
        rcases t4 p11.1 with e | e | e
        · exact e
        · exact absurd e e1
        · exact absurd e e2
  | rAgain =>
    exact Pw.look (k := ⟨kd, id, d, p, .rAgain, a, q, t, aid, asl⟩) ⟨p1, p2, p3, p4, p5, p6, p7, p8, p9, p10, p11⟩ p10 p11 (fun h1 _ => ⟨p1, p2, p3, p4, p5, p6, p7, p8, p9, p10, ⟨p11.1, p11.2, (was_lt h1).1, hw _ (was_lt h1).1⟩⟩)
  | rChange s v =>
    simp only [stepC]
    split
    · exact ⟨p1, p2, p3, p4, p5, p6, p7, p8, p9, p10, ⟨p11.1, p11.2.1, p11.2.2.1⟩⟩
    · exact ⟨p1, p2, p3, p4, p5, p6, p7, p8, p9, p10, ⟨p11.1, p11.2.1⟩⟩
  | rFill s g => exact ⟨p1, p2, p3, p4, p5, p6, p7, p8, p9, Nat.le_of_eq p10, trivial⟩
  | rNone => exact ⟨p1, p2, p3, p4, p5, p6, p7, p8, p9, Nat.le_of_eq p10, trivial⟩
  | eBegin =>
    simp only [stepC]
    split
    · exact ⟨p1, p2, p3, p4, p5, p6, p7, p8, p9, trivial, trivial⟩
    · exact ⟨p1, p2, p3, p4, p5, p6, p7, p8, p9, p10, trivial⟩
  | eFind =>
    exact Pw.look (k := ⟨kd, id, d, p, .eFind, a, q, t, aid, asl⟩) ⟨p1, p2, p3, p4, p5, p6, p7, p8, p9, p10, p11⟩ trivial trivial (fun h1 _ => ⟨p1, p2, p3, p4, p5, p6, p7, p8, p9, p10, ⟨(was_lt h1).1, hw _ (was_lt h1).1⟩⟩)
  | eStrike s v =>
    simp only [stepC]
    split
    · by_cases e : kd = 4
      · rw [if_pos e]; exact ⟨p1, p2, p3, p4, p5, p6, p7, p8, p9, e, p11.1⟩
      · rw [if_neg e]; exact ⟨p1, p2, p3, p4, p5, p6, p7, p8, p9, trivial, trivial⟩
    · exact ⟨p1, p2, p3, p4, p5, p6, p7, p8, p9, p10, trivial⟩
  | eRelease s => exact ⟨p1, p2, p3, p4, p5, p6, p7, p8, p9, p10, trivial⟩
  | eDrop => exact ⟨p1, p2, p3, p4, p5, p6, p7, p8, p9, trivial, trivial⟩
  | leave => exact ⟨p1, p2, p3, p4, p5, p6, p7, p8, p9, trivial, trivial⟩
  | fin => exact ⟨p1, p2, p3, p4, p5, p6, p7, p8, p9, trivial, trivial⟩
  | over => exact ⟨p1, p2, p3, p4, p5, p6, p7, p8, p9, trivial, trivial⟩
theorem pw_new {N : Nm} {kd id d p : Nat} (h0 : 0 < N.n) (hk : 1 ≤ kd ∧ kd ≤ 5) (h1 : id < 18446744073709551616) (h2 : d < 18446744073709551616) (h3 : p < 18446744073709551616) (m : Nat) : Pw N m (newW kd id d p) := by
  refine ⟨h1, h2, h3, Nat.zero_le _, Nat.zero_le _, h0, h0, .inl rfl, Nat.zero_le _, ?_, ?_⟩
  · show kdOk (sgOf kd) kd
    unfold sgOf
    repeat' split
    all_goals (simp only [kdOk]; omega)
  · show sgOk N.n (newW kd id d p)
    unfold newW sgOf
    repeat' split
    all_goals trivial
end Verge

/-
  A drawn region, operation by operation: what yields in every world that keeps S is taken first, at a slot that is named.
-/
namespace Go.Proofs.YtnbdafmjcmmfpaaGreat
theorem take_at {P : Program} {md : Region.Mode} {ops : Array Oper} {Q : Exit → Act → World → Prop} {S : World → Prop} (i : Nat) (d : Option Tmp) {oi : Oper} {v : Value} {fuel : Nat} {listed : Array Bool} {a : Act} {w : World} (hi : ops[i]? = some oi) (hd : oi.dst = d)
    (hs : Region.noSelect ops = true) (hf : Region.free md ops listed i = true) (hr : (Region.ready md ops listed).contains i = true)
    (hQ : ∀ c a w, Q (.panic c) (a.put oi.dst v) w → Q (.panic c) a w) (hy : YieldsIf P ops S oi v a) (hS : S w)
    (h : wpAnyH P md ops Q S fuel (listed.setIfInBounds i true) (a.put d v) w) : wpAnyH P md ops Q S (fuel + 1) listed a w := by
  subst hd
  exact wpAnyH_take hi hs hf hr hQ hy hS h
end Go.Proofs.YtnbdafmjcmmfpaaGreat

/-
  Programs whose stages are method values and closures that may be made at any time: isEnd, may, New, May, Done, Step; next, Until.
-/
namespace Go.Proofs.YtnbdafmjcmmfpaaGreat
open Go.RowKit
attribute [local go_sem] Oper.semAt_some
set_option linter.unusedVariables false
set_option linter.unusedSimpArgs false

/-- a function, or nil -/
def IsFn (v : Value) : Prop := v = .nilFunc ∨ ∃ K a c, v = .func (.func K) a c
/-- is it nil? -/
def isNilF : Value → Bool
  | .nilFunc => true
  | _ => false
/-- a function of that number may be called -/
def Enters (K : Nat) : Prop := ∀ args w, (callFunc K args).run Tryz.prog w = .ok (.enter K args) w
/-- a program: its stage's two functions, how many steps were made -/
structure IsPg (w : World) (b : Nat) (d : Value) (n : Int) : Prop where
  m : w.cell? ⟨b, 0, none⟩ = some .nilFunc
  d : w.cell? ⟨b, 1, none⟩ = some d
  n : w.cell? ⟨b, 2, none⟩ = some (.int .i64 n)
  k : Blk w b
section
variable {S : Nat → Prop} {w w' : World} {b : Nat} {d : Value} {n : Int}
theorem IsPg.lt (h : IsPg w b d n) : b < w.heap.size := lt_of_cell h.m
theorem IsPg.kept (h : IsPg w b d n) (c : Ch S w w') (hn : ¬ S b) : IsPg w' b d n := ⟨c.keeps h.m hn, c.keeps h.d hn, c.keeps h.n hn, h.k.kept c hn⟩
theorem IsPg.new (w : World) (d : Value) (n : Int) (T : TypeId) : IsPg (w.alloc (.cells #[.nilFunc, d, .int .i64 n] T)) w.heap.size d n :=
  ⟨by rw [cell_fresh]; rfl, by rw [cell_fresh]; rfl, by rw [cell_fresh]; rfl, Blk.new _ _ _⟩
theorem IsPg.set (h : IsPg w b d n) (d' : Value) (n' : Int) : IsPg (((w.setCell ⟨b, 0, none⟩ .nilFunc).setCell ⟨b, 1, none⟩ d').setCell ⟨b, 2, none⟩ (.int .i64 n')) b d' n' := by
  obtain ⟨hm, hd, hn, hk⟩ := h
  refine ⟨?_, ?_, ?_, ((hk.set _ _).set _ _).set _ _⟩ <;> simp [cell_set, hm, hd, hn]
end
theorem run_neq_fn (P : Program) (w : World) (t : TypeId) (f : Fn) (a c : Array Value) (τ : _) (h : P.underlying t = some τ) (hf : τ matches .func ..) : (binOp .neq t (.func f a c) .nilFunc).run P w = .ok (.bool true) w := by
  simp only [binOp]
  simp [show Op.equal t (.func f a c) .nilFunc = Op.equalIn (9999 + 1) t (.func f a c) .nilFunc from rfl, run_equalIn_fn P w 9999 t f a c τ h hf]
theorem run_equalIn_nilfn (P : Program) (w : World) (d : Nat) (t : TypeId) (τ : _) (h : P.underlying t = some τ) (hf : τ matches .func ..) : (Op.equalIn (d + 1) t .nilFunc .nilFunc).run P w = .ok true w := by
  cases τ <;> simp at hf
  simp [Op.equalIn, run_underlying h]
theorem run_eql_nilfn (P : Program) (w : World) (t : TypeId) (τ : _) (h : P.underlying t = some τ) (hf : τ matches .func ..) : (binOp .eql t .nilFunc .nilFunc).run P w = .ok (.bool true) w := by
  simp only [binOp]
  simp [show Op.equal t .nilFunc .nilFunc = Op.equalIn (9999 + 1) t .nilFunc .nilFunc from rfl, run_equalIn_nilfn P w 9999 t τ h hf]
theorem eql_do0 (w : World) : (binOp .eql 99 .nilFunc .nilFunc).run Tryz.prog w = .ok (.bool true) w := run_eql_nilfn _ w _ _ Tryz.underlying99 rfl
theorem eql_may0 (w : World) : (binOp .eql 24 .nilFunc .nilFunc).run Tryz.prog w = .ok (.bool true) w := run_eql_nilfn _ w _ _ Tryz.underlying24 rfl
theorem eql_do (f : Fn) (a c : Array Value) (w : World) : (binOp .eql 99 (.func f a c) .nilFunc).run Tryz.prog w = .ok (.bool false) w := run_eql_fn _ w _ f a c _ Tryz.underlying99 rfl

theorem IsFn.one {v : Value} (h : IsFn v) : v.oneCell' = true := by rcases h with rfl | ⟨K, a, c, rfl⟩ <;> rfl
theorem IsFn.store {v : Value} (h : IsFn v) (P : Program) (w : World) (a : Addr) (m : Mode) : (store a v m).run P w = stored P w a v m := by
  rcases h with rfl | ⟨K, b, c, rfl⟩
  · exact run_store P w a _ m rfl
  · exact run_store P w a _ m rfl

set_option maxHeartbeats 1000000 in
theorem isEnd_any (d : Value) (hd : IsFn d) (w : World) :
    Calls Tryz.prog 75 #[.agg #[.nilFunc, d]] w fun e w' => e = .returned (.bool (isNilF d)) ∧ Ch Nil w w' := by
  have hD := eql_do
  have hD0 := eql_do0
  have c0 : Ch Nil w (w.alloc (.cells #[.nilFunc, d] 103)) := (Ch.refl _ _).alloc _
  rcases hd with rfl | ⟨K, a, c, rfl⟩
  · go_enter Tryz.func75, Tryz.ntmps75
    go_wp2
    go_ret
    exact ⟨rfl, c0⟩
  · go_enter Tryz.func75, Tryz.ntmps75
    go_wp2
    go_ret
    exact ⟨rfl, c0⟩
set_option maxHeartbeats 1000000 in
theorem may_end (w : World) :
    Calls Tryz.prog 74 #[.agg #[.nilFunc, .nilFunc]] w fun e w' => e = .returned (.bool false) ∧ Ch Nil w w' := by
  have c0 : Ch Nil w (w.alloc (.cells #[.nilFunc, .nilFunc] 103)) := (Ch.refl _ _).alloc _
  go_enter Tryz.func74, Tryz.ntmps74
  go_wp2_with fail
  refine (isEnd_any _ (.inl rfl) _).mono ?_
  rintro e w1 ⟨rfl, c1⟩
  have C1 := Lib.hid (c0.trans c1)
  clear c0 c1
  simp only [isNilF]
  go_wp2
  go_ret
  exact ⟨rfl, C1.out⟩
set_option maxHeartbeats 1000000 in
theorem may_go (K : Nat) (fa fc : Array Value) (w : World) :
    Calls Tryz.prog 74 #[.agg #[.nilFunc, .func (.func K) fa fc]] w fun e w' => e = .returned (.bool true) ∧ Ch Nil w w' := by
  have hM0 := eql_may0
  have c0 : Ch Nil w (w.alloc (.cells #[.nilFunc, .func (.func K) fa fc] 103)) := (Ch.refl _ _).alloc _
  have k0 : (w.alloc (.cells #[.nilFunc, .func (.func K) fa fc] 103)).cell? ⟨w.heap.size, 0, none⟩ = some .nilFunc := by rw [cell_fresh]; rfl
  have K0 := Lib.hid k0
  have C0 := Lib.hid c0
  clear k0 c0
  go_enter Tryz.func74, Tryz.ntmps74
  go_wp2_with fail
  refine (isEnd_any _ (.inr ⟨_, _, _, rfl⟩) _).mono ?_
  rintro e w1 ⟨rfl, c1⟩
  have k1 := c1.keeps K0.out (fun e => e)
  have C1 := Lib.hid (C0.out.trans c1)
  clear C0 c1
  simp only [isNilF]
  go_wp2
  go_ret
  exact ⟨rfl, C1.out⟩
theorem stage_may (d : Value) (hd : IsFn d) (w : World) :
    Calls Tryz.prog 74 #[.agg #[.nilFunc, d]] w fun e w' => e = .returned (.bool (!isNilF d)) ∧ Ch Nil w w' := by
  rcases hd with rfl | ⟨K, a, c, rfl⟩
  · exact may_end w
  · exact may_go _ _ _ w
set_option maxHeartbeats 1000000 in
theorem new_any (d : Value) (w : World) :
    Calls Tryz.prog 39 #[.agg #[.nilFunc, d]] w fun e w' => ∃ b, e = .returned (.pointer (some ⟨b, 0, none⟩)) ∧ IsPg w' b d 0 ∧ Ch Nil w w' ∧ w.heap.size ≤ b := by
  have c0 : Ch Nil w (w.alloc (.cells #[.nilFunc, d] 103)) := (Ch.refl _ _).alloc _
  go_enter Tryz.func39, Tryz.ntmps39
  go_wp2
  go_ret
  refine ⟨_, rfl, ?_, c0.alloc _, by simp⟩
  have := IsPg.new (w.alloc (.cells #[.nilFunc, d] 103)) d 0 159
  simpa using this
section
variable {w : World} {b : Nat} {d : Value} {n : Int} {r : Bool}
set_option maxHeartbeats 1000000 in
theorem pMay_of (h : IsPg w b d n) (hd : IsFn d) : Calls Tryz.prog 54 #[.pointer (some ⟨b, 0, none⟩)] w fun e w' => e = .returned (.bool (!isNilF d)) ∧ Ch Nil w w' := by
  have HD := Lib.hid hd
  clear hd
  obtain ⟨hm, hd, hn, hk⟩ := h
  go_enter Tryz.func54, Tryz.ntmps54
  go_wp2_with fail
  refine (stage_may _ HD.out _).mono ?_
  rintro e w1 ⟨rfl, c1⟩
  have C1 := Lib.hid c1
  clear c1
  go_wp2
  go_ret
  exact ⟨rfl, C1.out⟩
set_option maxHeartbeats 1000000 in
theorem pDone_of (h : IsPg w b d n) (hf : IsFn d) : Calls Tryz.prog 55 #[.pointer (some ⟨b, 0, none⟩)] w fun e w' => e = .returned (.bool (isNilF d)) ∧ Ch Nil w w' := by
  have HF := Lib.hid hf
  clear hf
  obtain ⟨hm, hd, hn, hk⟩ := h
  go_enter Tryz.func55, Tryz.ntmps55
  go_wp2_with fail
  refine (isEnd_any _ HF.out _).mono ?_
  rintro e w1 ⟨rfl, c1⟩
  have C1 := Lib.hid c1
  clear c1
  go_wp2
  go_ret
  exact ⟨rfl, C1.out⟩
set_option maxHeartbeats 1000000 in
theorem pStep_no (h : IsPg w b .nilFunc n) : Calls Tryz.prog 42 #[.pointer (some ⟨b, 0, none⟩)] w fun e w' => e = .returned (.bool false) ∧ Ch Nil w w' := by
  have HH := Lib.hid h
  clear h
  go_enter Tryz.func42, Tryz.ntmps42
  go_wp2_with fail
  refine (pMay_of HH.out (.inl rfl)).mono ?_
  rintro e w1 ⟨rfl, c1⟩
  have C1 := Lib.hid c1
  clear c1
  simp only [isNilF]
  go_wp2
  go_ret
  exact ⟨rfl, C1.out⟩
set_option maxHeartbeats 2000000 in
/-- a step that may be made: whatever the stage's Do does (R), its answer is the next stage -/
theorem pStep_yes {K : Nat} {a c : Array Value} {R : Value → World → World → Prop} (h : IsPg w b (.func (.func K) a c) n) (en : Enters K) (hn : n < 1000000) (hn0 : 0 ≤ n)
    (hdo : ∀ w1, Ch Nil w w1 → Calls Tryz.prog K (a ++ c) w1 fun e w' => ∃ d', e = .returned (.agg #[.nilFunc, d']) ∧ IsFn d' ∧ IsPg w' b (.func (.func K) a c) n ∧ R d' w1 w') :
    Calls Tryz.prog 42 #[.pointer (some ⟨b, 0, none⟩)] w fun e w' => e = .returned (.bool true) ∧ ∃ d' w1 w2, Ch Nil w w1 ∧ R d' w1 w2 ∧ IsPg w' b d' (n + 1) ∧ Ch (One b) w2 w' := by
  have HH := Lib.hid h
  have HD := Lib.hid hdo
  have hE := en
  unfold Enters at hE
  clear h hdo en
  go_enter Tryz.func42, Tryz.ntmps42
  go_wp2_with fail
  refine (pMay_of HH.out (.inr ⟨_, _, _, rfl⟩)).mono ?_
  rintro e w1 ⟨rfl, c1⟩
  simp only [isNilF]
  obtain ⟨h1, h2, h3, h4⟩ := HH.out.kept c1 (fun e => e)
  have C1 := Lib.hid c1
  clear c1
  go_wp2_with fail
  refine (HD.out w1 C1.out).mono ?_
  rintro e w2 ⟨d', rfl, fd, hp, hR⟩
  have st0 := IsFn.store (v := .nilFunc) (.inl rfl)
  have st2 := fd.store
  have RR := Lib.hid hR
  have HP := Lib.hid hp
  obtain ⟨p1, p2, p3, p4⟩ := hp
  have hfz := p4.fz
  clear hR h1 h2 h3 h4 fd
  have hw : IntKind.i64.wrap (n + 1) = n + 1 := IntWalk.i64_in _ (by omega)
  go_wp2
  go_ret
  have hs := HP.out.set d' (n + 1)
  refine ⟨rfl, d', w1, w2, C1.out, RR.out, ?_, ?_⟩
  · simpa using hs
  · exact (((Ch.refl _ _).setB _ _).setB _ _).setB _ _
end
/-- the box of a stage that is the result -/
theorem stBox (w : World) : ∀ W, W = w.alloc (Obj.cells #[.nilFunc, .nilFunc] 103) → Ch Nil w W ∧ (∃ x, W.cell? ⟨w.heap.size, 0, none⟩ = some x) ∧ (∃ x, W.cell? ⟨w.heap.size, 1, none⟩ = some x) ∧ Blk W w.heap.size := by
  rintro W rfl
  exact ⟨(Ch.refl _ _).alloc _, ⟨_, by rw [cell_fresh]; rfl⟩, ⟨_, by rw [cell_fresh]; rfl⟩, Blk.new _ _ _⟩
set_option maxHeartbeats 1000000 in
theorem until_fn (K : Nat) (a c : Array Value) (w : World) :
    Calls Tryz.prog 64 #[.nilFunc, .func (.func K) a c] w fun e w' => e = .returned (.agg #[.nilFunc, .func (.func K) a c]) ∧ Ch Nil w w' := by
  have c0 : Ch Nil w (w.alloc (Obj.cells #[.nilFunc, .nilFunc] 103)) := (Ch.refl _ _).alloc _
  have hfz := (Blk.new w #[.nilFunc, .nilFunc] 103).fz
  have k0 : (w.alloc (.cells #[.nilFunc, .nilFunc] 103)).cell? ⟨w.heap.size, 0, none⟩ = some .nilFunc := by rw [cell_fresh]; rfl
  have k1 : (w.alloc (.cells #[.nilFunc, .nilFunc] 103)).cell? ⟨w.heap.size, 1, none⟩ = some .nilFunc := by rw [cell_fresh]; rfl
  have st0 := IsFn.store (v := .nilFunc) (.inl rfl)
  have st2 := IsFn.store (v := .func (.func K) a c) (.inr ⟨_, _, _, rfl⟩)
  have C0 := Lib.hid c0
  clear c0
  go_enter Tryz.func64, Tryz.ntmps64
  go_upto_region 1 with (fail)
  generalize w.alloc (.cells #[.nilFunc, .nilFunc] 103) = W at C0 hfz k0 k1 ⊢
  obtain ⟨B, hB⟩ : ∃ B, B = w.heap.size := ⟨_, rfl⟩
  rw [← hB] at hfz k0 k1 ⊢
  have HB := Lib.hid hB
  clear hB
  go_wp2
  have hc : Ch Nil w ((W.setCell ⟨B, 0, none⟩ .nilFunc).setCell ⟨B, 1, none⟩ (.func (.func K) a c)) := C0.out.then (((Ch.refl (One B) _).setB _ _).setB _ _) (fun i hi e => by have := HB.out; have e' : i = B := e; omega)
  have r0 : ((W.setCell ⟨B, 0, none⟩ .nilFunc).setCell ⟨B, 1, none⟩ (.func (.func K) a c)).cell? ⟨B, 0, none⟩ = some .nilFunc := by rw [cell_ne (by omega)]; exact World.cell?_setCell_same _ _ _ k0
  have r1 : ((W.setCell ⟨B, 0, none⟩ .nilFunc).setCell ⟨B, 1, none⟩ (.func (.func K) a c)).cell? ⟨B, 1, none⟩ = some (.func (.func K) a c) := World.cell?_setCell_same _ _ _ ((cell_ne (by omega) _).trans k1)
  (try simp only [Exit.inBlock, Exit.then])
  refine bodyPost_ret (v := .agg #[.nilFunc, .func (.func K) a c]) ?hr rfl ?hx
  case hx => exact ⟨rfl, hc⟩
  case hr =>
    generalize ((W.setCell ⟨B, 0, none⟩ .nilFunc).setCell ⟨B, 1, none⟩ (.func (.func K) a c)) = W5 at r0 r1 ⊢
    simp [results, Tryz.results64, go_sem, r0, r1]
set_option maxHeartbeats 1000000 in
theorem until_nil (w : World) :
    Calls Tryz.prog 64 #[.nilFunc, .nilFunc] w fun e w' => e = .returned (.agg #[.nilFunc, .nilFunc]) ∧ Ch Nil w w' := by
  have c0 : Ch Nil w (w.alloc (Obj.cells #[.nilFunc, .nilFunc] 103)) := (Ch.refl _ _).alloc _
  have hfz := (Blk.new w #[.nilFunc, .nilFunc] 103).fz
  have k0 : (w.alloc (.cells #[.nilFunc, .nilFunc] 103)).cell? ⟨w.heap.size, 0, none⟩ = some .nilFunc := by rw [cell_fresh]; rfl
  have k1 : (w.alloc (.cells #[.nilFunc, .nilFunc] 103)).cell? ⟨w.heap.size, 1, none⟩ = some .nilFunc := by rw [cell_fresh]; rfl
  have st0 := IsFn.store (v := .nilFunc) (.inl rfl)
  have C0 := Lib.hid c0
  clear c0
  go_enter Tryz.func64, Tryz.ntmps64
  go_upto_region 1 with (fail)
  generalize w.alloc (.cells #[.nilFunc, .nilFunc] 103) = W at C0 hfz k0 k1 ⊢
  obtain ⟨B, hB⟩ : ∃ B, B = w.heap.size := ⟨_, rfl⟩
  rw [← hB] at hfz k0 k1 ⊢
  have HB := Lib.hid hB
  clear hB
  go_wp2
  have hc : Ch Nil w ((W.setCell ⟨B, 0, none⟩ .nilFunc).setCell ⟨B, 1, none⟩ .nilFunc) := C0.out.then (((Ch.refl (One B) _).setB _ _).setB _ _) (fun i hi e => by have := HB.out; have e' : i = B := e; omega)
  have r0 : ((W.setCell ⟨B, 0, none⟩ .nilFunc).setCell ⟨B, 1, none⟩ .nilFunc).cell? ⟨B, 0, none⟩ = some .nilFunc := by rw [cell_ne (by omega)]; exact World.cell?_setCell_same _ _ _ k0
  have r1 : ((W.setCell ⟨B, 0, none⟩ .nilFunc).setCell ⟨B, 1, none⟩ .nilFunc).cell? ⟨B, 1, none⟩ = some .nilFunc := World.cell?_setCell_same _ _ _ ((cell_ne (by omega) _).trans k1)
  (try simp only [Exit.inBlock, Exit.then])
  refine bodyPost_ret (v := .agg #[.nilFunc, .nilFunc]) ?hr rfl ?hx
  case hx => exact ⟨rfl, hc⟩
  case hr =>
    generalize ((W.setCell ⟨B, 0, none⟩ .nilFunc).setCell ⟨B, 1, none⟩ .nilFunc) = W5 at r0 r1 ⊢
    simp [results, Tryz.results64, go_sem, r0, r1]
theorem until_any (d : Value) (hd : IsFn d) (w : World) :
    Calls Tryz.prog 64 #[.nilFunc, d] w fun e w' => e = .returned (.agg #[.nilFunc, d]) ∧ Ch Nil w w' := by
  rcases hd with rfl | ⟨K, a, c, rfl⟩
  · exact until_nil w
  · exact until_fn K a c w
set_option maxHeartbeats 1000000 in
theorem next_fn (d : Value) (hd : IsFn d) (w : World) :
    Calls Tryz.prog 40 #[d] w fun e w' => e = .returned (.agg #[.nilFunc, d]) ∧ Ch Nil w w' := by
  have c0 : Ch Nil w (w.alloc (Obj.cells #[.nilFunc, .nilFunc] 103)) := (Ch.refl _ _).alloc _
  have hb := Lib.hid (Blk.new w #[.nilFunc, .nilFunc] 103)
  have k0 : (w.alloc (.cells #[.nilFunc, .nilFunc] 103)).cell? ⟨w.heap.size, 0, none⟩ = some .nilFunc := by rw [cell_fresh]; rfl
  have k1 : (w.alloc (.cells #[.nilFunc, .nilFunc] 103)).cell? ⟨w.heap.size, 1, none⟩ = some .nilFunc := by rw [cell_fresh]; rfl
  have st0 := IsFn.store (v := .nilFunc) (.inl rfl)
  have st2 := hd.store
  have C0 := Lib.hid c0
  have HD := Lib.hid hd
  clear c0 hd
  go_enter Tryz.func40, Tryz.ntmps40
  go_upto_region 1 with (fail)
  generalize w.alloc (.cells #[.nilFunc, .nilFunc] 103) = W0 at C0 hb k0 k1 ⊢
  obtain ⟨B, hB⟩ : ∃ B, B = w.heap.size := ⟨_, rfl⟩
  rw [← hB] at hb k0 k1 ⊢
  have HB := Lib.hid hB
  clear hB
  go_wp2_with fail
  refine (until_any d HD.out _).mono ?_
  rintro e W ⟨rfl, c1⟩
  have C1 := Lib.hid (C0.out.trans c1)
  have hfz := (hb.out.kept c1 (fun e => e)).fz
  have k2 := c1.keeps k0 (fun e => e)
  have k3 := c1.keeps k1 (fun e => e)
  clear c1 k0 k1 hb C0
  go_wp2
  have hc : Ch Nil w ((W.setCell ⟨B, 0, none⟩ .nilFunc).setCell ⟨B, 1, none⟩ d) := C1.out.then (((Ch.refl (One B) _).setB _ _).setB _ _) (fun i hi e => by have := HB.out; have e' : i = B := e; omega)
  have r0 : ((W.setCell ⟨B, 0, none⟩ .nilFunc).setCell ⟨B, 1, none⟩ d).cell? ⟨B, 0, none⟩ = some .nilFunc := by rw [cell_ne (by omega)]; exact World.cell?_setCell_same _ _ _ k2
  have r1 : ((W.setCell ⟨B, 0, none⟩ .nilFunc).setCell ⟨B, 1, none⟩ d).cell? ⟨B, 1, none⟩ = some d := World.cell?_setCell_same _ _ _ ((cell_ne (by omega) _).trans k3)
  (try simp only [Exit.inBlock, Exit.then])
  refine bodyPost_ret (v := .agg #[.nilFunc, d]) ?hr rfl ?hx
  case hx => exact ⟨rfl, hc⟩
  case hr =>
    generalize ((W.setCell ⟨B, 0, none⟩ .nilFunc).setCell ⟨B, 1, none⟩ d) = W5 at r0 r1 ⊢
    simp [results, Tryz.results40, go_sem, r0, r1]
end Go.Proofs.YtnbdafmjcmmfpaaGreat

/-
  Contracts of package cell's functions at unsigned numbers and at marks.
-/
namespace Go.Proofs.YtnbdafmjcmmfpaaGreat
open Go.RowKit
attribute [local go_sem] Oper.semAt_some
set_option linter.unusedVariables false
set_option linter.unusedSimpArgs false

theorem catchU_idle (w : World) :
    CallsD Tryz.prog 166 #[] .returning w fun e u' w' => e = .returned (.tuple #[]) ∧ u' = .returning ∧ w = w' := by
  refine callsD_of_wpS Tryz.func166 rfl fun c₀ cs hu => ?_
  apply wpS_region
  cases c₀
  simp_all [wpOpsS, go_sem, recoverD, Tryz.ntmps166, bodyPostS, results, Tryz.results166]

theorem sameU_any (a b : Int) (w : World) :
    Calls Tryz.prog 162 #[.int .u64 a, .int .u64 b] w fun e w' => e = .returned (.bool (a == b)) ∧ w = w' := by
  have hmf : ∀ (fn : Fn) (first cap : Array Value) (w : World), (Instr.makeFunc fn first cap).run Tryz.prog w = .ok (.func fn first cap) w := fun _ _ _ _ => rfl
  go_enter_defers Tryz.func162, Tryz.ntmps162
  go_wp2
  refine leaves_cons (f := 166) (args := #[]) (by simp) (by simp [go_sem]) ?_
  refine (catchU_idle _).mono ?_
  rintro e u' w'' ⟨rfl, rfl, rfl⟩
  simp [Leaves, settle, results, Tryz.results162, go_sem]

theorem changeU_no (b o : Nat) (v x : Value) (l t u : Int) (w : World) (h : IsC w b o v l t u) :
    Calls Tryz.prog 161 #[.pointer (some ⟨b, o, none⟩), x, .bool false] w fun e w' => e = .returned (.bool false) ∧ w.setCell ⟨b, o + 2, none⟩ (.int .i64 (wrap64 (t + 1))) = w' := by
  obtain ⟨hv, hl, ht, hu, fv, fl, ft, fu⟩ := h
  go_enter Tryz.func161, Tryz.ntmps161
  go_wp2
  go_ret
  exact ⟨rfl, rfl⟩

theorem changeU_yes (b o : Nat) (v : Value) (x l t u : Int) (w : World) (h : IsC w b o v l t u) :
    Calls Tryz.prog 161 #[.pointer (some ⟨b, o, none⟩), .int .u64 x, .bool true] w fun e w' => e = .returned (.bool true) ∧
      ((w.setCell ⟨b, o + 2, none⟩ (.int .i64 (wrap64 (t + 1)))).setCell ⟨b, o, none⟩ (.int .u64 x)).setCell ⟨b, o + 3, none⟩ (.int .i64 (wrap64 (u + 1))) = w' := by
  obtain ⟨hv, hl, ht, hu, fv, fl, ft, fu⟩ := h
  go_enter Tryz.func161, Tryz.ntmps161
  go_wp2
  go_ret
  exact ⟨rfl, rfl⟩

theorem swapU_no (b o : Nat) (v old x : Int) (w : World) (h : IsU w b o v) (hne : (v == old) = false) :
    Calls Tryz.prog 152 #[.pointer (some ⟨b, o, none⟩), .int .u64 old, .int .u64 x] w fun e w' => e = .returned (.bool false) ∧ IsU w' b o v ∧ Tch b o 4 w w' := by
  obtain ⟨l, t, u, h⟩ := h
  have H := Lib.hid h
  have hv := h.v
  clear h
  go_enter Tryz.func152, Tryz.ntmps152
  go_wp2_with fail
  refine (sameU_any _ _ _).mono ?_
  rintro e w1 ⟨rfl, rfl⟩
  rw [hne]
  go_wp2_with fail
  refine (changeU_no b o _ _ l t u _ H.out).mono ?_
  rintro e w1 ⟨rfl, rfl⟩
  go_wp2
  go_ret
  exact ⟨rfl, ⟨_, _, _, H.out.setT _⟩, (Tch.refl _ _ _ _).set _ (by omega) _⟩

theorem swapU_yes (b o : Nat) (v x : Int) (w : World) (h : IsU w b o v) :
    Calls Tryz.prog 152 #[.pointer (some ⟨b, o, none⟩), .int .u64 v, .int .u64 x] w fun e w' => e = .returned (.bool true) ∧ IsU w' b o x ∧ Tch b o 4 w w' := by
  obtain ⟨l, t, u, h⟩ := h
  have H := Lib.hid h
  have hv := h.v
  clear h
  go_enter Tryz.func152, Tryz.ntmps152
  go_wp2_with fail
  refine (sameU_any _ _ _).mono ?_
  rintro e w1 ⟨rfl, rfl⟩
  rw [beq_self_eq_true]
  go_wp2_with fail
  refine (changeU_yes b o _ _ l t u _ H.out).mono ?_
  rintro e w1 ⟨rfl, rfl⟩
  go_wp2
  go_ret
  exact ⟨rfl, ⟨_, _, _, ((H.out.setT _).setV _).setU _⟩, (((Tch.refl _ _ _ _).set _ (by omega) _).set _ (by omega) _).set _ (by omega) _⟩

theorem loadU_at (b o : Nat) (v : Int) (w : World) (h : IsU w b o v) :
    Calls Tryz.prog 67 #[.pointer (some ⟨b, o, none⟩)] w fun e w' => e = .returned (.int .u64 v) ∧ IsU w' b o v ∧ Tch b o 4 w w' := by
  obtain ⟨l, t, u, h⟩ := h
  have H := Lib.hid h
  obtain ⟨hv, hl, ht, hu, fv, fl, ft, fu⟩ := h
  go_enter Tryz.func67, Tryz.ntmps67
  go_wp2
  go_ret
  exact ⟨rfl, ⟨_, _, _, H.out.setL _⟩, (Tch.refl _ _ _ _).set _ (by omega) _⟩

theorem storeU_at (b o : Nat) (v x : Int) (w : World) (h : IsU w b o v) :
    Calls Tryz.prog 70 #[.pointer (some ⟨b, o, none⟩), .int .u64 x] w fun e w' => e = .returned (.tuple #[]) ∧ IsU w' b o x ∧ Tch b o 4 w w' := by
  obtain ⟨l, t, u, h⟩ := h
  have H := Lib.hid h
  obtain ⟨hv, hl, ht, hu, fv, fl, ft, fu⟩ := h
  go_enter Tryz.func70, Tryz.ntmps70
  go_wp2
  go_end0
  exact ⟨rfl, ⟨_, _, _, H.out.setV _⟩, (Tch.refl _ _ _ _).set _ (by omega) _⟩

theorem storeM_at (b o : Nat) (p x : Int) (q y : Bool) (w : World) (h : IsM w b o p q) :
    Calls Tryz.prog 69 #[.pointer (some ⟨b, o, none⟩), mk x y] w fun e w' => e = .returned (.tuple #[]) ∧ IsM w' b o x y ∧ Tch b o 5 w w' := by
  obtain ⟨l, t, u, h⟩ := h
  have H := Lib.hid h
  have hlt := h.lt
  have hne : ¬ w.heap.size = b := by omega
  obtain ⟨hp, hq, hl, ht, hu, fp, fq, fl⟩ := h
  go_enter Tryz.func69, Tryz.ntmps69
  go_wp2
  go_end0
  exact ⟨rfl, ⟨_, _, _, ((H.out.setP _).setQ _).alloc _⟩, (((Tch.refl _ _ _ _).set _ (by omega) _).set _ (by omega) _).alloc hlt _⟩

theorem loadM_at (b o : Nat) (p : Int) (q : Bool) (w : World) (h : IsM w b o p q) :
    Calls Tryz.prog 86 #[.pointer (some ⟨b, o, none⟩)] w fun e w' => e = .returned (mk p q) ∧ IsM w' b o p q ∧ Tch b o 5 w w' := by
  obtain ⟨l, t, u, h⟩ := h
  have H := Lib.hid h
  have hlt := h.lt
  have hne : ¬ w.heap.size = b := by omega
  obtain ⟨hp, hq, hl, ht, hu, fp, fq, fl⟩ := h
  go_enter Tryz.func86, Tryz.ntmps86
  go_wp2
  refine bodyPost_ret (v := mk p q) (by simp [results, Tryz.results86, go_sem]) rfl ⟨rfl, ?_⟩
  exact ⟨⟨_, _, _, (H.out.setL _).alloc _⟩, ((Tch.refl _ _ _ _).set _ (by omega) _).alloc hlt _⟩

theorem eqM (a c : Int) (p q : Bool) (w : World) : (Op.equalIn 10000 169 (.agg #[.int .u64 a, .bool p]) (.agg #[.int .u64 c, .bool q])).run Tryz.prog w = .ok (a == c && p == q) w := by
  have u3 := Tryz.underlying36
  have u4 := Tryz.underlying4
  rw [show (10000 : Nat) = 9999 + 1 from rfl, run_equalIn_struct _ _ _ _ _ (by kernel_rfl) (by kernel_rfl)]
  simp only [Program.fieldsOf, Tryz.underlying169]
  simp only [Op.eqFields]
  go_simp
  by_cases h1 : a = c <;> cases p <;> cases q <;> simp [h1]
end Go.Proofs.YtnbdafmjcmmfpaaGreat
