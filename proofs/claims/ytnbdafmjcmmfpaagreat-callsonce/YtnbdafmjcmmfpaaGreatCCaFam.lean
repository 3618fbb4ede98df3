import Derived.Test.YtnbdafmjcmmfpaaGreatCCaQuiet
/-
  Works, without Go: many of them side by side: what each holds, and what holds of all.
-/
namespace Verge
set_option linter.unusedVariables false
open Go.Proofs.YtnbdafmjcmmfpaaGreat
/-- what a work holds of the slab: a slot, and its record's state -/
def hold (k : Wk) : Option (Nat × Nat) :=
  match k.sg with
  | .aWait | .aGive | .aSubmit => some (k.asl, 1)
  | .eRelease s => some (s, 5)
  | _ => none
/-- who is counted, and has no record (any more) -/
def looks (k : Wk) : Nat :=
  match k.sg with
  | .aTake => if k.q.st = 2 then 1 else 0
  | .aDrop | .eDrop => 1
  | _ => 0
/-- who is inside -/
def ins (k : Wk) : Nat :=
  match k.sg with
  | .aAsk | .aTake | .aWait | .aGive | .aDrop | .aSubmit | .aFill _ | .rBegin | .rFind | .rWait | .rAgain | .rChange _ _ | .rFill _ _ | .rNone | .leave => 1
  | _ => 0
/-- a place in a ring that is held, and isn't filled yet -/
def place (N : Nm) (k : Wk) : Option (Nat × Nat) :=
  match k.sg with
  | .aSubmit | .aFill _ | .rAgain | .rChange _ _ | .rFill _ _ | .rNone => some (k.h N, k.t.pos)
  | _ => none
/-- the number that was given to a work -/
def gid (k : Wk) : Option Nat :=
  match k.sg with
  | .aWait | .aGive | .aSubmit | .aFill _ => some k.aid
  | .leave | .fin | .over => if k.kd ≤ 2 ∧ k.a.ok = true then some k.a.id else none
  | _ => none
/-- the number that a work has cancelled -/
def can (k : Wk) : Option Nat := if k.kd = 4 ∧ k.a.ok = true then some k.id else none
/-- a work has no answer that is Ok yet -/
def noAns (k : Wk) : Prop :=
  match k.sg with
  | .rFill _ _ | .eRelease _ | .eDrop | .leave | .fin | .over => True
  | _ => k.a.ok = false
/-- what holds of each -/
structure Iv (N : Nm) (σ : Wd) (k : Wk) : Prop where
  hd : ∀ s x, hold k = some (s, x) → s < N.n ∧ (σ.R s).wd % 8 = x
  pl : ∀ h p, place N k = some (h, p) → (σ.g h).fi ≤ p ∧ p < (σ.g h).nx ∧ (σ.g h).P p = false
  tk : (k.sg = .aWait ∨ k.sg = .rWait) → k.t.st = 2 → k.t.pos < (σ.g (k.h N)).fi + N.r
  gd : ∀ x, gid k = some x → x % 64 < N.n ∧ x / 64 ≤ (σ.R (x % 64)).gv
  cn : ∀ x, can k = some x → x % 64 < N.n ∧ (x / 64 < (σ.R (x % 64)).gv ∨ (x / 64 = (σ.R (x % 64)).gv ∧ ((σ.R (x % 64)).wd % 8 = 5 ∨ (σ.R (x % 64)).wd % 8 = 0)))
  st : ∀ s v, k.kd = 4 → k.sg = .eStrike s v → s = k.id % 64 ∧ s < N.n ∧ v % 8 = 2 ∧ v / 256 ≤ (σ.R s).wd / 256 ∧ (k.id / 64 = (σ.R s).gv ∨ v / 256 < (σ.R s).wd / 256)
  ok : k.a.ok = true → k.a.e = 0 ∧ (3 ≤ k.kd → k.a.id = k.id)
  na : noAns k
  sn : k.sg = .aTake → k.q.st = 1 → k.q.seen < N.n
/-- what holds of two -/
structure Pr (N : Nm) (k k' : Wk) : Prop where
  hd : ∀ s x y, hold k = some (s, x) → hold k' ≠ some (s, y)
  pl : ∀ p, place N k = some p → place N k' ≠ some p
  gd : ∀ x, gid k = some x → gid k' ≠ some x
  cn : ∀ x, can k = some x → can k' ≠ some x
theorem Pr.symm {N : Nm} {k k' : Wk} (h : Pr N k k') : Pr N k' k :=
  ⟨fun s x y a b => h.hd s y x b a, fun p a b => h.pl p b a, fun x a b => h.gd x b a, fun x a b => h.cn x b a⟩
/-- how a record may change by a step of a work that holds hk -/
def Rc (s : Nat) (hk : Option (Nat × Nat)) (x x' : Rec) : Prop :=
  x' = x ∨ (x.wd % 8 = 0 ∧ x'.wd % 8 = 1 ∧ x'.gv = x.gv + 1 ∧ x'.wd / 256 = x.wd / 256 + 1) ∨
  (x'.gv = x.gv ∧ x.wd / 256 ≤ x'.wd / 256 ∧ ((x.wd % 8 = 1 ∧ hk = some (s, 1)) ∨ (x.wd % 8 = 5 ∧ hk = some (s, 5) ∧ x'.wd % 8 = 0) ∨ x.wd % 8 = 2))
/-- how a ring may change by a step of a work that holds the place pk -/
def Gc (h : Nat) (pk : Option (Nat × Nat)) (x x' : Rg) : Prop :=
  x'.fi = x.fi ∧ x.nx ≤ x'.nx ∧ ∀ p, x'.P p = x.P p ∨ pk = some (h, p)
/-- what one step leaves of what holds of another work -/
theorem Iv.other {N : Nm} {σ σ' : Wd} {k j : Wk} (h : Iv N σ j) (p : Pr N k j) (hr : ∀ s, s < N.n → Rc s (hold k) (σ.R s) (σ'.R s)) (hg : ∀ i, Gc i (place N k) (σ.g i) (σ'.g i)) : Iv N σ' j := by
  refine ⟨fun s x e => ?_, fun i q e => ?_, fun e1 e2 => ?_, fun x e => ?_, fun x e => ?_, fun s v e1 e2 => ?_, h.ok, h.na, h.sn⟩
  · obtain ⟨h1, h2⟩ := h.hd s x e
    refine ⟨h1, ?_⟩
    have hx : x = 1 ∨ x = 5 := by
      unfold hold at e
      split at e <;> first | (cases e; omega) | (cases e)
    rcases hr s h1 with c | ⟨c, -⟩ | ⟨-, -, ⟨c1, c2⟩ | ⟨c1, c2, -⟩ | c⟩
    · rw [c]; exact h2
    · omega
    · exact absurd e (p.hd s 1 x c2)
    · exact absurd e (p.hd s 5 x c2)
    · omega
  · obtain ⟨h1, h2, h3⟩ := h.pl i q e
    obtain ⟨g1, g2, g3⟩ := hg i
    refine ⟨by omega, by omega, ?_⟩
    rcases g3 q with c | c
    · rw [c]; exact h3
    · exact absurd e (p.pl _ c)
  · have := h.tk e1 e2
    obtain ⟨g1, -, -⟩ := hg (j.h N)
    omega
  · obtain ⟨h1, h2⟩ := h.gd x e
    refine ⟨h1, ?_⟩
    rcases hr _ h1 with c | ⟨-, -, c, -⟩ | ⟨c, -⟩
    · rw [c]; exact h2
    · omega
    · omega
  · obtain ⟨h1, h2⟩ := h.cn x e
    refine ⟨h1, ?_⟩
    rcases hr _ h1 with c | ⟨c0, -, c, -⟩ | ⟨c, -, ⟨c1, -⟩ | ⟨c1, -, c2⟩ | c1⟩
    · rw [c]; exact h2
    · rcases h2 with h2 | ⟨h2, -⟩ <;> exact .inl (by omega)
    · rcases h2 with h2 | ⟨-, h2⟩
      · exact .inl (by omega)
      · omega
    · rcases h2 with h2 | ⟨h2, -⟩
      · exact .inl (by omega)
      · exact .inr ⟨by omega, .inr c2⟩
    · rcases h2 with h2 | ⟨-, h2⟩
      · exact .inl (by omega)
      · omega
  · obtain ⟨h1, h2, h3, h4, h5⟩ := h.st s v e1 e2
    refine ⟨h1, h2, h3, ?_⟩
    rcases hr s h2 with c | ⟨-, -, c1, c2⟩ | ⟨c1, c2, -⟩
    · rw [c]; exact ⟨h4, h5⟩
    · exact ⟨by omega, .inr (by omega)⟩
    · exact ⟨by omega, by omega⟩
/-- what holds of all: their sums, the slab's count, the words, the rings; m bounds the generations -/
structure Fam (N : Nm) (m : Nat) (σ : Wd) (ks : List Wk) : Prop where
  iv : ∀ (i : Nat) (k : Wk), ks[i]? = some k → Iv N σ k
  pr : ∀ (i j : Nat) (k k' : Wk), i ≠ j → ks[i]? = some k → ks[j]? = some k' → Pr N k k'
  us : used σ.R N.n + (ks.map looks).sum = σ.cnt
  cn : σ.cnt ≤ N.n
  i : σ.i = (ks.map ins).sum
  wd : ∀ s, s < N.n → okW (σ.R s).wd = true ∧ (σ.R s).wd / 256 ≤ m ∧ ((σ.R s).wd % 8 = 0 ∨ (σ.R s).wd % 8 = 1 ∨ (σ.R s).wd % 8 = 2 ∨ (σ.R s).wd % 8 = 5)
  rg : ∀ h, (σ.g h).fi ≤ (σ.g h).nx ∧ (σ.g h).nx ≤ (σ.g h).fi + N.r ∧ ∀ p, (σ.g h).nx ≤ p → (σ.g h).P p = false
theorem sum_set (f : Wk → Nat) (ks : List Wk) (i : Nat) (k k' : Wk) (h : ks[i]? = some k) : ((ks.set i k').map f).sum + f k = (ks.map f).sum + f k' := by
  induction ks generalizing i with
  | nil => cases h
  | cons x xs ih =>
    cases i with
    | zero =>
      simp only [List.getElem?_cons_zero, Option.some.injEq] at h
      subst h
      simp only [List.set_cons_zero, List.map_cons, List.sum_cons]
      omega
    | succ i =>
      rw [List.getElem?_cons_succ] at h
      have := ih i h
      simp only [List.set_cons_succ, List.map_cons, List.sum_cons]
      omega
/-- one of them has made a step -/
theorem Fam.stepped {N : Nm} {m : Nat} {σ σ' : Wd} {ks : List Wk} {i : Nat} {k k' : Wk} (h : Fam N m σ ks) (hi : ks[i]? = some k) (hr : ∀ s, s < N.n → Rc s (hold k) (σ.R s) (σ'.R s)) (hg : ∀ i, Gc i (place N k) (σ.g i) (σ'.g i))
    (v : Iv N σ' k') (p : ∀ (j : Nat) (x : Wk), j ≠ i → ks[j]? = some x → Pr N k x → Pr N k' x) (us : used σ'.R N.n + looks k' + σ.cnt = used σ.R N.n + looks k + σ'.cnt) (cn : σ'.cnt ≤ N.n) (ii : σ'.i + ins k = σ.i + ins k')
    (wd : ∀ s, s < N.n → okW (σ'.R s).wd = true ∧ (σ'.R s).wd / 256 ≤ m + 1 ∧ ((σ'.R s).wd % 8 = 0 ∨ (σ'.R s).wd % 8 = 1 ∨ (σ'.R s).wd % 8 = 2 ∨ (σ'.R s).wd % 8 = 5))
    (rg : ∀ h, (σ'.g h).fi ≤ (σ'.g h).nx ∧ (σ'.g h).nx ≤ (σ'.g h).fi + N.r ∧ ∀ p, (σ'.g h).nx ≤ p → (σ'.g h).P p = false) : Fam N (m + 1) σ' (ks.set i k') := by
  have hlt : i < ks.length := (List.getElem?_eq_some_iff.1 hi).1
  have gs : (ks.set i k')[i]? = some k' := List.getElem?_set_self hlt
  have go : ∀ j, j ≠ i → (ks.set i k')[j]? = ks[j]? := fun j e => List.getElem?_set_ne (fun q => e q.symm)
  have s1 := sum_set looks ks i k k' hi
  have s2 := sum_set ins ks i k k' hi
  have h1 := h.us
  have h2 := h.i
  refine ⟨fun j x e => ?_, fun a b x y ne ea eb => ?_, by omega, cn, by omega, wd, rg⟩
  · by_cases q : j = i
    · subst q; rw [gs] at e; cases e; exact v
    · rw [go j q] at e
      exact (h.iv j x e).other (h.pr i j k x (fun z => q z.symm) hi e) hr hg
  · by_cases qa : a = i
    · subst qa
      rw [gs] at ea; cases ea
      rw [go b (fun z => ne z.symm)] at eb
      exact p b y (fun z => ne z.symm) eb (h.pr a b k y ne hi eb)
    · rw [go a qa] at ea
      by_cases qb : b = i
      · subst qb
        rw [gs] at eb; cases eb
        exact (p a x qa ea (h.pr b a k x (fun z => qa z.symm) hi ea)).symm
      · rw [go b qb] at eb
        exact h.pr a b x y ne ea eb
end Verge
