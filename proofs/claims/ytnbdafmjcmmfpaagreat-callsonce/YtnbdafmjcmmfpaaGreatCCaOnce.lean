import Derived.Test.YtnbdafmjcmmfpaaGreatCCaAll3
import Derived.Test.YtnbdafmjcmmfpaaGreatK02
import Derived.Test.YtnbdafmjcmmfpaaGreatCMapC
/-
  A floor, many works and the row of them: what the law's own loops keep.
-/
namespace Verge
open Go.Proofs.YtnbdafmjcmmfpaaGreat
/-- what isn't answered with yes has no number -/
def NoA (k : Wk) : Prop := k.a.ok = false → k.a.id = 0
theorem ax_new (kd id d p : Nat) : NoA (newW kd id d p) := fun _ => rfl
theorem ax_step (N : Nm) (σ : Wd) (k : Wk) (h : NoA k) : NoA (stepC N σ k).2 := by
  obtain ⟨kd, id, d, p, sg, a, q, t, aid, asl⟩ := k
  have h' : a.ok = false → a.id = 0 := h
  intro h2
  revert h2
  cases sg <;> (unfold stepC lookW refW onRet; dsimp only) <;> (repeat' split) <;> (intro h2; first | exact h' h2 | rfl | (cases h2))
/-- of a list where no two are so, at most one is -/
theorem countP_le_one {α : Type} (P : α → Bool) (l : List α) (h : ∀ (i j : Nat) (p q : α), i ≠ j → l[i]? = some p → l[j]? = some q → P p = true → P q = true → False) : l.countP P ≤ 1 := by
  induction l with
  | nil => simp
  | cons x l ih =>
    have ih' := ih (fun i j p q ne hi hj => h (i + 1) (j + 1) p q (by omega) (by simpa using hi) (by simpa using hj))
    rw [List.countP_cons]
    by_cases hx : P x = true
    · have h0 : l.countP P = 0 := by
        rw [List.countP_eq_zero]
        intro y hy hPy
        obtain ⟨j, hj⟩ := List.mem_iff_getElem?.1 hy
        exact h 0 (j + 1) x y (by omega) rfl (by simpa using hj) hx hPy
      rw [h0, if_pos hx]; omega
    · rw [if_neg hx]; omega
/-- was a number given | cancelled? -/
def gvn (x : Nat) (k : Wk) : Bool := decide (k.kd ≤ 2 ∧ k.a.ok = true ∧ k.a.id = x)
def cnl (x : Nat) (k : Wk) : Bool := decide (k.kd = 4 ∧ k.a.ok = true ∧ k.a.id = x)
theorem gvn_one {N : Nm} {m : Nat} {σ : Wd} {ks : List Wk} (h : Fam N m σ ks) (ho : ∀ k ∈ ks, k.sg = .over) (x : Nat) : ks.countP (gvn x) ≤ 1 := by
  refine countP_le_one _ _ (fun i j p q ne hi hj h1 h2 => ?_)
  have e1 := of_decide_eq_true h1
  have e2 := of_decide_eq_true h2
  exact h.given hi hj ne (ho _ (List.mem_of_getElem? hi)) (ho _ (List.mem_of_getElem? hj)) ⟨e1.1, e1.2.1⟩ ⟨e2.1, e2.2.1⟩ (e1.2.2.trans e2.2.2.symm)
theorem cnl_one {N : Nm} {m : Nat} {σ : Wd} {ks : List Wk} (h : Fam N m σ ks) (x : Nat) : ks.countP (cnl x) ≤ 1 := by
  refine countP_le_one _ _ (fun i j p q ne hi hj h1 h2 => ?_)
  have e1 := of_decide_eq_true h1
  have e2 := of_decide_eq_true h2
  exact h.gone hi hj ne ⟨e1.1, e1.2.1⟩ ⟨e2.1, e2.2.1⟩ (e1.2.2.trans e2.2.2.symm)
theorem countP_next {α : Type} (P : α → Bool) (l : List α) (i : Nat) (p : α) (h : l[i]? = some p) : (l.take (i + 1)).countP P = (l.take i).countP P + if P p = true then 1 else 0 := by
  rw [List.take_add_one, h, List.countP_append]
  congr 1
  show List.countP P [p] = _
  rw [List.countP_singleton]
end Verge
namespace Go.Proofs.YtnbdafmjcmmfpaaGreat
open Go.RowKit Verge
set_option linter.unusedVariables false
set_option linter.unusedSimpArgs false
/-- the pointers of the works -/
def wkP (ls : List (Mx × Wk)) (j : Nat) : Value := match ls[j]? with | some p => ptr p.1.kb | none => .pointer none
theorem wkP_old (ls : List (Mx × Wk)) (p : Mx × Wk) {i : Nat} (h : i < ls.length) : wkP (ls ++ [p]) i = wkP ls i := by
  unfold wkP; rw [List.getElem?_append_left h]
theorem wkP_new (ls : List (Mx × Wk)) (p : Mx × Wk) : wkP (ls ++ [p]) ls.length = ptr p.1.kb := by
  unfold wkP; rw [List.getElem?_append_right (Nat.le_refl _)]; simp
theorem wkP_at {ls : List (Mx × Wk)} {i : Nat} {p : Mx × Wk} (h : ls[i]? = some p) : wkP ls i = ptr p.1.kb := by
  unfold wkP; rw [h]
theorem wkP_set {ls : List (Mx × Wk)} {i : Nat} {p p' : Mx × Wk} (h : ls[i]? = some p) (e : p'.1.kb = p.1.kb) : wkP (ls.set i p') = wkP ls := by
  funext j
  unfold wkP
  by_cases q : j = i
  · subst q; rw [List.getElem?_set_self (List.getElem?_eq_some_iff.1 h).1, h]; dsimp only; rw [e]
  · rw [List.getElem?_set_ne (fun z => q z.symm)]
/-- where loop 1 stands: the works, the row of them -/
def OnAt (E : Ee) (w0 wr : World) (k n : Nat) (l : Value) : Prop :=
  ∃ (σ : Wd) (ls : List (Mx × Wk)) (a : Option Addr) (c : Nat), l = .slice a ls.length c ∧ ls.length ≤ k ∧ (∀ j, OwnS a j → w0.heap.size ≤ j) ∧ Row wr 33 1 a ls.length c (wkP ls) ∧ Al E w0 wr σ n ls (OwnS a) ∧ ∀ p ∈ ls, NoA p.2
def OnIn (E : Ee) (w0 wr : World) (k : Nat) (l : Value) : Prop := OnAt E w0 wr k (3 * k) l
section
variable {E : Ee} {S Z : Nat → Prop} {w0 W W' : World} {σ σ' : Wd} {k k' n n' i : Nat} {l : Value} {ls : List (Mx × Wk)} {p : Mx × Wk} {a : Option Addr} {c L : Nat}
theorem OnAt.up (h : OnAt E w0 W k n l) (hk : k ≤ k') (hn : n ≤ n') : OnAt E w0 W k' n' l := by
  obtain ⟨σ, ls, a, c, h1, h2, h3, h4, h5, h6⟩ := h
  exact ⟨σ, ls, a, c, h1, by omega, h3, h4, h5.up hn, h6⟩
theorem OnAt.ch (h : OnAt E w0 W k n l) : Ch Nil w0 W := by
  obtain ⟨σ, ls, a, c, h1, h2, h3, h4, h5, h6⟩ := h
  exact h5.m.c
theorem OnAt.form (h : OnAt E w0 W k n l) : ∃ (a : Option Addr) (L c : Nat), l = .slice a L c ∧ L ≤ k := by
  obtain ⟨σ, ls, a, c, h1, h2, h3, h4, h5, h6⟩ := h
  exact ⟨a, ls.length, c, h1, h2⟩
theorem tmod_nat (x L : Nat) (h : 0 < L) : ∃ j : Nat, j < L ∧ ((x : Int)).tmod (L : Int) = (j : Int) :=
  ⟨x % L, Nat.mod_lt _ h, by rw [Int.tmod_eq_emod_of_nonneg (by omega)]; rfl⟩
theorem OnAt.quiet (h : OnAt E w0 W k n l) (c : Ch Nil W W') : OnAt E w0 W' k n l := by
  obtain ⟨σ, ls, a, c', h1, h2, h3, h4, h5, h6⟩ := h
  exact ⟨σ, ls, a, c', h1, h2, h3, h4.kept c (fun _ _ e => e), h5.quiet c, h6⟩
theorem OnAt.op {P : Ending → Prop} {F : Nat} {args : Array Value} (h : OnAt E w0 W k n l) (hc : ∀ σ S1, σ.cnt ≤ E.N.n → Bf E S1 W W σ n → Calls Tryz.prog F args W fun e W' => P e ∧ Bf E S1 W W' σ n) :
    Calls Tryz.prog F args W fun e W' => P e ∧ OnAt E w0 W' k n l := by
  obtain ⟨σ, ls, a, c, h1, h2, h3, h4, h5, h6⟩ := h
  refine (h5.op (hc σ · h5.f.cn)).mono ?_
  rintro e W' ⟨hp, al, S, cS, nS⟩
  exact ⟨hp, σ, ls, a, c, h1, h2, h3, h4.kept cS nS, al, h6⟩
theorem OnAt.shard (h : OnAt E w0 W k n l) (q : Nat) (hq : q < E.N.m) :
    Calls Tryz.prog 13 #[ptr E.F.f, .int .i64 (q : Int)] W fun e W' => e = .returned (ptr (E.F.sh q)) ∧ OnAt E w0 W' k n l :=
  h.op (fun σ S1 _ hb => hb.shard (q : Int) q rfl hq)
theorem OnAt.slabOf (h : OnAt E w0 W k n l) : Calls Tryz.prog 15 #[ptr E.F.f] W fun e W' => e = .returned (ptr E.F.sb) ∧ OnAt E w0 W' k n l :=
  h.op (fun σ S1 _ hb => hb.slabOf)
theorem OnAt.count (h : OnAt E w0 W k n l) : Calls Tryz.prog 16 #[ptr E.F.sb] W fun e W' => (∃ c : Nat, e = .returned (.int .i64 c) ∧ c ≤ E.N.n) ∧ OnAt E w0 W' k n l :=
  h.op (fun σ S1 hc hb => hb.count.mono (fun e W' ⟨h1, h2⟩ => ⟨⟨_, h1, hc⟩, h2⟩))
theorem OnAt.pop (h : OnAt E w0 W k n l) (hn : n ≤ 70000) (q : Nat) (hq : q < E.N.m) :
    Calls Tryz.prog 14 #[ptr (E.F.sh q)] W fun e W' => ∃ v, e = .returned v ∧ OnAt E w0 W' k n l := by
  obtain ⟨σ, ls, a, c, h1, h2, h3, h4, h5, h6⟩ := h
  refine (h5.pop hn q hq).mono ?_
  rintro e W' ⟨v, rfl, σ', al, S, cS, nS⟩
  exact ⟨v, rfl, σ', ls, a, c, h1, h2, h3, h4.kept cS nS, al, h6⟩
/-- one of them makes a step, if it isn't over -/
theorem OnAt.step (h : OnAt E w0 W k n (.slice a L c)) (hn : n ≤ 70000) (hi : i < L) : ∃ g b, a = some ⟨g, 0, none⟩ ∧ W.cell? ⟨g, i, none⟩ = some (ptr b) ∧
    Calls Tryz.prog 12 #[ptr b] W fun e W' => ∃ v, e = .returned v ∧ OnAt E w0 W' k (n + 2) (.slice a L c) := by
  obtain ⟨σ, ls, a, c, h1, h2, h3, h4, h5, h6⟩ := h
  simp only [Value.slice.injEq] at h1
  obtain ⟨rfl, rfl, rfl⟩ := h1
  obtain ⟨p, hp⟩ : ∃ p, ls[i]? = some p := ⟨_, List.getElem?_eq_getElem hi⟩
  obtain ⟨g, rfl, -⟩ := h4.form (by omega)
  have hc := h4.cell i (by omega)
  rw [wkP_at hp] at hc
  refine ⟨g, p.1.kb, rfl, hc, ?_⟩
  by_cases ho : p.2.sg = .over
  · refine (h5.stepNo hp ho).mono ?_
    rintro e W' ⟨rfl, al, S, cS, nS⟩
    exact ⟨_, rfl, σ, ls, _, _, rfl, h2, h3, h4.kept cS nS, al.up (by omega), h6⟩
  · refine (h5.step hp hn ho).mono ?_
    rintro e W' ⟨rfl, X', hX, al, S, cS, nS⟩
    refine ⟨_, rfl, (stepC E.N σ p.2).1, ls.set i (X', (stepC E.N σ p.2).2), _, _, by rw [List.length_set], by rw [List.length_set]; exact h2, h3, ?_, al, fun q hq => ?_⟩
    · rw [List.length_set, wkP_set hp hX]; exact h4.kept cS nS
    · rcases List.mem_or_eq_of_mem_set hq with hq | rfl
      · exact h6 q hq
      · exact ax_step _ _ _ (h6 p (List.mem_of_getElem? hp))
/-- where loops 3 to 5 stand: the works below i are over, and counted in two maps -/
structure Gs (E : Ee) (w0 W : World) (σ : Wd) (n : Nat) (ls : List (Mx × Wk)) (a : Option Addr) (c L i m1 m2 : Nat) : Prop where
  al : Al E w0 W σ n ls (fun j => OwnS a j ∨ j = m1 ∨ j = m2)
  row : Row W 33 1 a ls.length c (wkP ls)
  ra : ∀ j, OwnS a j → w0.heap.size ≤ j
  hl : ls.length = L
  l40 : L ≤ 400
  ax : ∀ p ∈ ls, NoA p.2
  o : ∀ j p, j < i → ls[j]? = some p → p.2.sg = .over
  g1 : ∃ q, q ≤ i ∧ MapC W m1 q (fun x => ((ls.map Prod.snd).take i).countP (gvn x))
  g2 : ∃ q, q ≤ i ∧ MapC W m2 q (fun x => ((ls.map Prod.snd).take i).countP (cnl x))
  mm : w0.heap.size ≤ m1 ∧ w0.heap.size ≤ m2 ∧ m1 ≠ m2 ∧ ¬ OwnS a m1 ∧ ¬ OwnS a m2
variable {m1 m2 : Nat}
theorem Gs.ch (h : Gs E w0 W σ n ls a c L i m1 m2) : Ch Nil w0 W := h.al.m.c
theorem Gs.up (h : Gs E w0 W σ n ls a c L i m1 m2) (hn : n ≤ n') : Gs E w0 W σ n' ls a c L i m1 m2 :=
  ⟨h.al.up hn, h.row, h.ra, h.hl, h.l40, h.ax, h.o, h.g1, h.g2, h.mm⟩
theorem Gs.turn (h : Gs E w0 W σ n ls a c L i m1 m2) (al : Al E w0 W' σ' n' ls (fun j => OwnS a j ∨ j = m1 ∨ j = m2)) (cS : Ch S W W') (nS : ∀ j, (OwnS a j ∨ j = m1 ∨ j = m2) → ¬ S j) : Gs E w0 W' σ' n' ls a c L i m1 m2 := by
  obtain ⟨q1, e1, g1⟩ := h.g1
  obtain ⟨q2, e2, g2⟩ := h.g2
  exact ⟨al, h.row.kept cS (fun j hj => nS j (.inl hj)), h.ra, h.hl, h.l40, h.ax, h.o, ⟨q1, e1, g1.kept cS (nS m1 (.inr (.inl rfl)))⟩, ⟨q2, e2, g2.kept cS (nS m2 (.inr (.inr rfl)))⟩, h.mm⟩
theorem Gs.quiet (h : Gs E w0 W σ n ls a c L i m1 m2) (c' : Ch Nil W W') : Gs E w0 W' σ n ls a c L i m1 m2 :=
  h.turn (h.al.quiet c') c' (fun _ _ e => e)
/-- the cell of a work's pointer -/
theorem Gs.at (h : Gs E w0 W σ n ls a c L i m1 m2) {j : Nat} (hj : j < L) : ∃ g p, a = some ⟨g, 0, none⟩ ∧ ls[j]? = some p ∧ W.cell? ⟨g, j, none⟩ = some (ptr p.1.kb) := by
  have hl := h.hl
  obtain ⟨p, hp⟩ : ∃ p, ls[j]? = some p := ⟨_, List.getElem?_eq_getElem (by omega)⟩
  obtain ⟨g, e, -⟩ := h.row.form (by omega)
  have row := h.row
  rw [e] at row
  have hc := row.cell j (by omega)
  rw [wkP_at hp] at hc
  exact ⟨g, p, e, hp, hc⟩
theorem Gs.cellAt {g j : Nat} (h : Gs E w0 W σ n ls (some ⟨g, 0, none⟩) c L i m1 m2) (hp : ls[j]? = some p) : W.cell? ⟨g, j, none⟩ = some (ptr p.1.kb) := by
  have hc := h.row.cell j (by have := (List.getElem?_eq_some_iff.1 hp).1; omega)
  rwa [wkP_at hp] at hc
theorem Gs.lt (h : Gs E w0 W σ n ls a c L i m1 m2) : m1 < W.heap.size ∧ m2 < W.heap.size := ⟨h.al.m.z m1 (.inr (.inl rfl)), h.al.m.z m2 (.inr (.inr rfl))⟩
theorem Gs.stepNo (h : Gs E w0 W σ n ls a c L i m1 m2) {j : Nat} (hi : ls[j]? = some p) (ho : p.2.sg = .over) :
    Calls Tryz.prog 12 #[ptr p.1.kb] W fun e W' => e = .returned (.bool false) ∧ Gs E w0 W' σ n ls a c L i m1 m2 := by
  refine (h.al.stepNo hi ho).mono ?_
  rintro e W' ⟨rfl, al, S, cS, nS⟩
  exact ⟨rfl, h.turn al cS nS⟩
theorem Gs.step (h : Gs E w0 W σ n ls a c L i m1 m2) (hi : ls[i]? = some p) (hn : n ≤ 70000) (hne : p.2.sg ≠ .over) :
    Calls Tryz.prog 12 #[ptr p.1.kb] W fun e W' => e = .returned (.bool true) ∧ ∃ X', X'.kb = p.1.kb ∧ Gs E w0 W' (stepC E.N σ p.2).1 (n + 2) (ls.set i (X', (stepC E.N σ p.2).2)) a c L i m1 m2 := by
  refine (h.al.step hi hn hne).mono ?_
  rintro e W' ⟨rfl, X', hX, al, S, cS, nS⟩
  have ht : ((ls.set i (X', (stepC E.N σ p.2).2)).map Prod.snd).take i = (ls.map Prod.snd).take i := by
    rw [List.map_set, List.take_set_of_le (Nat.le_refl _)]
  obtain ⟨q1, e1, g1⟩ := h.g1
  obtain ⟨q2, e2, g2⟩ := h.g2
  refine ⟨rfl, X', hX, al, ?_, h.ra, by rw [List.length_set]; exact h.hl, h.l40, fun q hq => ?_, fun j q hj hq => ?_, ⟨q1, e1, ?_⟩, ⟨q2, e2, ?_⟩, h.mm⟩
  · rw [List.length_set, wkP_set hi hX]; exact h.row.kept cS (fun j hj => nS j (.inl hj))
  · rcases List.mem_or_eq_of_mem_set hq with hq | rfl
    · exact h.ax q hq
    · exact ax_step _ _ _ (h.ax p (List.mem_of_getElem? hi))
  · rw [List.getElem?_set_ne (by omega)] at hq; exact h.o j q hj hq
  · rw [ht]; exact g1.kept cS (nS m1 (.inr (.inl rfl)))
  · rw [ht]; exact g2.kept cS (nS m2 (.inr (.inr rfl)))
/-- loop 4: the work i runs to its end -/
def Gt (E : Ee) (w0 W : World) (n : Nat) (a : Option Addr) (c L i m1 m2 y : Nat) : Prop :=
  ∃ (σ : Wd) (ls : List (Mx × Wk)) (p : Mx × Wk) (σ' : Wd) (k' : Wk), Gs E w0 W σ n ls a c L i m1 m2 ∧ ls[i]? = some p ∧ Path E.N y σ p.2 σ' k'
theorem Gs.start (h : Gs E w0 W σ n ls a c L i m1 m2) (hn : n ≤ 70000) (hi : i < L) : ∃ y, y ≤ 80 ∧ Gt E w0 W n a c L i m1 m2 y := by
  obtain ⟨g, p, -, hp, -⟩ := h.at hi
  obtain ⟨y, hy, σ', k', hq⟩ := ends_any (⟨_, i, h.al.go hp⟩ : G1 E.N n σ p.2) (by omega)
  exact ⟨y, hy, σ, ls, p, σ', k', h, hp, hq⟩
theorem Gt.ch {y : Nat} (h : Gt E w0 W n a c L i m1 m2 y) : Ch Nil w0 W := by
  obtain ⟨σ, ls, p, σ', k', h, -⟩ := h
  exact h.ch
/-- a step, or none any more -/
theorem Gt.step {y : Nat} (h : Gt E w0 W n a c L i m1 m2 (y + 1)) (hn : n ≤ 70000) (hi : i < L) : ∃ g b, a = some ⟨g, 0, none⟩ ∧ W.cell? ⟨g, i, none⟩ = some (ptr b) ∧
    Calls Tryz.prog 12 #[ptr b] W fun e W' => e = .returned (.bool true) ∧ Gt E w0 W' (n + 2) a c L i m1 m2 y := by
  obtain ⟨σ, ls, p, σ', k', h, hp, q1, q2, q3, q4⟩ := h
  obtain ⟨g, p', e, hp', hc⟩ := h.at hi
  obtain rfl : p = p' := by rw [hp] at hp'; exact Option.some.inj hp'
  refine ⟨g, _, e, hc, (h.step hp hn q1).mono ?_⟩
  rintro e W' ⟨rfl, X', hX, h'⟩
  exact ⟨rfl, _, _, (X', (stepC E.N σ p.2).2), σ', k', h', List.getElem?_set_self (List.getElem?_eq_some_iff.1 hp).1, q4⟩
theorem Gt.done (h : Gt E w0 W n a c L i m1 m2 0) (hi : i < L) : ∃ g b, a = some ⟨g, 0, none⟩ ∧ W.cell? ⟨g, i, none⟩ = some (ptr b) ∧
    Calls Tryz.prog 12 #[ptr b] W fun e W' => e = .returned (.bool false) ∧ ∃ (σ : Wd) (ls : List (Mx × Wk)) (p : Mx × Wk), p.1.kb = b ∧ ls[i]? = some p ∧ p.2.sg = .over ∧ Gs E w0 W' σ n ls a c L i m1 m2 := by
  obtain ⟨σ, ls, p, σ', k', h, hp, -, -, q3⟩ := h
  obtain ⟨g, p', e, hp', hc⟩ := h.at hi
  obtain rfl : p = p' := by rw [hp] at hp'; exact Option.some.inj hp'
  refine ⟨g, _, e, hc, (h.stepNo hp q3).mono ?_⟩
  rintro e W' ⟨rfl, h'⟩
  exact ⟨rfl, σ, ls, p, rfl, hp, q3, h'⟩
theorem Gs.answer (h : Gs E w0 W σ n ls a c L i m1 m2) {j : Nat} (hi : ls[j]? = some p) (ho : p.2.sg = .over) :
    Calls Tryz.prog 17 #[ptr p.1.kb] W fun e W' => e = .returned (.tuple #[anV p.2.a, .int .i64 0]) ∧ Gs E w0 W' σ n ls a c L i m1 m2 ∧ Ch Nil W W' := by
  refine (h.al.answer hi ho).mono ?_
  rintro e W' ⟨rfl, al, c'⟩
  exact ⟨rfl, h.quiet c', c'⟩
theorem Gs.call (h : Gs E w0 W σ n ls a c L i m1 m2) {j : Nat} (hi : ls[j]? = some p) :
    Calls Tryz.prog 18 #[ptr p.1.kb] W fun e W' => e = .returned (clV p.2.kd p.2.id p.2.d p.2.p) ∧ Gs E w0 W' σ n ls a c L i m1 m2 ∧ Ch Nil W W' := by
  refine (h.al.call hi).mono ?_
  rintro e W' ⟨rfl, al, c'⟩
  exact ⟨rfl, h.quiet c', c'⟩
/-- an answer's number is one -/
theorem Gs.id (h : Gs E w0 W σ n ls a c L i m1 m2) (hn : n ≤ 70000) {j : Nat} (hi : ls[j]? = some p) (ho : p.2.sg = .over) : p.2.a.id < 18446744073709551616 ∧ (p.2.a.ok = true → p.2.a.e = 0) := by
  have hv := h.al.f.iv j p.2 (Al.snd hi)
  refine ⟨?_, fun e => (hv.ok e).1⟩
  cases e : p.2.a.ok with
  | false => rw [h.ax p (List.mem_of_getElem? hi) e]; decide
  | true =>
    by_cases e3 : 3 ≤ p.2.kd
    · rw [(hv.ok e).2 e3]
      exact (h.al.p p (List.mem_of_getElem? hi)).1.id
    · have g1 : gid p.2 = some p.2.a.id := by unfold gid; rw [ho]; dsimp only; rw [if_pos ⟨by omega, e⟩]
      have := hv.gd _ g1
      obtain ⟨S1, hb, -⟩ := h.al.m.b
      have hg := hb.bd.g _ this.1
      have hd := Nat.div_add_mod p.2.a.id 64
      have := h.al.n
      omega
/-- one more is over, and neither given nor cancelled -/
theorem Gs.next (h : Gs E w0 W σ n ls a c L i m1 m2) (hi : ls[i]? = some p) (ho : p.2.sg = .over) (h1 : p.2.a.ok = false ∨ ¬ p.2.kd ≤ 2 ∧ p.2.kd ≠ 4) : Gs E w0 W σ n ls a c L (i + 1) m1 m2 := by
  obtain ⟨q1, e1, g1⟩ := h.g1
  obtain ⟨q2, e2, g2⟩ := h.g2
  refine ⟨h.al, h.row, h.ra, h.hl, h.l40, h.ax, fun j q hj hq => ?_, ⟨q1, by omega, ?_⟩, ⟨q2, by omega, ?_⟩, h.mm⟩
  · by_cases e : j = i
    · subst e; rw [hi] at hq; cases hq; exact ho
    · exact h.o j q (by omega) hq
  · rw [show (fun x => ((ls.map Prod.snd).take (i + 1)).countP (gvn x)) = (fun x => ((ls.map Prod.snd).take i).countP (gvn x)) from funext (fun x => by
      rw [countP_next _ _ _ _ (Al.snd hi), if_neg (by unfold gvn; simp only [decide_eq_true_eq]; rintro ⟨a1, a2, -⟩; exact h1.elim (fun b => by rw [b] at a2; cases a2) (fun b => b.1 a1)), Nat.add_zero])]
    exact g1
  · rw [show (fun x => ((ls.map Prod.snd).take (i + 1)).countP (cnl x)) = (fun x => ((ls.map Prod.snd).take i).countP (cnl x)) from funext (fun x => by
      rw [countP_next _ _ _ _ (Al.snd hi), if_neg (by unfold cnl; simp only [decide_eq_true_eq]; rintro ⟨a1, a2, -⟩; exact h1.elim (fun b => by rw [b] at a2; cases a2) (fun b => b.2 a1)), Nat.add_zero])]
    exact g2
/-- a number was given -/
theorem Gs.put1 (h : Gs E w0 W σ n ls a c L i m1 m2) (hn : n ≤ 70000) (hiL : i < L) (hi : ls[i]? = some p) (ho : p.2.sg = .over) (hk : p.2.kd ≤ 2) (hok : p.2.a.ok = true) : ∃ v : Nat, v < 1000 ∧
    (Instr.lookup 48 (.map (some m1)) (.int .u64 (p.2.a.id : Int)) false).run Tryz.prog W = .ok (.int .i64 (v : Int)) W ∧
    ∃ w', (Instr.mapUpdate 48 (.map (some m1)) (.int .u64 (p.2.a.id : Int)) (.int .i64 ((v + 1 : Nat) : Int))).run Tryz.prog W = .ok () w' ∧ Gs E w0 w' σ n ls a c L (i + 1) m1 m2 ∧ Ch (One m1) W w' := by
  obtain ⟨q1, e1, g1⟩ := h.g1
  obtain ⟨q2, e2, g2⟩ := h.g2
  have hid := (h.id hn hi ho).1
  have hL := h.l40
  have hv : ((ls.map Prod.snd).take i).countP (gvn p.2.a.id) ≤ 400 := Nat.le_trans List.countP_le_length (by rw [List.length_take]; omega)
  obtain ⟨w', r, g1', c'⟩ := g1.put p.2.a.id (((ls.map Prod.snd).take i).countP (gvn p.2.a.id) + 1) hid (by omega) (by omega) (fun x => ((ls.map Prod.snd).take (i + 1)).countP (gvn x)) (by
    rw [countP_next _ _ _ _ (Al.snd hi), if_pos (by unfold gvn; simp [hk, hok])]) (fun j hj => by
    rw [countP_next _ _ _ _ (Al.snd hi), if_neg (by unfold gvn; simp only [decide_eq_true_eq]; rintro ⟨-, -, a3⟩; exact hj a3.symm), Nat.add_zero])
  refine ⟨_, by omega, g1.look _ hid, w', r, ⟨?_, h.row.kept c' (fun j hj e => h.mm.2.2.2.1 (by cases e; exact hj)), h.ra, h.hl, h.l40, h.ax, fun j q hj hq => ?_, ⟨q1 + 1, by omega, g1'⟩, ⟨q2, by omega, ?_⟩, h.mm⟩, c'⟩
  · refine h.al.withZ (fun j z => ?_) (c'.mono (fun j _ e => .inr (.inl e))) (fun j z => ⟨Nat.lt_of_lt_of_le (h.al.m.z j z) c'.size, .inl z⟩)
    rcases z with z | rfl | rfl
    · exact h.ra j z
    · exact h.mm.1
    · exact h.mm.2.1
  · by_cases e : j = i
    · subst e; rw [hi] at hq; cases hq; exact ho
    · exact h.o j q (by omega) hq
  · rw [show (fun x => ((ls.map Prod.snd).take (i + 1)).countP (cnl x)) = (fun x => ((ls.map Prod.snd).take i).countP (cnl x)) from funext (fun x => by
      rw [countP_next _ _ _ _ (Al.snd hi), if_neg (by unfold cnl; simp only [decide_eq_true_eq]; rintro ⟨a1, a2, -⟩; omega), Nat.add_zero])]
    exact g2.kept c' (fun e => h.mm.2.2.1 e.symm)
/-- one was cancelled -/
theorem Gs.put2 (h : Gs E w0 W σ n ls a c L i m1 m2) (hn : n ≤ 70000) (hiL : i < L) (hi : ls[i]? = some p) (ho : p.2.sg = .over) (hk : p.2.kd = 4) (hok : p.2.a.ok = true) : ∃ v : Nat, v < 1000 ∧
    (Instr.lookup 48 (.map (some m2)) (.int .u64 (p.2.a.id : Int)) false).run Tryz.prog W = .ok (.int .i64 (v : Int)) W ∧
    ∃ w', (Instr.mapUpdate 48 (.map (some m2)) (.int .u64 (p.2.a.id : Int)) (.int .i64 ((v + 1 : Nat) : Int))).run Tryz.prog W = .ok () w' ∧ Gs E w0 w' σ n ls a c L (i + 1) m1 m2 ∧ Ch (One m2) W w' := by
  obtain ⟨q1, e1, g1⟩ := h.g1
  obtain ⟨q2, e2, g2⟩ := h.g2
  have hid := (h.id hn hi ho).1
  have hL := h.l40
  have hv : ((ls.map Prod.snd).take i).countP (cnl p.2.a.id) ≤ 400 := Nat.le_trans List.countP_le_length (by rw [List.length_take]; omega)
  obtain ⟨w', r, g2', c'⟩ := g2.put p.2.a.id (((ls.map Prod.snd).take i).countP (cnl p.2.a.id) + 1) hid (by omega) (by omega) (fun x => ((ls.map Prod.snd).take (i + 1)).countP (cnl x)) (by
    rw [countP_next _ _ _ _ (Al.snd hi), if_pos (by unfold cnl; simp [hk, hok])]) (fun j hj => by
    rw [countP_next _ _ _ _ (Al.snd hi), if_neg (by unfold cnl; simp only [decide_eq_true_eq]; rintro ⟨-, -, a3⟩; exact hj a3.symm), Nat.add_zero])
  refine ⟨_, by omega, g2.look _ hid, w', r, ⟨?_, h.row.kept c' (fun j hj e => h.mm.2.2.2.2 (by cases e; exact hj)), h.ra, h.hl, h.l40, h.ax, fun j q hj hq => ?_, ⟨q1, by omega, ?_⟩, ⟨q2 + 1, by omega, g2'⟩, h.mm⟩, c'⟩
  · refine h.al.withZ (fun j z => ?_) (c'.mono (fun j _ e => .inr (.inr e))) (fun j z => ⟨Nat.lt_of_lt_of_le (h.al.m.z j z) c'.size, .inl z⟩)
    rcases z with z | rfl | rfl
    · exact h.ra j z
    · exact h.mm.1
    · exact h.mm.2.1
  · by_cases e : j = i
    · subst e; rw [hi] at hq; cases hq; exact ho
    · exact h.o j q (by omega) hq
  · rw [show (fun x => ((ls.map Prod.snd).take (i + 1)).countP (gvn x)) = (fun x => ((ls.map Prod.snd).take i).countP (gvn x)) from funext (fun x => by
      rw [countP_next _ _ _ _ (Al.snd hi), if_neg (by unfold gvn; simp only [decide_eq_true_eq]; rintro ⟨a1, a2, -⟩; omega), Nat.add_zero])]
    exact g1.kept c' (fun e => h.mm.2.2.1 e)
/-- all are over: the counts, and who is inside -/
theorem Gs.end1 (h : Gs E w0 W σ n ls a c L L m1 m2) (hn : n ≤ 70000) (k : Nat) (hk : k < 18446744073709551616) : ∃ v : Nat, v ≤ 1 ∧ (Instr.lookup 48 (.map (some m1)) (.int .u64 (k : Int)) false).run Tryz.prog W = .ok (.int .i64 (v : Int)) W := by
  obtain ⟨q1, e1, g1⟩ := h.g1
  have := g1.look k hk
  refine ⟨_, ?_, this⟩
  rw [List.take_of_length_le (by rw [List.length_map, h.hl]; exact Nat.le_refl _)]
  refine gvn_one h.al.f (fun x hx => ?_) k
  obtain ⟨y, hy, rfl⟩ := List.mem_map.1 hx
  obtain ⟨j, hj⟩ := List.mem_iff_getElem?.1 hy
  exact h.o j y (by have := (List.getElem?_eq_some_iff.1 hj).1; have := h.hl; omega) hj
theorem Gs.end2 (h : Gs E w0 W σ n ls a c L L m1 m2) (hn : n ≤ 70000) (k : Nat) (hk : k < 18446744073709551616) : ∃ v : Nat, v ≤ 1 ∧ (Instr.lookup 48 (.map (some m2)) (.int .u64 (k : Int)) false).run Tryz.prog W = .ok (.int .i64 (v : Int)) W := by
  obtain ⟨q2, e2, g2⟩ := h.g2
  have := g2.look k hk
  refine ⟨_, ?_, this⟩
  rw [List.take_of_length_le (by rw [List.length_map, h.hl]; exact Nat.le_refl _)]
  exact cnl_one h.al.f k
theorem Gs.inside (h : Gs E w0 W σ n ls a c L L m1 m2) :
    Calls Tryz.prog 19 #[ptr E.F.f] W fun e W' => e = .returned (.int .i64 0) ∧ Ch Nil w0 W' := by
  have h0 : σ.i = 0 := h.al.f.out (fun x hx => by
    obtain ⟨y, hy, rfl⟩ := List.mem_map.1 hx
    obtain ⟨j, hj⟩ := List.mem_iff_getElem?.1 hy
    exact h.o j y (by have := (List.getElem?_eq_some_iff.1 hj).1; have := h.hl; omega) hj)
  refine (h.al.op (fun S1 hb => hb.inside)).mono ?_
  rintro e W' ⟨rfl, al, -⟩
  exact ⟨by rw [h0]; rfl, al.m.c⟩
/-- loop 1 is done: two maps are made -/
theorem OnAt.maps (h : OnAt E w0 W k n l) (hk : k ≤ 400) : ∃ (σ : Wd) (ls : List (Mx × Wk)) (a : Option Addr) (c L : Nat), l = .slice a L c ∧ Gs E w0 ((W.alloc (.map #[] 0)).alloc (.map #[] 0)) σ n ls a c L 0 W.heap.size (W.heap.size + 1) := by
  obtain ⟨σ, ls, a, c, h1, h2, h3, h4, h5, h6⟩ := h
  have hs := h5.m.c.size
  have c1 : Ch Nil W (W.alloc (.map #[] 0)) := (Ch.refl _ _).alloc _
  have c2 : Ch Nil (W.alloc (.map #[] 0)) ((W.alloc (.map #[] 0)).alloc (.map #[] 0)) := (Ch.refl _ _).alloc _
  have z1 : (W.alloc (.map #[] 0)).heap.size = W.heap.size + 1 := by simp
  have z2 : ((W.alloc (.map #[] 0)).alloc (.map #[] 0)).heap.size = W.heap.size + 1 + 1 := by simp
  have n1 := (MapC.new W).kept c2 (fun e => e)
  have n2 := MapC.new (W.alloc (.map #[] 0))
  rw [z1] at n2
  refine ⟨σ, ls, a, c, ls.length, h1, ?_, h4.kept (c1.trans c2) (fun _ _ e => e), h3, rfl, by omega, h6, fun j p hj => by omega, ⟨0, Nat.le_refl _, n1⟩, ⟨0, Nat.le_refl _, n2⟩, by omega, by omega, by omega, fun e => ?_, fun e => ?_⟩
  · refine h5.withZ h3 ((c1.trans c2).mono (fun _ _ e => e.elim)) (fun j z => ?_)
    rcases z with z | rfl | rfl
    · exact ⟨by have := h4.lt j z; omega, .inl z⟩
    · exact ⟨by omega, .inr (Nat.le_refl _)⟩
    · exact ⟨by omega, .inr (by omega)⟩
  · have := h4.lt _ e; omega
  · have := h4.lt _ e; omega
end
end Go.Proofs.YtnbdafmjcmmfpaaGreat
