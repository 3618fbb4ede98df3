import Derived.Test.YtnbdafmjcmmfpaaGreatK24
import Derived.Below
/-
  A floor alone: what it is asked between works: its slab, its shards, who is inside; that it is shut; that a task is taken.
-/
namespace Go.Proofs.YtnbdafmjcmmfpaaGreat
open Go.RowKit Verge
set_option linter.unusedVariables false
set_option linter.unusedSimpArgs false
section
variable {E : Ee} {S S0 : Nat → Prop} {w0 W W' : World} {σ σ' : Wd} {n n' : Nat}
/-- parts have turned -/
theorem Bf.part (h : Bf E S0 w0 W σ n) (c : Ch S W W') (hS : ∀ j, S j → W.heap.size ≤ j ∨ Prt E j)
    (s' : IsS W' E.F.sb E.F.srb E.N.n σ'.cnt σ'.R) (ri' : ∀ i, i < E.N.m → RT.IsRing W' (E.rg i) (E.rs i) E.N.r (σ'.g i).nx (σ'.g i).fi (σ'.g i).P (σ'.g i).V) (ei : σ'.i = σ.i) (ec : σ'.cl = σ.cl)
    (bd' : Bd E n' σ') (hn : n ≤ n') : Bf E S0 w0 W' σ' n' := by
  obtain ⟨L, a, tc, h1, h2, h3⟩ := h.hd
  have hid := h.ly.ids
  have sz := h.c.size
  have hw := h.hw
  refine ⟨h.ly, ⟨L, a, tc, h1.part h.ly c (fun j hj => (hS j hj).imp id .inr) s' ri' ei ec, Nat.le_trans h2 hn, h3⟩, bd', h.z, Nat.le_trans h.hw c.size, h.c.then c (fun j hj e => ?_)⟩
  rcases hS j e with e | e
  · omega
  · have := h.ly.prt e
    exact h.z j (by omega) (by omega)
theorem Bf.slab (h : Bf E S0 w0 W σ n) : IsS W E.F.sb E.F.srb E.N.n σ.cnt σ.R := by obtain ⟨L, a, tc, h1, -⟩ := h.hd; exact h1.s
theorem Bf.ring (h : Bf E S0 w0 W σ n) {i : Nat} (hi : i < E.N.m) : RT.IsRing W (E.rg i) (E.rs i) E.N.r (σ.g i).nx (σ.g i).fi (σ.g i).P (σ.g i).V := by obtain ⟨L, a, tc, h1, -⟩ := h.hd; exact h1.ri i hi
theorem Bf.slabbed (h : Bf E S0 w0 W σ n) (c : Ch S W W') (hS : ∀ j, S j → j = E.F.sb ∨ j = E.F.srb) (s' : IsS W' E.F.sb E.F.srb E.N.n σ.cnt σ.R) : Bf E S0 w0 W' σ n := by
  have h0 := h.ly.ids
  refine h.part c (fun j e => .inr ((hS j e).elim .inl fun q => .inr (.inl q))) s' (fun i hi => ?_) rfl rfl h.bd (Nat.le_refl _)
  have q := h.ly.idl hi
  have : ∀ j, (j = E.rg i ∨ j = E.rs i) → ¬ S j := fun j e e' => by
    rcases hS j e' with r | r <;> omega
  exact (h.ring hi).kept c (this _ (.inl rfl)) (this _ (.inr rfl))
theorem Bf.ringed (h : Bf E S0 w0 W σ n) {i : Nat} (hi : i < E.N.m) {x : Rg} (c : Ch S W W') (hS : ∀ j, S j → j = E.rg i ∨ j = E.rs i) (r' : RT.IsRing W' (E.rg i) (E.rs i) E.N.r x.nx x.fi x.P x.V) (hx : x.nx ≤ n) :
    Bf E S0 w0 W' { σ with g := upG σ.g i x } n := by
  have h0 := h.ly.ids
  have q := h.ly.idl hi
  have hn' : ∀ j, j ≠ E.rg i → j ≠ E.rs i → ¬ S j := fun j l4 l5 e => by
    rcases hS j e with r | r <;> omega
  have b := h.bd
  refine h.part (σ' := { σ with g := upG σ.g i x }) c (fun j e => .inr (.inr (.inr ⟨i, hi, hS j e⟩))) (h.slab.kept c (hn' _ (by omega) (by omega)) (hn' _ (by omega) (by omega))) (fun j hj => ?_) rfl rfl ⟨b.i, b.c, fun j hj => ?_, b.g, b.w⟩ (Nat.le_refl _)
  · by_cases e : j = i
    · subst e
      show RT.IsRing W' _ _ _ (upG σ.g j x j).nx (upG σ.g j x j).fi (upG σ.g j x j).P (upG σ.g j x j).V
      rw [upG_same]; exact r'
    · show RT.IsRing W' _ _ _ (upG σ.g i x j).nx (upG σ.g i x j).fi (upG σ.g i x j).P (upG σ.g i x j).V
      rw [upG_other _ _ e]
      have q2 := h.ly.idl hj
      rcases Nat.lt_trichotomy i j with p | p | p
      · have := h.ly.idd hj p
        exact (h.ring hj).kept c (hn' _ (by omega) (by omega)) (hn' _ (by omega) (by omega))
      · exact absurd p.symm e
      · have := h.ly.idd hi p
        exact (h.ring hj).kept c (hn' _ (by omega) (by omega)) (hn' _ (by omega) (by omega))
  · show (upG σ.g i x j).nx ≤ n
    by_cases e : j = i
    · subst e; rw [upG_same]; exact hx
    · rw [upG_other _ _ e]; exact b.x j hj
theorem upG_self (g : Nat → Rg) (i : Nat) : upG g i (g i) = g := by funext j; unfold upG; split <;> simp_all
theorem Bf.slabOf (h : Bf E S0 w0 W σ n) : Calls Tryz.prog 15 #[ptr E.F.f] W fun e W' => e = .returned (ptr E.F.sb) ∧ Bf E S0 w0 W' σ n := by
  obtain ⟨L, a, tc, h1, h2, h3⟩ := h.hd
  refine (slab_of h1.f.fl).mono ?_
  rintro e w' ⟨rfl, c⟩
  exact ⟨rfl, h.quiet c⟩
theorem Bf.word (h : Bf E S0 w0 W σ n) (s : Nat) (hs : s < E.N.n) :
    Calls Tryz.prog 22 #[ptr E.F.sb, .int .i64 (s : Nat)] W fun e W' => e = .returned (.tuple #[.int .u64 ((σ.R s).wd : Nat), .int .i64 0]) ∧ Bf E S0 w0 W' σ n := by
  refine (word_in s h.slab hs).mono ?_
  rintro e w' ⟨rfl, s', c⟩
  exact ⟨rfl, h.slabbed c (fun j e => .inr e) s'⟩
theorem Bf.count (h : Bf E S0 w0 W σ n) :
    Calls Tryz.prog 16 #[ptr E.F.sb] W fun e W' => e = .returned (.int .i64 (σ.cnt : Nat)) ∧ Bf E S0 w0 W' σ n := by
  refine (count_of h.slab).mono ?_
  rintro e w' ⟨rfl, s', c⟩
  exact ⟨rfl, h.slabbed c (fun j e => .inl e) s'⟩
theorem Bf.shard (h : Bf E S0 w0 W σ n) (i : Int) (q : Nat) (hi : i = q) (hq : q < E.N.m) :
    Calls Tryz.prog 13 #[ptr E.F.f, .int .i64 i] W fun e W' => e = .returned (ptr (E.F.sh q)) ∧ Bf E S0 w0 W' σ n := by
  obtain ⟨L, a, tc, h1, h2, h3⟩ := h.hd
  have hm := h.ly.n
  have m1 := h.ly.m1
  refine (shard_in h1.f.fl h1.r (by omega) i q hi (by omega)).mono ?_
  rintro e w' ⟨rfl, c⟩
  exact ⟨rfl, h.quiet c⟩
theorem Bf.waiting (h : Bf E S0 w0 W σ n) (hn : n ≤ 90000) (q : Nat) (hq : q < E.N.m) (hle : (σ.g q).fi ≤ (σ.g q).nx) :
    Calls Tryz.prog 23 #[ptr (E.F.sh q)] W fun e W' => e = .returned (.int .i64 ((σ.g q).nx - (σ.g q).fi : Nat)) ∧ Bf E S0 w0 W' σ n := by
  obtain ⟨L, a, tc, h1, h2, h3⟩ := h.hd
  obtain ⟨l, v, s⟩ := h1.sd q hq
  have hx := h.bd.x q hq
  refine (sWaiting_of s (h.ring hq) hle (by omega) _ (Lib.hid rfl)).mono ?_
  rintro e w' ⟨rfl, r', c⟩
  refine ⟨rfl, ?_⟩
  have := h.ringed hq (x := σ.g q) c (fun j e => e) r' hx
  rwa [upG_self] at this
theorem Bf.popYes (h : Bf E S0 w0 W σ n) (hn : n ≤ 90000) (q : Nat) (hq : q < E.N.m) (hle : (σ.g q).fi ≤ (σ.g q).nx) (hP : (σ.g q).P (σ.g q).fi = true) (hN : (σ.g q).P ((σ.g q).fi + E.N.r) = false) (u : Tk) (hu : (σ.g q).V (σ.g q).fi = u) :
    Calls Tryz.prog 14 #[ptr (E.F.sh q)] W fun e W' => e = .returned (.tuple #[tkA u, .int .i64 0]) ∧ Bf E S0 w0 W' { σ with g := upG σ.g q { σ.g q with fi := (σ.g q).fi + 1 } } n := by
  obtain ⟨L, a, tc, h1, h2, h3⟩ := h.hd
  obtain ⟨l, v, s⟩ := h1.sd q hq
  have hx := h.bd.x q hq
  refine (sPop_ok s (h.ring hq) (by omega) (Lib.hid hP) (Lib.hid hN) u (Lib.hid hu)).mono ?_
  rintro e w' ⟨rfl, r', c⟩
  exact ⟨rfl, h.ringed hq (x := { σ.g q with fi := (σ.g q).fi + 1 }) c (fun j e => e) r' hx⟩
theorem Bf.popNo (h : Bf E S0 w0 W σ n) (hn : n ≤ 90000) (q : Nat) (hq : q < E.N.m) (hle : (σ.g q).fi ≤ (σ.g q).nx) (hP : (σ.g q).P (σ.g q).fi = false) :
    Calls Tryz.prog 14 #[ptr (E.F.sh q)] W fun e W' => e = .returned (.tuple #[tkA tk0, .int .i64 6]) ∧ Bf E S0 w0 W' σ n := by
  obtain ⟨L, a, tc, h1, h2, h3⟩ := h.hd
  obtain ⟨l, v, s⟩ := h1.sd q hq
  have hx := h.bd.x q hq
  refine (sPop_none s (h.ring hq) (by omega) (Lib.hid hP)).mono ?_
  rintro e w' ⟨rfl, r', c⟩
  refine ⟨rfl, ?_⟩
  have := h.ringed hq (x := σ.g q) c (fun j e => e) r' hx
  rwa [upG_self] at this
/-- the floor's own cells have turned -/
theorem Bf.flr (h : Bf E S0 w0 W σ n) {L : List Ev} {a : Option Addr} {tc : Nat} (h1 : Hd E W σ L a tc) (h2 : L.length ≤ n) (h3 : ∀ j, OwnS a j → S0 j ∨ w0.heap.size ≤ j) {cl' : Bool}
    (f' : Fl W' E.F ⟨σ.i, 0, cl', 0, L⟩ a tc) (c : Ch (FS E.F a) W W') : Bf E S0 w0 W' { σ with cl := cl' } n := by
  have hid := h.ly.ids
  have sz := h.c.size
  have hw := h.hw
  have b := h.bd
  refine ⟨h.ly, ⟨L, a, tc, h1.floor h.ly h.hw f' c (fun _ e => .inl e), h2, h3⟩, ⟨b.i, b.c, b.x, b.g, b.w⟩, h.z, Nat.le_trans h.hw c.size, h.c.then c (fun j hj e => ?_)⟩
  rcases h.ly.fs e with q | q
  · exact h.z j (by omega) (by omega)
  · rcases h3 j q with r | r
    · exact r
    · omega
theorem Bf.inside (h : Bf E S0 w0 W σ n) :
    Calls Tryz.prog 19 #[ptr E.F.f] W fun e W' => e = .returned (.int .i64 (σ.i : Nat)) ∧ Bf E S0 w0 W' σ n := by
  obtain ⟨L, a, tc, h1, h2, h3⟩ := h.hd
  refine (inside_of h1.f.fl h1.f.pi).mono ?_
  rintro e w' ⟨rfl, j, c⟩
  obtain ⟨f', c'⟩ := h1.f.up_i c j
  exact ⟨rfl, h.flr h1 h2 h3 f' c'⟩
theorem Bf.shut (h : Bf E S0 w0 W σ n) (hc : Hid (σ.cl = false)) :
    Calls Tryz.prog 21 #[ptr E.F.f] W fun e W' => e = .returned (.bool true) ∧ Bf E S0 w0 W' { σ with cl := true } n := by
  obtain ⟨L, a, tc, h1, h2, h3⟩ := h.hd
  have hp : IsB W E.F.cl σ.cl := h1.f.pc
  rw [hc.out] at hp
  refine (shut_first h1.f.fl hp).mono ?_
  rintro e w' ⟨rfl, j, c⟩
  obtain ⟨f', c'⟩ := h1.f.up_c c j
  exact ⟨rfl, h.flr h1 h2 h3 f' c'⟩
theorem Bf.up (h : Bf E S0 w0 W σ n) (hn : n ≤ n') : Bf E S0 w0 W σ n' := by
  obtain ⟨L, a, tc, h1, h2, h3⟩ := h.hd
  exact ⟨h.ly, ⟨L, a, tc, h1, Nat.le_trans h2 hn, h3⟩, h.bd.up hn, h.z, h.hw, h.c⟩
/-- what a law's walk leaves -/
theorem bf_under {w w1 w2 : World} (c : Ch Nil w w1) (h : Bf E (fun j => w1.heap.size ≤ j) w1 w2 σ n) : Below w.heap.size w w2 :=
  (c.trans (h.c.mono fun i hi e => by have e' : w1.heap.size ≤ i := e; omega)).below (Nat.le_refl _) (fun _ _ e => e.elim)
end
end Go.Proofs.YtnbdafmjcmmfpaaGreat
