import Derived.Test.YtnbdafmjcmmfpaaGreatK02
import Derived.Test.YtnbdafmjcmmfpaaGreatK03
import Derived.Test.YtnbdafmjcmmfpaaGreatK06
import Derived.Test.YtnbdafmjcmmfpaaGreatK11
import Derived.Test.YtnbdafmjcmmfpaaGreatK10
import Derived.Test.YtnbdafmjcmmfpaaGreatK09
import Derived.Test.YtnbdafmjcmmfpaaGreatK14
import Derived.Test.YtnbdafmjcmmfpaaGreatK13
import Derived.Deep.RegionHeld
/-
  A floor with its slab and rings, and a work, in memory; what their parts' turns leave.
-/
namespace Verge
/-- a floor's numbers, and where it and its parts lie: its first block, the end of what New made -/
structure Ee where
  N : Nm
  lo : Nat
  hi : Nat
  F : Fb
  rg : Nat → Nat
  rs : Nat → Nat
end Verge
namespace Go.Proofs.YtnbdafmjcmmfpaaGreat
open Go.RowKit Verge
set_option linter.unusedVariables false
set_option linter.unusedSimpArgs false
/-- where a work lies: its block, its kind's block, its program; its request, its ticket; who made it; the boxes of its next step; that step, as it lies in the program, and how many were made -/
structure Mx where
  kb : Nat
  ab : Nat
  pb : Nat
  q : Option Nat
  t : Option Nat
  th : Int
  no : Int
  bx : List (Nat × List Value)
  pd : Value
  st : Int
abbrev ptr (b : Nat) : Value := .pointer (some ⟨b, 0, none⟩)
def own (X : Mx) : Nat → Prop := fun j => j = X.kb ∨ j = X.ab ∨ j = X.pb ∨ X.q = some j ∨ X.t = some j ∨ ∃ p ∈ X.bx, p.1 = j
structure Lay (E : Ee) : Prop where
  o : Ord E.lo E.F
  cs : E.F.c.s = E.F.n
  n : E.F.n = E.N.m
  m0 : 0 < E.N.m
  m1 : E.N.m ≤ 4
  top : E.F.g < E.hi ∧ ∀ i, i < E.N.m → E.F.sh i < E.hi
  rb : ∀ i, i < E.N.m → E.F.lk i ≤ E.rg i ∧ E.rg i < E.F.sh i ∧ E.F.lk i ≤ E.rs i ∧ E.rs i < E.F.sh i ∧ E.rg i ≠ E.rs i
/-- a floor -/
structure Hd (E : Ee) (W : World) (σ : Wd) (L : List Ev) (a : Option Addr) (tc : Nat) : Prop where
  f : Fl W E.F ⟨σ.i, 0, σ.cl, 0, L⟩ a tc
  r : Row W 42 1 (some ⟨E.F.g, 0, none⟩) E.F.n E.F.gc (shV E.F)
  sd : ∀ i, i < E.N.m → ∃ l v, IsSh W (E.F.sh i) (E.rg i) l v
  ri : ∀ i, i < E.N.m → RT.IsRing W (E.rg i) (E.rs i) E.N.r (σ.g i).nx (σ.g i).fi (σ.g i).P (σ.g i).V
  s : IsS W E.F.sb E.F.srb E.N.n σ.cnt σ.R
  la : ∀ j, OwnS a j → E.hi ≤ j
section
variable {E : Ee} {S : Nat → Prop} {W W' : World} {σ σ' : Wd} {L L' : List Ev} {a a' : Option Addr} {tc tc' : Nat}
theorem Lay.ids (h : Lay E) : E.lo ≤ E.F.lb ∧ E.F.lb < E.F.cl ∧ E.F.cl < E.F.ins ∧ E.F.ins < E.F.bz ∧ E.F.bz < E.F.nw ∧ E.F.nw < E.F.f ∧ E.F.f < E.F.srb ∧ E.F.srb < E.F.sb ∧ E.F.sb < E.F.cb ∧ E.F.cb < E.F.pb ∧ E.F.pb < E.F.g ∧ E.F.g < E.hi :=
  ⟨h.o.o1, h.o.o2, h.o.o3, h.o.o4, h.o.o5, h.o.o6, h.o.o7, h.o.o8, h.o.o9, h.o.oa, h.o.og, h.top.1⟩
theorem Lay.idl (h : Lay E) {i : Nat} (hi : i < E.N.m) : E.F.pb < E.F.lk i ∧ E.F.lk i < E.F.sh i ∧ (E.F.g < E.F.lk i ∨ E.F.sh i < E.F.g) ∧ E.F.sh i < E.hi ∧ E.F.lk i ≤ E.rg i ∧ E.rg i < E.F.sh i ∧ E.F.lk i ≤ E.rs i ∧ E.rs i < E.F.sh i ∧ E.rg i ≠ E.rs i := by
  obtain ⟨h1, h2, h3⟩ := h.o.os i (by rw [h.n]; exact hi)
  obtain ⟨r1, r2, r3, r4, r5⟩ := h.rb i hi
  exact ⟨h1, h2, h3, h.top.2 i hi, r1, r2, r3, r4, r5⟩
theorem Lay.idd (h : Lay E) {i j : Nat} (hj : j < E.N.m) (hij : i < j) : E.F.sh i < E.F.lk j := h.o.od i j hij (by rw [h.n]; exact hj)
/-- what a floor's own calls may turn lies below its slab's records, or is its trace -/
theorem Lay.fs (h : Lay E) {j : Nat} (hj : FS E.F a j) : (E.lo ≤ j ∧ j ≤ E.F.f) ∨ OwnS a j := by
  have := h.ids
  rcases hj with e | e | e | e | e | e
  · exact .inl (by omega)
  · exact .inl (by omega)
  · exact .inl (by omega)
  · exact .inl (by omega)
  · exact .inl (by omega)
  · exact .inr e
/-- which blocks a part's turn may touch -/
def Prt (E : Ee) (j : Nat) : Prop := j = E.F.sb ∨ j = E.F.srb ∨ ∃ i, i < E.N.m ∧ (j = E.rg i ∨ j = E.rs i)
theorem Lay.prt (h : Lay E) {j : Nat} (hj : Prt E j) : E.F.f < j ∧ j < E.hi ∧ j ≠ E.F.g ∧ ∀ i, i < E.N.m → j ≠ E.F.sh i := by
  have h0 := h.ids
  rcases hj with e | e | ⟨i, hi, e⟩
  · exact ⟨by omega, by omega, by omega, fun i hi => by have := h.idl hi; omega⟩
  · exact ⟨by omega, by omega, by omega, fun i hi => by have := h.idl hi; omega⟩
  · have h1 := h.idl hi
    refine ⟨by omega, by omega, by omega, fun k hk => ?_⟩
    have h2 := h.idl hk
    rcases Nat.lt_trichotomy i k with q | q | q
    · have := h.idd hk q; omega
    · subst q; omega
    · have := h.idd hi q; omega
theorem Hd.floor (h : Hd E W σ L a tc) (ly : Lay E) (hw : E.hi ≤ W.heap.size) {i' : Nat} {cl' : Bool} (f' : Fl W' E.F ⟨i', 0, cl', 0, L'⟩ a' tc') (c : Ch (FS E.F a) W W') (ha : ∀ j, OwnS a' j → OwnS a j ∨ W.heap.size ≤ j) : Hd E W' { σ with i := i', cl := cl' } L' a' tc' := by
  have hi := ly.ids
  have hn : ∀ {j}, E.F.f < j → j < E.hi → ¬ FS E.F a j := fun {j} h1 h2 e => by
    rcases ly.fs e with e | e
    · omega
    · have := h.la j e; omega
  refine ⟨f', h.r.kept c (fun j hj => ?_), fun i hi' => ?_, fun i hi' => ?_, h.s.kept c (hn (by omega) (by omega)) (hn (by omega) (by omega)), fun j hj => ?_⟩
  · obtain rfl : E.F.g = j := Option.some.inj hj
    exact hn (by omega) (by omega)
  · obtain ⟨l, v, s⟩ := h.sd i hi'
    have := ly.idl hi'
    exact ⟨l, v, s.kept c (hn (by omega) (by omega))⟩
  · have := ly.idl hi'
    exact (h.ri i hi').kept c (hn (by omega) (by omega)) (hn (by omega) (by omega))
  · rcases ha j hj with e | e
    · exact h.la j e
    · omega
theorem Hd.part (h : Hd E W σ L a tc) (ly : Lay E) (c : Ch S W W') (hS : ∀ j, S j → W.heap.size ≤ j ∨ (E.hi ≤ j ∧ ¬ OwnS a j) ∨ Prt E j)
    (s' : IsS W' E.F.sb E.F.srb E.N.n σ'.cnt σ'.R) (ri' : ∀ i, i < E.N.m → RT.IsRing W' (E.rg i) (E.rs i) E.N.r (σ'.g i).nx (σ'.g i).fi (σ'.g i).P (σ'.g i).V) (ei : σ'.i = σ.i) (ec : σ'.cl = σ.cl) : Hd E W' σ' L a tc := by
  have h0 := ly.ids
  have hn : ∀ j, j < W.heap.size → (j ≤ E.F.f ∨ j = E.F.g ∨ ∃ i, i < E.N.m ∧ j = E.F.sh i) → ¬ S j := fun j hl hj e => by
    rcases hS j e with e | e | e
    · omega
    · rcases hj with q | q | ⟨i, hi, q⟩
      · omega
      · omega
      · have := ly.idl hi; omega
    · obtain ⟨p1, p2, p3, p4⟩ := ly.prt e
      rcases hj with q | q | ⟨i, hi, q⟩
      · omega
      · omega
      · exact p4 i hi q
  have hf : Fl W' E.F ⟨σ.i, 0, σ.cl, 0, L⟩ a tc := h.f.kept c (fun j hj => by
    have lt := h.f.lt hj
    rcases ly.fs hj with e | e
    · exact hn j lt (.inl e.2)
    · intro e'
      rcases hS j e' with q | q | q
      · omega
      · exact q.2 e
      · have := ly.prt q; have := h.la j e; omega)
  refine ⟨by rw [ei, ec]; exact hf, h.r.kept c (fun j hj => ?_), fun i hi => ?_, ri', s', h.la⟩
  · have lt := h.r.lt j hj
    obtain rfl : E.F.g = j := Option.some.inj hj
    exact hn _ lt (.inr (.inl rfl))
  · obtain ⟨l, v, s⟩ := h.sd i hi
    exact ⟨l, v, s.kept c (hn _ s.lt (.inr (.inr ⟨i, hi, rfl⟩)))⟩
end
/-- the cells of a kind's block -/
def rvV (X : Mx) (k : Wk) : List Value :=
  if k.kd ≤ 2 then [ptr X.kb, .int .u64 (k.per : Nat), pt X.q, pt X.t, .int .u64 (k.aid : Nat), .int .i64 (k.asl : Nat)]
  else if k.kd = 3 then [ptr X.kb, pt X.t]
  else [ptr X.kb, .int .i64 k.ev, .int .i64 (k.ev + 1)]
/-- a work's cells -/
def wkV (E : Ee) (X : Mx) (k : Wk) : List Value :=
  [ptr E.F.f, .int .i64 X.th, .int .i64 X.no, .int .i64 (k.kd : Nat), .int .u64 (k.id : Nat), .int .u64 (k.d : Nat), .int .u64 (k.p : Nat), .int .i64 (k.a.e : Nat), .bool k.a.ok, .int .u64 (k.a.id : Nat), .int .u64 (k.a.g : Nat), .slice none 0 0, ptr X.pb]
structure Kw (E : Ee) (W : World) (X : Mx) (k : Wk) : Prop where
  kc : IsVs W X.kb (wkV E X k)
  ac : IsVs W X.ab (rvV X k)
  pc : IsPg W X.pb X.pd X.st
  qc : ∀ b, X.q = some b → IsQ W b E.F.sb k.q
  tc : ∀ b, X.t = some b → RT.IsT W b (E.rg (k.h E.N)) k.t.st k.t.su k.t.pos k.t.fl
  bc : ∀ p ∈ X.bx, IsVs W p.1 p.2
  o1 : X.kb < X.ab
  o2 : X.ab < X.pb
  oq : ∀ b, X.q = some b → X.pb < b
  ot : ∀ b, X.t = some b → X.pb < b ∧ ∀ c, X.q = some c → c ≠ b
  ob : ∀ p ∈ X.bx, X.pb < p.1 ∧ (∀ c, X.q = some c → c ≠ p.1) ∧ ∀ c, X.t = some c → c ≠ p.1
/-- bounds -/
structure Bd (E : Ee) (n : Nat) (σ : Wd) : Prop where
  i : σ.i ≤ n
  c : σ.cnt ≤ n
  x : ∀ i, i < E.N.m → (σ.g i).nx ≤ n
  g : ∀ k, k < E.N.n → (σ.R k).gv ≤ n
  w : ∀ k, k < E.N.n → okW (σ.R k).wd = true
/-- a floor and one of its works; nothing but what is in S0 has turned since w0 -/
structure Bo (E : Ee) (S0 : Nat → Prop) (w0 W : World) (σ : Wd) (n : Nat) (X : Mx) (k : Wk) : Prop where
  ly : Lay E
  hd : ∃ L a tc, Hd E W σ L a tc ∧ L.length ≤ n ∧ (∀ j, OwnS a j → S0 j ∨ w0.heap.size ≤ j) ∧ ∀ j, own X j → ¬ OwnS a j
  kw : Kw E W X k
  bd : Bd E n σ
  ow : ∀ j, own X j → E.hi ≤ j ∧ (S0 j ∨ w0.heap.size ≤ j)
  z : ∀ j, E.lo ≤ j → j < E.hi → S0 j
  hw : E.hi ≤ W.heap.size
  c : Ch S0 w0 W
section
variable {E : Ee} {S S0 : Nat → Prop} {w0 W W' : World} {σ σ' : Wd} {n n' : Nat} {X X' : Mx} {k k' : Wk}
theorem Bd.up (h : Bd E n σ) (hn : n ≤ n') : Bd E n' σ :=
  ⟨Nat.le_trans h.i hn, Nat.le_trans h.c hn, fun i hi => Nat.le_trans (h.x i hi) hn, fun i hi => Nat.le_trans (h.g i hi) hn, h.w⟩
theorem Kw.lt (h : Kw E W X k) {j : Nat} (hj : own X j) : j < W.heap.size := by
  rcases hj with rfl | rfl | rfl | e | e | ⟨p, hp, rfl⟩
  · exact h.kc.lt
  · exact h.ac.lt
  · exact h.pc.lt
  · exact (h.qc j e).lt
  · exact (h.tc j e).lt
  · exact (h.bc p hp).lt
theorem Kw.kept (h : Kw E W X k) (c : Ch S W W') (hn : ∀ j, own X j → ¬ S j) : Kw E W' X k :=
  ⟨h.kc.kept c (hn _ (.inl rfl)), h.ac.kept c (hn _ (.inr (.inl rfl))), h.pc.kept c (hn _ (.inr (.inr (.inl rfl)))), fun b hb => (h.qc b hb).kept c (hn b (.inr (.inr (.inr (.inl hb))))), fun b hb => (h.tc b hb).kept c (hn b (.inr (.inr (.inr (.inr (.inl hb)))))), fun p hp => (h.bc p hp).kept c (hn _ (.inr (.inr (.inr (.inr (.inr ⟨p, hp, rfl⟩)))))), h.o1, h.o2, h.oq, h.ot, h.ob⟩
theorem Bo.up (h : Bo E S0 w0 W σ n X k) (hn : n ≤ n') : Bo E S0 w0 W σ n' X k := by
  obtain ⟨L, a, tc, h1, h2, h3, h4⟩ := h.hd
  exact ⟨h.ly, ⟨L, a, tc, h1, Nat.le_trans h2 hn, h3, h4⟩, h.kw, h.bd.up hn, h.ow, h.z, h.hw, h.c⟩
/-- a work's blocks are none of a floor's parts -/
theorem Bo.np (h : Bo E S0 w0 W σ n X k) {j : Nat} (hj : own X j) : ¬ Prt E j := fun e => by have := h.ly.prt e; have := (h.ow j hj).1; omega
/-- parts, or the work, have turned -/
theorem Bo.turn (h : Bo E S0 w0 W σ n X k) (c : Ch S W W') (hS : ∀ j, S j → W.heap.size ≤ j ∨ own X j ∨ Prt E j)
    (s' : IsS W' E.F.sb E.F.srb E.N.n σ'.cnt σ'.R) (ri' : ∀ i, i < E.N.m → RT.IsRing W' (E.rg i) (E.rs i) E.N.r (σ'.g i).nx (σ'.g i).fi (σ'.g i).P (σ'.g i).V) (ei : σ'.i = σ.i) (ec : σ'.cl = σ.cl)
    (bd' : Bd E n' σ') (hn : n ≤ n') (kw' : Kw E W' X' k') (ow' : ∀ j, own X' j → own X j ∨ W.heap.size ≤ j) : Bo E S0 w0 W' σ' n' X' k' := by
  obtain ⟨L, a, tc, h1, h2, h3, h4⟩ := h.hd
  have hid := h.ly.ids
  have sz := h.c.size
  have hw := h.hw
  refine ⟨h.ly, ⟨L, a, tc, h1.part h.ly c (fun j hj => ?_) s' ri' ei ec, Nat.le_trans h2 hn, h3, fun j hj => ?_⟩, kw', bd', fun j hj => ?_, h.z, Nat.le_trans h.hw c.size, h.c.then c (fun j hj e => ?_)⟩
  · rcases hS j hj with e | e | e
    · exact .inl e
    · exact .inr (.inl ⟨(h.ow j e).1, h4 j e⟩)
    · exact .inr (.inr e)
  · rcases ow' j hj with e | e
    · exact h4 j e
    · intro e'; have := h1.f.lt (k := j) (by simp [FS, e']); omega
  · rcases ow' j hj with e | e
    · exact h.ow j e
    · exact ⟨by omega, .inr (by omega)⟩
  · rcases hS j e with e | e | e
    · omega
    · rcases (h.ow j e).2 with q | q
      · exact q
      · omega
    · have := h.ly.prt e
      exact h.z j (by omega) (by omega)
/-- the floor's own cells have turned -/
theorem Bo.flr (h : Bo E S0 w0 W σ n X k) {L : List Ev} {a : Option Addr} {tc : Nat} (h1 : Hd E W σ L a tc) (h3 : ∀ j, OwnS a j → S0 j ∨ w0.heap.size ≤ j) (h4 : ∀ j, own X j → ¬ OwnS a j) {i' : Nat} {cl' : Bool} {L' : List Ev} {a' : Option Addr} {tc' : Nat}
    (f' : Fl W' E.F ⟨i', 0, cl', 0, L'⟩ a' tc') (c : Ch (FS E.F a) W W') (ha : ∀ j, OwnS a' j → OwnS a j ∨ W.heap.size ≤ j) (hL : L'.length ≤ n') (hi : i' ≤ n') (hn : n ≤ n') : Bo E S0 w0 W' { σ with i := i', cl := cl' } n' X k := by
  have hid := h.ly.ids
  have sz := h.c.size
  have hw := h.hw
  have hx : ∀ j, own X j → ¬ FS E.F a j := fun j hj e => by
    rcases h.ly.fs e with q | q
    · have := (h.ow j hj).1; omega
    · exact h4 j hj q
  have b := h.bd.up hn
  refine ⟨h.ly, ⟨L', a', tc', h1.floor h.ly h.hw f' c ha, hL, fun j hj => ?_, fun j hj e => ?_⟩, h.kw.kept c hx, ⟨hi, b.c, b.x, b.g, b.w⟩, h.ow, h.z, Nat.le_trans h.hw c.size, h.c.then c (fun j hj e => ?_)⟩
  · rcases ha j hj with e | e
    · exact h3 j e
    · exact .inr (by omega)
  · rcases ha j e with q | q
    · exact h4 j hj q
    · have := h.kw.lt hj; omega
  · rcases h.ly.fs e with q | q
    · exact h.z j (by omega) (by omega)
    · rcases h3 j q with r | r
      · exact r
      · omega
theorem Bo.slab (h : Bo E S0 w0 W σ n X k) : IsS W E.F.sb E.F.srb E.N.n σ.cnt σ.R := by obtain ⟨L, a, tc, h1, -⟩ := h.hd; exact h1.s
theorem Bo.ring (h : Bo E S0 w0 W σ n X k) {i : Nat} (hi : i < E.N.m) : RT.IsRing W (E.rg i) (E.rs i) E.N.r (σ.g i).nx (σ.g i).fi (σ.g i).P (σ.g i).V := by obtain ⟨L, a, tc, h1, -⟩ := h.hd; exact h1.ri i hi
theorem Bo.isF (h : Bo E S0 w0 W σ n X k) : ∃ a l tc, IsF W E.F a l tc := by obtain ⟨L, a, tc, h1, -⟩ := h.hd; exact ⟨_, _, _, h1.f.fl⟩
theorem Bo.quiet (h : Bo E S0 w0 W σ n X k) (c : Ch Nil W W') : Bo E S0 w0 W' σ n X k :=
  h.turn c (fun _ e => e.elim) (h.slab.quiet c) (fun i hi => (h.ring hi).kept c (fun e => e) (fun e => e)) rfl rfl h.bd (Nat.le_refl _) (h.kw.kept c (fun _ _ e => e)) (fun _ e => .inl e)
/-- the work alone has turned -/
theorem Bo.work (h : Bo E S0 w0 W σ n X k) (c : Ch S W W') (hS : ∀ j, S j → W.heap.size ≤ j ∨ own X j) (kw' : Kw E W' X' k') (ow' : ∀ j, own X' j → own X j ∨ W.heap.size ≤ j) : Bo E S0 w0 W' σ n X' k' := by
  have h0 := h.ly.ids
  have hn : ∀ j, Prt E j → ¬ S j := fun j hp e => by
    have q := h.ly.prt hp
    have := h.hw
    rcases hS j e with e | e
    · omega
    · exact h.np e hp
  refine h.turn c (fun j e => (hS j e).imp id .inl) (h.slab.kept c (hn _ (.inl rfl)) (hn _ (.inr (.inl rfl)))) (fun i hi => (h.ring hi).kept c (hn _ (.inr (.inr ⟨i, hi, .inl rfl⟩))) (hn _ (.inr (.inr ⟨i, hi, .inr rfl⟩)))) rfl rfl h.bd (Nat.le_refl _) kw' ow'
/-- the slab, and the request, have turned -/
theorem Bo.slabbed (h : Bo E S0 w0 W σ n X k) {cnt' : Nat} {R' : Nat → Rec} (c : Ch S W W') (hS : ∀ j, S j → W.heap.size ≤ j ∨ own X j ∨ j = E.F.sb ∨ j = E.F.srb) (s' : IsS W' E.F.sb E.F.srb E.N.n cnt' R') (bd' : Bd E n' { σ with cnt := cnt', R := R' }) (hn : n ≤ n') (kw' : Kw E W' X' k') (ow' : ∀ j, own X' j → own X j ∨ W.heap.size ≤ j) :
    Bo E S0 w0 W' { σ with cnt := cnt', R := R' } n' X' k' := by
  have h0 := h.ly.ids
  have hr : ∀ i, i < E.N.m → ¬ S (E.rg i) ∧ ¬ S (E.rs i) := fun i hi => by
    have q := h.ly.idl hi
    have hw := h.hw
    have : ∀ j, (j = E.rg i ∨ j = E.rs i) → ¬ S j := fun j e e' => by
      rcases hS j e' with r | r | r | r
      · omega
      · have := (h.ow j r).1; omega
      · omega
      · omega
    exact ⟨this _ (.inl rfl), this _ (.inr rfl)⟩
  exact h.turn c (fun j e => (hS j e).imp id (Or.imp id (fun q => q.elim .inl (fun r => .inr (.inl r))))) s' (fun i hi => (h.ring hi).kept c (hr i hi).1 (hr i hi).2) rfl rfl bd' hn kw' ow'
/-- a ring, and the ticket, have turned -/
theorem Bo.ringed (h : Bo E S0 w0 W σ n X k) {i : Nat} (hi : i < E.N.m) {x : Rg} (c : Ch S W W') (hS : ∀ j, S j → W.heap.size ≤ j ∨ own X j ∨ j = E.rg i ∨ j = E.rs i) (r' : RT.IsRing W' (E.rg i) (E.rs i) E.N.r x.nx x.fi x.P x.V) (hx : x.nx ≤ n') (hn : n ≤ n') (kw' : Kw E W' X' k') (ow' : ∀ j, own X' j → own X j ∨ W.heap.size ≤ j) :
    Bo E S0 w0 W' { σ with g := upG σ.g i x } n' X' k' := by
  have h0 := h.ly.ids
  have q := h.ly.idl hi
  have hw := h.hw
  have hn' : ∀ j, j < W.heap.size → E.F.f < j → j < E.hi → j ≠ E.rg i → j ≠ E.rs i → ¬ S j := fun j l1 l2 l3 l4 l5 e => by
    rcases hS j e with r | r | r | r
    · omega
    · have := (h.ow j r).1; omega
    · omega
    · omega
  have b := h.bd.up hn
  refine h.turn (σ' := { σ with g := upG σ.g i x }) c (fun j e => (hS j e).imp id (Or.imp id (fun q => .inr (.inr ⟨i, hi, q⟩)))) (h.slab.kept c (hn' _ h.slab.lt (by omega) (by omega) (by omega) (by omega)) (hn' _ h.slab.lt2 (by omega) (by omega) (by omega) (by omega))) (fun j hj => ?_) rfl rfl ⟨b.i, b.c, fun j hj => ?_, b.g, b.w⟩ hn kw' ow'
  · by_cases e : j = i
    · subst e
      show RT.IsRing W' _ _ _ (upG σ.g j x j).nx (upG σ.g j x j).fi (upG σ.g j x j).P (upG σ.g j x j).V
      rw [upG_same]; exact r'
    · show RT.IsRing W' _ _ _ (upG σ.g i x j).nx (upG σ.g i x j).fi (upG σ.g i x j).P (upG σ.g i x j).V
      rw [upG_other _ _ e]
      have q2 := h.ly.idl hj
      have hr := h.ring hj
      rcases Nat.lt_trichotomy i j with p | p | p
      · have := h.ly.idd hj p
        exact hr.kept c (hn' _ hr.lt (by omega) (by omega) (by omega) (by omega)) (hn' _ hr.lt2 (by omega) (by omega) (by omega) (by omega))
      · exact absurd p.symm e
      · have := h.ly.idd hi p
        exact hr.kept c (hn' _ hr.lt (by omega) (by omega) (by omega) (by omega)) (hn' _ hr.lt2 (by omega) (by omega) (by omega) (by omega))
  · show (upG σ.g i x j).nx ≤ n'
    by_cases e : j = i
    · subst e; rw [upG_same]; exact hx
    · rw [upG_other _ _ e]; exact b.x j hj
end
section
variable {E : Ee} {S S0 : Nat → Prop} {w0 W W' : World} {σ σ' : Wd} {n n' : Nat} {X X' : Mx} {k k' : Wk} {B : Nat} {vs : List Value} {r : List (Nat × List Value)}
/-- a box more -/
theorem Bo.push (h : Bo E S0 w0 W σ n X k) (c : Ch Nil W W') (hB : W.heap.size ≤ B) (hv : IsVs W' B vs) : Bo E S0 w0 W' σ n { X with bx := (B, vs) :: X.bx } k := by
  have h' := h.quiet c
  have kw := h'.kw
  have lt : ∀ {j}, own X j → j < B := fun {j} hj => by have := h.kw.lt hj; omega
  refine h.work c (fun _ e => e.elim) ⟨kw.kc, kw.ac, kw.pc, kw.qc, kw.tc, ?_, kw.o1, kw.o2, kw.oq, kw.ot, ?_⟩ (fun j hj => ?_)
  · intro p hp
    rcases List.mem_cons.1 hp with rfl | hp
    · exact hv
    · exact kw.bc p hp
  · intro p hp
    rcases List.mem_cons.1 hp with rfl | hp
    · exact ⟨lt (.inr (.inr (.inl rfl))), fun b hb => Nat.ne_of_lt (lt (.inr (.inr (.inr (.inl hb))))), fun b hb => Nat.ne_of_lt (lt (.inr (.inr (.inr (.inr (.inl hb))))))⟩
    · exact kw.ob p hp
  · rcases hj with e | e | e | e | e | ⟨p, hp, e⟩
    · exact .inl (.inl e)
    · exact .inl (.inr (.inl e))
    · exact .inl (.inr (.inr (.inl e)))
    · exact .inl (.inr (.inr (.inr (.inl e))))
    · exact .inl (.inr (.inr (.inr (.inr (.inl e)))))
    · rcases List.mem_cons.1 hp with rfl | hp
      · exact .inr (by rw [← e]; exact hB)
      · exact .inl (.inr (.inr (.inr (.inr (.inr ⟨p, hp, e⟩)))))
theorem Bo.pops (h : Bo E S0 w0 W σ n X k) (hs : ∀ p ∈ r, p ∈ X.bx) : Bo E S0 w0 W σ n { X with bx := r } k := by
  have kw := h.kw
  refine h.work (Ch.refl Nil W) (fun _ e => e.elim) ⟨kw.kc, kw.ac, kw.pc, kw.qc, kw.tc, fun p hp => kw.bc p (hs p hp), kw.o1, kw.o2, kw.oq, kw.ot, fun p hp => kw.ob p (hs p hp)⟩ (fun j hj => .inl ?_)
  rcases hj with e | e | e | e | e | ⟨p, hp, e⟩
  · exact .inl e
  · exact .inr (.inl e)
  · exact .inr (.inr (.inl e))
  · exact .inr (.inr (.inr (.inl e)))
  · exact .inr (.inr (.inr (.inr (.inl e))))
  · exact .inr (.inr (.inr (.inr (.inr ⟨p, hs p hp, e⟩))))
/-- a cell of a box is set -/
theorem Bo.setbx (h : Bo E S0 w0 W σ n X k) (hx : X.bx = (B, vs) :: r) (hr : ∀ p ∈ r, p.1 ≠ B) (i : Nat) (v : Value) : Bo E S0 w0 (W.setCell ⟨B, i, none⟩ v) σ n { X with bx := (B, vs.set i v) :: r } k := by
  have kw := h.kw
  have hm : (B, vs) ∈ X.bx := by rw [hx]; exact List.mem_cons_self
  have ho := kw.ob _ hm
  have c : Ch (One B) W (W.setCell ⟨B, i, none⟩ v) := (Ch.refl _ _).setB _ _
  have o1 := kw.o1
  have o2 := kw.o2
  have hb : own X B := .inr (.inr (.inr (.inr (.inr ⟨_, hm, rfl⟩))))
  have hne : ∀ {j}, j ≠ B → ¬ One B j := fun {j} l e => by have e' : j = B := e; omega
  have hob : X.pb < B := ho.1
  refine h.work c (fun j e => .inr (by rw [show j = B from e]; exact hb)) ⟨kw.kc.kept c (hne (by omega)), kw.ac.kept c (hne (by omega)), kw.pc.kept c (hne (by omega)), fun b hb => (kw.qc b hb).kept c (hne (ho.2.1 b hb)), fun b hb => (kw.tc b hb).kept c (hne (ho.2.2 b hb)), ?_, kw.o1, kw.o2, kw.oq, kw.ot, ?_⟩ (fun j hj => ?_)
  · intro p hp
    rcases List.mem_cons.1 hp with rfl | hp
    · exact (kw.bc _ hm).setAt i v
    · exact (kw.bc p (by rw [hx]; exact List.mem_cons_of_mem _ hp)).kept c (fun e => hr p hp e)
  · intro p hp
    rcases List.mem_cons.1 hp with rfl | hp
    · exact ho
    · exact kw.ob p (by rw [hx]; exact List.mem_cons_of_mem _ hp)
  · left
    rcases hj with e | e | e | e | e | ⟨p, hp, e⟩
    · exact .inl e
    · exact .inr (.inl e)
    · exact .inr (.inr (.inl e))
    · exact .inr (.inr (.inr (.inl e)))
    · exact .inr (.inr (.inr (.inr (.inl e))))
    · rcases List.mem_cons.1 hp with rfl | hp
      · rw [← e]; exact hb
      · exact .inr (.inr (.inr (.inr (.inr ⟨p, by rw [hx]; exact List.mem_cons_of_mem _ hp, e⟩))))
theorem Bo.b (h : Bo E S0 w0 W σ n X k) (hm : (B, vs) ∈ X.bx) (i : Nat) (v : Value) (hv : vs[i]? = some v) : W.cell? ⟨B, i, none⟩ = some v := (h.kw.bc _ hm).c i v hv
end
end Go.Proofs.YtnbdafmjcmmfpaaGreat

/-
  What a work asks of its floor, step by step: Note, Enter, Leave, Closed, Slab, Home; a record's word, period, a try, a drop; requests, tickets.
-/
namespace Go.Proofs.YtnbdafmjcmmfpaaGreat
open Go.RowKit Verge
attribute [local go_sem] Oper.semAt_some
set_option linter.unusedVariables false
set_option linter.unusedSimpArgs false
section
variable {E : Ee} {S S0 : Nat → Prop} {w0 W W' : World} {σ σ' : Wd} {n n' : Nat} {X X' : Mx} {k k' : Wk}
theorem Bo.note (h : Bo E S0 w0 W σ n X k) (hn : n ≤ 90000) (u : Ev) :
    Calls Tryz.prog 65 #[ptr E.F.f, .agg #[.int .i64 u.k, .int .i64 u.t, .int .i64 u.c, .int .i64 u.h, .int .u64 u.i, .int .u64 u.g, .int .u64 u.d, .int .u64 u.p, .int .u64 u.q, .int .i64 u.e]] W fun e W' => e = .returned (.tuple #[]) ∧ Bo E S0 w0 W' σ (n + 1) X k := by
  obtain ⟨L, a, tc, h1, h2, h3, h4⟩ := h.hd
  refine (note_fl h1.f (by show L.length ≤ 100000; omega) u).mono ?_
  rintro e w' ⟨a', tc', rfl, f', c, ha⟩
  exact ⟨rfl, h.flr h1 h3 h4 f' c ha (by simp; omega) (by have := h.bd.i; omega) (by omega)⟩
theorem Bo.enter (h : Bo E S0 w0 W σ n X k) (hn : n ≤ 90000) :
    Calls Tryz.prog 82 #[ptr E.F.f] W fun e W' => e = .returned (.tuple #[]) ∧ Bo E S0 w0 W' { σ with i := σ.i + 1 } (n + 1) X k := by
  obtain ⟨L, a, tc, h1, h2, h3, h4⟩ := h.hd
  have hi := h.bd.i
  refine (enter_of h1.f.fl (v := σ.i) (by omega) h1.f.pi).mono ?_
  rintro e w' ⟨rfl, j, c⟩
  obtain ⟨f', c'⟩ := h1.f.up_i c j
  exact ⟨rfl, h.flr h1 h3 h4 f' c' (fun _ e => .inl e) (show L.length ≤ n + 1 from Nat.le_succ_of_le h2) (by omega) (by omega)⟩
theorem Bo.leave (h : Bo E S0 w0 W σ n X k) (hn : n ≤ 90000) :
    Calls Tryz.prog 100 #[ptr E.F.f] W fun e W' => ∃ r, e = .returned (.int .i64 r) ∧ Bo E S0 w0 W' { σ with i := σ.i - 1 } n X k := by
  obtain ⟨L, a, tc, h1, h2, h3, h4⟩ := h.hd
  have hi := h.bd.i
  by_cases h0 : 0 < σ.i
  · refine (leave_yes h1.f.fl (v := σ.i) (by omega) (Lib.hid h0) h1.f.pi).mono ?_
    rintro e w' ⟨rfl, j, c⟩
    obtain ⟨f', c'⟩ := h1.f.up_i c j
    exact ⟨_, rfl, h.flr h1 h3 h4 f' c' (fun _ e => .inl e) h2 (by omega) (Nat.le_refl _)⟩
  · refine (leave_no h1.f.fl (v := σ.i) (by omega) (Lib.hid (by omega)) h1.f.pi).mono ?_
    rintro e w' ⟨rfl, j, c⟩
    obtain ⟨f', c'⟩ := h1.f.up_i c j
    refine ⟨_, rfl, ?_⟩
    rw [show σ.i - 1 = σ.i by omega]
    exact h.flr h1 h3 h4 f' c' (fun _ e => .inl e) h2 hi (Nat.le_refl _)
theorem Bo.closed (h : Bo E S0 w0 W σ n X k) (b : Bool) (hb : Hid (σ.cl = b)) :
    Calls Tryz.prog 84 #[ptr E.F.f] W fun e W' => e = .returned (.bool b) ∧ Bo E S0 w0 W' σ n X k := by
  obtain ⟨L, a, tc, h1, h2, h3, h4⟩ := h.hd
  rw [← hb.out]
  refine (closed_of h1.f.fl h1.f.pc).mono ?_
  rintro e w' ⟨rfl, j, c⟩
  obtain ⟨f', c'⟩ := h1.f.up_c c j
  exact ⟨rfl, h.flr h1 h3 h4 f' c' (fun _ e => .inl e) h2 h.bd.i (Nat.le_refl _)⟩
theorem Bo.slabOf (h : Bo E S0 w0 W σ n X k) :
    Calls Tryz.prog 15 #[ptr E.F.f] W fun e W' => e = .returned (ptr E.F.sb) ∧ Bo E S0 w0 W' σ n X k := by
  obtain ⟨a, l, tc, h1⟩ := h.isF
  refine (slab_of h1).mono ?_
  rintro e w' ⟨rfl, c⟩
  exact ⟨rfl, h.quiet c⟩
theorem Bo.home (h : Bo E S0 w0 W σ n X k) (q : Nat) :
    Calls Tryz.prog 102 #[ptr E.F.f, .int .i64 (q : Nat)] W fun e W' => e = .returned (ptr (E.F.sh (q % E.N.m))) ∧ Bo E S0 w0 W' σ n X k := by
  obtain ⟨L, a, tc, h1, h2, h3, h4⟩ := h.hd
  have m0 := h.ly.m0
  have m1 := h.ly.m1
  have hm := h.ly.n
  refine (home_of h1.f.fl h1.r h.ly.cs (by omega) (by omega) (q : Nat)).mono ?_
  rintro e w' ⟨rfl, c⟩
  refine ⟨?_, h.quiet c⟩
  unfold homeP
  rw [if_pos (by omega), hm]
  rfl
/-- a part's turn leaves the work -/
theorem Bo.kwp (h : Bo E S0 w0 W σ n X k) (c : Ch S W W') (hS : ∀ j, S j → Prt E j) : Kw E W' X k := h.kw.kept c (fun j hj e => h.np hj (hS j e))
theorem Bo.word (h : Bo E S0 w0 W σ n X k) (s : Nat) (hs : s < E.N.n) :
    Calls Tryz.prog 22 #[ptr E.F.sb, .int .i64 (s : Nat)] W fun e W' => e = .returned (.tuple #[.int .u64 ((σ.R s).wd : Nat), .int .i64 0]) ∧ Bo E S0 w0 W' σ n X k := by
  refine (word_in s h.slab hs).mono ?_
  rintro e w' ⟨rfl, s', c⟩
  exact ⟨rfl, h.slabbed c (fun j e => .inr (.inr (.inr e))) s' h.bd (Nat.le_refl _) (h.kwp c fun j e => .inr (.inl e)) (fun _ e => .inl e)⟩
theorem Bo.period (h : Bo E S0 w0 W σ n X k) (s : Nat) (hs : s < E.N.n) :
    Calls Tryz.prog 107 #[ptr E.F.sb, .int .i64 (s : Nat)] W fun e W' => e = .returned (.int .u64 ((σ.R s).pd : Nat)) ∧ W = W' := period_in s h.slab hs
theorem Bo.drop (h : Bo E S0 w0 W σ n X k) (hn : n ≤ 90000) :
    Calls Tryz.prog 146 #[ptr E.F.sb] W fun e W' => ∃ r, e = .returned (.int .i64 r) ∧ Bo E S0 w0 W' { σ with cnt := σ.cnt - 1 } n X k := by
  have hc := h.bd.c
  refine (drop_of h.slab (by omega)).mono ?_
  rintro e w' ⟨rfl, s', c⟩
  exact ⟨_, rfl, h.slabbed (R' := σ.R) c (fun j e => .inr (.inr (.inl e))) s' ⟨h.bd.i, by show σ.cnt - 1 ≤ n; omega, h.bd.x, h.bd.g, h.bd.w⟩ (Nat.le_refl _) (h.kwp c fun j e => .inl e) (fun _ e => .inl e)⟩
theorem okW_lt64 {v : Nat} (h : okW v = true) : v < 18446744073709551616 := by have := okW_lt v h; omega
theorem nxZ_ok {v : Nat} {ev : Int} {per : Bool} (h : okW v = true) : okW (nxZ v ev per).1 = true := by
  unfold nxZ
  split
  · exact nx_okW _ _ _ h
  · exact nx_okW _ _ _ h
theorem Bd.tried (h : Bd E n σ) (s : Nat) (v : Nat) (hv : okW v = true) : Bd E n { σ with R := upR σ.R s ⟨v, (σ.R s).gv, (σ.R s).pd⟩ } := by
  refine ⟨h.i, h.c, h.x, fun j hj => ?_, fun j hj => ?_⟩
  · show (upR σ.R s _ j).gv ≤ n
    by_cases e : j = s
    · subst e; rw [upR_same]; exact h.g j hj
    · rw [upR_other _ _ e]; exact h.g j hj
  · show okW (upR σ.R s _ j).wd = true
    by_cases e : j = s
    · subst e; rw [upR_same]; exact hv
    · rw [upR_other _ _ e]; exact h.w j hj
/-- a try of the word that a record has -/
theorem Bo.hap (h : Bo E S0 w0 W σ n X k) (s : Nat) (hs : s < E.N.n) (v : Nat) (hv : Hid (v = (σ.R s).wd)) (ev : Int) :
    Calls Tryz.prog 129 #[ptr E.F.sb, .int .i64 (s : Nat), .int .u64 (v : Nat), .int .i64 ev] W fun e W' => ∃ r : Nat, e = .returned (.tuple #[.int .u64 (hapW σ.R s ev : Nat), .int .i64 r]) ∧ Bo E S0 w0 W' { σ with R := hapR σ.R s ev } n X k := by
  have hk := h.bd.w s hs
  have ev' := hv.out
  have hl := okW_lt64 hk
  by_cases hx : (nxZ (σ.R s).wd ev ((σ.R s).pd != 0)).2 = 0
  · refine (try_go s v ev h.slab hs (by omega) (by rw [ev']; exact hx) ev'.symm).mono ?_
    rw [ev']
    rintro e w' ⟨rfl, s', c⟩
    unfold hapW hapR
    rw [if_pos hx, if_pos hx]
    exact ⟨_, rfl, h.slabbed (cnt' := σ.cnt) c (fun j e => .inr (.inr (.inr e))) s' (h.bd.tried s _ (nxZ_ok hk)) (Nat.le_refl _) (h.kwp c fun j e => .inr (.inl e)) (fun _ e => .inl e)⟩
  · refine (try_err s v ev h.slab hs (by omega) (by rw [ev']; exact hx)).mono ?_
    rw [ev']
    rintro e w' ⟨rfl, s', c⟩
    unfold hapW hapR
    rw [if_neg hx, if_neg hx]
    exact ⟨_, rfl, h.slabbed (cnt' := σ.cnt) (R' := σ.R) c (fun j e => .inr (.inr (.inr e))) s' h.bd (Nat.le_refl _) (h.kwp c fun j e => .inr (.inl e)) (fun _ e => .inl e)⟩
/-- a try of a word that was seen: it succeeds -/
theorem Bo.tryYes (h : Bo E S0 w0 W σ n X k) (s : Nat) (hs : s < E.N.n) (v : Nat) (ev : Int) (ht : tryW σ.R s v ev = true) :
    Calls Tryz.prog 129 #[ptr E.F.sb, .int .i64 (s : Nat), .int .u64 (v : Nat), .int .i64 ev] W fun e W' => e = .returned (.tuple #[.int .u64 (hapW σ.R s ev : Nat), .int .i64 0]) ∧ Bo E S0 w0 W' { σ with R := hapR σ.R s ev } n X k := by
  have hk := h.bd.w s hs
  have hl := okW_lt64 hk
  unfold tryW at ht
  rw [decide_eq_true_eq] at ht
  obtain ⟨h1, h2⟩ := ht
  subst h2
  refine (try_go s _ ev h.slab hs hl h1 rfl).mono ?_
  rintro e w' ⟨rfl, s', c⟩
  unfold hapW hapR
  rw [if_pos h1, if_pos h1]
  exact ⟨rfl, h.slabbed (cnt' := σ.cnt) c (fun j e => .inr (.inr (.inr e))) s' (h.bd.tried s _ (nxZ_ok hk)) (Nat.le_refl _) (h.kwp c fun j e => .inr (.inl e)) (fun _ e => .inl e)⟩
/-- it fails -/
theorem Bo.tryNo (h : Bo E S0 w0 W σ n X k) (s : Nat) (hs : s < E.N.n) (v : Nat) (hv : v < 18446744073709551616) (ev : Int) (ht : tryW σ.R s v ev = false) :
    Calls Tryz.prog 129 #[ptr E.F.sb, .int .i64 (s : Nat), .int .u64 (v : Nat), .int .i64 ev] W fun e W' => ∃ x r : Nat, r ≠ 0 ∧ e = .returned (.tuple #[.int .u64 (x : Nat), .int .i64 (r : Nat)]) ∧ Bo E S0 w0 W' σ n X k := by
  unfold tryW at ht
  rw [decide_eq_false_iff_not] at ht
  by_cases hx : (nxZ v ev ((σ.R s).pd != 0)).2 = 0
  · refine (try_busy s v ev h.slab hs hv hx (fun e => ht ⟨hx, e⟩)).mono ?_
    rintro e w' ⟨rfl, s', c⟩
    exact ⟨_, 10, by omega, rfl, h.slabbed (cnt' := σ.cnt) (R' := σ.R) c (fun j e => .inr (.inr (.inr e))) s' h.bd (Nat.le_refl _) (h.kwp c fun j e => .inr (.inl e)) (fun _ e => .inl e)⟩
  · refine (try_err s v ev h.slab hs hv hx).mono ?_
    rintro e w' ⟨rfl, s', c⟩
    exact ⟨_, _, hx, rfl, h.slabbed (cnt' := σ.cnt) (R' := σ.R) c (fun j e => .inr (.inr (.inr e))) s' h.bd (Nat.le_refl _) (h.kwp c fun j e => .inr (.inl e)) (fun _ e => .inl e)⟩
theorem Bo.slotYes (h : Bo E S0 w0 W σ n X k) (id : Nat) (hid : id < 18446744073709551616) (hg : wasW E.N σ.R id = true) :
    Calls Tryz.prog 105 #[ptr E.F.sb, .int .u64 (id : Nat)] W fun e W' => e = .returned (.tuple #[.int .i64 (id % 64 : Nat), .int .i64 0]) ∧ W = W' :=
  slot_yes id hid h.slab (by unfold wasW at hg; rw [decide_eq_true_eq] at hg; exact hg)
theorem Bo.slotNo (h : Bo E S0 w0 W σ n X k) (id : Nat) (hid : id < 18446744073709551616) (hg : wasW E.N σ.R id = false) :
    Calls Tryz.prog 105 #[ptr E.F.sb, .int .u64 (id : Nat)] W fun e W' => e = .returned (.tuple #[.int .i64 0, .int .i64 1]) ∧ W = W' :=
  slot_no id hid h.slab (by unfold wasW at hg; rw [decide_eq_false_iff_not] at hg; exact hg)
/-- a request begins, in a new block, not yet the work's -/
theorem Bo.qbegin (h : Bo E S0 w0 W σ n X k) (pd : Nat) :
    Calls Tryz.prog 97 #[ptr E.F.sb, .int .u64 (pd : Nat)] W fun e W' => ∃ q, e = .returned (ptr q) ∧ W.heap.size ≤ q ∧ IsQ W' q E.F.sb ⟨pd, 0, 0, 0, 0, 0⟩ ∧ Bo E S0 w0 W' σ n X k ∧ Ch Nil W W' := by
  refine (begin_of pd h.slab).mono ?_
  rintro e w' ⟨q, rfl, hq, h1, h2, c, -⟩
  exact ⟨q, rfl, by omega, h1, h.quiet c, c⟩
theorem Bo.qstep (h : Bo E S0 w0 W σ n X k) {q : Nat} (hq : X.q = some q) (h1 : k.q.st ≤ 2) (h2 : k.q.seen ≤ 64) (h3 : k.q.slot < E.N.n) (hn : n ≤ 90000) :
    Calls Tryz.prog 112 #[ptr q] W fun e W' => e = .returned (.int .i64 ((stepM E.N.n σ.cnt σ.R k.q).2.2.ss : Nat)) ∧ Bo E S0 w0 W' { σ with cnt := (stepM E.N.n σ.cnt σ.R k.q).1, R := (stepM E.N.n σ.cnt σ.R k.q).2.1 } (n + 1) X { k with q := (stepM E.N.n σ.cnt σ.R k.q).2.2 } := by
  have oq : own X q := .inr (.inr (.inr (.inl hq)))
  have q1 : q ≠ E.F.sb := fun e => h.np oq (.inl e)
  have q2 : q ≠ E.F.srb := fun e => h.np oq (.inr (.inl e))
  have sq : SQ W q E.F.sb E.F.srb E.N.n σ.cnt σ.R k.q := ⟨h.slab, h.kw.qc q hq, q1, q2⟩
  refine (step_any sq h1 h2 h3 (fun j hj => okW_lt64 (h.bd.w j hj)) (fun j hj => by have := h.bd.g j hj; omega)).mono ?_
  rintro e w' ⟨rfl, s', c⟩
  have hne : ∀ j, own X j → j ≠ q → ¬ Tri q E.F.sb E.F.srb j := fun j hj hj' e => by
    rcases e with e | e | e
    · exact hj' e
    · exact h.np hj (.inl e)
    · exact h.np hj (.inr (.inl e))
  have o1 := h.kw.o1
  have o2 := h.kw.o2
  have oqq := h.kw.oq q hq
  have kw := h.kw
  have b := h.bd
  refine ⟨rfl, h.slabbed c (fun j e => ?_) s'.s ⟨Nat.le_succ_of_le b.i, ?_, fun i hi => Nat.le_succ_of_le (b.x i hi), ?_, ?_⟩ (Nat.le_succ n) ⟨?_, ?_, ?_, ?_, ?_, ?_, kw.o1, kw.o2, kw.oq, kw.ot, kw.ob⟩ (fun _ e => .inl e)⟩
  · rcases e with e | e | e
    · exact .inr (.inl (e ▸ oq))
    · exact .inr (.inr (.inl e))
    · exact .inr (.inr (.inr e))
  · show (stepM E.N.n σ.cnt σ.R k.q).1 ≤ n + 1
    have := b.c
    unfold stepM
    repeat' split
    all_goals (dsimp only; omega)
  · intro j hj
    show ((stepM E.N.n σ.cnt σ.R k.q).2.1 j).gv ≤ n + 1
    have := b.g j hj
    unfold stepM
    repeat' split
    all_goals try (dsimp only; omega)
    dsimp only
    by_cases e : j = k.q.slot
    · subst e; rw [upR_same]; dsimp only; omega
    · rw [upR_other _ _ e]; omega
  · intro j hj
    show okW ((stepM E.N.n σ.cnt σ.R k.q).2.1 j).wd = true
    have := b.w j hj
    unfold stepM
    repeat' split
    all_goals try exact this
    dsimp only
    by_cases e : j = k.q.slot
    · subst e; rw [upR_same]; exact nx_okW _ _ _ this
    · rw [upR_other _ _ e]; exact this
  · exact kw.kc.kept c (hne _ (.inl rfl) (by omega))
  · exact kw.ac.kept c (hne _ (.inr (.inl rfl)) (by omega))
  · exact kw.pc.kept c (hne _ (.inr (.inr (.inl rfl))) (by omega))
  · intro b hb
    obtain rfl : q = b := Option.some.inj (hq.symm.trans hb)
    exact s'.rq
  · intro b hb
    have := (kw.ot b hb).2 q hq
    exact (kw.tc b hb).kept c (hne _ (.inr (.inr (.inr (.inr (.inl hb))))) (by omega))
  · intro p hp
    have := (kw.ob p hp).2.1 q hq
    exact (kw.bc p hp).kept c (hne _ (.inr (.inr (.inr (.inr (.inr ⟨p, hp, rfl⟩))))) (by omega))
theorem Bo.qid (h : Bo E S0 w0 W σ n X k) {q : Nat} (hq : X.q = some q) (hs : k.q.ss = 2) :
    Calls Tryz.prog 136 #[ptr q] W fun e W' => e = .returned (.tuple #[.int .u64 (k.q.id : Nat), .int .i64 0]) ∧ W = W' := by
  have := id_of (h.kw.qc q hq)
  rw [hs] at this
  exact this
/-- a ticket begins, in a new block, not yet the work's -/
theorem Bo.tbegin (h : Bo E S0 w0 W σ n X k) {i : Nat} (hi : i < E.N.m) :
    Calls Tryz.prog 103 #[ptr (E.F.sh i)] W fun e W' => ∃ t, e = .returned (ptr t) ∧ W.heap.size ≤ t ∧ RT.IsT W' t (E.rg i) 0 0 0 false ∧ Bo E S0 w0 W' σ n X k ∧ Ch Nil W W' := by
  obtain ⟨L, a, tc, h1, h2, h3, h4⟩ := h.hd
  obtain ⟨l, v, s⟩ := h1.sd i hi
  refine (sBegin_of s (h.ring hi)).mono ?_
  rintro e w' ⟨t, rfl, ht, -, -, k1, -, c⟩
  exact ⟨t, rfl, ht, k1, h.quiet c, c⟩
/-- what is asked of a ticket's turn -/
theorem Bo.ticked (h : Bo E S0 w0 W σ n X k) {t : Nat} (ht : X.t = some t) {x : Rg} {t' : TSt} (c : Ch (RT.Tri t (E.rg (k.h E.N)) (E.rs (k.h E.N))) W W') (r' : RT.IsRing W' (E.rg (k.h E.N)) (E.rs (k.h E.N)) E.N.r x.nx x.fi x.P x.V)
    (k1 : RT.IsT W' t (E.rg (k.h E.N)) t'.st t'.su t'.pos t'.fl) (hx : x.nx ≤ n') (hn : n ≤ n') : Bo E S0 w0 W' { σ with g := upG σ.g (k.h E.N) x } n' X { k with t := t' } := by
  have hi : k.h E.N < E.N.m := Nat.mod_lt _ h.ly.m0
  have oq : own X t := .inr (.inr (.inr (.inr (.inl ht))))
  have hne : ∀ j, own X j → j ≠ t → ¬ RT.Tri t (E.rg (k.h E.N)) (E.rs (k.h E.N)) j := fun j hj hj' e => by
    rcases e with e | e | e
    · exact hj' e
    · exact h.np hj (.inr (.inr ⟨_, hi, .inl e⟩))
    · exact h.np hj (.inr (.inr ⟨_, hi, .inr e⟩))
  have o1 := h.kw.o1
  have o2 := h.kw.o2
  have ott := h.kw.ot t ht
  have kw := h.kw
  refine h.ringed hi c (fun j e => ?_) r' hx hn ⟨?_, ?_, ?_, ?_, ?_, ?_, kw.o1, kw.o2, kw.oq, kw.ot, kw.ob⟩ (fun _ e => .inl e)
  · rcases e with e | e | e
    · exact .inr (.inl (e ▸ oq))
    · exact .inr (.inr (.inl e))
    · exact .inr (.inr (.inr e))
  · exact kw.kc.kept c (hne _ (.inl rfl) (by omega))
  · exact kw.ac.kept c (hne _ (.inr (.inl rfl)) (by omega))
  · exact kw.pc.kept c (hne _ (.inr (.inr (.inl rfl))) (by omega))
  · intro b hb
    have := ott.2 b hb
    exact (kw.qc b hb).kept c (hne _ (.inr (.inr (.inr (.inl hb)))) (by omega))
  · intro b hb
    obtain rfl : t = b := Option.some.inj (ht.symm.trans hb)
    exact k1
  · intro p hp
    have := (kw.ob p hp).2.2 t ht
    exact (kw.bc p hp).kept c (hne _ (.inr (.inr (.inr (.inr (.inr ⟨p, hp, rfl⟩))))) (by omega))
theorem tick_nx (n nx fi : Nat) (P : Nat → Bool) (t : TSt) : (tickStep n nx fi P t).1 ≤ nx + 1 := by
  unfold tickStep
  repeat' split
  all_goals (dsimp only; omega)
theorem Bo.tstep (h : Bo E S0 w0 W σ n X k) {t : Nat} (ht : X.t = some t) (hp : k.t.pos ≤ 90000) (hst : k.t.st = 0 ∨ k.t.st = 1 ∨ k.t.st = 2) :
    Calls Tryz.prog 118 #[ptr t] W fun e W' => e = .returned (.int .i64 (tickW E.N σ (k.h E.N) k.t).2.su) ∧ Bo E S0 w0 W' (setNx σ (k.h E.N) (tickW E.N σ (k.h E.N) k.t).1) (n + 1) X { k with t := (tickW E.N σ (k.h E.N) k.t).2 } := by
  have hi : k.h E.N < E.N.m := Nat.mod_lt _ h.ly.m0
  have oq : own X t := .inr (.inr (.inr (.inr (.inl ht))))
  refine (RT.step_any t _ _ _ _ _ _ _ k.t _ (h.ring hi) (h.kw.tc t ht) (fun e => h.np oq (.inr (.inr ⟨_, hi, .inl e⟩))) (fun e => h.np oq (.inr (.inr ⟨_, hi, .inr e⟩))) (by omega) hst).mono ?_
  rintro e w' ⟨rfl, r', k1, c⟩
  have hx := h.bd.x _ hi
  exact ⟨rfl, h.ticked ht (x := { σ.g (k.h E.N) with nx := (tickW E.N σ (k.h E.N) k.t).1 }) c r' k1 (Nat.le_trans (tick_nx _ _ _ _ _) (by omega)) (by omega)⟩
theorem Bo.fill (h : Bo E S0 w0 W σ n X k) {t : Nat} (ht : X.t = some t) (hs : k.t.su = 2) (hf : k.t.fl = false) (hp : k.t.pos ≤ 90000) (hw : (σ.g (k.h E.N)).fi ≤ k.t.pos ∧ k.t.pos < (σ.g (k.h E.N)).fi + E.N.r) (v : Tk) :
    Calls Tryz.prog 155 #[ptr t, tkA v] W fun e W' => e = .returned (.int .i64 0) ∧ Bo E S0 w0 W' (fillW σ (k.h E.N) k.t.pos v) n X { k with t := filled k.t } := by
  have hi : k.h E.N < E.N.m := Nat.mod_lt _ h.ly.m0
  have oq : own X t := .inr (.inr (.inr (.inr (.inl ht))))
  have ht' := h.kw.tc t ht
  rw [hs, hf] at ht'
  refine (RT.fill_ok t _ _ _ _ _ _ _ k.t.st k.t.pos v _ (h.ring hi) ht' (fun e => h.np oq (.inr (.inr ⟨_, hi, .inl e⟩))) (fun e => h.np oq (.inr (.inr ⟨_, hi, .inr e⟩))) (by omega) hw).mono ?_
  rintro e w' ⟨rfl, r', k1, c⟩
  refine ⟨rfl, h.ticked ht (x := { σ.g (k.h E.N) with P := upd (σ.g (k.h E.N)).P k.t.pos true, V := upd (σ.g (k.h E.N)).V k.t.pos v }) c r' ?_ (h.bd.x _ hi) (Nat.le_refl _)⟩
  unfold filled
  rw [show ({ k.t with fl := true } : TSt).su = 2 from hs]
  exact k1
end
end Go.Proofs.YtnbdafmjcmmfpaaGreat

/-
  A work's note: the event with its thread, its number, its kind.
-/
namespace Go.Proofs.YtnbdafmjcmmfpaaGreat
open Go.RowKit Verge
attribute [local go_sem] Oper.semAt_some
set_option linter.unusedVariables false
set_option linter.unusedSimpArgs false
section
variable {E : Ee} {S S0 : Nat → Prop} {w0 W W' : World} {σ σ' : Wd} {n n' : Nat} {X X' : Mx} {k k' : Wk}
theorem Bo.kc (h : Bo E S0 w0 W σ n X k) (i : Nat) (v : Value) (hv : (wkV E X k)[i]? = some v) : W.cell? ⟨X.kb, i, none⟩ = some v := h.kw.kc.c i v hv
theorem Bo.k0 (h : Bo E S0 w0 W σ n X k) : W.cell? ⟨X.kb, 0, none⟩ = some (ptr E.F.f) := h.kc 0 _ rfl
theorem Bo.k4 (h : Bo E S0 w0 W σ n X k) : W.cell? ⟨X.kb, 4, none⟩ = some (.int .u64 (k.id : Nat)) := h.kc 4 _ rfl
theorem Bo.k5 (h : Bo E S0 w0 W σ n X k) : W.cell? ⟨X.kb, 5, none⟩ = some (.int .u64 (k.d : Nat)) := h.kc 5 _ rfl
theorem Bo.kl (h : Bo E S0 w0 W σ n X k) : X.kb < W.heap.size := h.kw.kc.lt
def evV10 (u : Ev) : List Value := [.int .i64 u.k, .int .i64 u.t, .int .i64 u.c, .int .i64 u.h, .int .u64 u.i, .int .u64 u.g, .int .u64 u.d, .int .u64 u.p, .int .u64 u.q, .int .i64 u.e]
set_option maxHeartbeats 4000000 in
theorem Bo.knote (h : Bo E S0 w0 W σ n X k) (hn : n ≤ 90000) (u : Ev) :
    Calls Tryz.prog 41 #[ptr X.kb, .agg #[.int .i64 u.k, .int .i64 u.t, .int .i64 u.c, .int .i64 u.h, .int .u64 u.i, .int .u64 u.g, .int .u64 u.d, .int .u64 u.p, .int .u64 u.q, .int .i64 u.e]] W fun e W' => e = .returned (.tuple #[]) ∧ Bo E S0 w0 W' σ (n + 1) X k := by
  have cA : Ch Nil W (W.alloc (Obj.cells #[.int .i64 u.k, .int .i64 u.t, .int .i64 u.c, .int .i64 u.h, .int .u64 u.i, .int .u64 u.g, .int .u64 u.d, .int .u64 u.p, .int .u64 u.q, .int .i64 u.e] 70)) := (Ch.refl _ _).alloc _
  have bx : IsVs (W.alloc (Obj.cells #[.int .i64 u.k, .int .i64 u.t, .int .i64 u.c, .int .i64 u.h, .int .u64 u.i, .int .u64 u.g, .int .u64 u.d, .int .u64 u.p, .int .u64 u.q, .int .i64 u.e] 70)) W.heap.size (evV10 u) := IsVs.new W (evV10 u) 70
  have H0 := Lib.hid h
  have CA := Lib.hid cA
  have H1 := Lib.hid (h.quiet cA)
  have hkB := h.kl
  clear h cA
  go_enter Tryz.func41, Tryz.ntmps41
  go_upto_region 1 with (fail)
  generalize W.alloc (Obj.cells #[.int .i64 u.k, .int .i64 u.t, .int .i64 u.c, .int .i64 u.h, .int .u64 u.i, .int .u64 u.g, .int .u64 u.d, .int .u64 u.p, .int .u64 u.q, .int .i64 u.e] 70) = w1 at H1 CA bx ⊢
  obtain ⟨B, hB⟩ : ∃ B, B = W.heap.size := ⟨_, rfl⟩
  rw [← hB] at bx hkB ⊢
  have HB := Lib.hid hB
  clear hB
  have D1 : Ch Nil w1 w1.drew := (Ch.refl _ _).drew
  have H2 := Lib.hid (H1.out.quiet D1)
  have CD := Lib.hid (CA.out.trans D1)
  have BX := Lib.hid (bx.kept D1 (fun e => e))
  refine wp_region_held_drew (S := fun w' => w'.cell? ⟨X.kb, 1, none⟩ = some (.int .i64 X.th) ∧ w'.cell? ⟨X.kb, 2, none⟩ = some (.int .i64 X.no) ∧ w'.cell? ⟨X.kb, 3, none⟩ = some (.int .i64 (k.kd : Nat))) (by kernel_rfl) ⟨H2.out.kc 1 _ rfl, H2.out.kc 2 _ rfl, H2.out.kc 3 _ rfl⟩ (fun hHeld => ?_)
  clear bx D1 H1 CA
  generalize w1.drew = w2 at *
  have hne : ¬ X.kb = B := by omega
  refine take_at (v := ?_) 0 (some 4) rfl (by kernel_rfl) (by kernel_rfl) (by kernel_rfl) (by kernel_rfl) (fun _ _ _ h => h) (Or.inl ⟨by rfl, ?_⟩) (by assumption) ?_
  rotate_left
  · intro w hSw; (try dsimp only at hSw); go_simp; try (with_reducible rfl)
  (try simp only [Act.put, List.setIfInBounds_toArray, List.set_cons_zero, List.set_cons_succ])
  refine take_at (v := ?_) 1 (some 5) rfl (by kernel_rfl) (by kernel_rfl) (by kernel_rfl) (by kernel_rfl) (fun _ _ _ h => h) (Or.inl ⟨by rfl, ?_⟩) (by assumption) ?_
  rotate_left
  · intro w hSw; (try dsimp only at hSw); go_simp; try (with_reducible rfl)
  (try simp only [Act.put, List.setIfInBounds_toArray, List.set_cons_zero, List.set_cons_succ])
  refine take_at (v := ?_) 2 (some 6) rfl (by kernel_rfl) (by kernel_rfl) (by kernel_rfl) (by kernel_rfl) (fun _ _ _ h => h) (Or.inl ⟨by rfl, ?_⟩) (by assumption) ?_
  rotate_left
  · intro w hSw; (try dsimp only at hSw); go_simp; try (with_reducible rfl)
  (try simp only [Act.put, List.setIfInBounds_toArray, List.set_cons_zero, List.set_cons_succ])
  refine take_at (v := ?_) 3 (some 7) rfl (by kernel_rfl) (by kernel_rfl) (by kernel_rfl) (by kernel_rfl) (fun _ _ _ h => h) (Or.inl ⟨by rfl, ?_⟩) (by assumption) ?_
  rotate_left
  · intro w hSw; (try dsimp only at hSw); go_simp; try (with_reducible rfl)
  (try simp only [Act.put, List.setIfInBounds_toArray, List.set_cons_zero, List.set_cons_succ])
  refine take_at (v := ?_) 4 (some 8) rfl (by kernel_rfl) (by kernel_rfl) (by kernel_rfl) (by kernel_rfl) (fun _ _ _ h => h) (Or.inl ⟨by rfl, ?_⟩) (by assumption) ?_
  rotate_left
  · intro w hSw; (try dsimp only at hSw); go_simp; try (with_reducible rfl)
  (try simp only [Act.put, List.setIfInBounds_toArray, List.set_cons_zero, List.set_cons_succ])
  refine take_at (v := ?_) 5 (some 9) rfl (by kernel_rfl) (by kernel_rfl) (by kernel_rfl) (by kernel_rfl) (fun _ _ _ h => h) (Or.inl ⟨by rfl, ?_⟩) (by assumption) ?_
  rotate_left
  · intro w hSw; (try dsimp only at hSw); go_simp; try (with_reducible rfl)
  (try simp only [Act.put, List.setIfInBounds_toArray, List.set_cons_zero, List.set_cons_succ])
  refine take_at (v := ?_) 6 (some 10) rfl (by kernel_rfl) (by kernel_rfl) (by kernel_rfl) (by kernel_rfl) (fun _ _ _ h => h) (Or.inl ⟨by rfl, ?_⟩) (by assumption) ?_
  rotate_left
  · intro w hSw; (try dsimp only at hSw); go_simp; try (with_reducible rfl)
  (try simp only [Act.put, List.setIfInBounds_toArray, List.set_cons_zero, List.set_cons_succ])
  refine take_at (v := ?_) 7 (some 11) rfl (by kernel_rfl) (by kernel_rfl) (by kernel_rfl) (by kernel_rfl) (fun _ _ _ h => h) (Or.inl ⟨by rfl, ?_⟩) (by assumption) ?_
  rotate_left
  · intro w hSw; (try dsimp only at hSw); go_simp; try (with_reducible rfl)
  (try simp only [Act.put, List.setIfInBounds_toArray, List.set_cons_zero, List.set_cons_succ])
  refine take_at (v := ?_) 8 (some 12) rfl (by kernel_rfl) (by kernel_rfl) (by kernel_rfl) (by kernel_rfl) (fun _ _ _ h => h) (Or.inl ⟨by rfl, ?_⟩) (by assumption) ?_
  rotate_left
  · intro w hSw; (try dsimp only at hSw); go_simp; try (with_reducible rfl)
  (try simp only [Act.put, List.setIfInBounds_toArray, List.set_cons_zero, List.set_cons_succ])
  refine take_at (v := ?_) 9 (some 13) rfl (by kernel_rfl) (by kernel_rfl) (by kernel_rfl) (by kernel_rfl) (fun _ _ _ h => h) (Or.inl ⟨by rfl, ?_⟩) (by assumption) ?_
  rotate_left
  · intro w hSw; (try dsimp only at hSw); go_simp; try (with_reducible rfl)
  (try simp only [Act.put, List.setIfInBounds_toArray, List.set_cons_zero, List.set_cons_succ])
  refine take_at (v := ?_) 10 (some 14) rfl (by kernel_rfl) (by kernel_rfl) (by kernel_rfl) (by kernel_rfl) (fun _ _ _ h => h) (Or.inl ⟨by rfl, ?_⟩) (by assumption) ?_
  rotate_left
  · intro w hSw; (try dsimp only at hSw); go_simp; try (with_reducible rfl)
  (try simp only [Act.put, List.setIfInBounds_toArray, List.set_cons_zero, List.set_cons_succ])
  refine take_at (v := ?_) 11 (some 15) rfl (by kernel_rfl) (by kernel_rfl) (by kernel_rfl) (by kernel_rfl) (fun _ _ _ h => h) (Or.inl ⟨by rfl, ?_⟩) (by assumption) ?_
  rotate_left
  · intro w hSw; (try dsimp only at hSw); go_simp; try (with_reducible rfl)
  (try simp only [Act.put, List.setIfInBounds_toArray, List.set_cons_zero, List.set_cons_succ])
  refine take_at (v := ?_) 12 (some 16) rfl (by kernel_rfl) (by kernel_rfl) (by kernel_rfl) (by kernel_rfl) (fun _ _ _ h => h) (Or.inl ⟨by rfl, ?_⟩) (by assumption) ?_
  rotate_left
  · intro w hSw; (try dsimp only at hSw); go_simp; try (with_reducible rfl)
  (try simp only [Act.put, List.setIfInBounds_toArray, List.set_cons_zero, List.set_cons_succ])
  refine take_at (v := ?_) 13 (some 17) rfl (by kernel_rfl) (by kernel_rfl) (by kernel_rfl) (by kernel_rfl) (fun _ _ _ h => h) (Or.inl ⟨by rfl, ?_⟩) (by assumption) ?_
  rotate_left
  · intro w hSw; (try dsimp only at hSw); go_simp; try (with_reducible rfl)
  (try simp only [Act.put, List.setIfInBounds_toArray, List.set_cons_zero, List.set_cons_succ])
  have f1 := BX.out.b.fz 1
  have g1 := BX.out.c 1 _ rfl
  refine wpAnyH_ready (rs := [14]) (by kernel_rfl) (by simp) ?_
  refine AllReadyH.cons rfl (fun K hK => ?_) AllReadyH.nil
  go_simp
  have c1 : Ch (One B) w2 (w2.setCell ⟨B, 1, none⟩ (.int .i64 X.th)) := (Ch.refl _ _).setB _ _
  have B1 := Lib.hid (BX.out.setAt 1 (.int .i64 X.th))
  have s1 := (And.intro (c1.keeps hHeld.1 hne) (And.intro (c1.keeps hHeld.2.1 hne) (c1.keeps hHeld.2.2 hne)))
  have C1 := Lib.hid c1
  clear c1 f1 g1 hHeld
  generalize w2.setCell ⟨B, 1, none⟩ (.int .i64 X.th) = w3 at *
  refine hK.out _ _ s1 (fun hHeld => ?_)
  clear hK K s1
  (try simp only [Act.put, List.setIfInBounds_toArray, List.set_cons_zero, List.set_cons_succ])
  refine take_at (v := ?_) 15 (some 18) rfl (by kernel_rfl) (by kernel_rfl) (by kernel_rfl) (by kernel_rfl) (fun _ _ _ h => h) (Or.inl ⟨by rfl, ?_⟩) (by assumption) ?_
  rotate_left
  · intro w hSw; (try dsimp only at hSw); go_simp; try (with_reducible rfl)
  (try simp only [Act.put, List.setIfInBounds_toArray, List.set_cons_zero, List.set_cons_succ])
  have f1 := B1.out.b.fz 2
  have g1 := B1.out.c 2 _ rfl
  refine wpAnyH_ready (rs := [16]) (by kernel_rfl) (by simp) ?_
  refine AllReadyH.cons rfl (fun K hK => ?_) AllReadyH.nil
  go_simp
  have c1 : Ch (One B) w3 (w3.setCell ⟨B, 2, none⟩ (.int .i64 X.no)) := (Ch.refl _ _).setB _ _
  have B2 := Lib.hid (B1.out.setAt 2 (.int .i64 X.no))
  have s1 := (And.intro (c1.keeps hHeld.1 hne) (And.intro (c1.keeps hHeld.2.1 hne) (c1.keeps hHeld.2.2 hne)))
  have C2 := Lib.hid (C1.out.trans c1)
  clear c1 f1 g1 hHeld
  generalize w3.setCell ⟨B, 2, none⟩ (.int .i64 X.no) = w4 at *
  refine hK.out _ _ s1 (fun hHeld => ?_)
  clear hK K s1
  (try simp only [Act.put, List.setIfInBounds_toArray, List.set_cons_zero, List.set_cons_succ])
  refine take_at (v := ?_) 17 (some 19) rfl (by kernel_rfl) (by kernel_rfl) (by kernel_rfl) (by kernel_rfl) (fun _ _ _ h => h) (Or.inl ⟨by rfl, ?_⟩) (by assumption) ?_
  rotate_left
  · intro w hSw; (try dsimp only at hSw); go_simp; try (with_reducible rfl)
  (try simp only [Act.put, List.setIfInBounds_toArray, List.set_cons_zero, List.set_cons_succ])
  have f1 := B2.out.b.fz 3
  have g1 := B2.out.c 3 _ rfl
  refine wpAnyH_ready (rs := [18]) (by kernel_rfl) (by simp) ?_
  refine AllReadyH.cons rfl (fun K hK => ?_) AllReadyH.nil
  go_simp
  have c1 : Ch (One B) w4 (w4.setCell ⟨B, 3, none⟩ (.int .i64 (k.kd : Nat))) := (Ch.refl _ _).setB _ _
  have B3 := Lib.hid (B2.out.setAt 3 (.int .i64 (k.kd : Nat)))
  have s1 := (And.intro (c1.keeps hHeld.1 hne) (And.intro (c1.keeps hHeld.2.1 hne) (c1.keeps hHeld.2.2 hne)))
  have C3 := Lib.hid (C2.out.trans c1)
  clear c1 f1 g1 hHeld
  generalize w4.setCell ⟨B, 3, none⟩ (.int .i64 (k.kd : Nat)) = w5 at *
  refine hK.out _ _ s1 (fun hHeld => ?_)
  clear hK K s1 hHeld B1 B2 C1 C2 BX
  (try simp only [Act.put, List.setIfInBounds_toArray, List.set_cons_zero, List.set_cons_succ])
  refine wpAnyH_done (by kernel_rfl) ?_ _
  have CE := Lib.hid (show Ch Nil W w5 from CD.out.then C3.out (fun i hi e => by have := HB.out; have e' : i = B := e; omega))
  have H5 := Lib.hid (H0.out.push CE.out (Nat.le_of_eq HB.out.symm) B3.out)
  clear CD C3 H2
  go_upto_region 2 with (fail)
  have D1 : Ch Nil w5 w5.drew := (Ch.refl _ _).drew
  have H6 := Lib.hid (H5.out.quiet D1)
  have y := (H6.out.kw.bc _ List.mem_cons_self).cells10
  clear D1 H5 B3 H0 CE
  refine wp_region_held_drew (S := fun w' => w'.cell? ⟨X.kb, 0, none⟩ = some (ptr E.F.f) ∧ w'.cell? ⟨B, 0, none⟩ = some (.int .i64 u.k) ∧ w'.cell? ⟨B, 1, none⟩ = some (.int .i64 X.th) ∧ w'.cell? ⟨B, 2, none⟩ = some (.int .i64 X.no) ∧ w'.cell? ⟨B, 3, none⟩ = some (.int .i64 (k.kd : Nat)) ∧ w'.cell? ⟨B, 4, none⟩ = some (.int .u64 u.i) ∧ w'.cell? ⟨B, 5, none⟩ = some (.int .u64 u.g) ∧ w'.cell? ⟨B, 6, none⟩ = some (.int .u64 u.d) ∧ w'.cell? ⟨B, 7, none⟩ = some (.int .u64 u.p) ∧ w'.cell? ⟨B, 8, none⟩ = some (.int .u64 u.q) ∧ w'.cell? ⟨B, 9, none⟩ = some (.int .i64 u.e)) (by kernel_rfl) ⟨H6.out.k0, y⟩ (fun hHeld => ?_)
  clear y
  generalize w5.drew = w6 at *
  refine take_at (v := ?_) 0 (some 20) rfl (by kernel_rfl) (by kernel_rfl) (by kernel_rfl) (by kernel_rfl) (fun _ _ _ h => h) (Or.inl ⟨by rfl, ?_⟩) (by assumption) ?_
  rotate_left
  · intro w hSw; (try dsimp only at hSw); go_simp; try (with_reducible rfl)
  (try simp only [Act.put, List.setIfInBounds_toArray, List.set_cons_zero, List.set_cons_succ])
  refine take_at (v := ?_) 1 (some 21) rfl (by kernel_rfl) (by kernel_rfl) (by kernel_rfl) (by kernel_rfl) (fun _ _ _ h => h) (Or.inl ⟨by rfl, ?_⟩) (by assumption) ?_
  rotate_left
  · intro w hSw; (try dsimp only at hSw); go_simp; try (with_reducible rfl)
  (try simp only [Act.put, List.setIfInBounds_toArray, List.set_cons_zero, List.set_cons_succ])
  refine take_at (v := ?_) 2 (some 22) rfl (by kernel_rfl) (by kernel_rfl) (by kernel_rfl) (by kernel_rfl) (fun _ _ _ h => h) (Or.inl ⟨by rfl, ?_⟩) (by assumption) ?_
  rotate_left
  · intro w hSw; (try dsimp only at hSw); go_simp; try (with_reducible rfl)
  (try simp only [Act.put, List.setIfInBounds_toArray, List.set_cons_zero, List.set_cons_succ])
  refine take_at (v := ?_) 3 (some 23) rfl (by kernel_rfl) (by kernel_rfl) (by kernel_rfl) (by kernel_rfl) (fun _ _ _ h => h) (Or.inl ⟨by rfl, ?_⟩) (by assumption) ?_
  rotate_left
  · intro w hSw; (try dsimp only at hSw); go_simp; try (with_reducible rfl)
  (try simp only [Act.put, List.setIfInBounds_toArray, List.set_cons_zero, List.set_cons_succ])
  refine take_at (v := ?_) 4 (some 24) rfl (by kernel_rfl) (by kernel_rfl) (by kernel_rfl) (by kernel_rfl) (fun _ _ _ h => h) (Or.inl ⟨by rfl, ?_⟩) (by assumption) ?_
  rotate_left
  · intro w hSw; (try dsimp only at hSw); go_simp; try (with_reducible rfl)
  (try simp only [Act.put, List.setIfInBounds_toArray, List.set_cons_zero, List.set_cons_succ])
  refine wpAnyH_ready (rs := [5]) (by kernel_rfl) (by simp) ?_
  refine AllReadyH.cons rfl (fun K hK => ?_) AllReadyH.nil
  go_simp
  refine (H6.out.note hn ⟨u.k, X.th, X.no, (k.kd : Nat), u.i, u.g, u.d, u.p, u.q, u.e⟩).mono ?_
  rintro e w7 ⟨rfl, h7⟩
  have H7 := Lib.hid h7
  refine hK.out _ _ ?_ (fun hHeld => ?_)
  · exact ⟨h7.k0, (h7.kw.bc _ List.mem_cons_self).cells10⟩
  clear hK K h7 hHeld
  (try simp only [Act.put, List.setIfInBounds_toArray, List.set_cons_zero, List.set_cons_succ])
  refine wpAnyH_done (by kernel_rfl) ?_ _
  go_wp2
  go_end0
  exact ⟨rfl, H7.out.pops (fun p hp => List.mem_cons_of_mem _ hp)⟩
end
end Go.Proofs.YtnbdafmjcmmfpaaGreat

/-
  A work's stage, its answer, the box of a result.
-/
namespace Go.Proofs.YtnbdafmjcmmfpaaGreat
open Go.RowKit Verge
attribute [local go_sem] Oper.semAt_some
set_option linter.unusedVariables false
set_option linter.unusedSimpArgs false
section
variable {E : Ee} {S S0 : Nat → Prop} {w0 W W' : World} {σ σ' : Wd} {n n' : Nat} {X X' : Mx} {k k' : Wk} {B : Nat} {r : List (Nat × List Value)}
theorem Bo.sg (h : Bo E S0 w0 W σ n X k) (s : Sg) : Bo E S0 w0 W σ n X { k with sg := s } :=
  ⟨h.ly, h.hd, ⟨h.kw.kc, h.kw.ac, h.kw.pc, h.kw.qc, h.kw.tc, h.kw.bc, h.kw.o1, h.kw.o2, h.kw.oq, h.kw.ot, h.kw.ob⟩, h.bd, h.ow, h.z, h.hw, h.c⟩
/-- the answer is set -/
theorem Bo.ans (h : Bo E S0 w0 W σ n X k) (a : An) :
    Bo E S0 w0 (((((W.setCell ⟨X.kb, 7, none⟩ (.int .i64 (a.e : Nat))).setCell ⟨X.kb, 8, none⟩ (.bool a.ok)).setCell ⟨X.kb, 9, none⟩ (.int .u64 (a.id : Nat))).setCell ⟨X.kb, 10, none⟩ (.int .u64 (a.g : Nat))).setCell ⟨X.kb, 11, none⟩ (.slice none 0 0)) σ n X { k with a := a } := by
  have c : Ch (One X.kb) W (((((W.setCell ⟨X.kb, 7, none⟩ (.int .i64 (a.e : Nat))).setCell ⟨X.kb, 8, none⟩ (.bool a.ok)).setCell ⟨X.kb, 9, none⟩ (.int .u64 (a.id : Nat))).setCell ⟨X.kb, 10, none⟩ (.int .u64 (a.g : Nat))).setCell ⟨X.kb, 11, none⟩ (.slice none 0 0)) := (((((Ch.refl _ _).setB _ _).setB _ _).setB _ _).setB _ _).setB _ _
  have kw := h.kw
  have o1 := kw.o1
  have o2 := kw.o2
  have hne : ∀ {j}, X.kb < j → ¬ One X.kb j := fun {j} l e => by have e' : j = X.kb := e; omega
  have k1 := (((((kw.kc.setAt 7 (.int .i64 (a.e : Nat))).setAt 8 (.bool a.ok)).setAt 9 (.int .u64 (a.id : Nat))).setAt 10 (.int .u64 (a.g : Nat))).setAt 11 (.slice none 0 0))
  refine h.work c (fun j e => .inr (by rw [show j = X.kb from e]; exact .inl rfl)) ⟨k1, kw.ac.kept c (hne (by omega)), kw.pc.kept c (hne (by omega)), fun b hb => (kw.qc b hb).kept c (hne (by have := kw.oq b hb; omega)), fun b hb => (kw.tc b hb).kept c (hne (by have := kw.ot b hb; omega)), fun p hp => (kw.bc p hp).kept c (hne (by have := kw.ob p hp; omega)), kw.o1, kw.o2, kw.oq, kw.ot, kw.ob⟩ (fun _ e => .inl e)
/-- a new box of a stage -/
theorem Bo.box (h : Bo E S0 w0 W σ n X k) : Bo E S0 w0 (W.alloc (.cells #[.nilFunc, .nilFunc] 103)) σ n { X with bx := (W.heap.size, [.nilFunc, .nilFunc]) :: X.bx } k :=
  h.push ((Ch.refl _ _).alloc _) (Nat.le_refl _) (IsVs.new W [.nilFunc, .nilFunc] 103)
/-- the stage is in its box -/
theorem Bo.ret {x0 x1 : Value} (h : Bo E S0 w0 W σ n X k) (hx : ∀ p ∈ (B, [x0, x1]) :: r, p ∈ X.bx) (hr : ∀ p ∈ r, p.1 ≠ B) (d0 d : Value) :
    Bo E S0 w0 ((W.setCell ⟨B, 0, none⟩ d0).setCell ⟨B, 1, none⟩ d) σ n { X with bx := r } k ∧ ((W.setCell ⟨B, 0, none⟩ d0).setCell ⟨B, 1, none⟩ d).cell? ⟨B, 0, none⟩ = some d0 ∧ ((W.setCell ⟨B, 0, none⟩ d0).setCell ⟨B, 1, none⟩ d).cell? ⟨B, 1, none⟩ = some d := by
  have h1 := h.pops (r := (B, [x0, x1]) :: r) hx
  have h2 := h1.setbx rfl hr 0 d0
  have h3 := h2.setbx rfl hr 1 d
  have b := h3.kw.bc _ List.mem_cons_self
  exact ⟨h3.pops (r := r) (fun p hp => List.mem_cons_of_mem _ hp), b.c 0 _ rfl, b.c 1 _ rfl⟩
/-- what is asked of a box ahead of that -/
theorem Bo.bk (h : Bo E S0 w0 W σ n X k) {vs : List Value} (hm : (B, vs) ∈ X.bx) : Blk W B := (h.kw.bc _ hm).b
theorem Bo.kz (h : Bo E S0 w0 W σ n X k) (i : Nat) : W.frozen? ⟨X.kb, i, none⟩ = false := h.kw.kc.b.fz i
theorem Bo.blt (h : Bo E S0 w0 W σ n X k) {p : Nat × List Value} (hm : p ∈ X.bx) : p.1 < W.heap.size := (h.kw.bc p hm).b.lt
end
end Go.Proofs.YtnbdafmjcmmfpaaGreat
