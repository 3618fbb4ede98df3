/-
  FloorOwn: a floor with its parts, from world to world.
-/
import Derived.Test.YtkialefhjfoniaaGreatFlOwnA
import Derived.Test.YtkialefhjfoniaaGreatIsActs14
namespace Verge
def stLe14 (s : St) (k : Nat) : Prop := s.i ≤ k ∧ s.b ≤ k ∧ s.t ≤ k ∧ s.L.length ≤ k
end Verge
namespace Go.Proofs.YtkialefhjfoniaaGreat
open Go.RowKit Verge
set_option linter.unusedVariables false
def Mid14 (m hi : Nat) : Nat → Prop := fun k => m ≤ k ∧ k < hi
/-- a floor with those of its parts that are still asked for -/
structure OwA (m hi : Nat) (w2 : World) (F : Fb) (s : St) (a : Option Addr) (tc : Nat) (ks kq kl kd : Prop) (W : World) : Prop where
  f : Fl W F s a tc
  r : Row W 57 1 (some ⟨F.g, 0, none⟩) F.n F.gc (shV F)
  sd : kd → ∀ i, i < F.n → IsSd W (F.sh i) (F.lk i)
  s0 : ks → IsS W F.sb F.srb 8 0 zeroR
  q : kq → IsP W F.pb F.cb 4 #[]
  pl : kl → IsVs W F.lb [.slice none 0 0]
  o : Ord m F
  cs : F.c.s = F.n
  n : F.n = 2
  top : F.g < hi ∧ ∀ i, i < F.n → F.sh i < hi
  hw : hi ≤ w2.heap.size
  la : ∀ j, OwnS a j → w2.heap.size ≤ j
  c : Ch (Mid14 m hi) w2 W
section
variable {S : Nat → Prop} {m hi : Nat} {w2 W W' : World} {F : Fb} {s s' : St} {a a' : Option Addr} {tc tc' : Nat} {ks kq kl kd ks' kq' kl' kd' : Prop}
theorem OwA.ns (h : OwA m hi w2 F s a tc ks kq kl kd W) {b : Nat} (hb : b = F.lb ∨ F.f < b) (hl : b < hi) : ¬ FS F a b := by
  obtain ⟨h1, h2, h3, h4, h5⟩ := h.o.ids
  have h6 := h.o.o2
  intro e
  rcases e with e | e | e | e | e | e
  · omega
  · omega
  · omega
  · omega
  · omega
  · have := h.la b e; have := h.hw; omega
theorem OwA.ids (h : OwA m hi w2 F s a tc ks kq kl kd W) : m ≤ F.lb ∧ F.lb < F.f ∧ F.f < F.srb ∧ F.srb < F.sb ∧ F.sb < F.cb ∧ F.cb < F.pb ∧ F.pb < F.g ∧ F.g < hi := by
  obtain ⟨h1, h2, h3, h4, h5⟩ := h.o.ids
  exact ⟨h.o.o1, by have := h.o.o2; omega, h.o.o7, h.o.o8, h.o.o9, h.o.oa, h.o.og, h.top.1⟩
theorem OwA.idl (h : OwA m hi w2 F s a tc ks kq kl kd W) {i : Nat} (hi' : i < F.n) : F.pb < F.lk i ∧ F.lk i < F.sh i ∧ F.sh i < hi ∧ F.g ≠ F.sh i ∧ F.g ≠ F.lk i := by
  obtain ⟨h1, h2, h3, h4⟩ := h.o.os i hi'
  exact ⟨h1, h2, h.top.2 i hi', h3, h4⟩
theorem OwA.gs {g j : Nat} (hj : OwnS (some ⟨g, 0, none⟩) j) : j = g := by simp [OwnS] at hj; exact hj.symm
/-- a turn of the floor's own cells -/
theorem OwA.floor (h : OwA m hi w2 F s a tc ks kq kl kd W) (f' : Fl W' F s' a' tc') (c : Ch (FS F a) W W') (ha : ∀ j, OwnS a' j → OwnS a j ∨ W.heap.size ≤ j) : OwA m hi w2 F s' a' tc' ks kq kl kd W' := by
  obtain ⟨h1, h2, h3, h4, h5, h6, h7, h8⟩ := h.ids
  obtain ⟨i1, i2, i3, i4, i5⟩ := h.o.ids
  refine ⟨f', h.r.kept c (fun j hj => ?_), fun k i hi' => ?_, fun k => (h.s0 k).kept c (h.ns (by omega) (by omega)) (h.ns (by omega) (by omega)), fun k => (h.q k).kept c (h.ns (by omega) (by omega)) (h.ns (by omega) (by omega)), fun k => (h.pl k).kept c (h.ns (.inl rfl) (by omega)), h.o, h.cs, h.n, h.top, h.hw, fun j hj => ?_, h.c.then c (fun i hi' e => ?_)⟩
  · have e := OwA.gs hj
    subst e
    exact h.ns (by omega) (by omega)
  · obtain ⟨l1, l2, l3, l4, l5⟩ := h.idl hi'
    exact (h.sd k i hi').kept c (h.ns (by omega) (by omega)) (h.ns (by omega) (by omega))
  · rcases ha j hj with e | e
    · exact h.la j e
    · have := h.c.size; omega
  · show m ≤ i ∧ i < hi
    have hw := h.hw
    rcases e with e | e | e | e | e | e
    · omega
    · omega
    · omega
    · omega
    · omega
    · have := h.la i e; omega
theorem OwA.quiet (h : OwA m hi w2 F s a tc ks kq kl kd W) (c : Ch Nil W W') : OwA m hi w2 F s a tc ks kq kl kd W' := h.floor (h.f.quiet c) (c.mono fun _ _ e => e.elim) fun _ e => .inl e
/-- a turn of a part -/
theorem OwA.part (h : OwA m hi w2 F s a tc ks kq kl kd W) (c : Ch S W W') (hS : ∀ j, S j → W.heap.size ≤ j ∨ j = F.sb ∨ j = F.srb ∨ j = F.cb ∨ j = F.lb ∨ ∃ i, i < F.n ∧ j = F.lk i)
    (k1 : ks' → ks ∧ ¬ S F.sb ∧ ¬ S F.srb) (k2 : kq' → kq ∧ ¬ S F.cb) (k3 : kl' → kl ∧ ¬ S F.lb) (k4 : kd' → kd ∧ ∀ i, i < F.n → ¬ S (F.lk i)) : OwA m hi w2 F s a tc ks' kq' kl' kd' W' := by
  obtain ⟨h1, h2, h3, h4, h5, h6, h7, h8⟩ := h.ids
  have hn : ∀ j, (∀ i, i < F.n → j ≠ F.lk i) → j ≠ F.sb → j ≠ F.srb → j ≠ F.cb → j ≠ F.lb → j < W.heap.size → ¬ S j := fun j q1 q2 q3 q4 q5 q6 e => by
    rcases hS j e with e | e | e | e | e | ⟨i, hi', e⟩
    · omega
    · exact q2 e
    · exact q3 e
    · exact q4 e
    · exact q5 e
    · exact q1 i hi' e
  have hl : ∀ i, i < F.n → F.pb < F.lk i ∧ F.lk i < F.sh i ∧ F.sh i < hi ∧ F.g ≠ F.sh i ∧ F.g ≠ F.lk i := fun i hi' => h.idl hi'
  refine ⟨h.f.kept c (fun j hj e => ?_), h.r.kept c (fun j hj => ?_), fun k i hi' => ?_, fun k => (h.s0 (k1 k).1).kept c (k1 k).2.1 (k1 k).2.2, fun k => (h.q (k2 k).1).kept c (hn _ (fun i hi' => by have := hl i hi'; omega) (by omega) (by omega) (by omega) (by omega) (h.q (k2 k).1).v.lt) (k2 k).2, fun k => (h.pl (k3 k).1).kept c (k3 k).2, h.o, h.cs, h.n, h.top, h.hw, h.la, h.c.then c (fun i hi' e => ?_)⟩
  · have := h.f.lt hj
    rcases hS j e with e | e | e | e | e | ⟨i, hi', e⟩
    · omega
    · subst e; exact h.ns (by omega) (by omega) hj
    · subst e; exact h.ns (by omega) (by omega) hj
    · subst e; exact h.ns (by omega) (by omega) hj
    · subst e; exact h.ns (.inl rfl) (by omega) hj
    · have := hl i hi'; subst e; exact h.ns (by omega) (by omega) hj
  · have lt := h.r.lt j hj
    have e := OwA.gs hj
    subst e
    exact hn _ (fun i hi' => (hl i hi').2.2.2.2) (by omega) (by omega) (by omega) (by omega) lt
  · have sd := h.sd (k4 k).1 i hi'
    refine sd.kept c (hn _ (fun j hj e => ?_) ?_ ?_ ?_ ?_ sd.bk.lt) ((k4 k).2 i hi')
    · rcases Nat.lt_trichotomy i j with q | q | q
      · have := h.o.od i j q hj; omega
      · subst q; have := hl i hi'; omega
      · have := h.o.od j i q hi'; have := hl j hj; have := hl i hi'; omega
    · have := hl i hi'; omega
    · have := hl i hi'; omega
    · have := hl i hi'; omega
    · have := hl i hi'; omega
  · show m ≤ i ∧ i < hi
    have := h.c.size
    rcases hS i e with e | e | e | e | e | ⟨j, hj, e⟩
    · omega
    · omega
    · omega
    · omega
    · omega
    · have := hl j hj; omega
theorem OwA.reS (h : OwA m hi w2 F s a tc False kq kl kd W) (s' : IsS W F.sb F.srb 8 0 zeroR) : OwA m hi w2 F s a tc True kq kl kd W :=
  ⟨h.f, h.r, h.sd, fun _ => s', h.q, h.pl, h.o, h.cs, h.n, h.top, h.hw, h.la, h.c⟩
/-- a new floor is one -/
theorem OwA.new {w0 w1 : World} (h : NewF w0 w1 F 8 4) (hc : Ch Nil w1 w2) (h1 : w1.heap.size ≤ hi) (h2 : hi ≤ w2.heap.size) (hcs : F.c.s = F.n) (hn : F.n = 2) : OwA w0.heap.size hi w2 F ⟨0, 0, false, 0, []⟩ none 0 True True True True w2 := by
  have fl : Fl w1 F ⟨0, 0, false, 0, []⟩ none 0 := ⟨h.fl, h.pc, h.pi, h.pb, h.pn, Row.nil _ _ _ _, fun _ => ⟨rfl, rfl⟩, ⟨_, h.o⟩, fun k hk => by simp [OwnS] at hk⟩
  have hg := h.r.lt F.g (by simp [OwnS])
  exact ⟨fl.quiet hc, h.r.kept hc (fun _ _ e => e), fun _ i hi' => (h.sd i hi').kept hc (fun e => e) (fun e => e), fun _ => h.s.quiet hc, fun _ => h.q.kept hc (fun e => e) (fun e => e), fun _ => h.pl.kept hc (fun e => e), h.o, hcs, hn, ⟨by omega, fun i hi' => by have := (h.sd i hi').bk.lt; omega⟩, h2, fun j hj => by simp [OwnS] at hj, Ch.refl _ _⟩
/-- kept by what other floors do -/
theorem OwA.other {w3 : World} (h : OwA m hi w2 F s none tc ks kq kl kd w2) (c : Ch S w2 w3) (hS : ∀ j, S j → j < m) : OwA m hi w3 F s none tc ks kq kl kd w3 := by
  obtain ⟨h1, h2, h3, h4, h5, h6, h7, h8⟩ := h.ids
  obtain ⟨i1, i2, i3, i4, i5⟩ := h.o.ids
  have hn : ∀ j, m ≤ j → ¬ S j := fun j hj e => by have := hS j e; omega
  refine ⟨h.f.kept c (fun j hj => ?_), h.r.kept c (fun j hj => ?_), fun k i hi' => ?_, fun k => (h.s0 k).kept c (hn _ (by omega)) (hn _ (by omega)), fun k => (h.q k).kept c (hn _ (by omega)) (hn _ (by omega)), fun k => (h.pl k).kept c (hn _ (by omega)), h.o, h.cs, h.n, h.top, Nat.le_trans h.hw c.size, fun j hj => by simp [OwnS] at hj, Ch.refl _ _⟩
  · have := h.o.o2
    rcases hj with e | e | e | e | e | e
    · exact hn _ (by omega)
    · exact hn _ (by omega)
    · exact hn _ (by omega)
    · exact hn _ (by omega)
    · exact hn _ (by omega)
    · simp [OwnS] at e
  · have e := OwA.gs hj
    exact hn _ (by omega)
  · obtain ⟨l1, l2, l3, l4, l5⟩ := h.idl hi'
    exact (h.sd k i hi').kept c (hn _ (by omega)) (hn _ (by omega))
/-- the shard of a slot -/
theorem OwA.home (h : OwA m hi w2 F s a tc ks kq kl kd W) (q : Nat) :
    Calls Tryz.prog 20 #[.pointer (some ⟨F.f, 0, none⟩), .int .i64 (q : Nat)] W fun e w' => e = .returned (.pointer (some ⟨F.sh (q % 2), 0, none⟩)) ∧ Ch Nil W w' := by
  refine (home_of h.f.fl h.r h.cs (by rw [h.n]; omega) (by rw [h.n]; omega) (q : Nat)).mono ?_
  rintro e w' ⟨rfl, c⟩
  refine ⟨?_, c⟩
  unfold homeP
  rw [if_pos (by omega), h.n]
  rfl
/-- what is done to the parts of the first floor -/
theorem OwA.stepped (h : OwA m hi w2 F s a tc True True True True W) {q : Nat} (hq : q = W.heap.size) (c : Ch (Tri q F.sb F.srb) W W') : OwA m hi w2 F s a tc False True True True W' := by
  obtain ⟨h1, h2, h3, h4, h5, h6, h7, h8⟩ := h.ids
  have l1 := (h.q trivial).clt
  have l2 := (h.pl trivial).lt
  refine h.part c (fun j hj => ?_) (fun e => e.elim) (fun _ => ⟨trivial, fun e => ?_⟩) (fun _ => ⟨trivial, fun e => ?_⟩) (fun _ => ⟨trivial, fun i hi' e => ?_⟩)
  · rcases hj with e | e | e
    · exact .inl (by omega)
    · exact .inr (.inl e)
    · exact .inr (.inr (.inl e))
  · rcases e with e | e | e <;> omega
  · rcases e with e | e | e <;> omega
  · have := h.idl hi'
    have := (h.sd trivial i hi').kk.lt
    rcases e with e | e | e <;> omega
theorem OwA.put (h : OwA m hi w2 F s a tc False True True True W) (c : Ch (One F.cb) W W') : OwA m hi w2 F s a tc False False True True W' := by
  obtain ⟨h1, h2, h3, h4, h5, h6, h7, h8⟩ := h.ids
  refine h.part c (fun j hj => .inr (.inr (.inr (.inl hj)))) (fun e => e.elim) (fun e => e.elim) (fun _ => ⟨trivial, fun e => ?_⟩) (fun _ => ⟨trivial, fun i hi' e => ?_⟩)
  · have e' : F.lb = F.cb := e
    omega
  · have := h.idl hi'
    have e' : F.lk i = F.cb := e
    omega
theorem OwA.logged (h : OwA m hi w2 F s a tc False False True True W) (c : Ch (LgS F.lb none) W W') : OwA m hi w2 F s a tc False False False True W' := by
  obtain ⟨h1, h2, h3, h4, h5, h6, h7, h8⟩ := h.ids
  refine h.part c (fun j hj => ?_) (fun e => e.elim) (fun e => e.elim) (fun e => e.elim) (fun _ => ⟨trivial, fun i hi' e => ?_⟩)
  · rcases hj with e | e
    · exact .inr (.inr (.inr (.inr (.inl e))))
    · simp [OwnS] at e
  · have := h.idl hi'
    rcases e with e | e
    · omega
    · simp [OwnS] at e
theorem OwA.locked {i : Nat} (h : OwA m hi w2 F s a tc ks kq kl kd W) (hi' : i < F.n) (c : Ch (One (F.lk i)) W W') : OwA m hi w2 F s a tc ks kq kl False W' := by
  obtain ⟨h1, h2, h3, h4, h5, h6, h7, h8⟩ := h.ids
  have := h.idl hi'
  refine h.part c (fun j hj => .inr (.inr (.inr (.inr (.inr ⟨i, hi', hj⟩))))) (fun k => ⟨k, fun e => ?_, fun e => ?_⟩) (fun k => ⟨k, fun e => ?_⟩) (fun k => ⟨k, fun e => ?_⟩) (fun e => e.elim)
  · have e' : F.sb = F.lk i := e
    omega
  · have e' : F.srb = F.lk i := e
    omega
  · have e' : F.cb = F.lk i := e
    omega
  · have e' : F.lb = F.lk i := e
    omega
theorem OwA.lock {i : Nat} (h : OwA m hi w2 F s a tc ks kq kl True W) (hi' : i < 2) :
    Calls Tryz.prog 21 #[.pointer (some ⟨F.sh i, 0, none⟩)] W fun e w' => e = .returned (.pointer (some ⟨F.lk i, 0, none⟩)) ∧ OwA m hi w2 F s a tc ks kq kl True w' :=
  (sLock_of (h.sd trivial i (by rw [h.n]; exact hi'))).mono fun e w' ⟨he, c⟩ => ⟨he, h.quiet c⟩
theorem OwA.tried {i : Nat} (h : OwA m hi w2 F s a tc ks kq kl True W) (hi' : i < 2) :
    Calls Tryz.prog 22 #[.pointer (some ⟨F.lk i, 0, none⟩), .int .i64 3] W fun e w' => (∃ v, e = .returned v) ∧ OwA m hi w2 F s a tc ks kq kl False w' :=
  (try_of (k := ⟨0, false, 0⟩) 3 (h.sd trivial i (by rw [h.n]; exact hi')).kk (by simp)).mono fun e w' ⟨he, _, c⟩ => ⟨⟨_, he⟩, h.locked (by rw [h.n]; exact hi') c⟩
theorem OwA.owned {i : Nat} (h : OwA m hi w2 F s a tc ks kq kl True W) (hi' : i < 2) :
    Calls Tryz.prog 23 #[.pointer (some ⟨F.lk i, 0, none⟩)] W fun e w' => e = .returned (.tuple #[.int .i64 0, .bool false]) ∧ OwA m hi w2 F s a tc ks kq kl False w' :=
  (owner_of (k := ⟨0, false, 0⟩) (h.sd trivial i (by rw [h.n]; exact hi')).kk).mono fun e w' ⟨he, _, c⟩ => ⟨he, h.locked (by rw [h.n]; exact hi') c⟩
theorem src_one {b : Nat} (h : IsVs W b [.int .u64 1, .int .u64 0, .int .u64 0, .int .u64 0]) : Src W (some ⟨b, 0, none⟩) [⟨1, 0, 0, 0⟩] := by
  refine .inr ⟨b, 0, rfl, fun i f hf j hj => ?_⟩
  have hi' : i < 1 := (List.getElem?_eq_some_iff.1 hf).1
  obtain rfl : i = 0 := by omega
  obtain rfl : (⟨1, 0, 0, 0⟩ : Fr) = f := by simpa using hf
  have : j = 0 ∨ j = 1 ∨ j = 2 ∨ j = 3 := by omega
  rcases this with rfl | rfl | rfl | rfl
  · exact h.c 0 _ rfl
  · exact h.c 1 _ rfl
  · exact h.c 2 _ rfl
  · exact h.c 3 _ rfl
theorem OwA.log (h : OwA m hi w2 F s a tc False False True True W) : IsLog W F.lb none 0 [] :=
  ⟨(h.pl trivial).c 0 _ rfl, (h.pl trivial).b.fz 0, Row.nil _ _ _ _, by simp [OwnS]⟩
theorem OwA.logPut {b : Nat} (h : OwA m hi w2 F s a tc False False True True W) (hs : Src W (some ⟨b, 0, none⟩) [⟨1, 0, 0, 0⟩]) :
    Calls Tryz.prog 19 #[.pointer (some ⟨F.lb, 0, none⟩), .slice (some ⟨b, 0, none⟩) 1 1] W fun e w' => e = .returned (.tuple #[]) ∧ OwA m hi w2 F s a tc False False False True w' :=
  (lPut_of (L := []) (M := [⟨1, 0, 0, 0⟩]) (a := none) (cap := 0) (c := 1) h.log hs (by simp) (by simp) (by simp)).mono fun e w' ⟨_, _, he, _, c, _⟩ => ⟨he, h.logged c⟩
end
/-! what the second floor tells -/
section
variable {m hi : Nat} {w2 W W' : World} {F : Fb} {kd : Prop}
abbrev OwB (m hi : Nat) (w2 : World) (F : Fb) (kd : Prop) (W : World) : Prop := OwA m hi w2 F ⟨0, 0, false, 0, []⟩ none 0 True True True kd W
theorem rd_inside (h : OwB m hi w2 F kd W) : Calls Tryz.prog 24 #[.pointer (some ⟨F.f, 0, none⟩)] W fun e w' => e = .returned (.int .i64 0) ∧ OwB m hi w2 F kd w' :=
  (inside_of h.f.fl (v := 0) h.f.pi).mono fun e w' ⟨he, j, c⟩ => ⟨he, by have U := h.f.up_i (v := 0) c j; exact h.floor U.1 U.2 (fun _ h => .inl h)⟩
theorem rd_busy (h : OwB m hi w2 F kd W) : Calls Tryz.prog 25 #[.pointer (some ⟨F.f, 0, none⟩)] W fun e w' => e = .returned (.int .i64 0) ∧ OwB m hi w2 F kd w' :=
  (busy_of h.f.fl (v := 0) h.f.pb).mono fun e w' ⟨he, j, c⟩ => ⟨he, by have U := h.f.up_b (v := 0) c j; exact h.floor U.1 U.2 (fun _ h => .inl h)⟩
theorem rd_closed (h : OwB m hi w2 F kd W) : Calls Tryz.prog 30 #[.pointer (some ⟨F.f, 0, none⟩)] W fun e w' => e = .returned (.bool false) ∧ OwB m hi w2 F kd w' :=
  (closed_of h.f.fl (v := false) h.f.pc).mono fun e w' ⟨he, j, c⟩ => ⟨he, by have U := h.f.up_c (v := false) c j; exact h.floor U.1 U.2 (fun _ h => .inl h)⟩
theorem rd_now (h : OwB m hi w2 F kd W) : Calls Tryz.prog 31 #[.pointer (some ⟨F.f, 0, none⟩)] W fun e w' => e = .returned (.int .u64 0) ∧ OwB m hi w2 F kd w' :=
  (now_of h.f.fl (v := 0) h.f.pn).mono fun e w' ⟨he, j, c⟩ => ⟨he, by have U := h.f.up_t (v := 0) c j; exact h.floor U.1 U.2 (fun _ h => .inl h)⟩
theorem rd_trace (h : OwB m hi w2 F kd W) : Calls Tryz.prog 26 #[.pointer (some ⟨F.f, 0, none⟩)] W fun e w' => ∃ a' c', e = .returned (.slice a' 0 c') ∧ OwB m hi w2 F kd w' :=
  (trace_of (L := []) h.f.fl h.f.tr h.f.ta 0 rfl (by omega)).mono fun e w' ⟨a', c', he, _, c⟩ => ⟨a', c', he, h.quiet c⟩
theorem rd_pipe (h : OwB m hi w2 F kd W) : Calls Tryz.prog 16 #[.pointer (some ⟨F.f, 0, none⟩)] W fun e w' => e = .returned (.pointer (some ⟨F.pb, 0, none⟩)) ∧ OwB m hi w2 F kd w' :=
  (pipe_of h.f.fl).mono fun e w' ⟨he, c⟩ => ⟨he, h.quiet c⟩
theorem rd_pLen (h : OwB m hi w2 F kd W) : Calls Tryz.prog 27 #[.pointer (some ⟨F.pb, 0, none⟩)] W fun e w' => e = .returned (.int .i64 0) ∧ OwB m hi w2 F kd w' :=
  (pLen_of (h.q trivial)).mono fun e w' ⟨he, c⟩ => ⟨he, h.quiet c⟩
theorem rd_log (h : OwB m hi w2 F kd W) : Calls Tryz.prog 18 #[.pointer (some ⟨F.f, 0, none⟩)] W fun e w' => e = .returned (.pointer (some ⟨F.lb, 0, none⟩)) ∧ OwB m hi w2 F kd w' :=
  (log_of h.f.fl).mono fun e w' ⟨he, c⟩ => ⟨he, h.quiet c⟩
theorem rd_lLen (h : OwB m hi w2 F kd W) : Calls Tryz.prog 28 #[.pointer (some ⟨F.lb, 0, none⟩)] W fun e w' => e = .returned (.int .i64 0) ∧ OwB m hi w2 F kd w' :=
  (lLen_of (h.pl trivial)).mono fun e w' ⟨he, c⟩ => ⟨he, h.quiet c⟩
theorem rd_slab (h : OwB m hi w2 F kd W) : Calls Tryz.prog 13 #[.pointer (some ⟨F.f, 0, none⟩)] W fun e w' => e = .returned (.pointer (some ⟨F.sb, 0, none⟩)) ∧ OwB m hi w2 F kd w' :=
  (slab_of h.f.fl).mono fun e w' ⟨he, c⟩ => ⟨he, h.quiet c⟩
theorem rd_count (h : OwB m hi w2 F False W) : Calls Tryz.prog 29 #[.pointer (some ⟨F.sb, 0, none⟩)] W fun e w' => e = .returned (.int .i64 0) ∧ OwB m hi w2 F False w' := by
  obtain ⟨h1, h2, h3, h4, h5, h6, h7, h8⟩ := h.ids
  refine (count_of (h.s0 trivial)).mono fun e w' ⟨he, s', c⟩ => ⟨he, (h.part (ks' := False) c (fun j hj => .inr (.inl hj)) (fun e => e.elim) (fun _ => ⟨trivial, fun e => ?_⟩) (fun _ => ⟨trivial, fun e => ?_⟩) (fun e => e.elim)).reS s'⟩
  · have e' : F.cb = F.sb := e
    omega
  · have e' : F.lb = F.sb := e
    omega
end
end Go.Proofs.YtkialefhjfoniaaGreat
