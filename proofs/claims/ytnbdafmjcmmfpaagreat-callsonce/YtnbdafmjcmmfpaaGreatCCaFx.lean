import Derived.Test.YtnbdafmjcmmfpaaGreatCCaSee
import Derived.Test.YtnbdafmjcmmfpaaGreatCCaRunNo
/-
  A floor, and boxes beside it, whatever calls are made of it.
-/
namespace Go.Proofs.YtnbdafmjcmmfpaaGreat
open Go.RowKit Verge
set_option linter.unusedVariables false
set_option linter.unusedSimpArgs false
section
variable {E : Ee} {S S0 S1 : Nat → Prop} {w0 W W' : World} {σ σ' : Wd} {n n' : Nat} {B : Nat} {vs : List Value} {bx r : List (Nat × List Value)}
/-- what isn't the floor's has turned -/
theorem Bf.apart (h : Bf E S1 W W σ n) (c : Ch S W W') (hn : ∀ j, j < W.heap.size → S j → ¬ S1 j) : Bf E S1 W' W' σ n := by
  obtain ⟨L, a, tc, h1, h2, h3⟩ := h.hd
  have ids := h.ly.ids
  have hw := h.hw
  have ow : ∀ j, OwnS a j → S1 j ∧ j < W.heap.size := fun j hj => by
    have lt := h1.f.lt (k := j) (by simp [FS, hj])
    rcases h3 j hj with e | e
    · exact ⟨e, lt⟩
    · omega
  have ne : ∀ {j}, E.lo ≤ j → j < E.hi → ¬ S j := fun {j} a b e => hn j (by omega) e (h.z j a b)
  refine ⟨h.ly, ⟨L, a, tc, ⟨h1.f.kept c (fun j hj e => ?_), h1.r.kept c (fun j hj => ?_), fun i hi => ?_, fun i hi => ?_, h1.s.kept c (ne (by omega) (by omega)) (ne (by omega) (by omega)), h1.la⟩, h2, fun j hj => .inl (ow j hj).1⟩, h.bd, h.z, Nat.le_trans h.hw c.size, Ch.refl _ _⟩
  · rcases h.ly.fs hj with q | q
    · exact ne (by omega) (by omega) e
    · exact hn j (ow j q).2 e (ow j q).1
  · obtain rfl : E.F.g = j := Option.some.inj hj
    exact ne (by omega) (by omega)
  · obtain ⟨l, v, s⟩ := h1.sd i hi
    have := h.ly.idl hi
    exact ⟨l, v, s.kept c (ne (by omega) (by omega))⟩
  · have := h.ly.idl hi
    exact (h1.ri i hi).kept c (ne (by omega) (by omega)) (ne (by omega) (by omega))
/-- a floor that was made since w0, and boxes -/
structure Fx (E : Ee) (w0 W : World) (σ : Wd) (n : Nat) (bx : List (Nat × List Value)) : Prop where
  b : ∃ S1 : Nat → Prop, Bf E S1 W W σ n ∧ (∀ j, S1 j → j < W.heap.size ∧ w0.heap.size ≤ j) ∧ ∀ p ∈ bx, ¬ S1 p.1
  v : ∀ p ∈ bx, IsVs W p.1 p.2 ∧ w0.heap.size ≤ p.1
  d : (bx.map Prod.fst).Nodup
  c : Ch Nil w0 W
theorem Fx.new (h : Bf E (fun j => w0.heap.size ≤ j) w0 W σ n) : Fx E w0 W σ n [] := by
  obtain ⟨S1, t1, t2, t3⟩ := h.re
  exact ⟨⟨S1, t3 W (Ch.refl _ _), fun j e => ⟨t1 j e, (t2 j e).elim (fun q => q) (fun q => q)⟩, fun p hp => (by cases hp)⟩, fun p hp => (by cases hp), List.nodup_nil, h.c.mono fun i hi e => by have e' : w0.heap.size ≤ i := e; omega⟩
theorem Fx.next (h : Fx E w0 W σ n bx) (hs : ∀ j, S1 j → j < W.heap.size ∧ w0.heap.size ≤ j) (hx : ∀ p ∈ bx, ¬ S1 p.1) (hb : Bf E S1 W W' σ' n') : Fx E w0 W' σ' n' bx := by
  obtain ⟨S2, t1, t2, t3⟩ := hb.re
  have sz := hb.c.size
  have sz0 := h.c.size
  refine ⟨⟨S2, t3 W' (Ch.refl _ _), fun j e => ⟨t1 j e, (t2 j e).elim (fun q => (hs j q).2) (fun q => by omega)⟩, fun p hp e => (t2 _ e).elim (hx p hp) (fun q => by have := (h.v p hp).1.lt; omega)⟩, fun p hp => ⟨(h.v p hp).1.kept hb.c (hx p hp), (h.v p hp).2⟩, h.d, h.c.then hb.c (fun i hi e => by have := (hs i e).2; omega)⟩
theorem Fx.op {P : Ending → Prop} {F : Nat} {args : Array Value} (h : Fx E w0 W σ n bx) (hc : ∀ S1, Bf E S1 W W σ n → Calls Tryz.prog F args W fun e W' => P e ∧ Bf E S1 W W' σ' n') :
    Calls Tryz.prog F args W fun e W' => P e ∧ Fx E w0 W' σ' n' bx := by
  obtain ⟨S1, hb, hs, hx⟩ := h.b
  refine (hc S1 hb).mono ?_
  rintro e W' ⟨hp, hb'⟩
  exact ⟨hp, h.next hs hx hb'⟩
theorem Fx.quiet (h : Fx E w0 W σ n bx) (c : Ch Nil W W') : Fx E w0 W' σ n bx := by
  obtain ⟨S1, hb, hs, hx⟩ := h.b
  exact h.next hs hx (hb.quiet c)
theorem Fx.up (h : Fx E w0 W σ n bx) (hn : n ≤ n') : Fx E w0 W σ n' bx := by
  obtain ⟨S1, hb, hs, hx⟩ := h.b
  exact ⟨⟨S1, hb.up hn, hs, hx⟩, h.v, h.d, h.c⟩
theorem Fx.push (h : Fx E w0 W σ n bx) (c : Ch Nil W W') (hB : W.heap.size ≤ B) (hv : IsVs W' B vs) : Fx E w0 W' σ n ((B, vs) :: bx) := by
  obtain ⟨S1, hb, hs, hx⟩ := h.b
  have sz := c.size
  have sz0 := h.c.size
  refine ⟨⟨S1, hb.apart c (fun j _ e => e.elim), fun j e => ⟨by have := (hs j e).1; omega, (hs j e).2⟩, fun p hp => ?_⟩, fun p hp => ?_, ?_, h.c.trans c⟩
  · rcases List.mem_cons.1 hp with rfl | hp
    · intro e; have := (hs _ e).1; omega
    · exact hx p hp
  · rcases List.mem_cons.1 hp with rfl | hp
    · exact ⟨hv, by show w0.heap.size ≤ B; omega⟩
    · exact ⟨(h.v p hp).1.kept c (fun e => e), (h.v p hp).2⟩
  · rw [List.map_cons, List.nodup_cons]
    refine ⟨fun e => ?_, h.d⟩
    obtain ⟨p, hp, e⟩ := List.mem_map.1 e
    have := (h.v p hp).1.lt
    have e' : p.1 = B := e
    omega
theorem Fx.pops (h : Fx E w0 W σ n ((B, vs) :: bx)) : Fx E w0 W σ n bx := by
  obtain ⟨S1, hb, hs, hx⟩ := h.b
  refine ⟨⟨S1, hb, hs, fun p hp => hx p (List.mem_cons_of_mem _ hp)⟩, fun p hp => h.v p (List.mem_cons_of_mem _ hp), ?_, h.c⟩
  have := h.d
  rw [List.map_cons, List.nodup_cons] at this
  exact this.2
theorem Fx.set (h : Fx E w0 W σ n ((B, vs) :: r)) (i : Nat) (v : Value) : Fx E w0 (W.setCell ⟨B, i, none⟩ v) σ n ((B, vs.set i v) :: r) := by
  obtain ⟨S1, hb, hs, hx⟩ := h.b
  have c : Ch (One B) W (W.setCell ⟨B, i, none⟩ v) := (Ch.refl _ _).setB _ _
  have hB := h.v (B, vs) List.mem_cons_self
  have nB := hx (B, vs) List.mem_cons_self
  have sz := c.size
  have hd := h.d
  rw [List.map_cons, List.nodup_cons] at hd
  refine ⟨⟨S1, hb.apart c (fun j _ e => by rw [show j = B from e]; exact nB), fun j e => ⟨by have := (hs j e).1; omega, (hs j e).2⟩, fun p hp => ?_⟩, fun p hp => ?_, h.d, h.c.then c (fun j hj e => by have e' : j = B := e; have := hB.2; dsimp only at this; omega)⟩
  · rcases List.mem_cons.1 hp with rfl | hp
    · exact nB
    · exact hx p (List.mem_cons_of_mem _ hp)
  · rcases List.mem_cons.1 hp with rfl | hp
    · exact ⟨hB.1.setAt i v, hB.2⟩
    · have hv := h.v p (List.mem_cons_of_mem _ hp)
      exact ⟨hv.1.kept c (fun e => hd.1 (List.mem_map.2 ⟨p, hp, e⟩)), hv.2⟩
theorem Fx.box (h : Fx E w0 W σ n bx) (hm : (B, vs) ∈ bx) : IsVs W B vs := (h.v _ hm).1
end
end Go.Proofs.YtnbdafmjcmmfpaaGreat
