import Derived.Test.YtldnmpiaofppgaaDoorCTaskArg
import Derived.Test.YtldnmpiaofppgaaDoorCTaskTab
/-
  What a walk is told of a slice of acts that came in: a kind, a number and a task each, seven cells.
-/
namespace Verge
/-- something that is done: its kind, a number, a task -/
structure Ac where
  k : Int
  n : Int
  u : Tk
def i64ok (z : Int) : Prop := -9223372036854775808 ≤ z ∧ z ≤ 9223372036854775807
def Ac.ok (x : Ac) : Prop := i64ok x.k ∧ i64ok x.n ∧ i64ok x.u.s ∧ x.u.i < 18446744073709551616 ∧ x.u.g < 18446744073709551616 ∧ x.u.d < 18446744073709551616 ∧ x.u.p < 18446744073709551616
end Verge
namespace Go.Proofs.YtldnmpiaofppgaaDoor
open Go.ChangeShapes Go.WideShapes Go.RowKit Go.Deep Verge
set_option linter.unusedVariables false
/-- where an act's cells lie -/
structure IsAc (w : World) (b o : Nat) (x : Ac) : Prop where
  k : w.cell? ⟨b, o, none⟩ = some (.int .i64 x.k)
  n : w.cell? ⟨b, o + 1, none⟩ = some (.int .i64 x.n)
  u : IsTk w b (o + 2) x.u
/-- a slice that leads to a row of acts -/
def ASrc (w : World) (a : Option Addr) (L : List Ac) : Prop := L = [] ∨ ∃ b o, a = some ⟨b, o, none⟩ ∧ ∀ i x, L[i]? = some x → IsAc w b (o + i * 7) x
def IsActs (w : World) (a : Option Addr) (len cap : Nat) : Prop := ∃ L : List Ac, L.length = len ∧ ASrc w a L ∧ (∀ x, x ∈ L → x.ok) ∧ len ≤ cap ∧ cap ≤ maxLen
section
variable {S : Nat → Prop} {w w' : World} {a : Option Addr} {L : List Ac} {b o : Nat} {x : Ac}
theorem IsAc.kept (h : IsAc w b o x) (c : Ch S w w') (hn : ¬ S b) : IsAc w' b o x := ⟨c.keeps h.k hn, c.keeps h.n hn, h.u.kept c hn⟩
theorem ASrc.kept (h : ASrc w a L) (c : Ch S w w') (hn : ∀ k, k < w.heap.size → ¬ S k) : ASrc w' a L := by
  rcases h with h | ⟨b, o, rfl, h⟩
  · exact .inl h
  · exact .inr ⟨b, o, rfl, fun i x hx => (h i x hx).kept c (hn b (lt_of_cell (h i x hx).k))⟩
theorem ASrc.form (h : ASrc w a L) (hp : 0 < L.length) : ∃ b o, a = some ⟨b, o, none⟩ ∧ ∀ i x, L[i]? = some x → IsAc w b (o + i * 7) x := by
  rcases h with h | h
  · rw [h] at hp; simp at hp
  · exact h
end
section
variable {H : Type} {enc : TypeId × Value → H} {P : Program} {t : TypeId} {w : World} {base : Nat} {spare : Nat → Bool} {held : Bool}
/-- the fields of an act -/
def ActF (P : Program) (t : TypeId) : Prop := ∃ f0 f1 f2 : Field, P.underlying t = some (.struct #[f0, f1, f2]) ∧ P.cellsOf t = 7 ∧ OneF P f0 0 .i64 ∧ OneF P f1 1 .i64 ∧ f2.offset = 2 ∧ P.cellsOf f2.type = 5 ∧ Five P f2.type
theorem actF_of (fs : Array Field) (tt : TypeId) (h1 : P.underlying t = some (.struct fs)) (h2 : P.cellsOf t = 7) (h3 : fs.toList.map (fun f => (f.offset, P.cellsOf f.type)) = [(0, 1), (1, 1), (2, 5)]) (h4 : (fs.toList.take 2).map (fun f => P.underlying f.type) = [some (.int .i64), some (.int .i64)]) (h5 : (fs.toList.drop 2).map (·.type) = [tt]) (h6 : Five P tt) : ActF P t := by
  obtain ⟨l⟩ := fs
  simp only at h3 h4 h5
  have hl : l.length = 3 := by simpa using congrArg List.length h3
  match l, hl, h3, h4, h5 with
  | [f0, f1, f2], _, h3, h4, h5 =>
    simp only [List.map_cons, List.map_nil, List.cons.injEq, Prod.mk.injEq, and_true, List.take_succ_cons, List.take_zero, List.drop_succ_cons, List.drop_zero] at h3 h4 h5
    refine ⟨f0, f1, f2, h1, h2, ⟨h3.1.1, h3.1.2, h4.1⟩, ⟨h3.2.1.1, h3.2.1.2, h4.2⟩, h3.2.2.1, h3.2.2.2, ?_⟩
    rw [h5]; exact h6
theorem open_acts {tS : TypeId} {fuel : Nat} {a : Option Addr} {len cap : Nat} {x : DataW H × List MemPlace} (ht : P.underlying tS = some (.slice t)) (hA : ActF P t) (h : DataW.trod enc P w base spare held fuel tS [.slice a len cap] = some x) : IsActs w a len cap := by
  rcases open_slice ht h with ⟨h0, -⟩ | ⟨y, len', cap', m, n, D, Pl, hcs, hb, hl, hm, hmm, hx, hi⟩
  · simp at h0
    obtain ⟨rfl, rfl, rfl⟩ := h0
    exact ⟨[], rfl, .inl rfl, fun x hx => (by cases hx), Nat.le_refl _, Nat.zero_le _⟩
  · simp at hcs
    obtain ⟨rfl, rfl, rfl⟩ := hcs
    obtain ⟨f0, f1, f2, he, hC, ⟨o0, k0, u0⟩, ⟨o1, k1, u1⟩, o2, k2, u2⟩ := hA
    have each : ∀ i, i < len → ∃ x : Ac, x.ok ∧ ∀ j v, ([.int .i64 x.k, .int .i64 x.n, .int .u64 (x.u.i : Nat), .int .i64 x.u.s, .int .u64 (x.u.g : Nat), .int .u64 (x.u.d : Nat), .int .u64 (x.u.p : Nat)] : List Value)[j]? = some v → w.cell? (y.add (i * 7 + j)) = some v := by
      intro i hil
      obtain ⟨cs', hc, htr⟩ := hi i (by subst hmm; split <;> omega)
      rw [hC] at hc
      obtain ⟨-, hcl, hat⟩ := World.cells?_some hc
      obtain ⟨ys, n', -, -, hlen, hyl, hfd⟩ := DataW.trod_struct he htr
      match cs', hcl, ys, hyl with
      | [c0, c1, c2, c3, c4, c5, c6], _, [y0, y1, y2], _ =>
        have g0 := hfd 0 f0 rfl
        have g1 := hfd 1 f1 rfl
        have g2 := hfd 2 f2 rfl
        rw [o0, k0] at g0
        rw [o1, k1] at g1
        rw [o2, k2] at g2
        obtain ⟨ak, hk, -, wk⟩ := DataW.trod_int u0 g0
        obtain ⟨an, hn, -, wn⟩ := DataW.trod_int u1 g1
        obtain ⟨a0, a1, a2, a3, a4, h5, -, w0, w1, w2, w3, w4⟩ := five_cells u2 g2
        simp only [List.drop_zero, List.drop_succ_cons, List.take_succ_cons, List.take_zero, List.cons.injEq, and_true] at hk hn h5
        obtain ⟨rfl, rfl, rfl, rfl, rfl⟩ := h5
        subst hk hn
        obtain ⟨q0, r0⟩ := bounds_u64 w0
        obtain ⟨q2, r2⟩ := bounds_u64 w2
        obtain ⟨q3, r3⟩ := bounds_u64 w3
        obtain ⟨q4, r4⟩ := bounds_u64 w4
        obtain ⟨b0, rfl⟩ := Int.eq_ofNat_of_zero_le q0
        obtain ⟨b2, rfl⟩ := Int.eq_ofNat_of_zero_le q2
        obtain ⟨b3, rfl⟩ := Int.eq_ofNat_of_zero_le q3
        obtain ⟨b4, rfl⟩ := Int.eq_ofNat_of_zero_le q4
        refine ⟨⟨ak, an, ⟨b0, a1, b2, b3, b4⟩⟩, ⟨bounds_i64 wk, bounds_i64 wn, bounds_i64 w1, by simp only; omega, by simp only; omega, by simp only; omega, by simp only; omega⟩, fun j v hj => ?_⟩
        have hj7 : j < 7 := (List.getElem?_eq_some_iff.1 hj).1
        have h3 := hat j hj7
        rw [Go.Deep.add_add] at h3
        exact h3.trans hj
    by_cases h0 : len = 0
    · subst h0
      exact ⟨[], rfl, .inl rfl, fun x hx => (by cases hx), hl, hm⟩
    · have hspot : y.spot = none := by
        obtain ⟨x, -, hx⟩ := each 0 (by omega)
        have := spot_of_cell (hx 0 _ rfl)
        cases y
        unfold Addr.add at this
        simpa using this
      obtain ⟨b, o, sp⟩ := y
      simp only at hspot
      subst hspot
      have cf : ∀ i, ∃ x : Ac, i < len → x.ok ∧ IsAc w b (o + i * 7) x := fun i => by
        by_cases hi : i < len
        · obtain ⟨x, ok, hx⟩ := each i hi
          have cell : ∀ j v, ([.int .i64 x.k, .int .i64 x.n, .int .u64 (x.u.i : Nat), .int .i64 x.u.s, .int .u64 (x.u.g : Nat), .int .u64 (x.u.d : Nat), .int .u64 (x.u.p : Nat)] : List Value)[j]? = some v → w.cell? ⟨b, o + i * 7 + j, none⟩ = some v := fun j v hj => by
            have := hx j v hj
            rwa [addr_add, ← Nat.add_assoc] at this
          exact ⟨x, fun _ => ⟨ok, cell 0 _ rfl, cell 1 _ rfl, IsTk.of ⟨cell 2 _ rfl, cell 3 _ rfl, cell 4 _ rfl, cell 5 _ rfl, cell 6 _ rfl⟩⟩⟩
        · exact ⟨⟨0, 0, tk0⟩, fun h => absurd h hi⟩
      obtain ⟨F, hF⟩ := Classical.axiomOfChoice cf
      refine ⟨(List.range len).map F, by simp, .inr ⟨b, o, rfl, fun i x hx => ?_⟩, fun x hx => ?_, hl, hm⟩
      · have hi := (List.getElem?_eq_some_iff.1 hx).1
        simp only [List.length_map, List.length_range] at hi
        simp [List.getElem?_range hi] at hx
        subst hx
        exact (hF i hi).2
      · simp only [List.mem_map, List.mem_range] at hx
        obtain ⟨i, hi, rfl⟩ := hx
        exact (hF i hi).1
end
theorem act_fields : ActF Tryd.prog 39 := actF_of (Tryd.prog.fieldsOf 39) 37 (by kernel_rfl) (by kernel_rfl) (by kernel_rfl) (by kernel_rfl) (by kernel_rfl) task_five
end Go.Proofs.YtldnmpiaofppgaaDoor
