/-
  A config, an event that came in by value: what it is, and that it reads as before.
-/
import Derived.Test.YtkialefhjfoniaaGreatChecked
import Derived.Test.YtkialefhjfoniaaGreatRows
import Derived.ProofKit
import Derived.OpenShut
import Derived.ChangeArms
import Derived.ChangeSame
import Derived.Deep.Fields
import Derived.WideShapes
namespace Go.Proofs.YtkialefhjfoniaaGreat
open Go.ChangeShapes Go.WideShapes Go.RowKit Go.Deep
set_option linter.unusedVariables false
section
variable {H : Type} {enc : TypeId × Value → H} {P : Program} {t : TypeId} {w : World} {base : Nat} {spare : Nat → Bool} {held : Bool}
/-- a field of one cell, an integer -/
def OneF (P : Program) (f : Field) (o : Nat) (k : IntKind) : Prop := f.offset = o ∧ P.cellsOf f.type = 1 ∧ P.underlying f.type = some (.int k)
/-- a struct of 6 fields, each one integer -/
def Fits_six (P : Program) (t : TypeId) : Prop := ∃ f0 f1 f2 f3 f4 f5 : Field, P.underlying t = some (.struct #[f0, f1, f2, f3, f4, f5]) ∧ P.cellsOf t = 6 ∧ OneF P f0 0 .i64 ∧ OneF P f1 1 .i64 ∧ OneF P f2 2 .i64 ∧ OneF P f3 3 .i64 ∧ OneF P f4 4 .i64 ∧ OneF P f5 5 .i64
theorem six_of (fs : Array Field) (h1 : P.underlying t = some (.struct fs)) (h2 : P.cellsOf t = 6) (h3 : fs.toList.map (fun f => (f.offset, P.cellsOf f.type, P.underlying f.type)) = [(0, 1, some (.int .i64)), (1, 1, some (.int .i64)), (2, 1, some (.int .i64)), (3, 1, some (.int .i64)), (4, 1, some (.int .i64)), (5, 1, some (.int .i64))]) : Fits_six P t := by
  obtain ⟨l⟩ := fs
  simp only at h3
  have hl : l.length = 6 := by simpa using congrArg List.length h3
  match l, hl, h3 with
  | [f0, f1, f2, f3, f4, f5], _, h3 =>
    simp only [List.map_cons, List.map_nil, List.cons.injEq, Prod.mk.injEq, and_true] at h3
    exact ⟨f0, f1, f2, f3, f4, f5, h1, h2, h3.1, h3.2.1, h3.2.2.1, h3.2.2.2.1, h3.2.2.2.2.1, h3.2.2.2.2.2⟩
theorem six_cells (h5 : Fits_six P t) {fuel : Nat} {cs : List Value} {x : DataW H × List MemPlace} (h : DataW.trod enc P w base spare held fuel t cs = some x) :
    ∃ a0 a1 a2 a3 a4 a5 : Int, cs = [.int .i64 a0, .int .i64 a1, .int .i64 a2, .int .i64 a3, .int .i64 a4, .int .i64 a5] ∧ x = (.agg [.lit (.int .i64 a0), .lit (.int .i64 a1), .lit (.int .i64 a2), .lit (.int .i64 a3), .lit (.int .i64 a4), .lit (.int .i64 a5)], []) ∧ (Lit.int .i64 a0).wf = true ∧ (Lit.int .i64 a1).wf = true ∧ (Lit.int .i64 a2).wf = true ∧ (Lit.int .i64 a3).wf = true ∧ (Lit.int .i64 a4).wf = true ∧ (Lit.int .i64 a5).wf = true := by
  obtain ⟨f0, f1, f2, f3, f4, f5, ht, hc, k0, k1, k2, k3, k4, k5⟩ := h5
  obtain ⟨xs, n, -, hx, hsz, hlen, hall⟩ := DataW.trod_struct ht h
  rw [hc] at hsz
  match cs, hsz, xs, hlen with
  | [c0, c1, c2, c3, c4, c5], _, [y0, y1, y2, y3, y4, y5], _ =>
    have g : ∀ (i : Nat) (f : Field) (k : IntKind) (c : Value) (y : DataW H × List MemPlace), (#[f0, f1, f2, f3, f4, f5] : Array Field)[i]? = some f → OneF P f i k → [c0, c1, c2, c3, c4, c5][i]? = some c → [y0, y1, y2, y3, y4, y5][i]? = some y → ∃ a, c = .int k a ∧ y = (.lit (.int k a), []) ∧ (Lit.int k a).wf = true := by
      intro i f k c y hfi ⟨ho, hk, hu⟩ hci hyi
      have h1 := hall i f hfi
      rw [hyi, ho, hk] at h1
      have h2 : ([c0, c1, c2, c3, c4, c5].drop i).take 1 = [c] := by
        have hlt := (List.getElem?_eq_some_iff.1 hci).1
        rw [List.drop_eq_getElem_cons hlt, List.take_succ_cons, List.take_zero, ← (List.getElem?_eq_some_iff.1 hci).2]
      obtain ⟨a, ha, hy, hw⟩ := DataW.trod_int hu (h2 ▸ h1)
      exact ⟨a, by simpa using ha, hy, hw⟩
    obtain ⟨a0, rfl, rfl, w0⟩ := g 0 f0 _ c0 y0 rfl k0 rfl rfl
    obtain ⟨a1, rfl, rfl, w1⟩ := g 1 f1 _ c1 y1 rfl k1 rfl rfl
    obtain ⟨a2, rfl, rfl, w2⟩ := g 2 f2 _ c2 y2 rfl k2 rfl rfl
    obtain ⟨a3, rfl, rfl, w3⟩ := g 3 f3 _ c3 y3 rfl k3 rfl rfl
    obtain ⟨a4, rfl, rfl, w4⟩ := g 4 f4 _ c4 y4 rfl k4 rfl rfl
    obtain ⟨a5, rfl, rfl, w5⟩ := g 5 f5 _ c5 y5 rfl k5 rfl rfl
    simp only [List.map_cons, List.map_nil, List.flatMap_cons, List.flatMap_nil, List.append_nil] at hx
    exact ⟨a0, a1, a2, a3, a4, a5, rfl, hx, w0, w1, w2, w3, w4, w5⟩
theorem open_six (h5 : Fits_six P t) {r : Reach} {b0 : Nat} {v : Value} {d : DataW H} {p : List MemPlace} (hv : Value.okWide P w r b0 t v) (h : DataW.Trod enc P w base spare held t v d p) :
    ∃ a0 a1 a2 a3 a4 a5 : Int, v = .agg #[.int .i64 a0, .int .i64 a1, .int .i64 a2, .int .i64 a3, .int .i64 a4, .int .i64 a5] ∧ d = .agg [.lit (.int .i64 a0), .lit (.int .i64 a1), .lit (.int .i64 a2), .lit (.int .i64 a3), .lit (.int .i64 a4), .lit (.int .i64 a5)] ∧ p = [] ∧ (Lit.int .i64 a0).wf = true ∧ (Lit.int .i64 a1).wf = true ∧ (Lit.int .i64 a2).wf = true ∧ (Lit.int .i64 a3).wf = true ∧ (Lit.int .i64 a4).wf = true ∧ (Lit.int .i64 a5).wf = true := by
  obtain ⟨f0, f1, f2, f3, f4, f5, ht, -⟩ := id h5
  obtain ⟨cs, rfl, hsz⟩ := okWide_struct ht hv
  obtain ⟨fuel, hf⟩ := h
  obtain ⟨a0, a1, a2, a3, a4, a5, hcs, hx, hw⟩ := six_cells h5 hf
  simp only [Prod.mk.injEq] at hx
  obtain ⟨c⟩ := cs
  simp only [Value.cells] at hcs
  subst hcs
  exact ⟨a0, a1, a2, a3, a4, a5, rfl, hx.1, hx.2, hw⟩
theorem shut_six (h5 : Fits_six P t) {a0 a1 a2 a3 a4 a5 : Int} (w0 : (Lit.int .i64 a0).wf = true) (w1 : (Lit.int .i64 a1).wf = true) (w2 : (Lit.int .i64 a2).wf = true) (w3 : (Lit.int .i64 a3).wf = true) (w4 : (Lit.int .i64 a4).wf = true) (w5 : (Lit.int .i64 a5).wf = true) :
    DataW.Trod enc P w base spare held t (.agg #[.int .i64 a0, .int .i64 a1, .int .i64 a2, .int .i64 a3, .int .i64 a4, .int .i64 a5]) (.agg [.lit (.int .i64 a0), .lit (.int .i64 a1), .lit (.int .i64 a2), .lit (.int .i64 a3), .lit (.int .i64 a4), .lit (.int .i64 a5)]) [] := by
  obtain ⟨f0, f1, f2, f3, f4, f5, ht, hc, ⟨o0, c0, u0⟩, ⟨o1, c1, u1⟩, ⟨o2, c2, u2⟩, ⟨o3, c3, u3⟩, ⟨o4, c4, u4⟩, ⟨o5, c5, u5⟩⟩ := h5
  have g : ∀ (t : TypeId) (k : IntKind) (a : Int), P.underlying t = some (.int k) → (Lit.int k a).wf = true → ∃ n, DataW.trod enc P w base spare held n t [.int k a] = some (.lit (.int k a), []) := fun t k a hu hw => by
    obtain ⟨n, hn⟩ := shut_int (enc := enc) (w := w) (base := base) (spare := spare) (held := held) hu hw
    exact ⟨n, by simpa [Value.cells] using hn⟩
  obtain ⟨n0, t0⟩ := g f0.type _ a0 u0 w0
  obtain ⟨n1, t1⟩ := g f1.type _ a1 u1 w1
  obtain ⟨n2, t2⟩ := g f2.type _ a2 u2 w2
  obtain ⟨n3, t3⟩ := g f3.type _ a3 u3 w3
  obtain ⟨n4, t4⟩ := g f4.type _ a4 u4 w4
  obtain ⟨n5, t5⟩ := g f5.type _ a5 u5 w5
  have s0 := DataW.trod_le (show n0 ≤ n0 + n1 + n2 + n3 + n4 + n5 by omega) t0
  have s1 := DataW.trod_le (show n1 ≤ n0 + n1 + n2 + n3 + n4 + n5 by omega) t1
  have s2 := DataW.trod_le (show n2 ≤ n0 + n1 + n2 + n3 + n4 + n5 by omega) t2
  have s3 := DataW.trod_le (show n3 ≤ n0 + n1 + n2 + n3 + n4 + n5 by omega) t3
  have s4 := DataW.trod_le (show n4 ≤ n0 + n1 + n2 + n3 + n4 + n5 by omega) t4
  have s5 := DataW.trod_le (show n5 ≤ n0 + n1 + n2 + n3 + n4 + n5 by omega) t5
  have ts := trod_struct_mk (enc := enc) (w := w) (base := base) (spare := spare) (held := held) (n := n0 + n1 + n2 + n3 + n4 + n5) (cs := [.int .i64 a0, .int .i64 a1, .int .i64 a2, .int .i64 a3, .int .i64 a4, .int .i64 a5]) (xs := [(.lit (.int .i64 a0), []), (.lit (.int .i64 a1), []), (.lit (.int .i64 a2), []), (.lit (.int .i64 a3), []), (.lit (.int .i64 a4), []), (.lit (.int .i64 a5), [])]) ht (by simp [hc])
    (by simp [o0, o1, o2, o3, o4, o5, c0, c1, c2, c3, c4, c5, s0, s1, s2, s3, s4, s5])
  exact ⟨_, by simpa [Value.cells] using ts⟩
theorem six_fits : Fits_six Tryz.prog 29 := six_of (Tryz.prog.fieldsOf 29) (by kernel_rfl) (by kernel_rfl) (by kernel_rfl)
/-- a struct of 10 fields, each one integer -/
def Fits_ten (P : Program) (t : TypeId) : Prop := ∃ f0 f1 f2 f3 f4 f5 f6 f7 f8 f9 : Field, P.underlying t = some (.struct #[f0, f1, f2, f3, f4, f5, f6, f7, f8, f9]) ∧ P.cellsOf t = 10 ∧ OneF P f0 0 .i64 ∧ OneF P f1 1 .i64 ∧ OneF P f2 2 .i64 ∧ OneF P f3 3 .i64 ∧ OneF P f4 4 .u64 ∧ OneF P f5 5 .u64 ∧ OneF P f6 6 .u64 ∧ OneF P f7 7 .u64 ∧ OneF P f8 8 .u64 ∧ OneF P f9 9 .i64
theorem ten_of (fs : Array Field) (h1 : P.underlying t = some (.struct fs)) (h2 : P.cellsOf t = 10) (h3 : fs.toList.map (fun f => (f.offset, P.cellsOf f.type, P.underlying f.type)) = [(0, 1, some (.int .i64)), (1, 1, some (.int .i64)), (2, 1, some (.int .i64)), (3, 1, some (.int .i64)), (4, 1, some (.int .u64)), (5, 1, some (.int .u64)), (6, 1, some (.int .u64)), (7, 1, some (.int .u64)), (8, 1, some (.int .u64)), (9, 1, some (.int .i64))]) : Fits_ten P t := by
  obtain ⟨l⟩ := fs
  simp only at h3
  have hl : l.length = 10 := by simpa using congrArg List.length h3
  match l, hl, h3 with
  | [f0, f1, f2, f3, f4, f5, f6, f7, f8, f9], _, h3 =>
    simp only [List.map_cons, List.map_nil, List.cons.injEq, Prod.mk.injEq, and_true] at h3
    exact ⟨f0, f1, f2, f3, f4, f5, f6, f7, f8, f9, h1, h2, h3.1, h3.2.1, h3.2.2.1, h3.2.2.2.1, h3.2.2.2.2.1, h3.2.2.2.2.2.1, h3.2.2.2.2.2.2.1, h3.2.2.2.2.2.2.2.1, h3.2.2.2.2.2.2.2.2.1, h3.2.2.2.2.2.2.2.2.2⟩
theorem ten_cells (h5 : Fits_ten P t) {fuel : Nat} {cs : List Value} {x : DataW H × List MemPlace} (h : DataW.trod enc P w base spare held fuel t cs = some x) :
    ∃ a0 a1 a2 a3 a4 a5 a6 a7 a8 a9 : Int, cs = [.int .i64 a0, .int .i64 a1, .int .i64 a2, .int .i64 a3, .int .u64 a4, .int .u64 a5, .int .u64 a6, .int .u64 a7, .int .u64 a8, .int .i64 a9] ∧ x = (.agg [.lit (.int .i64 a0), .lit (.int .i64 a1), .lit (.int .i64 a2), .lit (.int .i64 a3), .lit (.int .u64 a4), .lit (.int .u64 a5), .lit (.int .u64 a6), .lit (.int .u64 a7), .lit (.int .u64 a8), .lit (.int .i64 a9)], []) ∧ (Lit.int .i64 a0).wf = true ∧ (Lit.int .i64 a1).wf = true ∧ (Lit.int .i64 a2).wf = true ∧ (Lit.int .i64 a3).wf = true ∧ (Lit.int .u64 a4).wf = true ∧ (Lit.int .u64 a5).wf = true ∧ (Lit.int .u64 a6).wf = true ∧ (Lit.int .u64 a7).wf = true ∧ (Lit.int .u64 a8).wf = true ∧ (Lit.int .i64 a9).wf = true := by
  obtain ⟨f0, f1, f2, f3, f4, f5, f6, f7, f8, f9, ht, hc, k0, k1, k2, k3, k4, k5, k6, k7, k8, k9⟩ := h5
  obtain ⟨xs, n, -, hx, hsz, hlen, hall⟩ := DataW.trod_struct ht h
  rw [hc] at hsz
  match cs, hsz, xs, hlen with
  | [c0, c1, c2, c3, c4, c5, c6, c7, c8, c9], _, [y0, y1, y2, y3, y4, y5, y6, y7, y8, y9], _ =>
    have g : ∀ (i : Nat) (f : Field) (k : IntKind) (c : Value) (y : DataW H × List MemPlace), (#[f0, f1, f2, f3, f4, f5, f6, f7, f8, f9] : Array Field)[i]? = some f → OneF P f i k → [c0, c1, c2, c3, c4, c5, c6, c7, c8, c9][i]? = some c → [y0, y1, y2, y3, y4, y5, y6, y7, y8, y9][i]? = some y → ∃ a, c = .int k a ∧ y = (.lit (.int k a), []) ∧ (Lit.int k a).wf = true := by
      intro i f k c y hfi ⟨ho, hk, hu⟩ hci hyi
      have h1 := hall i f hfi
      rw [hyi, ho, hk] at h1
      have h2 : ([c0, c1, c2, c3, c4, c5, c6, c7, c8, c9].drop i).take 1 = [c] := by
        have hlt := (List.getElem?_eq_some_iff.1 hci).1
        rw [List.drop_eq_getElem_cons hlt, List.take_succ_cons, List.take_zero, ← (List.getElem?_eq_some_iff.1 hci).2]
      obtain ⟨a, ha, hy, hw⟩ := DataW.trod_int hu (h2 ▸ h1)
      exact ⟨a, by simpa using ha, hy, hw⟩
    obtain ⟨a0, rfl, rfl, w0⟩ := g 0 f0 _ c0 y0 rfl k0 rfl rfl
    obtain ⟨a1, rfl, rfl, w1⟩ := g 1 f1 _ c1 y1 rfl k1 rfl rfl
    obtain ⟨a2, rfl, rfl, w2⟩ := g 2 f2 _ c2 y2 rfl k2 rfl rfl
    obtain ⟨a3, rfl, rfl, w3⟩ := g 3 f3 _ c3 y3 rfl k3 rfl rfl
    obtain ⟨a4, rfl, rfl, w4⟩ := g 4 f4 _ c4 y4 rfl k4 rfl rfl
    obtain ⟨a5, rfl, rfl, w5⟩ := g 5 f5 _ c5 y5 rfl k5 rfl rfl
    obtain ⟨a6, rfl, rfl, w6⟩ := g 6 f6 _ c6 y6 rfl k6 rfl rfl
    obtain ⟨a7, rfl, rfl, w7⟩ := g 7 f7 _ c7 y7 rfl k7 rfl rfl
    obtain ⟨a8, rfl, rfl, w8⟩ := g 8 f8 _ c8 y8 rfl k8 rfl rfl
    obtain ⟨a9, rfl, rfl, w9⟩ := g 9 f9 _ c9 y9 rfl k9 rfl rfl
    simp only [List.map_cons, List.map_nil, List.flatMap_cons, List.flatMap_nil, List.append_nil] at hx
    exact ⟨a0, a1, a2, a3, a4, a5, a6, a7, a8, a9, rfl, hx, w0, w1, w2, w3, w4, w5, w6, w7, w8, w9⟩
theorem open_ten (h5 : Fits_ten P t) {r : Reach} {b0 : Nat} {v : Value} {d : DataW H} {p : List MemPlace} (hv : Value.okWide P w r b0 t v) (h : DataW.Trod enc P w base spare held t v d p) :
    ∃ a0 a1 a2 a3 a4 a5 a6 a7 a8 a9 : Int, v = .agg #[.int .i64 a0, .int .i64 a1, .int .i64 a2, .int .i64 a3, .int .u64 a4, .int .u64 a5, .int .u64 a6, .int .u64 a7, .int .u64 a8, .int .i64 a9] ∧ d = .agg [.lit (.int .i64 a0), .lit (.int .i64 a1), .lit (.int .i64 a2), .lit (.int .i64 a3), .lit (.int .u64 a4), .lit (.int .u64 a5), .lit (.int .u64 a6), .lit (.int .u64 a7), .lit (.int .u64 a8), .lit (.int .i64 a9)] ∧ p = [] ∧ (Lit.int .i64 a0).wf = true ∧ (Lit.int .i64 a1).wf = true ∧ (Lit.int .i64 a2).wf = true ∧ (Lit.int .i64 a3).wf = true ∧ (Lit.int .u64 a4).wf = true ∧ (Lit.int .u64 a5).wf = true ∧ (Lit.int .u64 a6).wf = true ∧ (Lit.int .u64 a7).wf = true ∧ (Lit.int .u64 a8).wf = true ∧ (Lit.int .i64 a9).wf = true := by
  obtain ⟨f0, f1, f2, f3, f4, f5, f6, f7, f8, f9, ht, -⟩ := id h5
  obtain ⟨cs, rfl, hsz⟩ := okWide_struct ht hv
  obtain ⟨fuel, hf⟩ := h
  obtain ⟨a0, a1, a2, a3, a4, a5, a6, a7, a8, a9, hcs, hx, hw⟩ := ten_cells h5 hf
  simp only [Prod.mk.injEq] at hx
  obtain ⟨c⟩ := cs
  simp only [Value.cells] at hcs
  subst hcs
  exact ⟨a0, a1, a2, a3, a4, a5, a6, a7, a8, a9, rfl, hx.1, hx.2, hw⟩
theorem shut_ten (h5 : Fits_ten P t) {a0 a1 a2 a3 a4 a5 a6 a7 a8 a9 : Int} (w0 : (Lit.int .i64 a0).wf = true) (w1 : (Lit.int .i64 a1).wf = true) (w2 : (Lit.int .i64 a2).wf = true) (w3 : (Lit.int .i64 a3).wf = true) (w4 : (Lit.int .u64 a4).wf = true) (w5 : (Lit.int .u64 a5).wf = true) (w6 : (Lit.int .u64 a6).wf = true) (w7 : (Lit.int .u64 a7).wf = true) (w8 : (Lit.int .u64 a8).wf = true) (w9 : (Lit.int .i64 a9).wf = true) :
    DataW.Trod enc P w base spare held t (.agg #[.int .i64 a0, .int .i64 a1, .int .i64 a2, .int .i64 a3, .int .u64 a4, .int .u64 a5, .int .u64 a6, .int .u64 a7, .int .u64 a8, .int .i64 a9]) (.agg [.lit (.int .i64 a0), .lit (.int .i64 a1), .lit (.int .i64 a2), .lit (.int .i64 a3), .lit (.int .u64 a4), .lit (.int .u64 a5), .lit (.int .u64 a6), .lit (.int .u64 a7), .lit (.int .u64 a8), .lit (.int .i64 a9)]) [] := by
  obtain ⟨f0, f1, f2, f3, f4, f5, f6, f7, f8, f9, ht, hc, ⟨o0, c0, u0⟩, ⟨o1, c1, u1⟩, ⟨o2, c2, u2⟩, ⟨o3, c3, u3⟩, ⟨o4, c4, u4⟩, ⟨o5, c5, u5⟩, ⟨o6, c6, u6⟩, ⟨o7, c7, u7⟩, ⟨o8, c8, u8⟩, ⟨o9, c9, u9⟩⟩ := h5
  have g : ∀ (t : TypeId) (k : IntKind) (a : Int), P.underlying t = some (.int k) → (Lit.int k a).wf = true → ∃ n, DataW.trod enc P w base spare held n t [.int k a] = some (.lit (.int k a), []) := fun t k a hu hw => by
    obtain ⟨n, hn⟩ := shut_int (enc := enc) (w := w) (base := base) (spare := spare) (held := held) hu hw
    exact ⟨n, by simpa [Value.cells] using hn⟩
  obtain ⟨n0, t0⟩ := g f0.type _ a0 u0 w0
  obtain ⟨n1, t1⟩ := g f1.type _ a1 u1 w1
  obtain ⟨n2, t2⟩ := g f2.type _ a2 u2 w2
  obtain ⟨n3, t3⟩ := g f3.type _ a3 u3 w3
  obtain ⟨n4, t4⟩ := g f4.type _ a4 u4 w4
  obtain ⟨n5, t5⟩ := g f5.type _ a5 u5 w5
  obtain ⟨n6, t6⟩ := g f6.type _ a6 u6 w6
  obtain ⟨n7, t7⟩ := g f7.type _ a7 u7 w7
  obtain ⟨n8, t8⟩ := g f8.type _ a8 u8 w8
  obtain ⟨n9, t9⟩ := g f9.type _ a9 u9 w9
  have s0 := DataW.trod_le (show n0 ≤ n0 + n1 + n2 + n3 + n4 + n5 + n6 + n7 + n8 + n9 by omega) t0
  have s1 := DataW.trod_le (show n1 ≤ n0 + n1 + n2 + n3 + n4 + n5 + n6 + n7 + n8 + n9 by omega) t1
  have s2 := DataW.trod_le (show n2 ≤ n0 + n1 + n2 + n3 + n4 + n5 + n6 + n7 + n8 + n9 by omega) t2
  have s3 := DataW.trod_le (show n3 ≤ n0 + n1 + n2 + n3 + n4 + n5 + n6 + n7 + n8 + n9 by omega) t3
  have s4 := DataW.trod_le (show n4 ≤ n0 + n1 + n2 + n3 + n4 + n5 + n6 + n7 + n8 + n9 by omega) t4
  have s5 := DataW.trod_le (show n5 ≤ n0 + n1 + n2 + n3 + n4 + n5 + n6 + n7 + n8 + n9 by omega) t5
  have s6 := DataW.trod_le (show n6 ≤ n0 + n1 + n2 + n3 + n4 + n5 + n6 + n7 + n8 + n9 by omega) t6
  have s7 := DataW.trod_le (show n7 ≤ n0 + n1 + n2 + n3 + n4 + n5 + n6 + n7 + n8 + n9 by omega) t7
  have s8 := DataW.trod_le (show n8 ≤ n0 + n1 + n2 + n3 + n4 + n5 + n6 + n7 + n8 + n9 by omega) t8
  have s9 := DataW.trod_le (show n9 ≤ n0 + n1 + n2 + n3 + n4 + n5 + n6 + n7 + n8 + n9 by omega) t9
  have ts := trod_struct_mk (enc := enc) (w := w) (base := base) (spare := spare) (held := held) (n := n0 + n1 + n2 + n3 + n4 + n5 + n6 + n7 + n8 + n9) (cs := [.int .i64 a0, .int .i64 a1, .int .i64 a2, .int .i64 a3, .int .u64 a4, .int .u64 a5, .int .u64 a6, .int .u64 a7, .int .u64 a8, .int .i64 a9]) (xs := [(.lit (.int .i64 a0), []), (.lit (.int .i64 a1), []), (.lit (.int .i64 a2), []), (.lit (.int .i64 a3), []), (.lit (.int .u64 a4), []), (.lit (.int .u64 a5), []), (.lit (.int .u64 a6), []), (.lit (.int .u64 a7), []), (.lit (.int .u64 a8), []), (.lit (.int .i64 a9), [])]) ht (by simp [hc])
    (by simp [o0, o1, o2, o3, o4, o5, o6, o7, o8, o9, c0, c1, c2, c3, c4, c5, c6, c7, c8, c9, s0, s1, s2, s3, s4, s5, s6, s7, s8, s9])
  exact ⟨_, by simpa [Value.cells] using ts⟩
theorem ten_fits : Fits_ten Tryz.prog 33 := ten_of (Tryz.prog.fieldsOf 33) (by kernel_rfl) (by kernel_rfl) (by kernel_rfl)
end
end Go.Proofs.YtkialefhjfoniaaGreat
