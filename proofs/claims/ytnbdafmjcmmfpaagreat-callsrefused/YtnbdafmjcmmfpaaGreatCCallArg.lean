import Derived.Test.YtnbdafmjcmmfpaaGreatChecked
import Derived.Test.YtnbdafmjcmmfpaaGreatRows
import Derived.ProofKit
import Derived.OpenShut
import Derived.ChangeArms
import Derived.ChangeSame
import Derived.Deep.Fields
import Derived.WideShapes
/-
  A call that came in by value: what it is, and that it reads as before.
-/
namespace Go.Proofs.YtnbdafmjcmmfpaaGreat
open Go.ChangeShapes Go.WideShapes Go.RowKit Go.Deep
set_option linter.unusedVariables false
section
variable {H : Type} {enc : TypeId × Value → H} {P : Program} {t : TypeId} {w : World} {base : Nat} {spare : Nat → Bool} {held : Bool}
/-- a field of one cell, an integer -/
def OneF (P : Program) (f : Field) (o : Nat) (k : IntKind) : Prop := f.offset = o ∧ P.cellsOf f.type = 1 ∧ P.underlying f.type = some (.int k)
/-- a struct of 4 fields, each one integer -/
def Fits_call (P : Program) (t : TypeId) : Prop := ∃ f0 f1 f2 f3 : Field, P.underlying t = some (.struct #[f0, f1, f2, f3]) ∧ P.cellsOf t = 4 ∧ OneF P f0 0 .i64 ∧ OneF P f1 1 .u64 ∧ OneF P f2 2 .u64 ∧ OneF P f3 3 .u64
theorem call_of (fs : Array Field) (h1 : P.underlying t = some (.struct fs)) (h2 : P.cellsOf t = 4) (h3 : fs.toList.map (fun f => (f.offset, P.cellsOf f.type, P.underlying f.type)) = [(0, 1, some (.int .i64)), (1, 1, some (.int .u64)), (2, 1, some (.int .u64)), (3, 1, some (.int .u64))]) : Fits_call P t := by
  obtain ⟨l⟩ := fs
  simp only at h3
  have hl : l.length = 4 := by simpa using congrArg List.length h3
  match l, hl, h3 with
  | [f0, f1, f2, f3], _, h3 =>
    simp only [List.map_cons, List.map_nil, List.cons.injEq, Prod.mk.injEq, and_true] at h3
    exact ⟨f0, f1, f2, f3, h1, h2, h3.1, h3.2.1, h3.2.2.1, h3.2.2.2⟩
theorem call_cells (h5 : Fits_call P t) {fuel : Nat} {cs : List Value} {x : DataW H × List MemPlace} (h : DataW.trod enc P w base spare held fuel t cs = some x) :
    ∃ a0 a1 a2 a3 : Int, cs = [.int .i64 a0, .int .u64 a1, .int .u64 a2, .int .u64 a3] ∧ x = (.agg [.lit (.int .i64 a0), .lit (.int .u64 a1), .lit (.int .u64 a2), .lit (.int .u64 a3)], []) ∧ (Lit.int .i64 a0).wf = true ∧ (Lit.int .u64 a1).wf = true ∧ (Lit.int .u64 a2).wf = true ∧ (Lit.int .u64 a3).wf = true := by
  obtain ⟨f0, f1, f2, f3, ht, hc, k0, k1, k2, k3⟩ := h5
  obtain ⟨xs, n, -, hx, hsz, hlen, hall⟩ := DataW.trod_struct ht h
  rw [hc] at hsz
  match cs, hsz, xs, hlen with
  | [c0, c1, c2, c3], _, [y0, y1, y2, y3], _ =>
    have g : ∀ (i : Nat) (f : Field) (k : IntKind) (c : Value) (y : DataW H × List MemPlace), (#[f0, f1, f2, f3] : Array Field)[i]? = some f → OneF P f i k → [c0, c1, c2, c3][i]? = some c → [y0, y1, y2, y3][i]? = some y → ∃ a, c = .int k a ∧ y = (.lit (.int k a), []) ∧ (Lit.int k a).wf = true := by
      intro i f k c y hfi ⟨ho, hk, hu⟩ hci hyi
      have h1 := hall i f hfi
      rw [hyi, ho, hk] at h1
      have h2 : ([c0, c1, c2, c3].drop i).take 1 = [c] := by
        have hlt := (List.getElem?_eq_some_iff.1 hci).1
        rw [List.drop_eq_getElem_cons hlt, List.take_succ_cons, List.take_zero, ← (List.getElem?_eq_some_iff.1 hci).2]
      obtain ⟨a, ha, hy, hw⟩ := DataW.trod_int hu (h2 ▸ h1)
      exact ⟨a, by simpa using ha, hy, hw⟩
    obtain ⟨a0, rfl, rfl, w0⟩ := g 0 f0 _ c0 y0 rfl k0 rfl rfl
    obtain ⟨a1, rfl, rfl, w1⟩ := g 1 f1 _ c1 y1 rfl k1 rfl rfl
    obtain ⟨a2, rfl, rfl, w2⟩ := g 2 f2 _ c2 y2 rfl k2 rfl rfl
    obtain ⟨a3, rfl, rfl, w3⟩ := g 3 f3 _ c3 y3 rfl k3 rfl rfl
    simp only [List.map_cons, List.map_nil, List.flatMap_cons, List.flatMap_nil, List.append_nil] at hx
    exact ⟨a0, a1, a2, a3, rfl, hx, w0, w1, w2, w3⟩
theorem open_call (h5 : Fits_call P t) {r : Reach} {b0 : Nat} {v : Value} {d : DataW H} {p : List MemPlace} (hv : Value.okWide P w r b0 t v) (h : DataW.Trod enc P w base spare held t v d p) :
    ∃ a0 a1 a2 a3 : Int, v = .agg #[.int .i64 a0, .int .u64 a1, .int .u64 a2, .int .u64 a3] ∧ d = .agg [.lit (.int .i64 a0), .lit (.int .u64 a1), .lit (.int .u64 a2), .lit (.int .u64 a3)] ∧ p = [] ∧ (Lit.int .i64 a0).wf = true ∧ (Lit.int .u64 a1).wf = true ∧ (Lit.int .u64 a2).wf = true ∧ (Lit.int .u64 a3).wf = true := by
  obtain ⟨f0, f1, f2, f3, ht, -⟩ := id h5
  obtain ⟨cs, rfl, hsz⟩ := okWide_struct ht hv
  obtain ⟨fuel, hf⟩ := h
  obtain ⟨a0, a1, a2, a3, hcs, hx, hw⟩ := call_cells h5 hf
  simp only [Prod.mk.injEq] at hx
  obtain ⟨c⟩ := cs
  simp only [Value.cells] at hcs
  subst hcs
  exact ⟨a0, a1, a2, a3, rfl, hx.1, hx.2, hw⟩
theorem shut_call (h5 : Fits_call P t) {a0 a1 a2 a3 : Int} (w0 : (Lit.int .i64 a0).wf = true) (w1 : (Lit.int .u64 a1).wf = true) (w2 : (Lit.int .u64 a2).wf = true) (w3 : (Lit.int .u64 a3).wf = true) :
    DataW.Trod enc P w base spare held t (.agg #[.int .i64 a0, .int .u64 a1, .int .u64 a2, .int .u64 a3]) (.agg [.lit (.int .i64 a0), .lit (.int .u64 a1), .lit (.int .u64 a2), .lit (.int .u64 a3)]) [] := by
  obtain ⟨f0, f1, f2, f3, ht, hc, ⟨o0, c0, u0⟩, ⟨o1, c1, u1⟩, ⟨o2, c2, u2⟩, ⟨o3, c3, u3⟩⟩ := h5
  have g : ∀ (t : TypeId) (k : IntKind) (a : Int), P.underlying t = some (.int k) → (Lit.int k a).wf = true → ∃ n, DataW.trod enc P w base spare held n t [.int k a] = some (.lit (.int k a), []) := fun t k a hu hw => by
    obtain ⟨n, hn⟩ := shut_int (enc := enc) (w := w) (base := base) (spare := spare) (held := held) hu hw
    exact ⟨n, by simpa [Value.cells] using hn⟩
  obtain ⟨n0, t0⟩ := g f0.type _ a0 u0 w0
  obtain ⟨n1, t1⟩ := g f1.type _ a1 u1 w1
  obtain ⟨n2, t2⟩ := g f2.type _ a2 u2 w2
  obtain ⟨n3, t3⟩ := g f3.type _ a3 u3 w3
  have s0 := DataW.trod_le (show n0 ≤ n0 + n1 + n2 + n3 by omega) t0
  have s1 := DataW.trod_le (show n1 ≤ n0 + n1 + n2 + n3 by omega) t1
  have s2 := DataW.trod_le (show n2 ≤ n0 + n1 + n2 + n3 by omega) t2
  have s3 := DataW.trod_le (show n3 ≤ n0 + n1 + n2 + n3 by omega) t3
  have ts := trod_struct_mk (enc := enc) (w := w) (base := base) (spare := spare) (held := held) (n := n0 + n1 + n2 + n3) (cs := [.int .i64 a0, .int .u64 a1, .int .u64 a2, .int .u64 a3]) (xs := [(.lit (.int .i64 a0), []), (.lit (.int .u64 a1), []), (.lit (.int .u64 a2), []), (.lit (.int .u64 a3), [])]) ht (by simp [hc])
    (by simp [o0, o1, o2, o3, c0, c1, c2, c3, s0, s1, s2, s3])
  exact ⟨_, by simpa [Value.cells] using ts⟩
theorem call_fits : Fits_call Tryz.prog 38 := call_of (Tryz.prog.fieldsOf 38) (by kernel_rfl) (by kernel_rfl) (by kernel_rfl)
end
end Go.Proofs.YtnbdafmjcmmfpaaGreat
