import Derived.Test.YtnbdafmjcmmfpaaGreatRows
import Derived.WalkKit
import Derived.OpenShut
import Derived.Deep.Slices
/-
  What a walk is told of a slice of structs that came in, each of whose fields is one cell (an integer, a bool, a text).
-/
namespace Go.Proofs.YtnbdafmjcmmfpaaGreat
open Go.ChangeShapes Go.WideShapes Go.Deep
set_option linter.unusedVariables false

/-- what one cell may hold -/
inductive Leaf where
  | i (k : IntKind)
  | b
  | s
def Leaf.ok : Leaf → Value → Prop
  | .i k, v => ∃ n, v = .int k n ∧ (Lit.int k n).wf = true
  | .b, v => ∃ x, v = .bool x
  | .s, v => ∃ s, v = .string s ∧ s.size ≤ maxLen
/-- a type of just one such cell -/
def Leaf.fits (P : Program) (l : Leaf) (t : TypeId) : Bool :=
  match l, P.underlying t with
  | .i k, some (.int k') => decide (k = k')
  | .b, some .bool => true
  | .s, some .string => true
  | _, _ => false
def leavesFit (P : Program) (fs : Array Field) (ls : List Leaf) : Bool :=
  (List.range ls.length).all fun j => match fs[j]?, ls[j]? with
    | some f, some l => decide (f.offset = j) && decide (P.cellsOf f.type = 1) && l.fits P f.type
    | _, _ => false

/-- it is nil; or it leads to a row of elements, each of as many cells as 'ls' says -/
def IsTab (ls : List Leaf) (w : World) (a : Option Addr) (len cap : Nat) : Prop :=
  (a = none ∧ len = 0 ∧ cap = 0) ∨
  ∃ x, a = some x ∧ len ≤ cap ∧ cap ≤ maxLen ∧ ∀ i, i < len → ∀ j l, ls[j]? = some l → ∃ v, w.cell? (x.add (i * ls.length + j)) = some v ∧ l.ok v

theorem IsTab.small {ls : List Leaf} {w : World} {a : Option Addr} {len cap : Nat} (h : IsTab ls w a len cap) : len ≤ maxLen := by
  rcases h with ⟨-, rfl, -⟩ | ⟨x, ha, h1, h2, -⟩
  · exact Nat.zero_le _
  · omega

theorem spot_of_cell {w : World} {x : Addr} {v : Value} (h : w.cell? x = some v) : x.spot = none := by
  unfold World.cell? at h
  split at h
  · split at h
    · cases h
    · rename_i hs; simpa using hs
  · cases h
theorem cell_at {w : World} {x : Addr} {v : Value} (m j : Nat) (h : w.cell? (x.add (m + j)) = some v) : w.cell? ⟨(x.add m).block, (x.add m).off + j, none⟩ = some v := by
  have e : x.add (m + j) = ⟨(x.add m).block, (x.add m).off + j, none⟩ := by
    have hs := spot_of_cell h
    cases x
    unfold Addr.add at hs ⊢
    by_cases hm : m = 0 <;> by_cases hj : j = 0 <;> simp_all [Nat.add_assoc]
  rw [← e]; exact h

section
variable {H : Type} {enc : TypeId × Value → H} {P : Program} {w : World} {base : Nat} {spare : Nat → Bool} {held : Bool}
theorem leaf_of_trod {l : Leaf} {t : TypeId} (hl : l.fits P t = true) {fuel : Nat} {v : Value} {x : DataW H × List MemPlace} (h : DataW.trod enc P w base spare held fuel t [v] = some x) : l.ok v := by
  cases l with
  | i k =>
    unfold Leaf.fits at hl
    split at hl <;> simp_all
    rename_i k' hu
    obtain ⟨n, hn, -, hw⟩ := DataW.trod_int hu h
    simp at hn
    exact ⟨n, hn, hw⟩
  | b =>
    unfold Leaf.fits at hl
    split at hl <;> simp_all
    rename_i hu
    obtain ⟨n, hn, -⟩ := DataW.trod_bool hu h
    simp at hn
    exact ⟨n, hn⟩
  | s =>
    unfold Leaf.fits at hl
    split at hl <;> simp_all
    rename_i hu
    obtain ⟨n, hn, -, hw⟩ := DataW.trod_string hu h
    simp at hn
    exact ⟨n, hn, hw⟩

theorem open_tab {t e : TypeId} {fs : Array Field} (ls : List Leaf) {fuel : Nat} {a : Option Addr} {len cap : Nat} {x : DataW H × List MemPlace} (ht : P.underlying t = some (.slice e)) (he : P.underlying e = some (.struct fs))
    (hC : P.cellsOf e = ls.length) (hf : leavesFit P fs ls = true) (h : DataW.trod enc P w base spare held fuel t [.slice a len cap] = some x) : IsTab ls w a len cap := by
  rcases open_slice ht h with ⟨h0, -⟩ | ⟨y, len', cap', m, n, D, Pl, hcs, hb, hl, hm, hmm, hx, hi⟩
  · simp at h0
    exact .inl h0
  · simp at hcs
    obtain ⟨rfl, rfl, rfl⟩ := hcs
    refine .inr ⟨y, rfl, hl, hm, fun i hil j l hj => ?_⟩
    obtain ⟨cs', hc, htr⟩ := hi i (by subst hmm; split <;> omega)
    rw [hC] at hc
    obtain ⟨-, hcl, hat⟩ := World.cells?_some hc
    obtain ⟨ys, n', -, -, hlen, hyl, hfd⟩ := DataW.trod_struct he htr
    have hjl : j < ls.length := (List.getElem?_eq_some_iff.1 hj).1
    have h1 := List.all_eq_true.1 hf j (List.mem_range.2 hjl)
    rw [hj] at h1
    cases hfj : fs[j]? with
    | none => simp [hfj] at h1
    | some f =>
      simp only [hfj, Bool.and_eq_true, decide_eq_true_eq] at h1
      obtain ⟨⟨ho, hk⟩, hlf⟩ := h1
      have h2 := hfd j f hfj
      rw [ho, hk, List.drop_eq_getElem_cons (by omega)] at h2
      have hys : ∃ z, ys[j]? = some z := by
        refine ⟨_, List.getElem?_eq_getElem ?_⟩
        have := (Array.getElem?_eq_some_iff.1 hfj).1
        omega
      obtain ⟨z, hz⟩ := hys
      rw [hz, List.take_succ_cons, List.take_zero] at h2
      refine ⟨cs'[j]'(by omega), ?_, leaf_of_trod hlf h2⟩
      have h3 := hat j hjl
      rw [List.getElem?_eq_getElem (by omega)] at h3
      rw [← h3, Go.Deep.add_add]
end
end Go.Proofs.YtnbdafmjcmmfpaaGreat
