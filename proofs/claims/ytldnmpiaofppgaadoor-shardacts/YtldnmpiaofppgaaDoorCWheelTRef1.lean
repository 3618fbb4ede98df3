import Derived.Test.YtldnmpiaofppgaaDoorK09
/-
  The document's wheel in memory (package vergeref08): a row of entries, each with its number, its deadline, its place; its At, Remove, Next, Out.
-/
namespace Verge
/-- an entry of the document's: its number, its deadline, its place (64 times the level, and the slot; 256: beyond) -/
structure Dn where
  u : Int
  d : Nat
  p : Nat
  deriving DecidableEq
/-- the least of their deadlines -/
def MinD (l : List Dn) (m : Nat) : Prop := (∃ x, x ∈ l ∧ x.d = m) ∧ ∀ x, x ∈ l → m ≤ x.d
end Verge
namespace Go.Proofs.YtldnmpiaofppgaaDoor
open Go.RowKit Verge Go.Proofs.YtldnmpiaofppgaaDoor.LT
attribute [local go_sem] Oper.semAt_some
set_option linter.unusedVariables false
set_option linter.unusedSimpArgs false
def dcell (x : Dn) (j : Nat) : Value := if j = 0 then .int .i64 x.u else if j = 1 then .int .u64 (x.d : Nat) else if j = 2 then .int .i64 ((x.p / 64 : Nat) : Int) else .int .i64 ((x.p % 64 : Nat) : Int)
def dval (l : List Dn) (i : Nat) : Value := dcell (l.getD (i / 4) ⟨0, 0, 0⟩) (i % 4)
/-- a row of the document's entries -/
abbrev RowD (w : World) (a : Option Addr) (n cap : Nat) (l : List Dn) : Prop := Row w 89 4 a n cap (dval l)
/-- the document's wheel -/
structure RefW (zc : Option Value) (w : World) (rb now : Nat) (l : List Dn) (ar : Option Addr) (cr : Nat) : Prop where
  t : w.cell? ⟨rb, 0, none⟩ = some (.int .u64 (now : Nat))
  s : w.cell? ⟨rb, 1, none⟩ = some (.slice ar l.length cr)
  k : Blk w rb
  r : RowD w ar l.length cr l
  nb : ¬ OwnS ar rb
  z : w.cell? ⟨rb, 2, none⟩ = zc
def RS (rb : Nat) (ar : Option Addr) : Nat → Prop := fun k => k = rb ∨ OwnS ar k
section
variable {S : Nat → Prop} {zc : Option Value} {w w' : World} {rb now : Nat} {l : List Dn} {ar : Option Addr} {cr : Nat} {x : Dn}
theorem RefW.kept (h : RefW zc w rb now l ar cr) (c : Ch S w w') (hn : ∀ k, RS rb ar k → ¬ S k) : RefW zc w' rb now l ar cr :=
  ⟨c.keeps h.t (hn _ (.inl rfl)), c.keeps h.s (hn _ (.inl rfl)), h.k.kept c (hn _ (.inl rfl)), Row.kept h.r c (fun k hk => hn k (.inr hk)), h.nb, (c.cell (p := ⟨rb, 2, none⟩) h.k.lt (hn _ (.inl rfl))).trans h.z⟩
theorem RefW.lt (h : RefW zc w rb now l ar cr) {k : Nat} (hk : RS rb ar k) : k < w.heap.size := by
  rcases hk with rfl | hk
  · exact h.k.lt
  · exact Row.lt h.r k hk
theorem dval_at {k : Nat} (hx : l[k]? = some x) : dval l (k * 4) = .int .i64 x.u ∧ dval l (k * 4 + 1) = .int .u64 (x.d : Nat) ∧ dval l (k * 4 + 2) = .int .i64 ((x.p / 64 : Nat) : Int) ∧ dval l (k * 4 + 3) = .int .i64 ((x.p % 64 : Nat) : Int) := by
  have e : l.getD k ⟨0, 0, 0⟩ = x := by rw [List.getD_eq_getElem?_getD, hx]; rfl
  refine ⟨?_, ?_, ?_, ?_⟩ <;> unfold dval
  · rw [show k * 4 / 4 = k by omega, show k * 4 % 4 = 0 by omega, e]; rfl
  · rw [show (k * 4 + 1) / 4 = k by omega, show (k * 4 + 1) % 4 = 1 by omega, e]; rfl
  · rw [show (k * 4 + 2) / 4 = k by omega, show (k * 4 + 2) % 4 = 2 by omega, e]; rfl
  · rw [show (k * 4 + 3) / 4 = k by omega, show (k * 4 + 3) % 4 = 3 by omega, e]; rfl
theorem RowD.cells {b n cap k : Nat} (h : RowD w (some ⟨b, 0, none⟩) n cap l) (hk : k < n) (hx : l[k]? = some x) :
    w.cell? ⟨b, k * 4, none⟩ = some (.int .i64 x.u) ∧ w.cell? ⟨b, k * 4 + 1, none⟩ = some (.int .u64 (x.d : Nat)) ∧ w.cell? ⟨b, k * 4 + 2, none⟩ = some (.int .i64 ((x.p / 64 : Nat) : Int)) ∧ w.cell? ⟨b, k * 4 + 3, none⟩ = some (.int .i64 ((x.p % 64 : Nat) : Int)) := by
  obtain ⟨e0, e1, e2, e3⟩ := dval_at hx
  have h0 := Row.cell h (k * 4) (by omega)
  have h1 := Row.cell h (k * 4 + 1) (by omega)
  have h2 := Row.cell h (k * 4 + 2) (by omega)
  have h3 := Row.cell h (k * 4 + 3) (by omega)
  rw [e0] at h0; rw [e1] at h1; rw [e2] at h2; rw [e3] at h3
  exact ⟨h0, h1, h2, h3⟩
/-- one more in a row: its cells -/
theorem dval_old {i : Nat} (hi : i < l.length * 4) : dval (l ++ [x]) i = dval l i := by
  unfold dval
  rw [List.getD_eq_getElem?_getD, List.getD_eq_getElem?_getD, List.getElem?_append_left (by omega)]
theorem dval_new : ∀ (j : Nat) (v : Value), ([.int .i64 x.u, .int .u64 (x.d : Nat), .int .i64 ((x.p / 64 : Nat) : Int), .int .i64 ((x.p % 64 : Nat) : Int)] : List Value)[j]? = some v → dval (l ++ [x]) (l.length * 4 + j) = v := by
  intro j v hv
  obtain ⟨e0, e1, e2, e3⟩ := dval_at (l := l ++ [x]) (k := l.length) (x := x) (by simp)
  match j, hv with
  | 0, hv => simp at hv; subst hv; exact e0
  | 1, hv => simp at hv; subst hv; exact e1
  | 2, hv => simp at hv; subst hv; rw [e2]; simp
  | 3, hv => simp at hv; subst hv; rw [e3]; simp
  | n + 4, hv => simp at hv

end
end Go.Proofs.YtldnmpiaofppgaaDoor
