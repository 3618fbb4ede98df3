/-
  A row of uint64s of one's own, as an array: read, exchanged; cmp.Less.
-/
import Derived.Test.YtpihlchocjdpmaaOwnRow
import Derived.Sort.LotA
import Derived.Sort.Row
import Derived.WalkKit
import Derived.CellFam
import Derived.Deep.Draws
import Derived.Deep.QuietTactic
import Derived.BigQuiet
import Derived.BigGuard
import Derived.BigCall
import Derived.BigRegion
namespace Verge
def ltN (x y : Nat) : Bool := decide (x < y)
theorem swo_ltN : Go.Sort.SWO ltN where
  irrefl x := by simp [ltN]
  trans x y z h1 h2 := by simp [ltN] at *; omega
  ntrans x y z h1 h2 := by simp [ltN] at *; omega
end Verge
namespace Go.Proofs.Ytpihlchocjdpmaa
open Go.RowKit Go.Sort Verge
set_option linter.unusedVariables false

/-- what place i of the row holds -/
def uf (d : Array Nat) (i : Nat) : Value := .int .u64 ((d[i]! : Nat) : Int)
/-- block g has a row that holds d; nothing else has turned since w0 -/
structure UR (w0 : World) (g cap n : Nat) (d : Array Nat) (w : World) : Prop where
  row : Row w 23 1 (some ⟨g, 0, none⟩) n cap (uf d)
  n : d.size = n
  c : Ch (One g) w0 w
section
variable {w0 w w' : World} {g cap n : Nat} {d : Array Nat}
theorem UR.cell (h : UR w0 g cap n d w) (i : Nat) (hi : i < n) : w.cell? ⟨g, i, none⟩ = some (.int .u64 ((d[i]! : Nat) : Int)) := h.row.cell i (by omega)
theorem UR.fz (h : UR w0 g cap n d w) (i : Nat) : w.frozen? ⟨g, i, none⟩ = false := h.row.frozen i
theorem UR.nil (h : UR w0 g cap n d w) (c : Ch Nil w w') : UR w0 g cap n d w' :=
  ⟨h.row.kept c (fun _ _ e => e), h.n, h.c.then c (fun _ _ e => e.elim)⟩
theorem UR.start {wz : World} (h : UR wz g cap n d w) : UR w g cap n d w := ⟨h.row, h.n, Ch.refl _ _⟩
theorem UR.back {d' : Array Nat} (h : UR w0 g cap n d w) (k : UR w g cap n d' w') : UR w0 g cap n d' w' := ⟨k.row, k.n, h.c.trans k.c⟩
theorem UR.swp (h : UR w0 g cap n d w) {i j : Nat} (hi : i < n) (hj : j < n) :
    UR w0 g cap n (swp d i j) ((w.setCell ⟨g, i, none⟩ (.int .u64 ((d[j]! : Nat) : Int))).setCell ⟨g, j, none⟩ (.int .u64 ((d[i]! : Nat) : Int))) := by
  have hs := h.n
  have h1 := h.row.set i (by omega) (.int .u64 ((d[j]! : Nat) : Int)) (uf (d.setIfInBounds i d[j]!)) (by
    unfold uf; rw [getElem!_set_same d i _ (by omega)]) (fun k hk => by unfold uf; rw [getElem!_set_other d i k _ hk])
  have h2 := h1.set j (by omega) (.int .u64 ((d[i]! : Nat) : Int)) (uf (Sort.swp d i j)) (by
    unfold uf Sort.swp; rw [getElem!_set_same _ j _ (by simpa using (by omega : j < d.size))]) (fun k hk => by unfold uf Sort.swp; rw [getElem!_set_other _ j k _ hk])
  exact ⟨h2, by rw [size_swp]; exact hs, (h.c.setB i _).setB j _⟩
/-- the two stores of an exchange, as a drawn region leaves them -/
theorem UR.swpD (h : UR w0 g cap n d w) {i j : Nat} (hi : i < n) (hj : j < n) {x y : Nat} (hx : x = d[i]!) (hy : y = d[j]!) :
    UR w0 g cap n (Sort.swp d i j) (((w.setCell ⟨g, i, none⟩ (.int .u64 (y : Int))).setCell ⟨g, j, none⟩ (.int .u64 (x : Int))).drew) := by
  subst hx hy
  exact (h.swp hi hj).nil (Ch.refl _ _).drew
theorem UR.drewN (h : UR w0 g cap n d w) (q : Nat) : UR w0 g cap n d (w.drewN q) := h.nil ((Ch.refl _ _).drewN q)

theorem isNaN_of (x : Nat) (w : World) : Calls Try.prog 55 #[.int .u64 (x : Nat)] w fun e w' => e = .returned (.bool false) ∧ w' = w := by
  go_enter Try.func55, Try.ntmps55
  go_wp2
  go_ret
  exact ⟨by simp, rfl⟩
theorem less_of (x y : Nat) (w : World) : Calls Try.prog 44 #[.int .u64 (x : Nat), .int .u64 (y : Nat)] w fun e w' => e = .returned (.bool (ltN x y)) ∧ w' = w := by
  have h : decide ((x : Int) < (y : Int)) = ltN x y := by unfold ltN; rw [Bool.eq_iff_iff, decide_eq_true_iff, decide_eq_true_iff]; omega
  have H := Lib.hid h
  clear h
  go_enter Try.func44, Try.ntmps44
  go_wp2_with (go_at_call 55; refine (isNaN_of _ _).mono ?_; rintro e w' ⟨rfl, rfl⟩)
  go_ret
  exact ⟨by rw [← H.out]; simp, rfl⟩
end
end Go.Proofs.Ytpihlchocjdpmaa
