/-
  Two wheels, the second's times more by as many spans of all four levels: what they tell.
-/
import Derived.Test.YtkdkkgbjfabifaaDoorWheelNums
import Derived.Test.YtkdkkgbjfabifaaDoorIsRow
namespace Go.Proofs.YtkdkkgbjfabifaaDoor
open Go.RowKit Verge LP
set_option linter.unusedVariables false
/-- two rows of entries, the second's deadlines more by as much -/
def Shf (by_ : Nat) (A B : List Ent) : Prop := B.map (fun x => (x.d, x.u)) = A.map (fun x => (x.d + by_, x.u))
theorem Shf.nil (by_ : Nat) : Shf by_ [] [] := by unfold Shf; rw [List.map_nil, List.map_nil]
theorem Shf.filter {by_ : Nat} {A B : List Ent} (h : Shf by_ A B) (p q : Nat → Bool) (hpq : ∀ d, q (d + by_) = p d) : Shf by_ (A.filter fun x => p x.d) (B.filter fun x => q x.d) := by
  unfold Shf at *
  have e1 : (B.filter fun x => q x.d).map (fun x => (x.d, x.u)) = (B.map (fun x => (x.d, x.u))).filter (fun y => q y.1) := by rw [List.filter_map]; rfl
  have e2 : (A.filter fun x => p x.d).map (fun x => (x.d + by_, x.u)) = (A.map (fun x => (x.d + by_, x.u))).filter (fun y => q y.1) := by
    rw [List.filter_map]; congr 1; refine List.filter_congr fun x _ => ?_; exact (hpq x.d).symm
  rw [e1, e2, h]
theorem Shf.us {by_ : Nat} {A B : List Ent} (h : Shf by_ A B) : B.map (·.u) = A.map (·.u) := by
  have := congrArg (List.map Prod.snd) h
  simpa [List.map_map, Function.comp_def] using this
theorem Shf.len {by_ : Nat} {A B : List Ent} (h : Shf by_ A B) : B.length = A.length := by
  have := congrArg List.length h; simpa using this
theorem Shf.more {by_ : Nat} {A B : List Ent} (h : Shf by_ A B) (x y : Ent) (hd : y.d = x.d + by_) (hu : y.u = x.u) : Shf by_ (A ++ [x]) (B ++ [y]) := by
  unfold Shf at *; rw [List.map_append, List.map_append, h]; simp [hd, hu]
theorem Shf.due {by_ t : Nat} {A B : List Ent} (h : Shf by_ A B) : Shf by_ (dueQ A t) (dueQ B (t + by_)) :=
  h.filter (fun d => decide (d = t)) (fun d => decide (d = t + by_)) (fun d => by simp)
theorem Shf.left {by_ t : Nat} {A B : List Ent} (h : Shf by_ A B) : Shf by_ (leftQ A t) (leftQ B (t + by_)) :=
  h.filter (fun d => decide (d ≠ t)) (fun d => decide (d ≠ t + by_)) (fun d => by simp)
theorem spot_shift (d now s : Nat) : spotN (d + s * 16777216) (now + s * 16777216) = spotN d now := by
  unfold spotN
  have e1 : (d + s * 16777216) / 64 = d / 64 + s * 262144 := by omega
  have f1 : (now + s * 16777216) / 64 = now / 64 + s * 262144 := by omega
  have e2 : (d + s * 16777216) / 4096 = d / 4096 + s * 4096 := by omega
  have f2 : (now + s * 16777216) / 4096 = now / 4096 + s * 4096 := by omega
  have e3 : (d + s * 16777216) / 262144 = d / 262144 + s * 64 := by omega
  have f3 : (now + s * 16777216) / 262144 = now / 262144 + s * 64 := by omega
  have e4 : (d + s * 16777216) / 16777216 = d / 16777216 + s := by omega
  have f4 : (now + s * 16777216) / 16777216 = now / 16777216 + s := by omega
  have g0 : (d + s * 16777216) % 64 = d % 64 := by omega
  rw [e1, f1, e2, f2, e3, f3, e4, f4, g0]
  have c1 : (d / 64 + s * 262144 = now / 64 + s * 262144) ↔ d / 64 = now / 64 := by omega
  have c2 : (d / 4096 + s * 4096 = now / 4096 + s * 4096) ↔ d / 4096 = now / 4096 := by omega
  have c3 : (d / 262144 + s * 64 = now / 262144 + s * 64) ↔ d / 262144 = now / 262144 := by omega
  have c4 : (d / 16777216 + s = now / 16777216 + s) ↔ d / 16777216 = now / 16777216 := by omega
  have g1 : (d / 64 + s * 262144) % 64 = d / 64 % 64 := by omega
  have g2 : (d / 4096 + s * 4096) % 64 = d / 4096 % 64 := by omega
  have g3 : (d / 262144 + s * 64) % 64 = d / 262144 % 64 := by omega
  simp only [c1, c2, c3, c4, g1, g2, g3]
theorem Shf.rows {s now p : Nat} {A B : List Ent} (h : Shf (s * 16777216) A B) : Shf (s * 16777216) (rowsOf A now p) (rowsOf B (now + s * 16777216) p) :=
  h.filter (fun d => decide (spotN d now = p)) (fun d => decide (spotN d (now + s * 16777216) = p)) (fun d => by rw [spot_shift])

/-- both wheels, side by side -/
structure Both (w0 : World) (ga gb : Wh) (n s now : Nat) (Qa Pa Qb Pb : List Ent) (w : World) : Prop where
  a : Drv w0 w ga now Qa Pa
  b : Drv w0 w gb (now + s * 16777216) Qb Pb
  d : ∀ k, WS ga Pa k → ¬ WS gb Pb k
  s : Shf (s * 16777216) Qa Qb
  n : Qa.length ≤ n
theorem apart_more {ga gb : Wh} {Pa Pb : List Ent} {x : Ent} {B : Nat} (h : ∀ k, WS ga Pa k → ¬ WS gb Pb k) (hb : ∀ k, WS gb Pb k → k < B) (hx : B ≤ x.e) : ∀ k, WS ga (Pa ++ [x]) k → ¬ WS gb Pb k := by
  intro k hk hk'
  have := hb k hk'
  rcases WS.more hk with e | e | e
  · exact h k e hk'
  · omega
  · omega

end Go.Proofs.YtkdkkgbjfabifaaDoor
