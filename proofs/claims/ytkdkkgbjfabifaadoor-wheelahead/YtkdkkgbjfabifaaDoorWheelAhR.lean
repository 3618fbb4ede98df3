/-
  WheelAhead: plain facts on the hand; how many stand in the first places; what holds in its loops.
-/
import Derived.Test.YtkdkkgbjfabifaaDoorWheelQ6
import Derived.Test.YtkdkkgbjfabifaaDoorIsTab
namespace Verge
set_option linter.unusedVariables false
/-- how many the first p places have, and what lies beyond -/
def nS (Q : List Ent) (now : Nat) : Nat → Nat
  | 0 => (rowsOf Q now 256).length
  | p + 1 => nS Q now p + (rowsOf Q now p).length
theorem nS_cons (Q : List Ent) (x : Ent) (now : Nat) : ∀ p, nS (x :: Q) now p = nS Q now p + (if spotN x.d now = 256 then 1 else 0) + (if spotN x.d now < p then 1 else 0)
  | 0 => by
    unfold nS
    have : (rowsOf (x :: Q) now 256).length = (rowsOf Q now 256).length + (if spotN x.d now = 256 then 1 else 0) := by
      unfold rowsOf; rw [List.filter_cons]; split <;> rename_i h <;> simp at h <;> simp [h]
    rw [this, if_neg (show ¬ spotN x.d now < 0 by omega), Nat.add_zero]
  | p + 1 => by
    unfold nS
    rw [nS_cons Q x now p]
    have : (rowsOf (x :: Q) now p).length = (rowsOf Q now p).length + (if spotN x.d now = p then 1 else 0) := by
      unfold rowsOf; rw [List.filter_cons]; split <;> rename_i h <;> simp at h <;> simp [h]
    rw [this]
    split <;> split <;> split <;> split <;> omega
theorem nS_all (now : Nat) : ∀ Q : List Ent, nS Q now 256 = Q.length
  | [] => by
    have : ∀ p, nS [] now p = 0 := fun p => by
      induction p with
      | zero => rfl
      | succ p ih => unfold nS; rw [ih]; rfl
    rw [this]; rfl
  | x :: Q => by
    rw [nS_cons, nS_all now Q, List.length_cons]
    have := spotN_le x.d now
    split <;> split <;> omega
theorem nS_le (Q : List Ent) (now p : Nat) (hp : p ≤ 256) : nS Q now p ≤ Q.length := by
  have mono : ∀ n, nS Q now p ≤ nS Q now (p + n) := fun n => by
    induction n with
    | zero => exact Nat.le_refl _
    | succ n ih => show _ ≤ nS Q now (p + n) + _; omega
  have := mono (256 - p)
  rw [show p + (256 - p) = 256 by omega, nS_all] at this
  exact this
/-- an entry that stands at a level: its digit there, ahead of the hand; its higher digits -/
theorem spot_ahead {d now h s : Nat} (hd : now < d) (hh : h < 4) (hs : s < 64) (e : spotN d now = 64 * h + s) : dg now h < s ∧ dg d h = s ∧ ct d (h + 1) = ct now (h + 1) := by
  have key : d / 64 ^ (h + 1) = now / 64 ^ (h + 1) ∧ dg d h = s ∧ dg now h < s := by
    have : h = 0 ∨ h = 1 ∨ h = 2 ∨ h = 3 := by omega
    rcases this with rfl | rfl | rfl | rfl
    · rw [dg0, dg0]; simp only [show (64 : Nat) ^ (0 + 1) = 64 from rfl]
      unfold spotN at e
      split at e
      · omega
      · split at e
        · omega
        · split at e
          · omega
          · split at e <;> omega
    · rw [dg1, dg1]; simp only [show (64 : Nat) ^ (1 + 1) = 4096 from rfl]
      unfold spotN at e
      split at e
      · omega
      · split at e
        · omega
        · split at e
          · omega
          · split at e <;> omega
    · rw [dg2, dg2]; simp only [show (64 : Nat) ^ (2 + 1) = 262144 from rfl]
      unfold spotN at e
      split at e
      · omega
      · split at e
        · omega
        · split at e
          · omega
          · split at e <;> omega
    · rw [dg3, dg3]; simp only [show (64 : Nat) ^ (3 + 1) = 16777216 from rfl]
      unfold spotN at e
      split at e
      · omega
      · split at e
        · omega
        · split at e
          · omega
          · split at e <;> omega
  exact ⟨key.2.2, key.2.1, (ct_eq_iff d now (h + 1)).2 key.1⟩
theorem spot_far {d now : Nat} (hd : d < 18446744073709551616) (hn : now < 18446744073709551616) (e : spotN d now = 256) : 4 ≤ ap d now 11 := by
  have h4 := ap_div d now 4 hd hn (by omega)
  simp only [show (64 : Nat) ^ 4 = 16777216 from rfl] at h4
  refine Classical.byContradiction fun hn' => ?_
  have e4 := h4.1 (by omega)
  unfold spotN at e
  split at e
  · omega
  · split at e
    · omega
    · split at e
      · omega
      · (first | (rw [if_pos e4] at e; omega) | omega)
end Verge
namespace Go.Proofs.YtkdkkgbjfabifaaDoor
open Go.RowKit Verge LQ
set_option linter.unusedVariables false
/-- a wheel of at most c entries, each with its deadline for its value -/
structure AhR (w : World) (g : Wh) (c now : Nat) (Q P : List Ent) (W : World) : Prop where
  d : Drv w W g now Q P
  n : Q.length ≤ c
  u : ∀ x, x ∈ Q → x.u = (x.d : Int)
section
variable {w W W' : World} {g : Wh} {c now : Nat} {Q P : List Ent}
theorem AhR.quiet (h : AhR w g c now Q P W) (ch : Ch Nil W W') : AhR w g c now Q P W' := ⟨h.d.quiet ch, h.n, h.u⟩
theorem AhR.mono {c' : Nat} (h : AhR w g c now Q P W) (hc : c ≤ c') : AhR w g c' now Q P W := ⟨h.d, Nat.le_trans h.n hc, h.u⟩
theorem tab_act {ad : Option Addr} {len cap k : Nat} (hv : IsTab [.i .i64, .i .i64, .i .u64] w ad len cap) (hk : k < len) : ∃ (x : Addr) (y0 y1 : Int) (d2 : Nat), ad = some x ∧ len ≤ cap ∧ cap ≤ maxLen ∧ w.cell? (x.add (k * 3)) = some (.int .i64 y0) ∧ w.cell? ⟨(x.add (k * 3)).block, (x.add (k * 3)).off + 1, none⟩ = some (.int .i64 y1) ∧ w.cell? ⟨(x.add (k * 3)).block, (x.add (k * 3)).off + 2, none⟩ = some (.int .u64 (d2 : Nat)) ∧ d2 < 18446744073709551616 ∧ y1 ≤ 9223372036854775807 := by
  rcases hv with ⟨-, h0, -⟩ | ⟨x, rfl, hcap1, hcap2, hx⟩
  · omega
  obtain ⟨_, q0, y0, rfl, -⟩ := hx k hk 0 _ rfl
  obtain ⟨_, q1, y1, rfl, wy1⟩ := hx k hk 1 _ rfl
  obtain ⟨_, q2, y2, rfl, wy2⟩ := hx k hk 2 _ rfl
  obtain ⟨a1, a2⟩ := bounds_u64 wy2
  obtain ⟨b1, b2⟩ := bounds_i64 wy1
  obtain ⟨d2, rfl⟩ := Int.eq_ofNat_of_zero_le a1
  exact ⟨x, y0, y1, d2, rfl, hcap1, hcap2, q0, cell_at (k * 3) 1 q1, cell_at (k * 3) 2 q2, by omega, b2⟩
theorem ahR_cell {p i : Nat} {a : Option Addr} {b n cap : Nat} {x : Ent} (h : AhR w g c now Q P W) (r : RowU W (some ⟨b, 0, none⟩) n cap (rowsOf Q now p)) (hi : i < n) (hx : (rowsOf Q now p)[i]? = some x) : W.cell? ⟨b, i, none⟩ = some (.int .u64 (x.d : Nat)) := by
  have := Row.cell r i (by omega)
  rw [valU_get hx, h.u x (mem_rowsOf.1 (List.mem_of_getElem? hx)).1] at this
  exact this
end
end Go.Proofs.YtkdkkgbjfabifaaDoor
