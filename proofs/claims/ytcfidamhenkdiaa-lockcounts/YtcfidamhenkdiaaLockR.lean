/-
  A lock in a loop over acts.
-/
import Derived.Test.YtcfidamhenkdiaaLockWalks4
import Derived.Test.YtcfidamhenkdiaaIsTab
import Derived.Test.YtcfidamhenkdiaaPieceRet
import Derived.Test.YtcfidamhenkdiaaHeld
import Derived.Deep.QuietTactic
import Derived.BigQuiet
import Derived.Deep.Cut
import Derived.Deep.CutRange
import Derived.Deep.CutBlock
import Derived.RegionTactic
import Derived.BigRegion
namespace Go.Proofs.Ytcfidamhenkdiaa
open Go.RowKit
set_option linter.unusedVariables false
set_option linter.unusedSimpArgs false
attribute [local go_sem] Oper.semAt_some

/-- a lock that was made within the call, of at most m turns -/
structure LkR (w W : World) (b : Nat) (q : Lk) (m : Nat) : Prop where
  l : IsLk W b q
  n : q.n ≤ m
  c : Ch Nil w W
  hb : w.heap.size ≤ b
section
variable {w W W1 : World} {b m m' : Nat} {q : Lk}
theorem LkR.up (h : LkR w W b q m) : ∀ i, i < w.heap.size → One b i → Nil i := fun i hi e => by have := h.hb; have : i = b := e; omega
theorem LkR.turned (h : LkR w W b q m) {q' : Lk} (k : IsLk W1 b q') (c : Ch (One b) W W1) (hn : q'.n ≤ m') : LkR w W1 b q' m' := ⟨k, hn, h.c.then c h.up, h.hb⟩
theorem LkR.more (h : LkR w W b q m) (hm : m ≤ m') : LkR w W b q m' := ⟨h.l, Nat.le_trans h.n hm, h.c, h.hb⟩
end
theorem tab_act10 {w : World} {ad : Option Addr} {len cap k : Nat} (hv : IsTab [.i .i64, .b] w ad len cap) (hk : k < len) : ∃ (x : Addr) (who : Int) (lv : Bool), ad = some x ∧ len ≤ cap ∧ cap ≤ maxLen ∧ w.cell? (x.add (k * 2)) = some (.int .i64 who) ∧ w.cell? ⟨(x.add (k * 2)).block, (x.add (k * 2)).off + 1, none⟩ = some (.bool lv) ∧ -9223372036854775808 ≤ who ∧ who ≤ 9223372036854775807 := by
  rcases hv with ⟨-, h0, -⟩ | ⟨x, rfl, hcap1, hcap2, hx⟩
  · omega
  obtain ⟨_, q0, y0, rfl, wy⟩ := hx k hk 0 _ rfl
  obtain ⟨_, q1, y1, rfl⟩ := hx k hk 1 _ rfl
  obtain ⟨b1, b2⟩ := bounds_i64 wy
  exact ⟨x, y0, y1, rfl, hcap1, hcap2, q0, cell_at (k * 2) 1 q1, by omega, by omega⟩
theorem tryK_yes {q : Lk} {who : Int} (h : opn q.t who = true) : tryK q who = ⟨who, true, q.n + 1⟩ := by unfold tryK; rw [if_pos h]
theorem tryK_no {q : Lk} {who : Int} (h : opn q.t who = false) : tryK q who = q := by unfold tryK; rw [if_neg (by rw [h]; simp)]
theorem leaveK_yes {q : Lk} {who : Int} (h : goes q who = true) : leaveK q who = ⟨0, false, q.n⟩ := by unfold leaveK; rw [if_pos h]
theorem leaveK_no {q : Lk} {who : Int} (h : goes q who = false) : leaveK q who = q := by unfold leaveK; rw [if_neg (by rw [h]; simp)]
end Go.Proofs.Ytcfidamhenkdiaa
