/-
  A wheel in memory, of ints: its time, its levels, what lies beyond, its entries; one row turned.
-/
import Derived.Test.YtkfknafgknppdaaDoorLevelPTake
import Derived.Test.YtkfknafgknppdaaDoorListPDrain
import Derived.Test.YtkfknafgknppdaaDoorWheelSets
namespace Go.Proofs.YtkfknafgknppdaaDoor.LP
open Go.RowKit Verge
set_option linter.unusedVariables false
/-- an entry -/
structure IsE (w : World) (x : Ent) : Prop where
  d : w.cell? ⟨x.e, 0, none⟩ = some (.int .u64 (x.d : Nat))
  u : w.cell? ⟨x.e, 1, none⟩ = some (.int .i64 x.u)
  c : w.cell? ⟨x.e, 2, none⟩ = some (.int .u64 (x.d : Nat))
  n : w.cell? ⟨x.e, 3, none⟩ = some (.pointer (some ⟨x.e + 1, 0, none⟩))
  k : Blk w x.e
/-- a wheel: its time, the entries of each place in order (64 times the level, and the slot; 256: beyond), all that were made -/
structure IsW (w : World) (g : Wh) (now : Nat) (R : Nat → List Ent) (P : List Ent) : Prop where
  t : w.cell? ⟨g.wb, 0, none⟩ = some (.int .u64 (now : Nat))
  p : ∀ h, h < 4 → w.cell? ⟨g.wb, 1 + h, none⟩ = some (.pointer (some ⟨g.vb h, 0, none⟩))
  b : w.cell? ⟨g.wb, 5, none⟩ = some (.pointer (some ⟨g.lb, 0, none⟩))
  k : Blk w g.wb
  v : ∀ h, h < 4 → IsLv w (g.vb h) (g.hd h) (nrow R h) pre
  l : IsL w g.lb ((R 256).map nd) pre
  e : ∀ x, x ∈ P → IsE w x
  f : ∀ x, x ∈ P → (∀ p, p ≤ 256 → x ∉ R p) → IsN w (x.e + 1) x.e none none none
  x : WFix g P
  y : RFix R P
  nl : now < 18446744073709551616
  dl : ∀ x, x ∈ P → x.d < 18446744073709551616
section
variable {S : Nat → Prop} {w w' : World} {g : Wh} {now : Nat} {R : Nat → List Ent} {P : List Ent} {x : Ent}
theorem IsE.kept (h : IsE w x) (c : Ch S w w') (hn : ¬ S x.e) : IsE w' x := ⟨c.keeps h.d hn, c.keeps h.u hn, c.keeps h.c hn, c.keeps h.n hn, h.k.kept c hn⟩
theorem lvB_cb {h k : Nat} (hh : h < 4) (hk : LvB (g.vb h) (g.hd h) (nrow R h) k) : CB g R h k := by
  rcases hk with rfl | ⟨i, hi, (rfl | hk)⟩
  · exact .inl (.inl ⟨hh, .inl rfl⟩)
  · exact .inl (.inl ⟨hh, .inr ⟨i, hi, rfl⟩⟩)
  · rw [nrow_at hi] at hk
    obtain ⟨x, hx, rfl⟩ := List.mem_map.1 hk
    exact .inr ⟨64 * h + i, by omega, by omega, x, hx, rfl⟩
theorem lB_cb {k : Nat} (hk : LB g.lb ((R 256).map nd) k) : CB g R 4 k := by
  rcases hk with rfl | hk
  · exact .inl (.inr ⟨rfl, rfl⟩)
  · obtain ⟨x, hx, rfl⟩ := List.mem_map.1 hk
    exact .inr ⟨256, by omega, by omega, x, hx, rfl⟩
theorem IsW.nd_ws (H : IsW w g now R P) (hx : x ∈ P) : WS g P (x.e + 1) := .inr (.inr ⟨x, hx, .inr rfl⟩)
theorem IsW.kept (H : IsW w g now R P) (c : Ch S w w') (hn : ∀ k, WS g P k → ¬ S k) : IsW w' g now R P := by
  have nw := hn _ (.inl rfl)
  refine ⟨c.keeps H.t nw, fun h hh => c.keeps (H.p h hh) nw, c.keeps H.b nw, H.k.kept c nw, fun h hh => (H.v h hh).kept c fun k hk => hn k (CB.ws H.y (lvB_cb hh hk)), H.l.kept c fun k hk => hn k (CB.ws H.y (lB_cb hk)), fun x hx => (H.e x hx).kept c (hn _ (.inr (.inr ⟨x, hx, .inl rfl⟩))), fun x hx hf => (H.f x hx hf).kept c (hn _ (H.nd_ws hx)), H.x, H.y, H.nl, H.dl⟩
theorem IsW.turned (H : IsW w g now R P) {p : Nat} (hp : p ≤ 256) {ys : List Ent} {N : Ent → Prop} (c : Ch (fun k => CB g R (p / 64) k ∨ ∃ x, N x ∧ k = x.e + 1) w w')
    (hN : ∀ x, N x → x ∈ P ∧ ∀ q, q ≤ 256 → x ∉ R q) (hy : ∀ x, x ∈ ys → x ∈ R p ∨ N x)
    (hv : p < 256 → IsLv w' (g.vb (p / 64)) (g.hd (p / 64)) (upd (nrow R (p / 64)) (p % 64) (ys.map nd)) pre) (hl : p = 256 → IsL w' g.lb (ys.map nd) pre)
    (hf : ∀ x, x ∈ P → x ∉ ys → x ∈ R p ∨ N x → IsN w' (x.e + 1) x.e none none none) : IsW w' g now (upd R p ys) P := by
  have F := H.x
  have G := H.y
  have nw : ¬ (CB g R (p / 64) g.wb ∨ ∃ x, N x ∧ g.wb = x.e + 1) := by
    rintro (e | ⟨x, hx, e⟩)
    · exact CB.wb F G e
    · exact (F.oe x (hN x hx).1).2.1 e.symm
  have ne : ∀ x, x ∈ P → ¬ (CB g R (p / 64) x.e ∨ ∃ y, N y ∧ x.e = y.e + 1) := by
    rintro x hx (e | ⟨y, hy, e⟩)
    · exact CB.ent F G hx e
    · exact F.on x y hx (hN y hy).1 e
  have nc : ∀ h k, h ≠ p / 64 → CB g R h k → ¬ (CB g R (p / 64) k ∨ ∃ y, N y ∧ k = y.e + 1) := by
    rintro h k hh hk (e | ⟨y, hy, rfl⟩)
    · exact hh (CB.eq F G hk e)
    · exact CB.free F G (hN y hy).1 (hN y hy).2 hk
  refine ⟨c.keeps H.t nw, fun h hh => c.keeps (H.p h hh) nw, c.keeps H.b nw, H.k.kept c nw, fun h hh => ?_, ?_, fun x hx => (H.e x hx).kept c (ne x hx), fun x hx hfree => ?_, F, G.upd hp hN hy, H.nl, H.dl⟩
  · by_cases e : p / 64 = h
    · subst e
      rw [nrow_upd (by omega)]
      exact hv (by omega)
    · rw [nrow_same e]
      exact (H.v h hh).kept c fun k hk => nc h k (fun e' => e e'.symm) (lvB_cb hh hk)
  · by_cases e : p = 256
    · subst e; rw [upd_same]; exact hl rfl
    · rw [upd_other _ _ _ _ (fun e' => e e'.symm)]
      exact H.l.kept c fun k hk => nc 4 k (by omega) (lB_cb hk)
  · have hny : x ∉ ys := by have := hfree p hp; rwa [upd_same] at this
    by_cases hc : x ∈ R p ∨ N x
    · exact hf x hx hny hc
    · have hr : ∀ q, q ≤ 256 → x ∉ R q := fun q hq => by
        by_cases e : q = p
        · subst e; exact fun e => hc (.inl e)
        · have := hfree q hq; rwa [upd_other _ _ _ _ e] at this
      refine (H.f x hx hr).kept c ?_
      rintro (e | ⟨y, hy, e⟩)
      · exact CB.free F G hx hr e
      · obtain rfl := F.oi x y hx (hN y hy).1 (by omega)
        exact hc (.inr hy)
end
end Go.Proofs.YtkfknafgknppdaaDoor.LP
