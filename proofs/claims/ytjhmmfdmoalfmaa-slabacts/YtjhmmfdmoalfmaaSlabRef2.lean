/-
  The document's requests (vergeref09) in memory: a row of structs, a copy of one of them.
-/
import Derived.Test.YtjhmmfdmoalfmaaSlabRef1
namespace Go.Proofs.Ytjhmmfdmoalfmaa
open Go.RowKit Verge
set_option linter.unusedVariables false
set_option linter.unusedSimpArgs false
/-- a request's copy -/
structure IsB (w : World) (B a se sl id pd : Nat) : Prop where
  a : w.cell? ⟨B, 0, none⟩ = some (.int .i64 (a : Nat))
  se : w.cell? ⟨B, 1, none⟩ = some (.int .i64 (se : Nat))
  sl : w.cell? ⟨B, 2, none⟩ = some (.int .i64 (sl : Nat))
  id : w.cell? ⟨B, 3, none⟩ = some (.int .u64 (id : Nat))
  pd : w.cell? ⟨B, 4, none⟩ = some (.int .u64 (pd : Nat))
  fa : w.frozen? ⟨B, 0, none⟩ = false
  fse : w.frozen? ⟨B, 1, none⟩ = false
  fsl : w.frozen? ⟨B, 2, none⟩ = false
  fid : w.frozen? ⟨B, 3, none⟩ = false
section
variable {S : Nat → Prop} {w w' : World} {B a se sl id pd : Nat}
theorem IsB.kept (h : IsB w B a se sl id pd) (c : Ch S w w') (hn : ¬ S B) : IsB w' B a se sl id pd := by
  have hl : B < w.heap.size := lt_of_cell h.a
  exact ⟨c.keeps h.a hn, c.keeps h.se hn, c.keeps h.sl hn, c.keeps h.id hn, c.keeps h.pd hn, (c.frozen (p := ⟨B, _, none⟩) hl hn).trans h.fa, (c.frozen (p := ⟨B, _, none⟩) hl hn).trans h.fse, (c.frozen (p := ⟨B, _, none⟩) hl hn).trans h.fsl, (c.frozen (p := ⟨B, _, none⟩) hl hn).trans h.fid⟩
theorem IsB.setA (h : IsB w B a se sl id pd) (v : Nat) : IsB (w.setCell ⟨B, 0, none⟩ (.int .i64 (v : Nat))) B v se sl id pd :=
  ⟨World.cell?_setCell_same _ _ _ h.a, (cell_ne (by omega) _).trans h.se, (cell_ne (by omega) _).trans h.sl, (cell_ne (by omega) _).trans h.id, (cell_ne (by omega) _).trans h.pd, (World.frozen?_setCell _ _ _ _).trans h.fa, (World.frozen?_setCell _ _ _ _).trans h.fse, (World.frozen?_setCell _ _ _ _).trans h.fsl, (World.frozen?_setCell _ _ _ _).trans h.fid⟩
theorem IsB.setSe (h : IsB w B a se sl id pd) (v : Nat) : IsB (w.setCell ⟨B, 1, none⟩ (.int .i64 (v : Nat))) B a v sl id pd :=
  ⟨(cell_ne (by omega) _).trans h.a, World.cell?_setCell_same _ _ _ h.se, (cell_ne (by omega) _).trans h.sl, (cell_ne (by omega) _).trans h.id, (cell_ne (by omega) _).trans h.pd, (World.frozen?_setCell _ _ _ _).trans h.fa, (World.frozen?_setCell _ _ _ _).trans h.fse, (World.frozen?_setCell _ _ _ _).trans h.fsl, (World.frozen?_setCell _ _ _ _).trans h.fid⟩
theorem IsB.setSl (h : IsB w B a se sl id pd) (v : Nat) : IsB (w.setCell ⟨B, 2, none⟩ (.int .i64 (v : Nat))) B a se v id pd :=
  ⟨(cell_ne (by omega) _).trans h.a, (cell_ne (by omega) _).trans h.se, World.cell?_setCell_same _ _ _ h.sl, (cell_ne (by omega) _).trans h.id, (cell_ne (by omega) _).trans h.pd, (World.frozen?_setCell _ _ _ _).trans h.fa, (World.frozen?_setCell _ _ _ _).trans h.fse, (World.frozen?_setCell _ _ _ _).trans h.fsl, (World.frozen?_setCell _ _ _ _).trans h.fid⟩
theorem IsB.setId (h : IsB w B a se sl id pd) (v : Nat) : IsB (w.setCell ⟨B, 3, none⟩ (.int .u64 (v : Nat))) B a se sl v pd :=
  ⟨(cell_ne (by omega) _).trans h.a, (cell_ne (by omega) _).trans h.se, (cell_ne (by omega) _).trans h.sl, World.cell?_setCell_same _ _ _ h.id, (cell_ne (by omega) _).trans h.pd, (World.frozen?_setCell _ _ _ _).trans h.fa, (World.frozen?_setCell _ _ _ _).trans h.fse, (World.frozen?_setCell _ _ _ _).trans h.fsl, (World.frozen?_setCell _ _ _ _).trans h.fid⟩
theorem isB_new (w : World) (a se sl id pd : Nat) (T : TypeId) : IsB (w.alloc (.cells #[.int .i64 (a : Nat), .int .i64 (se : Nat), .int .i64 (sl : Nat), .int .u64 (id : Nat), .int .u64 (pd : Nat)] T)) w.heap.size a se sl id pd := by
  constructor <;> simp [go_sem]
end
section
variable {S : Nat → Prop} {w w' : World} {vb lb n cnt np : Nat} {R : Nat → Rec} {Q Q' : Nat → Rq} {ar : Option Addr} {cr ga : Nat}
theorem rqV_at (Q : Nat → Rq) (k j : Nat) (hj : j < 5) : rqV Q (k * 5 + j) = rqCell (Q k) j := by
  unfold rqV
  rw [show (k * 5 + j) / 5 = k by omega, show (k * 5 + j) % 5 = j by omega]
/-- the cells of a request -/
theorem rq_cells (h : Row w 41 5 (some ⟨ga, 0, none⟩) np cr (rqV Q)) {k : Nat} (hk : k < np) :
    w.cell? ⟨ga, k * 5, none⟩ = some (.int .i64 (atN (Q k) : Nat)) ∧ w.cell? ⟨ga, k * 5 + 1, none⟩ = some (.int .i64 ((Q k).seen : Nat)) ∧ w.cell? ⟨ga, k * 5 + 2, none⟩ = some (.int .i64 ((Q k).slot : Nat)) ∧ w.cell? ⟨ga, k * 5 + 3, none⟩ = some (.int .u64 ((Q k).id : Nat)) ∧ w.cell? ⟨ga, k * 5 + 4, none⟩ = some (.int .u64 ((Q k).pd : Nat)) := by
  have g : ∀ j, j < 5 → w.cell? ⟨ga, k * 5 + j, none⟩ = some (rqCell (Q k) j) := fun j hj => by rw [← rqV_at Q k j hj]; exact h.cell _ (by omega)
  exact ⟨g 0 (by omega), g 1 (by omega), g 2 (by omega), g 3 (by omega), g 4 (by omega)⟩
/-- a request's cells, one of them anew -/
def rqU (Q : Nat → Rq) (k m : Nat) (r : Rq) (i : Nat) : Value := if i / 5 = k ∧ i % 5 < m then rqCell r (i % 5) else rqV Q i
theorem rqU_set {k m : Nat} {r : Rq} (h : Row w 41 5 (some ⟨ga, 0, none⟩) np cr (rqU Q k m r)) (hk : k < np) (hm : m < 5) (v : Value) (hv : v = rqCell r m) : Row (w.setCell ⟨ga, k * 5 + m, none⟩ v) 41 5 (some ⟨ga, 0, none⟩) np cr (rqU Q k (m + 1) r) := by
  refine h.set _ (by omega) _ _ ?_ (fun j hj => ?_)
  · unfold rqU
    rw [if_pos (by omega), show (k * 5 + m) % 5 = m by omega, hv]
  · unfold rqU
    by_cases e : j / 5 = k ∧ j % 5 < m
    · rw [if_pos e, if_pos (by omega)]
    · rw [if_neg e, if_neg (by intro h; apply e; refine ⟨h.1, ?_⟩; have h1 := h.1; have h2 := h.2; omega)]
theorem rq_store (h : Row w 41 5 (some ⟨ga, 0, none⟩) np cr (rqV Q)) {k : Nat} (hk : k < np) (r : Rq) :
    Row (((((w.setCell ⟨ga, k * 5, none⟩ (.int .i64 (atN r : Nat))).setCell ⟨ga, k * 5 + 1, none⟩ (.int .i64 (r.seen : Nat))).setCell ⟨ga, k * 5 + 2, none⟩ (.int .i64 (r.slot : Nat))).setCell ⟨ga, k * 5 + 3, none⟩ (.int .u64 (r.id : Nat))).setCell ⟨ga, k * 5 + 4, none⟩ (.int .u64 (r.pd : Nat))) 41 5 (some ⟨ga, 0, none⟩) np cr (rqV (upQ Q k r)) := by
  have h0 : Row w 41 5 (some ⟨ga, 0, none⟩) np cr (rqU Q k 0 r) := h.congr _ (fun i hi => by unfold rqU; rw [if_neg (by omega)])
  have h5 := rqU_set (rqU_set (rqU_set (rqU_set (rqU_set h0 hk (by omega) (.int .i64 (atN r : Nat)) rfl) hk (by omega) (.int .i64 (r.seen : Nat)) rfl) hk (by omega) (.int .i64 (r.slot : Nat)) rfl) hk (by omega) (.int .u64 (r.id : Nat)) rfl) hk (by omega) (.int .u64 (r.pd : Nat)) rfl
  refine h5.congr _ (fun i hi => ?_)
  unfold rqU rqV
  by_cases e : i / 5 = k
  · rw [if_pos ⟨e, by omega⟩, e, upQ_same]
  · rw [if_neg (fun h => e h.1), upQ_other _ _ e]
theorem RfS.reqs (h : RfS w vb lb n cnt R np Q ar cr) (c : Ch (OwnS ar) w w') (row : Row w' 41 5 ar np cr (rqV Q')) : RfS w' vb lb n cnt R np Q' ar cr := by
  have hl : vb < w.heap.size := lt_of_cell h.l
  exact ⟨c.keeps h.l h.nv, c.keeps h.c h.nv, c.keeps h.r h.nv, (c.frozen (p := ⟨vb, _, none⟩) hl h.nv).trans h.fc, (c.frozen (p := ⟨vb, _, none⟩) hl h.nv).trans h.fr, fun k hk => (h.rc k hk).kept c h.nl, row, h.ne, h.nv, h.nl, h.n0, h.n1⟩
end
end Go.Proofs.Ytjhmmfdmoalfmaa
