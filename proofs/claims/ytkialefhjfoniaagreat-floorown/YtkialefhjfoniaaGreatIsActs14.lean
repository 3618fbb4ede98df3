/-
  What a walk is told of a slice of acts that came in: a kind, a bool, an event each, twelve cells.
-/
import Derived.Test.YtkialefhjfoniaaGreatIntsArg
import Derived.Test.YtkialefhjfoniaaGreatIsTab
import Derived.Test.YtkialefhjfoniaaGreatFlDo
namespace Go.Proofs.YtkialefhjfoniaaGreat
open Go.ChangeShapes Go.WideShapes Go.RowKit Go.Deep Verge
set_option linter.unusedVariables false
/-- where an act's cells lie -/
def IsAx (w : World) (b o : Nat) (x : Ax) : Prop := ∀ j v, ([.int .i64 x.k, .bool x.on, .int .i64 x.u.k, .int .i64 x.u.t, .int .i64 x.u.c, .int .i64 x.u.h, .int .u64 x.u.i, .int .u64 x.u.g, .int .u64 x.u.d, .int .u64 x.u.p, .int .u64 x.u.q, .int .i64 x.u.e] : List Value)[j]? = some v → w.cell? ⟨b, o + j, none⟩ = some v
/-- a slice that leads to a row of acts -/
def ASrc14 (w : World) (a : Option Addr) (L : List Ax) : Prop := L = [] ∨ ∃ b o, a = some ⟨b, o, none⟩ ∧ ∀ i x, L[i]? = some x → IsAx w b (o + i * 12) x
def IsActs14 (w : World) (a : Option Addr) (len cap : Nat) : Prop := ∃ L : List Ax, L.length = len ∧ ASrc14 w a L ∧ len ≤ cap ∧ cap ≤ maxLen
section
variable {S : Nat → Prop} {w w' : World} {a : Option Addr} {L : List Ax} {b o : Nat} {x : Ax}
theorem IsAx.lt (h : IsAx w b o x) : b < w.heap.size := lt_of_cell (h 0 _ rfl)
theorem IsAx.kept (h : IsAx w b o x) (c : Ch S w w') (hn : ¬ S b) : IsAx w' b o x := fun j v hj => c.keeps (h j v hj) hn
theorem IsAx.cells (h : IsAx w b o x) : w.cell? ⟨b, o, none⟩ = some (.int .i64 x.k) ∧ w.cell? ⟨b, o + 1, none⟩ = some (.bool x.on) ∧ w.cell? ⟨b, o + 2, none⟩ = some (.int .i64 x.u.k) ∧ w.cell? ⟨b, o + 3, none⟩ = some (.int .i64 x.u.t) ∧ w.cell? ⟨b, o + 4, none⟩ = some (.int .i64 x.u.c) ∧ w.cell? ⟨b, o + 5, none⟩ = some (.int .i64 x.u.h) ∧ w.cell? ⟨b, o + 6, none⟩ = some (.int .u64 x.u.i) ∧ w.cell? ⟨b, o + 7, none⟩ = some (.int .u64 x.u.g) ∧ w.cell? ⟨b, o + 8, none⟩ = some (.int .u64 x.u.d) ∧ w.cell? ⟨b, o + 9, none⟩ = some (.int .u64 x.u.p) ∧ w.cell? ⟨b, o + 10, none⟩ = some (.int .u64 x.u.q) ∧ w.cell? ⟨b, o + 11, none⟩ = some (.int .i64 x.u.e) :=
  ⟨h 0 _ rfl, h 1 _ rfl, h 2 _ rfl, h 3 _ rfl, h 4 _ rfl, h 5 _ rfl, h 6 _ rfl, h 7 _ rfl, h 8 _ rfl, h 9 _ rfl, h 10 _ rfl, h 11 _ rfl⟩
theorem ASrc14.kept (h : ASrc14 w a L) (c : Ch S w w') (hn : ∀ k, k < w.heap.size → ¬ S k) : ASrc14 w' a L := by
  rcases h with h | ⟨b, o, rfl, h⟩
  · exact .inl h
  · exact .inr ⟨b, o, rfl, fun i x hx => (h i x hx).kept c (hn b (h i x hx).lt)⟩
theorem ASrc14.form (h : ASrc14 w a L) (hp : 0 < L.length) : ∃ b o, a = some ⟨b, o, none⟩ ∧ ∀ i x, L[i]? = some x → IsAx w b (o + i * 12) x := by
  rcases h with h | h
  · rw [h] at hp; simp at hp
  · exact h
end
section
variable {H : Type} {enc : TypeId × Value → H} {P : Program} {t : TypeId} {w : World} {base : Nat} {spare : Nat → Bool} {held : Bool}
/-- the fields of an act -/
def ActF14 (P : Program) (t : TypeId) : Prop := ∃ f0 f1 f2 : Field, P.underlying t = some (.struct #[f0, f1, f2]) ∧ P.cellsOf t = 12 ∧ OneF P f0 0 .i64 ∧ (f1.offset = 1 ∧ P.cellsOf f1.type = 1 ∧ P.underlying f1.type = some .bool) ∧ f2.offset = 2 ∧ P.cellsOf f2.type = 10 ∧ Fits_ten P f2.type
theorem actF14_of (fs : Array Field) (tt : TypeId) (h1 : P.underlying t = some (.struct fs)) (h2 : P.cellsOf t = 12) (h3 : fs.toList.map (fun f => (f.offset, P.cellsOf f.type)) = [(0, 1), (1, 1), (2, 10)]) (h4 : (fs.toList.take 2).map (fun f => P.underlying f.type) = [some (.int .i64), some .bool]) (h5 : (fs.toList.drop 2).map (·.type) = [tt]) (h6 : Fits_ten P tt) : ActF14 P t := by
  obtain ⟨l⟩ := fs
  simp only at h3 h4 h5
  have hl : l.length = 3 := by simpa using congrArg List.length h3
  match l, hl, h3, h4, h5 with
  | [f0, f1, f2], _, h3, h4, h5 =>
    simp only [List.map_cons, List.map_nil, List.cons.injEq, Prod.mk.injEq, and_true, List.take_succ_cons, List.take_zero, List.drop_succ_cons, List.drop_zero] at h3 h4 h5
    refine ⟨f0, f1, f2, h1, h2, ⟨h3.1.1, h3.1.2, h4.1⟩, ⟨h3.2.1.1, h3.2.1.2, h4.2⟩, h3.2.2.1, h3.2.2.2, ?_⟩
    rw [h5]; exact h6
theorem open_acts14 {tS : TypeId} {fuel : Nat} {a : Option Addr} {len cap : Nat} {x : DataW H × List MemPlace} (ht : P.underlying tS = some (.slice t)) (hA : ActF14 P t) (h : DataW.trod enc P w base spare held fuel tS [.slice a len cap] = some x) : IsActs14 w a len cap := by
  rcases open_slice ht h with ⟨h0, -⟩ | ⟨y, len', cap', m, n, D, Pl, hcs, hb, hl, hm, hmm, hx, hi⟩
  · simp at h0
    obtain ⟨rfl, rfl, rfl⟩ := h0
    exact ⟨[], rfl, .inl rfl, Nat.le_refl _, Nat.zero_le _⟩
  · simp at hcs
    obtain ⟨rfl, rfl, rfl⟩ := hcs
    obtain ⟨f0, f1, f2, he, hC, ⟨o0, k0, u0⟩, ⟨o1, k1, u1⟩, o2, k2, u2⟩ := hA
    have each : ∀ i, i < len → ∃ x : Ax, ∀ j v, ([.int .i64 x.k, .bool x.on, .int .i64 x.u.k, .int .i64 x.u.t, .int .i64 x.u.c, .int .i64 x.u.h, .int .u64 x.u.i, .int .u64 x.u.g, .int .u64 x.u.d, .int .u64 x.u.p, .int .u64 x.u.q, .int .i64 x.u.e] : List Value)[j]? = some v → w.cell? (y.add (i * 12 + j)) = some v := by
      intro i hil
      obtain ⟨cs', hc, htr⟩ := hi i (by subst hmm; split <;> omega)
      rw [hC] at hc
      obtain ⟨-, hcl, hat⟩ := World.cells?_some hc
      obtain ⟨ys, n', -, -, hlen, hyl, hfd⟩ := DataW.trod_struct he htr
      match cs', hcl, ys, hyl with
      | [c0, c1, c2, c3, c4, c5, c6, c7, c8, c9, c10, c11], _, [y0, y1, y2], _ =>
        have g0 := hfd 0 f0 rfl
        have g1 := hfd 1 f1 rfl
        have g2 := hfd 2 f2 rfl
        rw [o0, k0] at g0
        rw [o1, k1] at g1
        rw [o2, k2] at g2
        obtain ⟨ak, hk, -, -⟩ := DataW.trod_int u0 g0
        obtain ⟨an, hn, -⟩ := DataW.trod_bool u1 g1
        obtain ⟨a0, a1, a2, a3, a4, a5, a6, a7, a8, a9, h5, -, -⟩ := ten_cells u2 g2
        simp only [List.drop_zero, List.drop_succ_cons, List.take_succ_cons, List.take_zero, List.cons.injEq, and_true] at hk hn h5
        obtain ⟨rfl, rfl, rfl, rfl, rfl, rfl, rfl, rfl, rfl, rfl⟩ := h5
        subst hk hn
        refine ⟨⟨ak, an, ⟨a0, a1, a2, a3, a4, a5, a6, a7, a8, a9⟩⟩, fun j v hj => ?_⟩
        have hj7 : j < 12 := (List.getElem?_eq_some_iff.1 hj).1
        have h3 := hat j hj7
        rw [Go.Deep.add_add] at h3
        exact h3.trans hj
    by_cases h0 : len = 0
    · subst h0
      exact ⟨[], rfl, .inl rfl, hl, hm⟩
    · have hspot : y.spot = none := by
        obtain ⟨x, hx⟩ := each 0 (by omega)
        have := spot_of_cell (hx 0 _ rfl)
        cases y
        unfold Addr.add at this
        simpa using this
      obtain ⟨b, o, sp⟩ := y
      simp only at hspot
      subst hspot
      have cf : ∀ i, ∃ x : Ax, i < len → IsAx w b (o + i * 12) x := fun i => by
        by_cases hi : i < len
        · obtain ⟨x, hx⟩ := each i hi
          exact ⟨x, fun _ j v hj => by
            have := hx j v hj
            have e : (⟨b, o, none⟩ : Addr).add (i * 12 + j) = ⟨b, o + (i * 12 + j), none⟩ := by unfold Addr.add; split <;> simp_all
            rwa [e, ← Nat.add_assoc] at this⟩
        · exact ⟨⟨0, false, ⟨0, 0, 0, 0, 0, 0, 0, 0, 0, 0⟩⟩, fun h => absurd h hi⟩
      obtain ⟨F, hF⟩ := Classical.axiomOfChoice cf
      refine ⟨(List.range len).map F, by simp, .inr ⟨b, o, rfl, fun i x hx => ?_⟩, hl, hm⟩
      have hi := (List.getElem?_eq_some_iff.1 hx).1
      simp only [List.length_map, List.length_range] at hi
      simp [List.getElem?_range hi] at hx
      subst hx
      exact hF i hi
end
theorem act14_fields : ActF14 Tryz.prog 35 := actF14_of (Tryz.prog.fieldsOf 35) 33 (by kernel_rfl) (by kernel_rfl) (by kernel_rfl) (by kernel_rfl) (by kernel_rfl) ten_fits
end Go.Proofs.YtkialefhjfoniaaGreat
