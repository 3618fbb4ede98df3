/-
  Contracts of package bits' From and Round: the least slot from one on, at every argument.
-/
import Derived.Test.YtkfknafgknppdaaDoorBitsWalks2
import Derived.Test.YtkfknafgknppdaaDoorListMem
namespace Go.Proofs.YtkfknafgknppdaaDoor
open Go.RowKit Go.Shelf Verge
attribute [local go_sem] Oper.semAt_some
set_option linter.unusedVariables false
set_option linter.unusedSimpArgs false

theorem Ch.later {S : Nat → Prop} {r : Nat} {a w w' : World} (h : Ch S a w) (c : Ch (One r) w w') (hr : a.heap.size ≤ r) : Ch S a w' :=
  h.then c fun i hi e => by subst e; omega
theorem Keeps.of_chl {S : Nat → Prop} {w w' : World} {B : Nat} (c : Ch S w w') (hS : ∀ k, S k → k < B) : KeepsFrom B w w' :=
  ⟨c.size, fun k o hB hk ho => (c.block k (Array.getElem?_eq_some_iff.1 hk).1 fun hs => by have := hS k hs; omega).trans hk⟩

/-- between two rounds of From: none so far -/
structure FrIn (w : World) (m : Nat) (s : Int) (k : Nat) (W : World) : Prop where
  t : Tab W
  sc : W.cell? ⟨w.heap.size, 0, none⟩ = some (.int .i64 s)
  r : ∃ x, W.cell? ⟨w.heap.size + 1, 0, none⟩ = some (.int .i64 x)
  f : W.frozen? ⟨w.heap.size + 1, 0, none⟩ = false
  c : Ch Nil w W
  no : ∀ j x, j < k → (slots m)[j]? = some x → (x : Int) < s
/-- From has found it in round k -/
structure FrOut (w : World) (m : Nat) (s : Int) (k : Nat) (W : World) : Prop where
  x : W.cell? ⟨w.heap.size + 1, 0, none⟩ = some (.int .i64 (slotAt m k : Nat))
  c : Ch Nil w W
  no : ∀ j x, j < k → (slots m)[j]? = some x → (x : Int) < s
  yes : s ≤ (slotAt m k : Nat)
theorem FrIn.steady {w : World} {m : Nat} {s : Int} {B : Nat} (hB : w.heap.size + 2 ≤ B) : Steady B (FrIn w m s) := fun k W W' r h c hr nc => by
  obtain ⟨x, hx⟩ := h.r
  exact ⟨h.t.keeps c (fun e => by have := h.t.lt; have := nc.cell (h.t 0 (by omega)); exact this e), c.keeps h.sc (fun e => nc.cell h.sc e), ⟨x, c.keeps hx (fun e => nc.cell hx e)⟩,
    (c.frozen (p := ⟨w.heap.size + 1, 0, none⟩) (lt_of_cell hx) (fun e => nc.cell hx e)).trans h.f, h.c.later c (by omega), h.no⟩
theorem FrOut.steady {w : World} {m : Nat} {s : Int} {B : Nat} (hB : w.heap.size + 2 ≤ B) : Steady B (FrOut w m s) := fun k W W' r h c hr nc =>
  ⟨c.keeps h.x (fun e => nc.cell h.x e), h.c.later c (by omega), h.no, h.yes⟩

theorem find_none (l : List Nat) (s : Int) (h : ∀ (j x : Nat), j < l.length → l[j]? = some x → (x : Int) < s) : l.find? (fun x : Nat => decide (s ≤ (x : Int))) = none := by
  rw [List.find?_eq_none]
  intro x hx
  obtain ⟨j, hj, rfl⟩ := List.getElem_of_mem hx
  have := h j _ hj (List.getElem?_eq_getElem hj)
  simp; omega
theorem find_at (l : List Nat) (s : Int) (k : Nat) (hk : k < l.length) (h : ∀ (j x : Nat), j < k → l[j]? = some x → (x : Int) < s) (hy : s ≤ (l.getD k 0 : Nat)) : l.find? (fun x : Nat => decide (s ≤ (x : Int))) = some (l.getD k 0) := by
  have e : l.getD k 0 = l[k] := by rw [List.getD_eq_getElem?_getD, List.getElem?_eq_getElem hk]; rfl
  rw [e] at hy ⊢
  rw [List.find?_eq_some_iff_getElem]
  refine ⟨by simpa using hy, k, hk, rfl, fun j hj => ?_⟩
  have := h j _ hj (List.getElem?_eq_getElem (by omega))
  simp; omega
theorem FrIn.none {w : World} {m : Nat} {s : Int} {W : World} (h : FrIn w m s (slots m).length W) : fromN m s = -1 := by
  unfold fromN; rw [find_none _ _ h.no]
theorem FrOut.some {w : World} {m : Nat} {s : Int} {k : Nat} {W : World} (h : FrOut w m s k W) (hk : k < (slots m).length) : fromN m s = (slotAt m k : Nat) := by
  unfold fromN; rw [find_at _ _ k hk h.no h.yes]; rfl

set_option maxRecDepth 100000 in
set_option maxHeartbeats 1000000 in
theorem from_any (m : Nat) (s : Int) (hm : m < 18446744073709551616) (w : World) (T : Tab w) :
    Calls Tryd.prog 61 #[.int .u64 m, .int .i64 s] w fun e w' => e = .returned (.int .i64 (fromN m s)) ∧ Ch Nil w w' := by
  have hI0 : FrIn w m s 0 ((w.alloc (.cells #[.int .i64 s] 3)).alloc (.cells #[.int .i64 0] 3)) := by
    have c1 : Ch Nil w (w.alloc (.cells #[.int .i64 s] 3)) := (Ch.refl _ _).alloc _
    have c2 : Ch Nil (w.alloc (.cells #[.int .i64 s] 3)) ((w.alloc (.cells #[.int .i64 s] 3)).alloc (.cells #[.int .i64 0] 3)) := (Ch.refl _ _).alloc _
    have hs : (w.alloc (.cells #[.int .i64 s] 3)).heap.size = w.heap.size + 1 := by simp
    refine ⟨T.keeps (c1.trans c2) (fun e => e), c2.keeps (by simp [cell_fresh]) (fun e => e), ⟨0, ?_⟩, ?_, c1.trans c2, fun j x hj => by omega⟩
    · rw [← hs]; simp [cell_fresh]
    · rw [← hs]; simp [frozen_fresh]
  have HI0 := Lib.hid hI0
  have hsz : ((w.alloc (.cells #[.int .i64 s] 3)).alloc (.cells #[.int .i64 0] 3)).heap.size = w.heap.size + 2 := by simp
  clear hI0 T
  refine (callsIn_wide (n := 5)).1 ?_
  refine callsIn_of_wp_marks Tryd.func61 rfl trivial ?_ rfl
  simp only [Tryd.ntmps61, List.size_toArray, List.length_cons, List.length_nil, Nat.reduceAdd, Nat.reduceSub, Array.replicate_succ, Array.replicate_zero, List.push_toArray, List.append_toArray, List.nil_append, List.cons_append]
  gi_wp2
  generalize hW0 : ((w.alloc (.cells #[.int .i64 s] 3)).alloc (.cells #[.int .i64 0] 3)) = W0 at *
  clear hW0
  refine range_some (n := 5) (gf := 64) (ba := #[.int .u64 m]) rfl (enters_of Tryd.func64 (by kernel_rfl) rfl) (slots m).length (fun k => .int .i64 (slotAt m k : Nat)) rfl
    (FrIn w m s) (fun c k W => c = .ret ∧ FrOut w m s k W) (FrIn.steady (by omega)) ?hIx HI0.out (slots_tells 4 (by omega) m hm _ (fun k W h => h.t)) ?act1 ?assign ?body ?done ?stop
  case hIx => exact fun c k W W' r h ch hr nc => ⟨h.1, FrOut.steady (B := W0.heap.size) (by omega) k W W' r h.2 ch hr nc⟩
  case assign =>
    intro l k W K hK
    gi_wp2
    exact hK
  case body =>
    intro l k W hW hk
    have c1 := hW.sc
    have f1 := hW.f
    obtain ⟨x, c2⟩ := hW.r
    have HW := Lib.hid hW
    clear hW
    have hg := slotAt_get m k hk
    have HG := Lib.hid hg
    clear hg
    have hlt := lt_of_cell c2
    by_cases hs : s ≤ (slotAt m k : Nat)
    · gi_wp2
      have ch : Ch (One (w.heap.size + 1)) W (W.setCell ⟨w.heap.size + 1, 0, none⟩ (.int .i64 (slotAt m k : Nat))) := (Ch.refl _ _).setB 0 _
      refine ⟨Keeps.of_chl ch (fun j hj => by rw [hj]; omega), rfl, World.cell?_setCell_same _ _ _ c2, HW.out.c.then ch (fun i hi e => by subst e; omega), HW.out.no, hs⟩
    · gi_wp2
      refine ⟨KeepsFrom.refl _ _, HW.out.t, HW.out.sc, HW.out.r, HW.out.f, HW.out.c, fun j x hj hx => ?_⟩
      by_cases e : j < k
      · exact HW.out.no j x e hx
      · obtain rfl : j = k := by omega
        rw [HG.out] at hx
        cases hx
        omega
  case done =>
    intro D W hD hW hK
    have hput := (FrIn.steady (B := w.heap.size + 2) (Nat.le_refl _)).put (.deferred none) hW (by omega) hK rfl
    have f1 := hW.f
    obtain ⟨x, c2⟩ := hW.r
    have hF := hW.none
    have HP := Lib.hid hput
    have HF := Lib.hid hF
    have hc := hW.c
    have HC := Lib.hid hc
    clear hW hput hF hc
    gi_wp2
    have hlt := lt_of_cell c2
    have ch : Ch (One (w.heap.size + 1)) W (W.setCell ⟨w.heap.size + 1, 0, none⟩ (.int .i64 (-1))) := (Ch.refl _ _).setB 0 _
    have hK2 : (W.setCell ⟨w.heap.size + 1, 0, none⟩ (.int .i64 (-1))).heap[D]? = some (.deferred (some [])) := (ch.block D (Array.getElem?_eq_some_iff.1 hK).1 (by intro e; omega)).trans hK
    refine ⟨by simp, .inl ⟨_, _, rfl, run_takeDeferred hK2, ?_⟩⟩
    have c3 := (Ch.put (W := W.setCell ⟨w.heap.size + 1, 0, none⟩ (.int .i64 (-1))) D (.deferred none)).keeps (World.cell?_setCell_same _ _ _ c2) (by intro e; simp at e; omega)
    refine ⟨.int .i64 (-1), by simp [results, Tryd.results61, go_sem, c3], ?_, ?_⟩
    · rw [HF.out]
    · exact (HC.out.then ch (fun i hi e => by subst e; omega)).later (Ch.put D (.deferred none)) (by omega)
  case stop =>
    intro D c k W hD hk hW hK
    obtain ⟨rfl, hW⟩ := hW
    have hF := hW.some hk
    have hput := (FrOut.steady (B := w.heap.size + 2) (Nat.le_refl _)).put (.deferred none) hW (by omega) hK rfl
    have HP := Lib.hid hput
    have HF := Lib.hid hF
    clear hW hput hF
    gi_wp2
    refine ⟨by simp, .inl ⟨_, _, rfl, run_takeDeferred hK, ?_⟩⟩
    have c3 := HP.out.x
    refine ⟨.int .i64 (slotAt m k : Nat), by simp [results, Tryd.results61, go_sem, c3], ?_, HP.out.c⟩
    rw [HF.out]

end Go.Proofs.YtkfknafgknppdaaDoor
