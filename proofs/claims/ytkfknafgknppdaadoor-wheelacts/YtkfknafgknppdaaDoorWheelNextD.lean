/-
  Contract of package wheel's Next, of ints.
-/
import Derived.Test.YtkfknafgknppdaaDoorWheelNextC
namespace Go.Proofs.YtkfknafgknppdaaDoor
open Go.RowKit Go.Shelf Verge LP
attribute [local go_sem] Oper.semAt_some
set_option linter.unusedVariables false
set_option linter.unusedSimpArgs false
section
variable {w0 w w' W : World} {g : Wh} {now : Nat} {P Q ys : List Ent} {x : Ent}
/-- between two rounds of Next: the levels so far have none -/
structure NqIn (w : World) (g : Wh) (now : Nat) (Q P : List Ent) (k : Nat) (W : World) : Prop where
  q : IsQ W g now Q P
  t : Tab W
  a : ∃ x, W.cell? ⟨w.heap.size, 0, none⟩ = some (.int .u64 x)
  b : ∃ x, W.cell? ⟨w.heap.size + 1, 0, none⟩ = some (.int .i64 x)
  ka : Blk W w.heap.size
  kb : Blk W (w.heap.size + 1)
  c : Ch Nil w W
  m : ∀ x, x ∈ Q → 64 * k ≤ spotN x.d now
structure NqOut (w : World) (Q : List Ent) (W : World) : Prop where
  x : ∃ m : Nat, IsMin Q m ∧ W.cell? ⟨w.heap.size, 0, none⟩ = some (.int .u64 (m : Nat))
  e : W.cell? ⟨w.heap.size + 1, 0, none⟩ = some (.int .i64 0)
  c : Ch Nil w W
theorem IsW.blkAll {R : Nat → List Ent} (H : IsW W g now R P) {k : Nat} (hk : WS g P k) : Blk W k := by
  rcases hk with rfl | ⟨h, hk⟩ | ⟨x, hx, (rfl | rfl)⟩
  · exact H.k
  · rcases hk with ⟨hh, (rfl | ⟨s, hs, rfl⟩)⟩ | ⟨rfl, rfl⟩
    · exact (H.v h hh).k
    · exact ((H.v h hh).l s hs).h.k
    · exact H.l.h.k
  · exact (H.e x hx).k
  · by_cases hf : ∀ p, p ≤ 256 → x ∉ R p
    · exact (H.f x hx hf).k
    · have : ∃ p, p ≤ 256 ∧ x ∈ R p := Classical.byContradiction fun hn => hf fun p hp hm => hn ⟨p, hp, hm⟩
      obtain ⟨p, hp, hm⟩ := this
      by_cases e : p = 256
      · subst e; exact H.l.blk (.inr (List.mem_map_of_mem (f := nd) hm))
      · refine (H.v (p / 64) (by omega)).blk (.inr ⟨p % 64, by omega, .inr ?_⟩)
        rw [nrow_at (by omega), show 64 * (p / 64) + p % 64 = p by omega]
        exact List.mem_map_of_mem (f := nd) hm
theorem NqIn.steady {B : Nat} (hB : w.heap.size + 2 ≤ B) : Steady B (NqIn w g now Q P) := fun k W W' r h c hr nc => by
  obtain ⟨x, hx⟩ := h.a
  obtain ⟨y, hy⟩ := h.b
  exact ⟨h.q.kept c (fun k hk e => NoCells.blk nc (IsW.blkAll h.q.w hk) e), h.t.keeps c (fun e => nc.cell (h.t 0 (by omega)) e), ⟨x, c.keeps hx (fun e => nc.cell hx e)⟩, ⟨y, c.keeps hy (fun e => nc.cell hy e)⟩, h.ka.kept c (NoCells.blk nc h.ka), h.kb.kept c (NoCells.blk nc h.kb), h.c.later c (by omega), h.m⟩
theorem NqIn.quiet {k : Nat} {W' : World} (h : NqIn w g now Q P k W) (c : Ch Nil W W') : NqIn w g now Q P k W' := by
  obtain ⟨x, hx⟩ := h.a
  obtain ⟨y, hy⟩ := h.b
  exact ⟨h.q.kept c (fun _ _ e => e), h.t.keeps c (fun e => e), ⟨x, c.keeps hx (fun e => e)⟩, ⟨y, c.keeps hy (fun e => e)⟩, h.ka.kept c (fun e => e), h.kb.kept c (fun e => e), h.c.trans c, h.m⟩
theorem NqOut.steady {B : Nat} (hB : w.heap.size + 2 ≤ B) : Steady B (fun (_ : Nat) => NqOut w Q) := fun k W W' r h c hr nc => by
  obtain ⟨m, h1, h2⟩ := h.x
  exact ⟨⟨m, h1, c.keeps h2 (fun e => nc.cell h2 e)⟩, c.keeps h.e (fun e => nc.cell h.e e), h.c.later c (by omega)⟩
theorem min_all {m p k : Nat} (h : IsMin ys m) (ha : ∀ x, x ∈ Q → now < x.d) (hp : ∀ x, x ∈ ys ↔ x ∈ Q ∧ spotN x.d now = p) (hm : ∀ x, x ∈ Q → p ≤ spotN x.d now) : IsMin Q m := by
  obtain ⟨⟨x, hx, rfl⟩, h2⟩ := h
  have hx' := (hp x).1 hx
  refine ⟨⟨x, hx'.1, rfl⟩, fun y hy => ?_⟩
  by_cases e : spotN y.d now = p
  · exact h2 y ((hp y).2 ⟨hy, e⟩)
  · have := hm y hy
    have := spot_mono (ha x hx'.1) (ha y hy) (by omega)
    omega

set_option maxRecDepth 100000 in
set_option maxHeartbeats 2000000 in
theorem next_of (H : IsQ w g now Q P) (T : Tab w) (hl : Q.length ≤ 100000) :
    Calls Tryd.prog 32 #[.pointer (some ⟨g.wb, 0, none⟩)] w fun e w' => ((Q = [] ∧ e = .returned (.tuple #[.int .u64 0, .int .i64 6])) ∨ ∃ m : Nat, IsMin Q m ∧ e = .returned (.tuple #[.int .u64 (m : Nat), .int .i64 0])) ∧ Ch Nil w w' := by
  have hI0 : NqIn w g now Q P 0 ((w.alloc (.cells #[.int .u64 0] 22)).alloc (.cells #[.int .i64 0] 35)) := by
    have c1 : Ch Nil w (w.alloc (.cells #[.int .u64 0] 22)) := (Ch.refl _ _).alloc _
    have c2 : Ch Nil (w.alloc (.cells #[.int .u64 0] 22)) ((w.alloc (.cells #[.int .u64 0] 22)).alloc (.cells #[.int .i64 0] 35)) := (Ch.refl _ _).alloc _
    have hs : (w.alloc (.cells #[.int .u64 0] 22)).heap.size = w.heap.size + 1 := by simp
    refine ⟨H.kept (c1.trans c2) (fun _ _ e => e), T.keeps (c1.trans c2) (fun e => e), ⟨0, c2.keeps (by simp [cell_fresh]) (fun e => e)⟩, ⟨0, ?_⟩, (Blk.new w _ _).kept c2 (fun e => e), ?_, c1.trans c2, fun x hx => by omega⟩
    · rw [← hs]; simp [cell_fresh]
    · rw [← hs]; exact Blk.new _ _ _
  have HI0 := Lib.hid hI0
  have HL := Lib.hid hl
  have hsz : ((w.alloc (.cells #[.int .u64 0] 22)).alloc (.cells #[.int .i64 0] 35)).heap.size = w.heap.size + 2 := by simp
  have hws : ∀ k, WS g P k → k < w.heap.size := fun k hk => H.lt hk
  have HWS := Lib.hid hws
  have TL := Lib.hid T.lt
  clear hI0 H T hws
  refine (callsIn_wide (n := 5)).1 ?_
  refine callsIn_of_wp_marks Tryd.func32 rfl trivial ?_ rfl
  simp only [Tryd.ntmps32, List.size_toArray, List.length_cons, List.length_nil, Nat.reduceAdd, Nat.reduceSub, Array.replicate_succ, Array.replicate_zero, List.push_toArray, List.append_toArray, List.nil_append, List.cons_append]
  gi_wp2
  generalize hW0 : ((w.alloc (.cells #[.int .u64 0] 22)).alloc (.cells #[.int .i64 0] 35)) = W0 at *
  clear hW0
  refine range_val (n := 5) (gf := 50) (ba := #[.pointer (some ⟨g.wb, 0, none⟩)]) rfl (enters_of Tryd.func50 (by kernel_rfl) rfl) 5 (RowT Q now) rfl
    (NqIn w g now Q P) (fun c k W => c = .ret ∧ NqOut w Q W) (NqIn.steady (by omega)) (fun k W W' h c => h.quiet c) (fun v => RowT.steady) ?hIx HI0.out (rows_tells 4 (by omega) HL.out _ (fun k W h => h.q) (fun k W h => h.t)) ?act1 ?assign ?body ?done ?stop
  case hIx => exact fun c k W W' r h ch hr nc => ⟨h.1, NqOut.steady (B := W0.heap.size) (by omega) k W W' r h.2 ch hr nc⟩
  case assign =>
    intro l v W K hK
    gi_wp2
    exact hK
  case body =>
    intro l k v W hW hT hk
    obtain ⟨a, cap, ys, rfl, r, hyl, hsub, hcase⟩ := hT
    have HW := Lib.hid hW
    have R := Lib.hid r
    have SUB := Lib.hid hsub
    rcases hcase with ⟨rfl, hm⟩ | ⟨hne, p, hp, hm⟩
    · have HM := Lib.hid hm
      clear hW r hsub hm
      simp only [List.length_nil]
      gi_wp2
      exact ⟨KeepsFrom.refl _ _, HW.out.q, HW.out.t, HW.out.a, HW.out.b, HW.out.ka, HW.out.kb, HW.out.c, fun x hx => HM.out x hx (HW.out.m x hx)⟩
    · have LE := Lib.hid (least_of (cap := cap) ys hne (RowX.given r (fun _ _ e => e)) (fun x hx => (hW.q.w.e x (hW.q.p x (hsub x hx))).c) hyl)
      obtain ⟨x1, c1⟩ := hW.a
      obtain ⟨x2, c2⟩ := hW.b
      have f1 := hW.ka.fz 0
      have f2 := hW.kb.fz 0
      have hlt := lt_of_cell c1
      have hlt2 := lt_of_cell c2
      have MA : Hid (∀ m, IsMin ys m → IsMin Q m) := Lib.hid fun m h => min_all (k := k) h hW.q.a hp (fun x hx => hm x hx (hW.m x hx))
      have hpos : 0 < ys.length := List.length_pos_iff.2 hne
      obtain ⟨n, hn⟩ : ∃ n, n = ys.length := ⟨_, rfl⟩
      rw [← hn] at LE hpos ⊢
      have hz : (0 : Int) < (n : Int) := by omega
      have ne1 : w.heap.size ≠ w.heap.size + 1 := by omega
      have ne2 : w.heap.size + 1 ≠ w.heap.size := by omega
      clear hW r hsub hp hm hne hn
      gi_wp2_with fail
      refine ⟨trivial, ?_⟩
      refine (CallsIn.inRound l (callsIn_wide.2 LE.out)).mono ?_
      rintro e W5 ⟨m, hm, rfl, rfl⟩
      have HMN := Lib.hid (MA.out m hm)
      clear hm LE
      gi_wp2
      have ch1 : Ch (fun k => k = w.heap.size ∨ k = w.heap.size + 1) W ((W.setCell ⟨w.heap.size, 0, none⟩ (.int .u64 (m : Nat))).setCell ⟨w.heap.size + 1, 0, none⟩ (.int .i64 0)) :=
        ((Ch.refl _ W).set (p := ⟨w.heap.size, 0, none⟩) (fun _ => .inl rfl) _).set (p := ⟨w.heap.size + 1, 0, none⟩) (fun _ => .inr rfl) _
      refine ⟨Keeps.of_chl ch1 (fun j hj => by rcases hj with rfl | rfl <;> omega), rfl, ⟨m, HMN.out, ?_⟩, ?_, HW.out.c.up ch1 (by rintro i (rfl | rfl) <;> omega)⟩
      · rw [cell_set, if_neg (by omega)]; exact World.cell?_setCell_same _ _ _ c1
      · exact World.cell?_setCell_same _ _ _ (show _ = some (Value.int .i64 x2) from by rw [cell_set, if_neg (by omega)]; exact c2)
  case done =>
    intro D W hD hW hK
    obtain ⟨x, c1⟩ := hW.a
    obtain ⟨y, c2⟩ := hW.b
    have f1 := hW.ka.fz 0
    have f2 := hW.kb.fz 0
    have HC := Lib.hid hW.c
    have hQ0 : Q = [] := by
      cases Q with
      | nil => rfl
      | cons z t => have := hW.m z (by simp); have := spotN_le z.d now; omega
    have HQ0 := Lib.hid hQ0
    clear hW hQ0
    have ne1 : w.heap.size ≠ w.heap.size + 1 := by omega
    have ne2 : w.heap.size + 1 ≠ w.heap.size := by omega
    gi_wp2
    have ch1 : Ch (fun k => k = w.heap.size ∨ k = w.heap.size + 1) W ((W.setCell ⟨w.heap.size, 0, none⟩ (.int .u64 0)).setCell ⟨w.heap.size + 1, 0, none⟩ (.int .i64 6)) :=
      ((Ch.refl _ W).set (p := ⟨w.heap.size, 0, none⟩) (fun _ => .inl rfl) _).set (p := ⟨w.heap.size + 1, 0, none⟩) (fun _ => .inr rfl) _
    have hlt := lt_of_cell c1
    have hlt2 := lt_of_cell c2
    have hK2 : ((W.setCell ⟨w.heap.size, 0, none⟩ (.int .u64 0)).setCell ⟨w.heap.size + 1, 0, none⟩ (.int .i64 6)).heap[D]? = some (.deferred (some [])) := (ch1.block D (Array.getElem?_eq_some_iff.1 hK).1 (by intro e; omega)).trans hK
    refine ⟨by simp, .inl ⟨_, _, rfl, run_takeDeferred hK2, ?_⟩⟩
    have q1 : ((W.setCell ⟨w.heap.size, 0, none⟩ (.int .u64 0)).setCell ⟨w.heap.size + 1, 0, none⟩ (.int .i64 6)).cell? ⟨w.heap.size, 0, none⟩ = some (.int .u64 0) := by rw [cell_set, if_neg (by omega)]; exact World.cell?_setCell_same _ _ _ c1
    have q2 : ((W.setCell ⟨w.heap.size, 0, none⟩ (.int .u64 0)).setCell ⟨w.heap.size + 1, 0, none⟩ (.int .i64 6)).cell? ⟨w.heap.size + 1, 0, none⟩ = some (.int .i64 6) := World.cell?_setCell_same _ _ _ (show _ = some (Value.int .i64 y) from by rw [cell_set, if_neg (by omega)]; exact c2)
    have c3 := (Ch.put (W := (W.setCell ⟨w.heap.size, 0, none⟩ (.int .u64 0)).setCell ⟨w.heap.size + 1, 0, none⟩ (.int .i64 6)) D (.deferred none)).keeps q1 (by intro e; simp at e; omega)
    have c4 := (Ch.put (W := (W.setCell ⟨w.heap.size, 0, none⟩ (.int .u64 0)).setCell ⟨w.heap.size + 1, 0, none⟩ (.int .i64 6)) D (.deferred none)).keeps q2 (by intro e; simp at e; omega)
    refine ⟨.tuple #[.int .u64 0, .int .i64 6], by simp [results, Tryd.results32, go_sem, c3, c4], .inl ⟨HQ0.out, rfl⟩, ?_⟩
    exact (HC.out.up ch1 (by rintro i (rfl | rfl) <;> omega)).later (Ch.put D (.deferred none)) (by omega)
  case stop =>
    intro D c k W hD hk hW hK
    obtain ⟨rfl, hW⟩ := hW
    obtain ⟨m, hm, c1⟩ := hW.x
    have c2 := hW.e
    have HM := Lib.hid hm
    have HC := Lib.hid hW.c
    clear hW hm
    gi_wp2
    refine ⟨by simp, .inl ⟨_, _, rfl, run_takeDeferred hK, ?_⟩⟩
    have c3 := (Ch.put (W := W) D (.deferred none)).keeps c1 (by intro e; simp at e; omega)
    have c4 := (Ch.put (W := W) D (.deferred none)).keeps c2 (by intro e; simp at e; omega)
    refine ⟨.tuple #[.int .u64 (m : Nat), .int .i64 0], by simp [results, Tryd.results32, go_sem, c3, c4], .inr ⟨m, HM.out, rfl⟩, ?_⟩
    exact HC.out.later (Ch.put D (.deferred none)) (by omega)
end
end Go.Proofs.YtkfknafgknppdaaDoor
