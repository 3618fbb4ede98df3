import Derived.Test.YtldnmpiaofppgaaDoorK11
import Derived.Deep.Cut
import Derived.Deep.CutRange
import Derived.Test.YtldnmpiaofppgaaDoorK01
/-
  Contracts of package ring's functions at verge/api.Task: a ticket's three steps.
-/
namespace Go.Proofs.YtldnmpiaofppgaaDoor.RT
open Go.RowKit Verge
attribute [local go_sem] Oper.semAt_some
set_option linter.unusedVariables false
set_option linter.unusedSimpArgs false

section
variable {w : World} {t b : Nat} {st su : Int} {pos : Nat} {fl : Bool}
theorem IsT.setSt (h : IsT w t b st su pos fl) (x : Int) : IsT (w.setCell ⟨t, 1, none⟩ (.int .i64 x)) t b x su pos fl :=
  ⟨(cell_ne (by omega) _).trans h.r, World.cell?_setCell_same _ _ _ h.st, (cell_ne (by omega) _).trans h.su, (cell_ne (by omega) _).trans h.pos, (cell_ne (by omega) _).trans h.fl, fun i => (World.frozen?_setCell _ _ _ _).trans (h.f i)⟩
theorem IsT.setSu (h : IsT w t b st su pos fl) (x : Int) : IsT (w.setCell ⟨t, 2, none⟩ (.int .i64 x)) t b st x pos fl :=
  ⟨(cell_ne (by omega) _).trans h.r, (cell_ne (by omega) _).trans h.st, World.cell?_setCell_same _ _ _ h.su, (cell_ne (by omega) _).trans h.pos, (cell_ne (by omega) _).trans h.fl, fun i => (World.frozen?_setCell _ _ _ _).trans (h.f i)⟩
theorem IsT.setPos (h : IsT w t b st su pos fl) (x : Nat) : IsT (w.setCell ⟨t, 3, none⟩ (.int .u64 x)) t b st su x fl :=
  ⟨(cell_ne (by omega) _).trans h.r, (cell_ne (by omega) _).trans h.st, (cell_ne (by omega) _).trans h.su, World.cell?_setCell_same _ _ _ h.pos, (cell_ne (by omega) _).trans h.fl, fun i => (World.frozen?_setCell _ _ _ _).trans (h.f i)⟩
theorem IsT.setFl (h : IsT w t b st su pos fl) (x : Bool) : IsT (w.setCell ⟨t, 4, none⟩ (.bool x)) t b st su pos x :=
  ⟨(cell_ne (by omega) _).trans h.r, (cell_ne (by omega) _).trans h.st, (cell_ne (by omega) _).trans h.su, (cell_ne (by omega) _).trans h.pos, World.cell?_setCell_same _ _ _ h.fl, fun i => (World.frozen?_setCell _ _ _ _).trans (h.f i)⟩
end
theorem IsT.drewN {w : World} {t b : Nat} {st su : Int} {pos : Nat} {fl : Bool} (h : IsT w t b st su pos fl) (k : Nat) : IsT (w.drewN k) t b st su pos fl := h.kept (S := Nil) ((Ch.refl _ _).drewN k) (fun e => e)
/-- a ticket stepped: the ring, the ticket, and what else turned: nothing -/
def Stepped (w : World) (t b sb n nx fi : Nat) (P : Nat → Bool) (V : Nat → Tk) (st su : Int) (pos : Nat) (fl : Bool) (w' : World) : Prop :=
  IsRing w' b sb n nx fi P V ∧ IsT w' t b st su pos fl ∧ Ch (Tri t b sb) w w'
/-- what a region keeps -/
def Kp (w0 : World) (S : Nat → Prop) (b sb n nx fi : Nat) (P : Nat → Bool) (V : Nat → Tk) (w' : World) : Prop := IsRing w' b sb n nx fi P V ∧ Ch S w0 w'

set_option maxHeartbeats 1600000 in
theorem choose_at (t b sb n nx fi : Nat) (P : Nat → Bool) (V : Nat → Tk) (st su : Int) (pos : Nat) (fl : Bool) (w : World) (h : IsRing w b sb n nx fi P V) (k : IsT w t b st su pos fl) (hb : t ≠ b) (hs : t ≠ sb) :
    Calls Tryd.prog 43 #[.pointer (some ⟨t, 0, none⟩)] w fun e w' => e = .returned (.tuple #[]) ∧ Stepped w t b sb n nx fi P V 1 su nx fl w' := by
  have H := Lib.hid h
  have K := Lib.hid k
  have kr := k.r
  clear h k
  go_enter Tryd.func43, Tryd.ntmps43
  go_wp2_with fail
  refine (next_load H.out).mono ?_
  rintro e w1 ⟨rfl, h1, c1⟩
  have H1 := Lib.hid h1
  have k1 : IsT w1 t b st su pos fl := K.out.kept c1 hb
  have K1 := Lib.hid k1
  obtain ⟨q0, q1, q2, q3, q4, qf⟩ := k1
  have f1 := qf 1
  have f3 := qf 3
  clear h1 kr qf
  go_wp2
  go_end0
  have c2 : Ch (One t) w1 ((w1.setCell ⟨t, 3, none⟩ (.int .u64 nx)).setCell ⟨t, 1, none⟩ (.int .i64 1)) := ((Ch.refl _ _).setB _ _).setB _ _
  exact ⟨rfl, H1.out.kept c2 (fun e => hb e.symm) (fun e => hs e.symm), (K1.out.setPos _).setSt _, (Ch_tri (Ch_two1 c1)).trans (Ch_tri1 c2)⟩

/-- behind the first region of 'look': the mark in a box of its own -/
def LookCut (w : World) (t b sb n nx fi : Nat) (P : Nat → Bool) (V : Nat → Tk) (st su : Int) (pos : Nat) (fl : Bool) (q : Nat) (m : Value) (wc : World) : Prop :=
  ∃ B, m = .pointer (some ⟨B, 0, none⟩) ∧ wc.cell? ⟨B, 0, none⟩ = some (.int .u64 q) ∧ wc.cell? ⟨B, 1, none⟩ = some (.bool (P q)) ∧ B ≠ t ∧ IsRing wc b sb n nx fi P V ∧ IsT wc t b st su pos fl ∧ Ch (Two b sb) w wc
/-- what 'look' makes of a ticket's stage and status -/
def lookT (q pos : Nat) (pub : Bool) (st su : Int) : Int × Int := if q < pos then (st, 1) else if q = pos ∧ pub = false then (2, su) else (0, su)
theorem box_new {w : World} {a : Int} {p : Bool} (T : TypeId) : (w.alloc (.cells #[.int .u64 a, .bool p] T)).cell? ⟨w.heap.size, 0, none⟩ = some (.int .u64 a) ∧ (w.alloc (.cells #[.int .u64 a, .bool p] T)).cell? ⟨w.heap.size, 1, none⟩ = some (.bool p)
    ∧ (w.alloc (.cells #[.int .u64 a, .bool p] T)).frozen? ⟨w.heap.size, 0, none⟩ = false ∧ (w.alloc (.cells #[.int .u64 a, .bool p] T)).frozen? ⟨w.heap.size, 1, none⟩ = false := by
  refine ⟨?_, ?_, ?_, ?_⟩ <;> simp [go_sem]
/-- a box of a mark that was filled -/
structure IsBox (w : World) (B : Nat) (a : Int) (p : Bool) : Prop where
  a : w.cell? ⟨B, 0, none⟩ = some (.int .u64 a)
  p : w.cell? ⟨B, 1, none⟩ = some (.bool p)
  fa : w.frozen? ⟨B, 0, none⟩ = false
  fp : w.frozen? ⟨B, 1, none⟩ = false
theorem IsBox.kept {S : Nat → Prop} {w w' : World} {B : Nat} {a : Int} {p : Bool} (h : IsBox w B a p) (c : Ch S w w') (hn : ¬ S B) : IsBox w' B a p :=
  ⟨c.keeps h.a hn, c.keeps h.p hn, (c.frozen (p := ⟨B, 0, none⟩) (lt_of_cell h.a) hn).trans h.fa, (c.frozen (p := ⟨B, 1, none⟩) (lt_of_cell h.p) hn).trans h.fp⟩
theorem isBox_new (w : World) (a : Int) (p : Bool) (T : TypeId) : IsBox (w.alloc (.cells #[.int .u64 a, .bool p] T)) w.heap.size a p := by
  obtain ⟨h1, h2, h3, h4⟩ := box_new (w := w) (a := a) (p := p) T
  exact ⟨h1, h2, h3, h4⟩
theorem look_end {w w5 : World} {t b sb n nx fi : Nat} {P : Nat → Bool} {V : Nat → Tk} {st su : Int} {pos : Nat} {fl : Bool} {q B : Nat} {a : Int} {p : Bool} (hB : IsBox w5 B a p) (hBt : B ≠ t) (hBb : B ≠ b) (hBs : B ≠ sb) (hBw : w.heap.size ≤ B)
    (H : IsRing w5 b sb n nx fi P V) (K : IsT w5 t b st su pos fl) (c : Ch (Two b sb) w w5) :
    LookCut w t b sb n nx fi P V st su pos fl q (.pointer (some ⟨B, 0, none⟩)) ((w5.setCell ⟨B, 0, none⟩ (.int .u64 q)).setCell ⟨B, 1, none⟩ (.bool (P q))) := by
  have c2 : Ch (One B) w5 ((w5.setCell ⟨B, 0, none⟩ (.int .u64 q)).setCell ⟨B, 1, none⟩ (.bool (P q))) := ((Ch.refl _ _).setB _ _).setB _ _
  refine ⟨B, rfl, ?_, ?_, hBt, H.kept c2 (fun e => hBb e.symm) (fun e => hBs e.symm), K.kept c2 (fun e => hBt e.symm), c.then c2 (fun i hi e => ?_)⟩
  · exact (cell_ne (by omega) _).trans (World.cell?_setCell_same _ _ _ hB.a)
  · exact World.cell?_setCell_same _ _ _ ((cell_ne (by omega) _).trans hB.p)
  · change i = B at e; omega

set_option maxHeartbeats 4000000 in
set_option maxRecDepth 100000 in
theorem look_at (t b sb n nx fi : Nat) (P : Nat → Bool) (V : Nat → Tk) (st su : Int) (pos : Nat) (fl : Bool) (w : World) (h : IsRing w b sb n nx fi P V) (k : IsT w t b st su pos fl) (hb : t ≠ b) (hs : t ≠ sb) (hx : pos ≤ 1000000)
    (q : Nat) (hq : fi ≤ q ∧ q < fi + n) (hm : q % n = pos % n) :
    Calls Tryd.prog 44 #[.pointer (some ⟨t, 0, none⟩)] w fun e w' => e = .returned (.tuple #[]) ∧ Stepped w t b sb n nx fi P V (lookT q pos (P q) st su).1 (lookT q pos (P q) st su).2 pos fl w' := by
  have H := Lib.hid h
  have K := Lib.hid k
  have HM := Lib.hid hm
  obtain ⟨hq1, hq2⟩ := hq
  have hk := k.lt
  have hbl := h.lt
  have hsl := h.lt2
  clear h k hm
  go_enter Tryd.func44, Tryd.ntmps44
  go_upto_region 0 with (fail)
  go_cut [2] from 3 to 14 (fun m wc => LookCut w t b sb n nx fi P V st su pos fl q m wc)
  case first =>
    have hS : (w.drew.cell? ⟨t, 0, none⟩ = some (.pointer (some ⟨b, 0, none⟩)) ∧ w.drew.cell? ⟨t, 3, none⟩ = some (.int .u64 pos)) ∧ Kp w (Two b sb) b sb n nx fi P V w.drew := ⟨⟨K.out.r, K.out.pos⟩, H.out.drew, (Ch.refl _ _).drew⟩
    refine wp_region_held_drew (S := fun w' => (w'.cell? ⟨t, 0, none⟩ = some (.pointer (some ⟨b, 0, none⟩)) ∧ w'.cell? ⟨t, 3, none⟩ = some (.int .u64 pos)) ∧ Kp w (Two b sb) b sb n nx fi P V w') (by kernel_rfl) hS (fun hHeld => ?_)
    clear hS
    generalize w.drew = wd at hHeld ⊢
    refine take_at (v := ?_) 0 (some 3) rfl (by kernel_rfl) (by kernel_rfl) (by kernel_rfl) (by kernel_rfl) (fun _ _ _ h => h) (Or.inl ⟨by rfl, ?_⟩) (by assumption) ?_
    rotate_left
    · intro w hSw; (try dsimp only at hSw); go_simp; try (with_reducible rfl)
    (try simp only [Act.put, List.setIfInBounds_toArray, List.set_cons_zero, List.set_cons_succ])
    refine take_at (v := ?_) 1 (some 4) rfl (by kernel_rfl) (by kernel_rfl) (by kernel_rfl) (by kernel_rfl) (fun _ _ _ h => h) (Or.inl ⟨by rfl, ?_⟩) (by assumption) ?_
    rotate_left
    · intro w hSw; (try dsimp only at hSw); go_simp; try (with_reducible rfl)
    (try simp only [Act.put, List.setIfInBounds_toArray, List.set_cons_zero, List.set_cons_succ])
    refine take_at (v := ?_) 2 (some 5) rfl (by kernel_rfl) (by kernel_rfl) (by kernel_rfl) (by kernel_rfl) (fun _ _ _ h => h) (Or.inl ⟨by rfl, ?_⟩) (by assumption) ?_
    rotate_left
    · intro w hSw; (try dsimp only at hSw); go_simp; try (with_reducible rfl)
    (try simp only [Act.put, List.setIfInBounds_toArray, List.set_cons_zero, List.set_cons_succ])
    refine take_at (v := ?_) 3 (some 6) rfl (by kernel_rfl) (by kernel_rfl) (by kernel_rfl) (by kernel_rfl) (fun _ _ _ h => h) (Or.inl ⟨by rfl, ?_⟩) (by assumption) ?_
    rotate_left
    · intro w hSw; (try dsimp only at hSw); go_simp; try (with_reducible rfl)
    (try simp only [Act.put, List.setIfInBounds_toArray, List.set_cons_zero, List.set_cons_succ])
    refine take_at (v := ?_) 4 (some 7) rfl (by kernel_rfl) (by kernel_rfl) (by kernel_rfl) (by kernel_rfl) (fun _ _ _ h => h) (Or.inl ⟨by rfl, ?_⟩) (by assumption) ?_
    rotate_left
    · intro w hSw; (try dsimp only at hSw); go_simp; try (with_reducible rfl)
    (try simp only [Act.put, List.setIfInBounds_toArray, List.set_cons_zero, List.set_cons_succ])
    refine take_at (v := ?_) 5 (some 8) rfl (by kernel_rfl) (by kernel_rfl) (by kernel_rfl) (by kernel_rfl) (fun _ _ _ h => h) (Or.inl ⟨by rfl, ?_⟩) (by assumption) ?_
    rotate_left
    · intro w hSw; (try dsimp only at hSw); go_simp; try (with_reducible rfl)
    (try simp only [Act.put, List.setIfInBounds_toArray, List.set_cons_zero, List.set_cons_succ])
    refine take_at (v := ?_) 6 (some 9) rfl (by kernel_rfl) (by kernel_rfl) (by kernel_rfl) (by kernel_rfl) (fun _ _ _ h => h) (Or.inl ⟨by rfl, ?_⟩) (by assumption) ?_
    rotate_left
    · intro w hSw; (try dsimp only at hSw); go_simp; try (with_reducible rfl)
    (try simp only [Act.put, List.setIfInBounds_toArray, List.set_cons_zero, List.set_cons_succ])
    refine take_at (v := ?_) 7 (some 10) rfl (by kernel_rfl) (by kernel_rfl) (by kernel_rfl) (by kernel_rfl) (fun _ _ _ h => h) (Or.inl ⟨by rfl, ?_⟩) (by assumption) ?_
    rotate_left
    · intro w hSw; (try dsimp only at hSw); go_simp; try (with_reducible rfl)
    (try simp only [Act.put, List.setIfInBounds_toArray, List.set_cons_zero, List.set_cons_succ])
    refine wpAnyH_ready (rs := [8, 12]) (by kernel_rfl) (by simp) ?_
    refine AllReadyH.cons rfl (fun K' hK => ?_) (AllReadyH.cons rfl (fun K' hK => ?_) AllReadyH.nil)
    · go_simp
      refine (seat_of hHeld.2.1 pos hx).mono ?_
      rintro e w4 ⟨rfl, h4, c4⟩
      have h' : (w4.cell? ⟨t, 0, none⟩ = some (.pointer (some ⟨b, 0, none⟩)) ∧ w4.cell? ⟨t, 3, none⟩ = some (.int .u64 pos)) ∧ Kp w (Two b sb) b sb n nx fi P V w4 := ⟨⟨c4.keeps hHeld.1.1 (fun e => e), c4.keeps hHeld.1.2 (fun e => e)⟩, h4, hHeld.2.2.trans (Ch_any c4)⟩
      refine hK.out _ _ h' (fun hHeld9 => ?_)
      clear hK K' hHeld h4 c4 h'
      have hHeld := hHeld9
      clear hHeld9
      (try simp only [Act.put, List.setIfInBounds_toArray, List.set_cons_zero, List.set_cons_succ])
      refine take_at (v := ?_) 9 (some 12) rfl (by kernel_rfl) (by kernel_rfl) (by kernel_rfl) (by kernel_rfl) (fun _ _ _ h => h) (Or.inl ⟨by rfl, ?_⟩) (by assumption) ?_
      rotate_left
      · intro w hSw; (try dsimp only at hSw); go_simp; try (with_reducible rfl)
      (try simp only [Act.put, List.setIfInBounds_toArray, List.set_cons_zero, List.set_cons_succ])
      refine take_at (v := ?_) 10 (some 13) rfl (by kernel_rfl) (by kernel_rfl) (by kernel_rfl) (by kernel_rfl) (fun _ _ _ h => h) (Or.inl ⟨by rfl, ?_⟩) (by assumption) ?_
      rotate_left
      · intro w hSw; (try dsimp only at hSw); go_simp; try (with_reducible rfl)
      (try simp only [Act.put, List.setIfInBounds_toArray, List.set_cons_zero, List.set_cons_succ])
      refine wpAnyH_ready (rs := [11, 12]) (by kernel_rfl) (by simp) ?_
      refine AllReadyH.cons rfl (fun K' hK => ?_) (AllReadyH.cons rfl (fun K' hK => ?_) AllReadyH.nil)
      · go_simp
        refine (mark_load hHeld.2.1 q ⟨hq1, hq2⟩ _ (by rw [HM.out])).mono ?_
        rintro e w5 ⟨rfl, h5, c5⟩
        have d5 : Ch (Two b sb) w w5 := hHeld.2.2.trans (Ch_two2 c5)
        have k5 : IsT w5 t b st su pos fl := K.out.kept d5 (fun e => e.elim hb hs)
        have h' : (w5.cell? ⟨t, 0, none⟩ = some (.pointer (some ⟨b, 0, none⟩)) ∧ w5.cell? ⟨t, 3, none⟩ = some (.int .u64 pos)) ∧ Kp w (Two b sb) b sb n nx fi P V w5 := ⟨⟨k5.r, k5.pos⟩, h5, d5⟩
        refine hK.out _ _ h' (fun hHeld9 => ?_)
        clear hK K' hHeld h5 c5 d5 k5 h'
        have hHeld := hHeld9
        clear hHeld9
        (try simp only [Act.put, List.setIfInBounds_toArray, List.set_cons_zero, List.set_cons_succ])
        refine wpAnyH_ready (rs := [12]) (by kernel_rfl) (by simp) ?_
        refine AllReadyH.cons rfl (fun K' hK => ?_) AllReadyH.nil
        go_simp
        have cB : Ch Nil w5 (w5.alloc (.cells #[.int .u64 0, .bool false] 99)) := (Ch.refl _ _).alloc _
        have hB : IsBox (w5.alloc (.cells #[.int .u64 0, .bool false] 99)) w5.heap.size 0 false := isBox_new _ _ _ _
        have hBw : w.heap.size ≤ w5.heap.size := hHeld.2.2.size
        refine hK.out _ _ ⟨⟨cB.keeps hHeld.1.1 (fun e => e), cB.keeps hHeld.1.2 (fun e => e)⟩, hHeld.2.1.kept cB (fun e => e) (fun e => e), hHeld.2.2.trans (Ch_any cB)⟩ (fun hHeld9 => ?_)
        clear hK K' hHeld cB
        generalize w5.heap.size = B at hB hBw ⊢
        generalize w5.alloc (.cells #[.int .u64 0, .bool false] 99) = w9 at hB hHeld9 ⊢
        have hHeld := hHeld9
        clear hHeld9
        have HB := Lib.hid hB
        clear hB
        (try simp only [Act.put, List.setIfInBounds_toArray, List.set_cons_zero, List.set_cons_succ])
        refine wpAnyH_ready (rs := [13]) (by kernel_rfl) (by simp) ?_
        refine AllReadyH.cons rfl (fun K' hK => ?_) AllReadyH.nil
        obtain ⟨b0, b1, bf0, bf1⟩ := HB.out
        go_simp
        clear b0 b1 bf0 bf1
        have lc := look_end (q := q) HB.out (by omega) (by omega) (by omega) hBw hHeld.2.1 (K.out.kept hHeld.2.2 (fun e => e.elim hb hs)) hHeld.2.2
        have lc' := lc
        obtain ⟨B', -, -, -, -, hf, kf, cf⟩ := lc'
        refine hK.out _ _ ⟨⟨kf.r, kf.pos⟩, hf, cf⟩ (fun _ => ?_)
        clear hK K' hf kf cf hHeld HB
        generalize (w9.setCell ⟨B, 0, none⟩ (.int .u64 q)).setCell ⟨B, 1, none⟩ (.bool (P q)) = wE at lc ⊢
        (try simp only [Act.put, List.setIfInBounds_toArray, List.set_cons_zero, List.set_cons_succ])
        refine wpAnyH_done (by kernel_rfl) ?_ _
        go_wp2
        go_meet
        case rel => exact lc
      · go_simp
        have cB : Ch Nil w4 (w4.alloc (.cells #[.int .u64 0, .bool false] 99)) := (Ch.refl _ _).alloc _
        have hB : IsBox (w4.alloc (.cells #[.int .u64 0, .bool false] 99)) w4.heap.size 0 false := isBox_new _ _ _ _
        have hBw : w.heap.size ≤ w4.heap.size := hHeld.2.2.size
        refine hK.out _ _ ⟨⟨cB.keeps hHeld.1.1 (fun e => e), cB.keeps hHeld.1.2 (fun e => e)⟩, hHeld.2.1.kept cB (fun e => e) (fun e => e), hHeld.2.2.trans (Ch_any cB)⟩ (fun hHeld9 => ?_)
        clear hK K' hHeld cB
        generalize w4.heap.size = B at hB hBw ⊢
        generalize w4.alloc (.cells #[.int .u64 0, .bool false] 99) = w9 at hB hHeld9 ⊢
        have hHeld := hHeld9
        clear hHeld9
        have HB := Lib.hid hB
        clear hB
        (try simp only [Act.put, List.setIfInBounds_toArray, List.set_cons_zero, List.set_cons_succ])
        refine wpAnyH_ready (rs := [11]) (by kernel_rfl) (by simp) ?_
        refine AllReadyH.cons rfl (fun K' hK => ?_) AllReadyH.nil
        go_simp
        refine (mark_load hHeld.2.1 q ⟨hq1, hq2⟩ _ (by rw [HM.out])).mono ?_
        rintro e w5 ⟨rfl, h5, c5⟩
        have d5 : Ch (Two b sb) w w5 := hHeld.2.2.trans (Ch_two2 c5)
        have k5 : IsT w5 t b st su pos fl := K.out.kept d5 (fun e => e.elim hb hs)
        have h' : (w5.cell? ⟨t, 0, none⟩ = some (.pointer (some ⟨b, 0, none⟩)) ∧ w5.cell? ⟨t, 3, none⟩ = some (.int .u64 pos)) ∧ Kp w (Two b sb) b sb n nx fi P V w5 := ⟨⟨k5.r, k5.pos⟩, h5, d5⟩
        refine hK.out _ _ h' (fun hHeld9 => ?_)
        replace HB := Lib.hid (HB.out.kept c5 (fun e => by change _ = sb at e; omega))
        clear hK K' hHeld h5 c5 d5 k5 h'
        have hHeld := hHeld9
        clear hHeld9
        (try simp only [Act.put, List.setIfInBounds_toArray, List.set_cons_zero, List.set_cons_succ])
        refine wpAnyH_ready (rs := [13]) (by kernel_rfl) (by simp) ?_
        refine AllReadyH.cons rfl (fun K' hK => ?_) AllReadyH.nil
        obtain ⟨b0, b1, bf0, bf1⟩ := HB.out
        go_simp
        clear b0 b1 bf0 bf1
        have lc := look_end (q := q) HB.out (by omega) (by omega) (by omega) hBw hHeld.2.1 (K.out.kept hHeld.2.2 (fun e => e.elim hb hs)) hHeld.2.2
        have lc' := lc
        obtain ⟨B', -, -, -, -, hf, kf, cf⟩ := lc'
        refine hK.out _ _ ⟨⟨kf.r, kf.pos⟩, hf, cf⟩ (fun _ => ?_)
        clear hK K' hf kf cf hHeld HB
        generalize (w5.setCell ⟨B, 0, none⟩ (.int .u64 q)).setCell ⟨B, 1, none⟩ (.bool (P q)) = wE at lc ⊢
        (try simp only [Act.put, List.setIfInBounds_toArray, List.set_cons_zero, List.set_cons_succ])
        refine wpAnyH_done (by kernel_rfl) ?_ _
        go_wp2
        go_meet
        case rel => exact lc
    · go_simp
      have cB : Ch Nil wd (wd.alloc (.cells #[.int .u64 0, .bool false] 99)) := (Ch.refl _ _).alloc _
      have hB : IsBox (wd.alloc (.cells #[.int .u64 0, .bool false] 99)) wd.heap.size 0 false := isBox_new _ _ _ _
      have hBw : w.heap.size ≤ wd.heap.size := hHeld.2.2.size
      refine hK.out _ _ ⟨⟨cB.keeps hHeld.1.1 (fun e => e), cB.keeps hHeld.1.2 (fun e => e)⟩, hHeld.2.1.kept cB (fun e => e) (fun e => e), hHeld.2.2.trans (Ch_any cB)⟩ (fun hHeld9 => ?_)
      clear hK K' hHeld cB
      generalize wd.heap.size = B at hB hBw ⊢
      generalize wd.alloc (.cells #[.int .u64 0, .bool false] 99) = w9 at hB hHeld9 ⊢
      have hHeld := hHeld9
      clear hHeld9
      have HB := Lib.hid hB
      clear hB
      (try simp only [Act.put, List.setIfInBounds_toArray, List.set_cons_zero, List.set_cons_succ])
      refine wpAnyH_ready (rs := [8]) (by kernel_rfl) (by simp) ?_
      refine AllReadyH.cons rfl (fun K' hK => ?_) AllReadyH.nil
      go_simp
      refine (seat_of hHeld.2.1 pos hx).mono ?_
      rintro e w4 ⟨rfl, h4, c4⟩
      have h' : (w4.cell? ⟨t, 0, none⟩ = some (.pointer (some ⟨b, 0, none⟩)) ∧ w4.cell? ⟨t, 3, none⟩ = some (.int .u64 pos)) ∧ Kp w (Two b sb) b sb n nx fi P V w4 := ⟨⟨c4.keeps hHeld.1.1 (fun e => e), c4.keeps hHeld.1.2 (fun e => e)⟩, h4, hHeld.2.2.trans (Ch_any c4)⟩
      refine hK.out _ _ h' (fun hHeld9 => ?_)
      replace HB := Lib.hid (HB.out.kept c4 (fun e => e))
      clear hK K' hHeld h4 c4 h'
      have hHeld := hHeld9
      clear hHeld9
      (try simp only [Act.put, List.setIfInBounds_toArray, List.set_cons_zero, List.set_cons_succ])
      refine take_at (v := ?_) 9 (some 12) rfl (by kernel_rfl) (by kernel_rfl) (by kernel_rfl) (by kernel_rfl) (fun _ _ _ h => h) (Or.inl ⟨by rfl, ?_⟩) (by assumption) ?_
      rotate_left
      · intro w hSw; (try dsimp only at hSw); go_simp; try (with_reducible rfl)
      (try simp only [Act.put, List.setIfInBounds_toArray, List.set_cons_zero, List.set_cons_succ])
      refine take_at (v := ?_) 10 (some 13) rfl (by kernel_rfl) (by kernel_rfl) (by kernel_rfl) (by kernel_rfl) (fun _ _ _ h => h) (Or.inl ⟨by rfl, ?_⟩) (by assumption) ?_
      rotate_left
      · intro w hSw; (try dsimp only at hSw); go_simp; try (with_reducible rfl)
      (try simp only [Act.put, List.setIfInBounds_toArray, List.set_cons_zero, List.set_cons_succ])
      refine wpAnyH_ready (rs := [11]) (by kernel_rfl) (by simp) ?_
      refine AllReadyH.cons rfl (fun K' hK => ?_) AllReadyH.nil
      go_simp
      refine (mark_load hHeld.2.1 q ⟨hq1, hq2⟩ _ (by rw [HM.out])).mono ?_
      rintro e w5 ⟨rfl, h5, c5⟩
      have d5 : Ch (Two b sb) w w5 := hHeld.2.2.trans (Ch_two2 c5)
      have k5 : IsT w5 t b st su pos fl := K.out.kept d5 (fun e => e.elim hb hs)
      have h' : (w5.cell? ⟨t, 0, none⟩ = some (.pointer (some ⟨b, 0, none⟩)) ∧ w5.cell? ⟨t, 3, none⟩ = some (.int .u64 pos)) ∧ Kp w (Two b sb) b sb n nx fi P V w5 := ⟨⟨k5.r, k5.pos⟩, h5, d5⟩
      refine hK.out _ _ h' (fun hHeld9 => ?_)
      replace HB := Lib.hid (HB.out.kept c5 (fun e => by change _ = sb at e; omega))
      clear hK K' hHeld h5 c5 d5 k5 h'
      have hHeld := hHeld9
      clear hHeld9
      (try simp only [Act.put, List.setIfInBounds_toArray, List.set_cons_zero, List.set_cons_succ])
      refine wpAnyH_ready (rs := [13]) (by kernel_rfl) (by simp) ?_
      refine AllReadyH.cons rfl (fun K' hK => ?_) AllReadyH.nil
      obtain ⟨b0, b1, bf0, bf1⟩ := HB.out
      go_simp
      clear b0 b1 bf0 bf1
      have lc := look_end (q := q) HB.out (by omega) (by omega) (by omega) hBw hHeld.2.1 (K.out.kept hHeld.2.2 (fun e => e.elim hb hs)) hHeld.2.2
      have lc' := lc
      obtain ⟨B', -, -, -, -, hf, kf, cf⟩ := lc'
      refine hK.out _ _ ⟨⟨kf.r, kf.pos⟩, hf, cf⟩ (fun _ => ?_)
      clear hK K' hf kf cf hHeld HB
      generalize (w5.setCell ⟨B, 0, none⟩ (.int .u64 q)).setCell ⟨B, 1, none⟩ (.bool (P q)) = wE at lc ⊢
      (try simp only [Act.put, List.setIfInBounds_toArray, List.set_cons_zero, List.set_cons_succ])
      refine wpAnyH_done (by kernel_rfl) ?_ _
      go_wp2
      go_meet
      case rel => exact lc
  case rest =>
    obtain ⟨B, rfl, hB0, hB1, hBt, hc, kc, cc⟩ := hcut
    have HC := Lib.hid hc
    have KC := Lib.hid kc
    obtain ⟨q0, q1, q2, q3, q4, qf⟩ := kc
    have f1 := qf 1
    have f2 := qf 2
    clear qf hc
    have fin : ∀ (x y : Int) (wz : World), IsT wz t b x y pos fl → Ch (One t) wc wz → Stepped w t b sb n nx fi P V x y pos fl wz := fun x y wz hk hc => ⟨HC.out.kept hc (fun e => hb e.symm) (fun e => hs e.symm), hk, (Ch_tri cc).trans (Ch_tri1 hc)⟩
    by_cases hlt : q < pos
    · have e1 : lookT q pos (P q) st su = (st, 1) := by simp [lookT, hlt]
      have E1 := Lib.hid e1
      have d1 : decide ((q : Int) < (pos : Int)) = true := by simpa using hlt
      have d2 : decide (q < pos) = true := by simpa using hlt
      clear e1
      go_wp2
      go_quiet (fail)
      go_wp2
      go_end0
      rw [E1.out]
      exact ⟨rfl, fin _ _ _ ((KC.out.drewN _).setSu _) (((Ch.refl _ _).drewN _).setB _ _)⟩
    · have d1 : decide ((q : Int) < (pos : Int)) = false := by simpa using hlt
      have d2 : decide (q < pos) = false := by simpa using hlt
      by_cases heq : q = pos
      · subst heq
        cases hp : P q with
        | false =>
          have e1 : lookT q q (P q) st su = (2, su) := by simp [lookT, hp]
          have E1 := Lib.hid e1
          rw [hp] at hB1
          clear e1
          have HPp := Lib.hid hp
          clear hp
          go_wp2
          go_quiet (fail)
          go_wp2
          go_quiet (fail)
          go_wp2
          go_end0
          rw [E1.out]
          exact ⟨rfl, fin _ _ _ ((KC.out.drewN _).setSt _) (((Ch.refl _ _).drewN _).setB _ _)⟩
        | true =>
          have e1 : lookT q q (P q) st su = (0, su) := by simp [lookT, hp]
          have E1 := Lib.hid e1
          rw [hp] at hB1
          clear e1
          have HPp := Lib.hid hp
          clear hp
          go_wp2
          go_quiet (fail)
          go_wp2
          go_quiet (fail)
          go_wp2
          go_end0
          rw [E1.out]
          exact ⟨rfl, fin _ _ _ ((KC.out.drewN _).setSt _) (((Ch.refl _ _).drewN _).setB _ _)⟩
      · have e1 : lookT q pos (P q) st su = (0, su) := by simp [lookT, hlt, heq]
        have E1 := Lib.hid e1
        have d3 : ((q : Int) == (pos : Int)) = false := by rw [beq_eq_false_iff_ne]; omega
        have d4 : (q == pos) = false := by rw [beq_eq_false_iff_ne]; omega
        clear e1
        go_wp2
        go_quiet (fail)
        go_wp2
        go_quiet (fail)
        go_wp2
        go_end0
        rw [E1.out]
        exact ⟨rfl, fin _ _ _ ((KC.out.drewN _).setSt _) (((Ch.refl _ _).drewN _).setB _ _)⟩

section
variable {w : World} {b sb n nx fi : Nat} {P : Nat → Bool} {V : Nat → Tk}
theorem next_swap_yes (h : IsRing w b sb n nx fi P V) (x : Nat) (hx : x = nx + 1) :
    Calls Tryd.prog 75 #[.pointer (some ⟨b, 0, none⟩), .int .u64 nx, .int .u64 x] w fun e w' => e = .returned (.bool true) ∧ IsRing w' b sb n (nx + 1) fi P V ∧ Ch (One b) w w' := by
  subst hx
  exact (swapU_yes b 0 nx _ w h.next).mono fun e w' ⟨he, hu, c⟩ => ⟨he, ⟨hu, h.first.far c (by omega), (c.cell 8 (by omega)).trans h.seats, fun p h1 h2 => (h.seat p h1 h2).kept c.ch (fun e => h.ne e.symm), h.ne, h.n0, h.n1⟩, c.ch⟩
theorem next_swap_no (h : IsRing w b sb n nx fi P V) (old : Nat) (x : Int) (hne : nx ≠ old) :
    Calls Tryd.prog 75 #[.pointer (some ⟨b, 0, none⟩), .int .u64 old, .int .u64 x] w fun e w' => e = .returned (.bool false) ∧ IsRing w' b sb n nx fi P V ∧ Ch (One b) w w' :=
  (swapU_no b 0 nx old x w h.next (by rw [beq_eq_false_iff_ne]; omega)).mono fun e w' ⟨he, hu, c⟩ => ⟨he, ⟨hu, h.first.far c (by omega), (c.cell 8 (by omega)).trans h.seats, fun p h1 h2 => (h.seat p h1 h2).kept c.ch (fun e => h.ne e.symm), h.ne, h.n0, h.n1⟩, c.ch⟩
end

set_option maxHeartbeats 4000000 in
theorem take_yes (t b sb n nx fi : Nat) (P : Nat → Bool) (V : Nat → Tk) (st su : Int) (pos : Nat) (fl : Bool) (w : World) (h : IsRing w b sb n nx fi P V) (k : IsT w t b st su pos fl) (hb : t ≠ b) (hs : t ≠ sb) (hx : pos ≤ 1000000) (heq : nx = pos) :
    Calls Tryd.prog 45 #[.pointer (some ⟨t, 0, none⟩)] w fun e w' => e = .returned (.tuple #[]) ∧ Stepped w t b sb n (nx + 1) fi P V st 2 pos fl w' := by
  have HE := Lib.hid heq
  have H := Lib.hid h
  have K := Lib.hid k
  clear h k heq
  go_enter Tryd.func45, Tryd.ntmps45
  go_wp2
  have hS : (w.drew.cell? ⟨t, 0, none⟩ = some (.pointer (some ⟨b, 0, none⟩)) ∧ w.drew.cell? ⟨t, 3, none⟩ = some (.int .u64 pos)) ∧ True := ⟨⟨K.out.r, K.out.pos⟩, trivial⟩
  have e1 : IntKind.u64.wrap ((pos : Int) + 1) = (pos + 1 : Nat) := by rw [IntWalk.u64_in _ (by omega)]; omega
  refine wp_region_held_drew (S := fun w' => (w'.cell? ⟨t, 0, none⟩ = some (.pointer (some ⟨b, 0, none⟩)) ∧ w'.cell? ⟨t, 3, none⟩ = some (.int .u64 pos)) ∧ True) (by kernel_rfl) hS (fun hHeld => ?_)
  clear hS
  have H0 := Lib.hid H.out.drew
  have c0 : Ch (Tri t b sb) w w.drew := (Ch.refl _ _).drew
  have k0 : IsT w.drew t b st su pos fl := K.out.kept (S := Nil) (Ch.refl _ _).drew (fun e => e)
  have K0 := Lib.hid k0
  clear k0
  generalize w.drew = wd at hHeld H0 c0 K0 ⊢
  refine take_at (v := ?_) 0 (some 2) rfl (by kernel_rfl) (by kernel_rfl) (by kernel_rfl) (by kernel_rfl) (fun _ _ _ h => h) (Or.inl ⟨by rfl, ?_⟩) (by assumption) ?_
  rotate_left
  · intro w hSw; (try dsimp only at hSw); go_simp; try (with_reducible rfl)
  (try simp only [Act.put, List.setIfInBounds_toArray, List.set_cons_zero, List.set_cons_succ])
  refine take_at (v := ?_) 1 (some 3) rfl (by kernel_rfl) (by kernel_rfl) (by kernel_rfl) (by kernel_rfl) (fun _ _ _ h => h) (Or.inl ⟨by rfl, ?_⟩) (by assumption) ?_
  rotate_left
  · intro w hSw; (try dsimp only at hSw); go_simp; try (with_reducible rfl)
  (try simp only [Act.put, List.setIfInBounds_toArray, List.set_cons_zero, List.set_cons_succ])
  refine take_at (v := ?_) 2 (some 4) rfl (by kernel_rfl) (by kernel_rfl) (by kernel_rfl) (by kernel_rfl) (fun _ _ _ h => h) (Or.inl ⟨by rfl, ?_⟩) (by assumption) ?_
  rotate_left
  · intro w hSw; (try dsimp only at hSw); go_simp; try (with_reducible rfl)
  (try simp only [Act.put, List.setIfInBounds_toArray, List.set_cons_zero, List.set_cons_succ])
  refine take_at (v := ?_) 3 (some 5) rfl (by kernel_rfl) (by kernel_rfl) (by kernel_rfl) (by kernel_rfl) (fun _ _ _ h => h) (Or.inl ⟨by rfl, ?_⟩) (by assumption) ?_
  rotate_left
  · intro w hSw; (try dsimp only at hSw); go_simp; try (with_reducible rfl)
  (try simp only [Act.put, List.setIfInBounds_toArray, List.set_cons_zero, List.set_cons_succ])
  refine take_at (v := ?_) 4 (some 6) rfl (by kernel_rfl) (by kernel_rfl) (by kernel_rfl) (by kernel_rfl) (fun _ _ _ h => h) (Or.inl ⟨by rfl, ?_⟩) (by assumption) ?_
  rotate_left
  · intro w hSw; (try dsimp only at hSw); go_simp; try (with_reducible rfl)
  (try simp only [Act.put, List.setIfInBounds_toArray, List.set_cons_zero, List.set_cons_succ])
  refine take_at (v := ?_) 5 (some 7) rfl (by kernel_rfl) (by kernel_rfl) (by kernel_rfl) (by kernel_rfl) (fun _ _ _ h => h) (Or.inl ⟨by rfl, ?_⟩) (by assumption) ?_
  rotate_left
  · intro w hSw; (try dsimp only at hSw); go_simp; try (with_reducible rfl)
  (try simp only [Act.put, List.setIfInBounds_toArray, List.set_cons_zero, List.set_cons_succ])
  refine take_at (v := ?_) 6 (some 8) rfl (by kernel_rfl) (by kernel_rfl) (by kernel_rfl) (by kernel_rfl) (fun _ _ _ h => h) (Or.inl ⟨by rfl, ?_⟩) (by assumption) ?_
  rotate_left
  · intro w hSw; (try dsimp only at hSw); go_simp; try (with_reducible rfl)
  (try simp only [Act.put, List.setIfInBounds_toArray, List.set_cons_zero, List.set_cons_succ])
  refine take_at (v := ?_) 7 (some 9) rfl (by kernel_rfl) (by kernel_rfl) (by kernel_rfl) (by kernel_rfl) (fun _ _ _ h => h) (Or.inl ⟨by rfl, ?_⟩) (by assumption) ?_
  rotate_left
  · intro w hSw; (try dsimp only at hSw); go_simp; try (with_reducible rfl)
  (try simp only [Act.put, List.setIfInBounds_toArray, List.set_cons_zero, List.set_cons_succ])
  refine take_at (v := ?_) 8 (some 10) rfl (by kernel_rfl) (by kernel_rfl) (by kernel_rfl) (by kernel_rfl) (fun _ _ _ h => h) (Or.inl ⟨by rfl, ?_⟩) (by assumption) ?_
  rotate_left
  · intro w hSw; (try dsimp only at hSw); go_simp; try (with_reducible rfl)
  (try simp only [Act.put, List.setIfInBounds_toArray, List.set_cons_zero, List.set_cons_succ])
  refine take_at (v := ?_) 9 (some 11) rfl (by kernel_rfl) (by kernel_rfl) (by kernel_rfl) (by kernel_rfl) (fun _ _ _ h => h) (Or.inl ⟨by rfl, ?_⟩) (by assumption) ?_
  rotate_left
  · intro w hSw; (try dsimp only at hSw); go_simp; try (with_reducible rfl)
  (try simp only [Act.put, List.setIfInBounds_toArray, List.set_cons_zero, List.set_cons_succ])
  refine take_at (v := ?_) 10 (some 12) rfl (by kernel_rfl) (by kernel_rfl) (by kernel_rfl) (by kernel_rfl) (fun _ _ _ h => h) (Or.inl ⟨by rfl, ?_⟩) (by assumption) ?_
  rotate_left
  · intro w hSw; (try dsimp only at hSw); go_simp; try (with_reducible rfl)
  (try simp only [Act.put, List.setIfInBounds_toArray, List.set_cons_zero, List.set_cons_succ])
  refine take_at (v := ?_) 11 (some 13) rfl (by kernel_rfl) (by kernel_rfl) (by kernel_rfl) (by kernel_rfl) (fun _ _ _ h => h) (Or.inl ⟨by rfl, ?_⟩) (by assumption) ?_
  rotate_left
  · intro w hSw; (try dsimp only at hSw); go_simp; try (with_reducible rfl)
  (try simp only [Act.put, List.setIfInBounds_toArray, List.set_cons_zero, List.set_cons_succ])
  refine take_at (v := ?_) 12 (some 14) rfl (by kernel_rfl) (by kernel_rfl) (by kernel_rfl) (by kernel_rfl) (fun _ _ _ h => h) (Or.inl ⟨by rfl, ?_⟩) (by assumption) ?_
  rotate_left
  · intro w hSw; (try dsimp only at hSw); go_simp; try (with_reducible rfl)
  (try simp only [Act.put, List.setIfInBounds_toArray, List.set_cons_zero, List.set_cons_succ])
  refine take_at (v := ?_) 13 (some 15) rfl (by kernel_rfl) (by kernel_rfl) (by kernel_rfl) (by kernel_rfl) (fun _ _ _ h => h) (Or.inl ⟨by rfl, ?_⟩) (by assumption) ?_
  rotate_left
  · intro w hSw; (try dsimp only at hSw); go_simp; try (with_reducible rfl)
  (try simp only [Act.put, List.setIfInBounds_toArray, List.set_cons_zero, List.set_cons_succ])
  refine take_at (v := ?_) 14 (some 16) rfl (by kernel_rfl) (by kernel_rfl) (by kernel_rfl) (by kernel_rfl) (fun _ _ _ h => h) (Or.inl ⟨by rfl, ?_⟩) (by assumption) ?_
  rotate_left
  · intro w hSw; (try dsimp only at hSw); go_simp; try (with_reducible rfl)
  (try simp only [Act.put, List.setIfInBounds_toArray, List.set_cons_zero, List.set_cons_succ])
  clear e1
  refine wpAnyH_ready (rs := [15]) (by kernel_rfl) (by simp) ?_
  refine AllReadyH.cons rfl (fun K' hK => ?_) AllReadyH.nil
  go_simp
  obtain rfl : pos = nx := HE.out.symm
  refine (next_swap_yes H0.out (pos + 1) rfl).mono ?_
  rintro e w1 ⟨rfl, h1, c1⟩
  have k1 : IsT w1 t b st su pos fl := K0.out.kept c1 hb
  refine hK.out _ _ ⟨⟨k1.r, k1.pos⟩, trivial⟩ (fun _ => ?_)
  have H1 := Lib.hid h1
  have K1 := Lib.hid k1
  obtain ⟨q0, q1, q2, q3, q4, qf⟩ := k1
  have f1 := qf 1
  have f2 := qf 2
  clear qf h1 hK K' hHeld
  (try simp only [Act.put, List.setIfInBounds_toArray, List.set_cons_zero, List.set_cons_succ])
  refine wpAnyH_done (by kernel_rfl) ?_ _
  go_wp2
  (try simp only [Exit.inBlock, Exit.then]); refine bodyPost_ret (results_none rfl _ _ _) rfl ?_
  have c2 : Ch (One t) w1 (w1.setCell ⟨t, 2, none⟩ (.int .i64 2)) := (Ch.refl _ _).setB _ _
  exact ⟨rfl, H1.out.kept c2 (fun e => hb e.symm) (fun e => hs e.symm), K1.out.setSu _, (c0.trans (Ch_tri (Ch_two1 c1))).trans (Ch_tri1 c2)⟩

set_option maxHeartbeats 4000000 in
theorem take_no (t b sb n nx fi : Nat) (P : Nat → Bool) (V : Nat → Tk) (st su : Int) (pos : Nat) (fl : Bool) (w : World) (h : IsRing w b sb n nx fi P V) (k : IsT w t b st su pos fl) (hb : t ≠ b) (hs : t ≠ sb) (hx : pos ≤ 1000000) (heq : nx ≠ pos) :
    Calls Tryd.prog 45 #[.pointer (some ⟨t, 0, none⟩)] w fun e w' => e = .returned (.tuple #[]) ∧ Stepped w t b sb n nx fi P V 0 su pos fl w' := by
  have HE := Lib.hid heq
  have H := Lib.hid h
  have K := Lib.hid k
  clear h k heq
  go_enter Tryd.func45, Tryd.ntmps45
  go_wp2
  have hS : (w.drew.cell? ⟨t, 0, none⟩ = some (.pointer (some ⟨b, 0, none⟩)) ∧ w.drew.cell? ⟨t, 3, none⟩ = some (.int .u64 pos)) ∧ True := ⟨⟨K.out.r, K.out.pos⟩, trivial⟩
  have e1 : IntKind.u64.wrap ((pos : Int) + 1) = (pos + 1 : Nat) := by rw [IntWalk.u64_in _ (by omega)]; omega
  refine wp_region_held_drew (S := fun w' => (w'.cell? ⟨t, 0, none⟩ = some (.pointer (some ⟨b, 0, none⟩)) ∧ w'.cell? ⟨t, 3, none⟩ = some (.int .u64 pos)) ∧ True) (by kernel_rfl) hS (fun hHeld => ?_)
  clear hS
  have H0 := Lib.hid H.out.drew
  have c0 : Ch (Tri t b sb) w w.drew := (Ch.refl _ _).drew
  have k0 : IsT w.drew t b st su pos fl := K.out.kept (S := Nil) (Ch.refl _ _).drew (fun e => e)
  have K0 := Lib.hid k0
  clear k0
  generalize w.drew = wd at hHeld H0 c0 K0 ⊢
  refine take_at (v := ?_) 0 (some 2) rfl (by kernel_rfl) (by kernel_rfl) (by kernel_rfl) (by kernel_rfl) (fun _ _ _ h => h) (Or.inl ⟨by rfl, ?_⟩) (by assumption) ?_
  rotate_left
  · intro w hSw; (try dsimp only at hSw); go_simp; try (with_reducible rfl)
  (try simp only [Act.put, List.setIfInBounds_toArray, List.set_cons_zero, List.set_cons_succ])
  refine take_at (v := ?_) 1 (some 3) rfl (by kernel_rfl) (by kernel_rfl) (by kernel_rfl) (by kernel_rfl) (fun _ _ _ h => h) (Or.inl ⟨by rfl, ?_⟩) (by assumption) ?_
  rotate_left
  · intro w hSw; (try dsimp only at hSw); go_simp; try (with_reducible rfl)
  (try simp only [Act.put, List.setIfInBounds_toArray, List.set_cons_zero, List.set_cons_succ])
  refine take_at (v := ?_) 2 (some 4) rfl (by kernel_rfl) (by kernel_rfl) (by kernel_rfl) (by kernel_rfl) (fun _ _ _ h => h) (Or.inl ⟨by rfl, ?_⟩) (by assumption) ?_
  rotate_left
  · intro w hSw; (try dsimp only at hSw); go_simp; try (with_reducible rfl)
  (try simp only [Act.put, List.setIfInBounds_toArray, List.set_cons_zero, List.set_cons_succ])
  refine take_at (v := ?_) 3 (some 5) rfl (by kernel_rfl) (by kernel_rfl) (by kernel_rfl) (by kernel_rfl) (fun _ _ _ h => h) (Or.inl ⟨by rfl, ?_⟩) (by assumption) ?_
  rotate_left
  · intro w hSw; (try dsimp only at hSw); go_simp; try (with_reducible rfl)
  (try simp only [Act.put, List.setIfInBounds_toArray, List.set_cons_zero, List.set_cons_succ])
  refine take_at (v := ?_) 4 (some 6) rfl (by kernel_rfl) (by kernel_rfl) (by kernel_rfl) (by kernel_rfl) (fun _ _ _ h => h) (Or.inl ⟨by rfl, ?_⟩) (by assumption) ?_
  rotate_left
  · intro w hSw; (try dsimp only at hSw); go_simp; try (with_reducible rfl)
  (try simp only [Act.put, List.setIfInBounds_toArray, List.set_cons_zero, List.set_cons_succ])
  refine take_at (v := ?_) 5 (some 7) rfl (by kernel_rfl) (by kernel_rfl) (by kernel_rfl) (by kernel_rfl) (fun _ _ _ h => h) (Or.inl ⟨by rfl, ?_⟩) (by assumption) ?_
  rotate_left
  · intro w hSw; (try dsimp only at hSw); go_simp; try (with_reducible rfl)
  (try simp only [Act.put, List.setIfInBounds_toArray, List.set_cons_zero, List.set_cons_succ])
  refine take_at (v := ?_) 6 (some 8) rfl (by kernel_rfl) (by kernel_rfl) (by kernel_rfl) (by kernel_rfl) (fun _ _ _ h => h) (Or.inl ⟨by rfl, ?_⟩) (by assumption) ?_
  rotate_left
  · intro w hSw; (try dsimp only at hSw); go_simp; try (with_reducible rfl)
  (try simp only [Act.put, List.setIfInBounds_toArray, List.set_cons_zero, List.set_cons_succ])
  refine take_at (v := ?_) 7 (some 9) rfl (by kernel_rfl) (by kernel_rfl) (by kernel_rfl) (by kernel_rfl) (fun _ _ _ h => h) (Or.inl ⟨by rfl, ?_⟩) (by assumption) ?_
  rotate_left
  · intro w hSw; (try dsimp only at hSw); go_simp; try (with_reducible rfl)
  (try simp only [Act.put, List.setIfInBounds_toArray, List.set_cons_zero, List.set_cons_succ])
  refine take_at (v := ?_) 8 (some 10) rfl (by kernel_rfl) (by kernel_rfl) (by kernel_rfl) (by kernel_rfl) (fun _ _ _ h => h) (Or.inl ⟨by rfl, ?_⟩) (by assumption) ?_
  rotate_left
  · intro w hSw; (try dsimp only at hSw); go_simp; try (with_reducible rfl)
  (try simp only [Act.put, List.setIfInBounds_toArray, List.set_cons_zero, List.set_cons_succ])
  refine take_at (v := ?_) 9 (some 11) rfl (by kernel_rfl) (by kernel_rfl) (by kernel_rfl) (by kernel_rfl) (fun _ _ _ h => h) (Or.inl ⟨by rfl, ?_⟩) (by assumption) ?_
  rotate_left
  · intro w hSw; (try dsimp only at hSw); go_simp; try (with_reducible rfl)
  (try simp only [Act.put, List.setIfInBounds_toArray, List.set_cons_zero, List.set_cons_succ])
  refine take_at (v := ?_) 10 (some 12) rfl (by kernel_rfl) (by kernel_rfl) (by kernel_rfl) (by kernel_rfl) (fun _ _ _ h => h) (Or.inl ⟨by rfl, ?_⟩) (by assumption) ?_
  rotate_left
  · intro w hSw; (try dsimp only at hSw); go_simp; try (with_reducible rfl)
  (try simp only [Act.put, List.setIfInBounds_toArray, List.set_cons_zero, List.set_cons_succ])
  refine take_at (v := ?_) 11 (some 13) rfl (by kernel_rfl) (by kernel_rfl) (by kernel_rfl) (by kernel_rfl) (fun _ _ _ h => h) (Or.inl ⟨by rfl, ?_⟩) (by assumption) ?_
  rotate_left
  · intro w hSw; (try dsimp only at hSw); go_simp; try (with_reducible rfl)
  (try simp only [Act.put, List.setIfInBounds_toArray, List.set_cons_zero, List.set_cons_succ])
  refine take_at (v := ?_) 12 (some 14) rfl (by kernel_rfl) (by kernel_rfl) (by kernel_rfl) (by kernel_rfl) (fun _ _ _ h => h) (Or.inl ⟨by rfl, ?_⟩) (by assumption) ?_
  rotate_left
  · intro w hSw; (try dsimp only at hSw); go_simp; try (with_reducible rfl)
  (try simp only [Act.put, List.setIfInBounds_toArray, List.set_cons_zero, List.set_cons_succ])
  refine take_at (v := ?_) 13 (some 15) rfl (by kernel_rfl) (by kernel_rfl) (by kernel_rfl) (by kernel_rfl) (fun _ _ _ h => h) (Or.inl ⟨by rfl, ?_⟩) (by assumption) ?_
  rotate_left
  · intro w hSw; (try dsimp only at hSw); go_simp; try (with_reducible rfl)
  (try simp only [Act.put, List.setIfInBounds_toArray, List.set_cons_zero, List.set_cons_succ])
  refine take_at (v := ?_) 14 (some 16) rfl (by kernel_rfl) (by kernel_rfl) (by kernel_rfl) (by kernel_rfl) (fun _ _ _ h => h) (Or.inl ⟨by rfl, ?_⟩) (by assumption) ?_
  rotate_left
  · intro w hSw; (try dsimp only at hSw); go_simp; try (with_reducible rfl)
  (try simp only [Act.put, List.setIfInBounds_toArray, List.set_cons_zero, List.set_cons_succ])
  clear e1
  refine wpAnyH_ready (rs := [15]) (by kernel_rfl) (by simp) ?_
  refine AllReadyH.cons rfl (fun K' hK => ?_) AllReadyH.nil
  go_simp
  refine (next_swap_no H0.out pos _ HE.out).mono ?_
  rintro e w1 ⟨rfl, h1, c1⟩
  have k1 : IsT w1 t b st su pos fl := K0.out.kept c1 hb
  refine hK.out _ _ ⟨⟨k1.r, k1.pos⟩, trivial⟩ (fun _ => ?_)
  have H1 := Lib.hid h1
  have K1 := Lib.hid k1
  obtain ⟨q0, q1, q2, q3, q4, qf⟩ := k1
  have f1 := qf 1
  have f2 := qf 2
  clear qf h1 hK K' hHeld
  (try simp only [Act.put, List.setIfInBounds_toArray, List.set_cons_zero, List.set_cons_succ])
  refine wpAnyH_done (by kernel_rfl) ?_ _
  go_wp2
  go_end0
  have c2 : Ch (One t) w1 (w1.setCell ⟨t, 1, none⟩ (.int .i64 0)) := (Ch.refl _ _).setB _ _
  exact ⟨rfl, H1.out.kept c2 (fun e => hb e.symm) (fun e => hs e.symm), K1.out.setSt _, (c0.trans (Ch_tri (Ch_two1 c1))).trans (Ch_tri1 c2)⟩

end Go.Proofs.YtldnmpiaofppgaaDoor.RT

/-
  Contracts of package ring's functions at verge/api.Task: a ticket's step, whichever it is.
-/
namespace Go.Proofs.YtldnmpiaofppgaaDoor.RT
open Go.RowKit Verge
attribute [local go_sem] Oper.semAt_some
set_option linter.unusedVariables false
set_option linter.unusedSimpArgs false

theorem run_store_fn (P : Program) (w : World) (a : Addr) (m : Mode) (f : Fn) (xs cs : Array Value) : (store a (.func f xs cs) m).run P w = stored P w a (.func f xs cs) m := run_store P w a _ m rfl
attribute [local go_sem] run_store_fn
theorem step_nil (w : World) :
    Calls Tryd.prog 21 #[.pointer none] w fun e w' => e = .returned (.int .i64 1) ∧ w = w' := by
  go_enter Tryd.func21, Tryd.ntmps21
  go_wp2
  go_ret
  exact ⟨rfl, rfl⟩

theorem step_idle (t b sb n nx fi : Nat) (P : Nat → Bool) (V : Nat → Tk) (st su : Int) (pos : Nat) (fl : Bool) (w : World) (h : IsRing w b sb n nx fi P V) (k : IsT w t b st su pos fl) (hs : su ≠ 0) :
    Calls Tryd.prog 21 #[.pointer (some ⟨t, 0, none⟩)] w fun e w' => e = .returned (.int .i64 su) ∧ w = w' := by
  have n0 := h.n0
  have hse := h.seats
  have d1 : (su == 0) = false := by rw [beq_eq_false_iff_ne]; exact hs
  obtain ⟨q0, q1, q2, q3, q4, qf⟩ := k
  clear h qf
  go_enter Tryd.func21, Tryd.ntmps21
  go_wp2_with fail
  refine (roomless_no b sb n _ hse n0).mono ?_
  rintro e w1 ⟨rfl, rfl⟩
  go_wp2
  go_ret
  exact ⟨rfl, rfl⟩


set_option maxHeartbeats 1600000 in
theorem step_choose (t b sb n nx fi : Nat) (P : Nat → Bool) (V : Nat → Tk) (pos : Nat) (fl : Bool) (w : World) (h : IsRing w b sb n nx fi P V) (k : IsT w t b 0 0 pos fl) (hb : t ≠ b) (hs : t ≠ sb)  :
    Calls Tryd.prog 21 #[.pointer (some ⟨t, 0, none⟩)] w fun e w' => e = .returned (.int .i64 0) ∧ Stepped w t b sb n nx fi P V 1 0 nx fl w' := by
  have n0 := h.n0
  have hse := h.seats
  have H := Lib.hid h
  have K := Lib.hid k
  have hk := k.lt
  have hne : ¬ w.heap.size = t := by omega
  obtain ⟨q0, q1, q2, q3, q4, qf⟩ := k
  clear h qf
  go_enter Tryd.func21, Tryd.ntmps21
  go_wp2_with fail
  refine (roomless_no b sb n _ hse n0).mono ?_
  rintro e w1 ⟨rfl, rfl⟩
  clear hse
  go_wp2_with fail
  clear q0 q1 q2 q3 q4
  have cA : Ch Nil w (w.alloc (Obj.cells #[Value.func (Fn.func 43) #[] #[], Value.func (Fn.func 44) #[] #[], Value.func (Fn.func 45) #[] #[]] 95)) := (Ch.refl _ _).alloc _
  have HA := Lib.hid (H.out.kept cA (fun e => e) (fun e => e))
  have KA := Lib.hid (K.out.kept cA (fun e => e))
  generalize w.alloc (Obj.cells #[Value.func (Fn.func 43) #[] #[], Value.func (Fn.func 44) #[] #[], Value.func (Fn.func 45) #[] #[]] 95) = wa at cA HA KA ⊢
  refine (choose_at t b sb n nx fi P V 0 0 pos fl _ HA.out KA.out hb hs).mono ?_
  rintro e w2 ⟨rfl, h2, k2, c2⟩
  have H2 := Lib.hid h2
  have K2 := Lib.hid k2
  have q2 := k2.su
  clear h2 k2
  go_wp2
  go_ret
  exact ⟨rfl, H2.out, K2.out, (Ch_any cA).trans c2⟩

set_option maxHeartbeats 1600000 in
theorem step_look (t b sb n nx fi : Nat) (P : Nat → Bool) (V : Nat → Tk) (pos : Nat) (fl : Bool) (w : World) (h : IsRing w b sb n nx fi P V) (k : IsT w t b 1 0 pos fl) (hb : t ≠ b) (hs : t ≠ sb) (hx : pos ≤ 1000000) (q : Nat) (hq : fi ≤ q ∧ q < fi + n) (hm : Hid (q % n = pos % n)) :
    Calls Tryd.prog 21 #[.pointer (some ⟨t, 0, none⟩)] w fun e w' => e = .returned (.int .i64 (lookT q pos (P q) 1 0).2) ∧ Stepped w t b sb n nx fi P V (lookT q pos (P q) 1 0).1 (lookT q pos (P q) 1 0).2 pos fl w' := by
  have n0 := h.n0
  have hse := h.seats
  have H := Lib.hid h
  have K := Lib.hid k
  have hk := k.lt
  have hne : ¬ w.heap.size = t := by omega
  obtain ⟨q0, q1, q2, q3, q4, qf⟩ := k
  clear h qf
  go_enter Tryd.func21, Tryd.ntmps21
  go_wp2_with fail
  refine (roomless_no b sb n _ hse n0).mono ?_
  rintro e w1 ⟨rfl, rfl⟩
  clear hse
  go_wp2_with fail
  clear q0 q1 q2 q3 q4
  have cA : Ch Nil w (w.alloc (Obj.cells #[Value.func (Fn.func 43) #[] #[], Value.func (Fn.func 44) #[] #[], Value.func (Fn.func 45) #[] #[]] 95)) := (Ch.refl _ _).alloc _
  have HA := Lib.hid (H.out.kept cA (fun e => e) (fun e => e))
  have KA := Lib.hid (K.out.kept cA (fun e => e))
  generalize w.alloc (Obj.cells #[Value.func (Fn.func 43) #[] #[], Value.func (Fn.func 44) #[] #[], Value.func (Fn.func 45) #[] #[]] 95) = wa at cA HA KA ⊢
  refine (look_at t b sb n nx fi P V 1 0 pos fl _ HA.out KA.out hb hs hx q hq hm.out).mono ?_
  rintro e w2 ⟨rfl, h2, k2, c2⟩
  have H2 := Lib.hid h2
  have K2 := Lib.hid k2
  have q2 := k2.su
  clear h2 k2
  go_wp2
  go_ret
  exact ⟨rfl, H2.out, K2.out, (Ch_any cA).trans c2⟩

set_option maxHeartbeats 1600000 in
theorem step_take (t b sb n nx fi : Nat) (P : Nat → Bool) (V : Nat → Tk) (pos : Nat) (fl : Bool) (w : World) (h : IsRing w b sb n nx fi P V) (k : IsT w t b 2 0 pos fl) (hb : t ≠ b) (hs : t ≠ sb) (hx : pos ≤ 1000000) (heq : Hid (nx = pos)) :
    Calls Tryd.prog 21 #[.pointer (some ⟨t, 0, none⟩)] w fun e w' => e = .returned (.int .i64 2) ∧ Stepped w t b sb n (nx + 1) fi P V 2 2 pos fl w' := by
  have n0 := h.n0
  have hse := h.seats
  have H := Lib.hid h
  have K := Lib.hid k
  have hk := k.lt
  have hne : ¬ w.heap.size = t := by omega
  obtain ⟨q0, q1, q2, q3, q4, qf⟩ := k
  clear h qf
  go_enter Tryd.func21, Tryd.ntmps21
  go_wp2_with fail
  refine (roomless_no b sb n _ hse n0).mono ?_
  rintro e w1 ⟨rfl, rfl⟩
  clear hse
  go_wp2_with fail
  clear q0 q1 q2 q3 q4
  have cA : Ch Nil w (w.alloc (Obj.cells #[Value.func (Fn.func 43) #[] #[], Value.func (Fn.func 44) #[] #[], Value.func (Fn.func 45) #[] #[]] 95)) := (Ch.refl _ _).alloc _
  have HA := Lib.hid (H.out.kept cA (fun e => e) (fun e => e))
  have KA := Lib.hid (K.out.kept cA (fun e => e))
  generalize w.alloc (Obj.cells #[Value.func (Fn.func 43) #[] #[], Value.func (Fn.func 44) #[] #[], Value.func (Fn.func 45) #[] #[]] 95) = wa at cA HA KA ⊢
  refine (take_yes t b sb n nx fi P V 2 0 pos fl _ HA.out KA.out hb hs hx heq.out).mono ?_
  rintro e w2 ⟨rfl, h2, k2, c2⟩
  have H2 := Lib.hid h2
  have K2 := Lib.hid k2
  have q2 := k2.su
  clear h2 k2
  go_wp2
  go_ret
  exact ⟨rfl, H2.out, K2.out, (Ch_any cA).trans c2⟩

set_option maxHeartbeats 1600000 in
theorem step_miss (t b sb n nx fi : Nat) (P : Nat → Bool) (V : Nat → Tk) (pos : Nat) (fl : Bool) (w : World) (h : IsRing w b sb n nx fi P V) (k : IsT w t b 2 0 pos fl) (hb : t ≠ b) (hs : t ≠ sb) (hx : pos ≤ 1000000) (heq : Hid (nx ≠ pos)) :
    Calls Tryd.prog 21 #[.pointer (some ⟨t, 0, none⟩)] w fun e w' => e = .returned (.int .i64 0) ∧ Stepped w t b sb n nx fi P V 0 0 pos fl w' := by
  have n0 := h.n0
  have hse := h.seats
  have H := Lib.hid h
  have K := Lib.hid k
  have hk := k.lt
  have hne : ¬ w.heap.size = t := by omega
  obtain ⟨q0, q1, q2, q3, q4, qf⟩ := k
  clear h qf
  go_enter Tryd.func21, Tryd.ntmps21
  go_wp2_with fail
  refine (roomless_no b sb n _ hse n0).mono ?_
  rintro e w1 ⟨rfl, rfl⟩
  clear hse
  go_wp2_with fail
  clear q0 q1 q2 q3 q4
  have cA : Ch Nil w (w.alloc (Obj.cells #[Value.func (Fn.func 43) #[] #[], Value.func (Fn.func 44) #[] #[], Value.func (Fn.func 45) #[] #[]] 95)) := (Ch.refl _ _).alloc _
  have HA := Lib.hid (H.out.kept cA (fun e => e) (fun e => e))
  have KA := Lib.hid (K.out.kept cA (fun e => e))
  generalize w.alloc (Obj.cells #[Value.func (Fn.func 43) #[] #[], Value.func (Fn.func 44) #[] #[], Value.func (Fn.func 45) #[] #[]] 95) = wa at cA HA KA ⊢
  refine (take_no t b sb n nx fi P V 2 0 pos fl _ HA.out KA.out hb hs hx heq.out).mono ?_
  rintro e w2 ⟨rfl, h2, k2, c2⟩
  have H2 := Lib.hid h2
  have K2 := Lib.hid k2
  have q2 := k2.su
  clear h2 k2
  go_wp2
  go_ret
  exact ⟨rfl, H2.out, K2.out, (Ch_any cA).trans c2⟩

open Verge
theorem step_any (t b sb n nx fi : Nat) (P : Nat → Bool) (V : Nat → Tk) (s : TSt) (w : World) (h : IsRing w b sb n nx fi P V) (k : IsT w t b s.st s.su s.pos s.fl) (hb : t ≠ b) (hs : t ≠ sb) (hx : s.pos ≤ 1000000)
    (hst : s.st = 0 ∨ s.st = 1 ∨ s.st = 2) :
    Calls Tryd.prog 21 #[.pointer (some ⟨t, 0, none⟩)] w fun e w' => e = .returned (.int .i64 (tickStep n nx fi P s).2.su) ∧
      Stepped w t b sb n (tickStep n nx fi P s).1 fi P V (tickStep n nx fi P s).2.st (tickStep n nx fi P s).2.su (tickStep n nx fi P s).2.pos (tickStep n nx fi P s).2.fl w' := by
  obtain ⟨st, su, pos, fl⟩ := s
  dsimp only at k hx hst
  by_cases h0 : su = 0
  · subst h0
    rcases hst with rfl | rfl | rfl
    · exact step_choose t b sb n nx fi P V pos fl w h k hb hs
    · obtain ⟨q, hq1, hq2, hqm⟩ := mod_window n fi pos h.n0
      have e : ((tickStep n nx fi P ⟨1, 0, pos, fl⟩).2.st, (tickStep n nx fi P ⟨1, 0, pos, fl⟩).2.su) = lookT q pos (P q) 1 0 ∧ (tickStep n nx fi P ⟨1, 0, pos, fl⟩).2.pos = pos ∧ (tickStep n nx fi P ⟨1, 0, pos, fl⟩).2.fl = fl ∧ (tickStep n nx fi P ⟨1, 0, pos, fl⟩).1 = nx := by
        by_cases a1 : fi + n ≤ pos
        · have : q < pos := by omega
          simp [tickStep, lookT, a1, this]
        · by_cases a2 : pos < fi
          · have e1 : ¬ q < pos := by omega
            have e2 : ¬ q = pos := by omega
            simp [tickStep, lookT, a1, a2, e1, e2]
          · have : q = pos := by
              apply Classical.byContradiction
              intro hne
              exact mod_apart ⟨hq1, hq2⟩ (by omega : fi ≤ pos ∧ pos < fi + n) hne hqm
            subst this
            cases hP : P q <;> simp [tickStep, lookT, a1, a2, hP]
      obtain ⟨e1, e2, e3, e4⟩ := e
      rw [Prod.ext_iff] at e1
      dsimp only at e1
      rw [e1.1, e1.2, e2, e3, e4]
      exact step_look t b sb n nx fi P V pos fl w h k hb hs hx q ⟨hq1, hq2⟩ hqm
    · by_cases heq : nx = pos
      · have e : tickStep n nx fi P ⟨2, 0, pos, fl⟩ = (nx + 1, ⟨2, 2, pos, fl⟩) := by simp [tickStep, heq]
        rw [e]
        exact step_take t b sb n nx fi P V pos fl w h k hb hs hx heq
      · have e : tickStep n nx fi P ⟨2, 0, pos, fl⟩ = (nx, ⟨0, 0, pos, fl⟩) := by simp [tickStep, heq]
        rw [e]
        exact step_miss t b sb n nx fi P V pos fl w h k hb hs hx heq
  · have e : tickStep n nx fi P ⟨st, su, pos, fl⟩ = (nx, ⟨st, su, pos, fl⟩) := by simp [tickStep, h0]
    rw [e]
    exact (step_idle t b sb n nx fi P V st su pos fl w h k h0).mono fun e w' ⟨he, hw⟩ => by subst hw; exact ⟨he, h, k, Ch.refl _ _⟩
end Go.Proofs.YtldnmpiaofppgaaDoor.RT
