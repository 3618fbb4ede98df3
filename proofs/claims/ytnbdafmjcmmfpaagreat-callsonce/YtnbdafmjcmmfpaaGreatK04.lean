import Derived.Test.YtnbdafmjcmmfpaaGreatK03
import Derived.Test.YtnbdafmjcmmfpaaGreatK02
import Derived.Deep.Cut
import Derived.Deep.CutRange
/-
  Contracts of package ring's functions at verge/api.Task: seats, what a ring tells of itself, tickets.
-/
namespace Go.Proofs.YtnbdafmjcmmfpaaGreat.RT
open Go.RowKit Verge
attribute [local go_sem] Oper.semAt_some
set_option linter.unusedVariables false
set_option linter.unusedSimpArgs false

/-- a seat: its mark, its thing -/
structure IsSeat (w : World) (b o : Nat) (p : Int) (q : Bool) (v : Tk) : Prop where
  m : IsM w b o p q
  z : ∃ z, IsTk w b (o + 5) z ∧ (q = true → z = v)
  f : ∀ j, w.frozen? ⟨b, j, none⟩ = false
theorem IsSeat.kept {S : Nat → Prop} {w w' : World} {b o : Nat} {p : Int} {q : Bool} {v : Tk} (h : IsSeat w b o p q v) (c : Ch S w w') (hn : ¬ S b) : IsSeat w' b o p q v := by
  have hl := h.m.lt
  obtain ⟨z, hz, hq⟩ := h.z
  exact ⟨h.m.kept c hn, ⟨z, hz.kept c hn, hq⟩, fun j => (c.frozen (p := ⟨b, _, none⟩) hl hn).trans (h.f j)⟩
theorem IsSeat.far {w w' : World} {b o o' k : Nat} {p : Int} {q : Bool} {v : Tk} (h : IsSeat w b o p q v) (c : Tch b o' k w w') (hn : o + 10 ≤ o' ∨ o' + k ≤ o) : IsSeat w' b o p q v := by
  obtain ⟨z, hz, hq⟩ := h.z
  exact ⟨h.m.far c (by omega), ⟨z, hz.far c (by omega), hq⟩, fun j => (c.fz _).trans (h.f j)⟩

/-- a ring: room n, the next position nx, the first one fi; of the window's positions whether each is published, with what -/
structure IsRing (w : World) (b sb n nx fi : Nat) (P : Nat → Bool) (V : Nat → Tk) : Prop where
  next : IsU w b 0 nx
  first : IsU w b 4 fi
  seats : w.cell? ⟨b, 8, none⟩ = some (.slice (some ⟨sb, 0, none⟩) n n)
  seat : ∀ p, fi ≤ p → p < fi + n → IsSeat w sb (p % n * 10) p (P p) (V p)
  ne : b ≠ sb
  n0 : 0 < n
  n1 : n ≤ 64
theorem IsRing.lt {w : World} {b sb n nx fi : Nat} {P : Nat → Bool} {V : Nat → Tk} (h : IsRing w b sb n nx fi P V) : b < w.heap.size := h.next.lt
theorem IsRing.lt2 {w : World} {b sb n nx fi : Nat} {P : Nat → Bool} {V : Nat → Tk} (h : IsRing w b sb n nx fi P V) : sb < w.heap.size := (h.seat fi (Nat.le_refl _) (by have := h.n0; omega)).m.lt
theorem IsRing.kept {S : Nat → Prop} {w w' : World} {b sb n nx fi : Nat} {P : Nat → Bool} {V : Nat → Tk} (h : IsRing w b sb n nx fi P V) (c : Ch S w w') (hb : ¬ S b) (hs : ¬ S sb) : IsRing w' b sb n nx fi P V :=
  ⟨h.next.kept c hb, h.first.kept c hb, c.keeps h.seats hb, fun p h1 h2 => (h.seat p h1 h2).kept c hs, h.ne, h.n0, h.n1⟩
/-- a position's seat has turned, its mark and its thing stand anew -/
theorem seats_turn {w w' : World} {sb n fi o k p : Nat} {P P' : Nat → Bool} {V V' : Nat → Tk} (h : ∀ p, fi ≤ p → p < fi + n → IsSeat w sb (p % n * 10) p (P p) (V p)) (hp : fi ≤ p ∧ p < fi + n)
    (c : Tch sb o k w w') (ho : p % n * 10 ≤ o ∧ o + k ≤ p % n * 10 + 10) (hs : IsSeat w' sb (p % n * 10) p (P' p) (V' p)) (hP : ∀ q, q ≠ p → P' q = P q) (hV : ∀ q, q ≠ p → V' q = V q) :
    ∀ p, fi ≤ p → p < fi + n → IsSeat w' sb (p % n * 10) p (P' p) (V' p) := by
  intro q h1 h2
  by_cases e : q = p
  · subst e; exact hs
  · rw [hP q e, hV q e]
    have hm := mod_apart ⟨h1, h2⟩ hp e
    exact (h q h1 h2).far c (by omega)
abbrev Two (b sb : Nat) : Nat → Prop := fun k => k = b ∨ k = sb
abbrev Tri (t b sb : Nat) : Nat → Prop := fun k => k = t ∨ k = b ∨ k = sb

theorem Ch_two1 {b sb : Nat} {w w' : World} (c : Ch (One b) w w') : Ch (Two b sb) w w' := c.mono fun _ _ e => .inl e
theorem Ch_two2 {b sb : Nat} {w w' : World} (c : Ch (One sb) w w') : Ch (Two b sb) w w' := c.mono fun _ _ e => .inr e
theorem Ch_tri {t b sb : Nat} {w w' : World} (c : Ch (Two b sb) w w') : Ch (Tri t b sb) w w' := c.mono fun _ _ e => .inr e
theorem Ch_tri1 {t b sb : Nat} {w w' : World} (c : Ch (One t) w w') : Ch (Tri t b sb) w w' := c.mono fun _ _ e => .inl e
theorem Ch_any {S : Nat → Prop} {w w' : World} (c : Ch Nil w w') : Ch S w w' := c.mono fun _ _ e => e.elim

theorem seat_at (b sb n p : Nat) (w : World) (hs : w.cell? ⟨b, 8, none⟩ = some (.slice (some ⟨sb, 0, none⟩) n n)) (n0 : 0 < n) (n1 : n ≤ 64) (hp : p ≤ 1000000) :
    Calls Tryz.prog 68 #[.pointer (some ⟨b, 0, none⟩), .int .u64 p] w fun e w' => e = .returned (.pointer (some ⟨sb, p % n * 10, none⟩)) ∧ ∃ k, w' = w.drewN k := by
  have hm := Nat.mod_lt p n0
  go_enter Tryz.func68, Tryz.ntmps68
  go_wp2
  go_quiet (fail)
  go_wp2
  go_ret
  exact ⟨rfl, _, rfl⟩

theorem roomless_no (b sb n : Nat) (w : World) (hs : w.cell? ⟨b, 8, none⟩ = some (.slice (some ⟨sb, 0, none⟩) n n)) (n0 : 0 < n) :
    Calls Tryz.prog 73 #[.pointer (some ⟨b, 0, none⟩)] w fun e w' => e = .returned (.bool false) ∧ w = w' := by
  have hz : ((n : Int) == 0) = false := by rw [beq_eq_false_iff_ne]; omega
  go_enter Tryz.func73, Tryz.ntmps73
  go_wp2
  go_ret
  exact ⟨rfl, rfl⟩
theorem roomless_nil (w : World) :
    Calls Tryz.prog 73 #[.pointer none] w fun e w' => e = .returned (.bool true) ∧ w = w' := by
  go_enter Tryz.func73, Tryz.ntmps73
  go_wp2
  go_ret
  exact ⟨rfl, rfl⟩

section
variable {w : World} {b sb n nx fi : Nat} {P : Nat → Bool} {V : Nat → Tk}
theorem IsRing.drewN (h : IsRing w b sb n nx fi P V) (k : Nat) : IsRing (w.drewN k) b sb n nx fi P V := h.kept (S := Nil) ((Ch.refl _ _).drewN k) (fun e => e) (fun e => e)
theorem IsRing.drew (h : IsRing w b sb n nx fi P V) : IsRing w.drew b sb n nx fi P V := h.kept (S := Nil) (Ch.refl _ _).drew (fun e => e) (fun e => e)
theorem IsRing.alloc (h : IsRing w b sb n nx fi P V) (o : Obj) : IsRing (w.alloc o) b sb n nx fi P V := h.kept (S := Nil) ((Ch.refl _ _).alloc o) (fun e => e) (fun e => e)
theorem next_load (h : IsRing w b sb n nx fi P V) :
    Calls Tryz.prog 67 #[.pointer (some ⟨b, 0, none⟩)] w fun e w' => e = .returned (.int .u64 nx) ∧ IsRing w' b sb n nx fi P V ∧ Ch (One b) w w' :=
  (loadU_at b 0 nx w h.next).mono fun e w' ⟨he, hu, c⟩ => ⟨he, ⟨hu, h.first.far c (by omega), (c.cell 8 (by omega)).trans h.seats, fun p h1 h2 => (h.seat p h1 h2).kept c.ch (fun e => h.ne e.symm), h.ne, h.n0, h.n1⟩, c.ch⟩
theorem first_load (h : IsRing w b sb n nx fi P V) :
    Calls Tryz.prog 67 #[.pointer (some ⟨b, 4, none⟩)] w fun e w' => e = .returned (.int .u64 fi) ∧ IsRing w' b sb n nx fi P V ∧ Ch (One b) w w' :=
  (loadU_at b 4 fi w h.first).mono fun e w' ⟨he, hu, c⟩ => ⟨he, ⟨h.next.far c (by omega), hu, (c.cell 8 (by omega)).trans h.seats, fun p h1 h2 => (h.seat p h1 h2).kept c.ch (fun e => h.ne e.symm), h.ne, h.n0, h.n1⟩, c.ch⟩
theorem mark_load (h : IsRing w b sb n nx fi P V) (p : Nat) (hp : fi ≤ p ∧ p < fi + n) (o : Nat) (ho : p % n * 10 = o) :
    Calls Tryz.prog 86 #[.pointer (some ⟨sb, o, none⟩)] w fun e w' => e = .returned (mk p (P p)) ∧ IsRing w' b sb n nx fi P V ∧ Ch (One sb) w w' := by
  subst ho
  obtain ⟨z, hz, hq⟩ := (h.seat p hp.1 hp.2).z
  refine (loadM_at sb (p % n * 10) p (P p) w (h.seat p hp.1 hp.2).m).mono fun e w' ⟨he, hm, c⟩ => ⟨he, ⟨h.next.kept c.ch h.ne, h.first.kept c.ch h.ne, c.ch.keeps h.seats h.ne, ?_, h.ne, h.n0, h.n1⟩, c.ch⟩
  exact seats_turn h.seat hp c (by omega) ⟨hm, ⟨z, hz.far c (by omega), hq⟩, fun j => (c.fz _).trans ((h.seat p hp.1 hp.2).f j)⟩ (fun _ _ => rfl) (fun _ _ => rfl)
end

theorem seat_of {w : World} {b sb n nx fi : Nat} {P : Nat → Bool} {V : Nat → Tk} (h : IsRing w b sb n nx fi P V) (p : Nat) (hp : p ≤ 1000000) :
    Calls Tryz.prog 68 #[.pointer (some ⟨b, 0, none⟩), .int .u64 p] w fun e w' => e = .returned (.pointer (some ⟨sb, p % n * 10, none⟩)) ∧ IsRing w' b sb n nx fi P V ∧ Ch Nil w w' :=
  (seat_at b sb n p w h.seats h.n0 h.n1 hp).mono fun e w' ⟨he, k, hw⟩ => by subst hw; exact ⟨he, h.drewN k, (Ch.refl _ _).drewN k⟩
set_option maxHeartbeats 1600000 in
theorem len_at (b sb n nx fi : Nat) (P : Nat → Bool) (V : Nat → Tk) (w : World) (h : IsRing w b sb n nx fi P V) (hle : fi ≤ nx) (hx : nx ≤ 1000000) :
    Calls Tryz.prog 52 #[.pointer (some ⟨b, 0, none⟩)] w fun e w' => e = .returned (.int .i64 (nx - fi : Nat)) ∧ IsRing w' b sb n nx fi P V ∧ Ch (Two b sb) w w' := by
  have H := Lib.hid h
  have n0 := h.n0
  have hs := h.seats
  clear h
  go_enter Tryz.func52, Tryz.ntmps52
  go_wp2_with fail
  refine (roomless_no b sb n _ hs n0).mono ?_
  rintro e w' ⟨rfl, rfl⟩
  clear hs
  go_wp2
  have hS : IsRing w.drew b sb n nx fi P V ∧ Ch (Two b sb) w w.drew := ⟨H.out.drew, (Ch.refl _ _).drew⟩
  have e1 : IntKind.u64.wrap ((nx : Int) - fi) = (nx - fi : Nat) := by rw [IntWalk.u64_in _ (by omega)]; omega
  have e2 : IntKind.i64.wrap ((nx - fi : Nat) : Int) = (nx - fi : Nat) := IntWalk.i64_in _ (by omega)
  refine wp_region_held_drew (S := fun w' => IsRing w' b sb n nx fi P V ∧ Ch (Two b sb) w w') (by kernel_rfl) hS (fun hHeld => ?_)
  clear hS
  refine take_at (v := ?_) 0 (some 5) rfl (by kernel_rfl) (by kernel_rfl) (by kernel_rfl) (by kernel_rfl) (fun _ _ _ h => h) (Or.inl ⟨by rfl, ?_⟩) (by assumption) ?_
  rotate_left
  · intro w hSw; (try dsimp only at hSw); go_simp; try (with_reducible rfl)
  (try simp only [Act.put, List.setIfInBounds_toArray, List.set_cons_zero, List.set_cons_succ])
  refine take_at (v := ?_) 1 (some 6) rfl (by kernel_rfl) (by kernel_rfl) (by kernel_rfl) (by kernel_rfl) (fun _ _ _ h => h) (Or.inl ⟨by rfl, ?_⟩) (by assumption) ?_
  rotate_left
  · intro w hSw; (try dsimp only at hSw); go_simp; try (with_reducible rfl)
  (try simp only [Act.put, List.setIfInBounds_toArray, List.set_cons_zero, List.set_cons_succ])
  refine take_at (v := ?_) 2 (some 7) rfl (by kernel_rfl) (by kernel_rfl) (by kernel_rfl) (by kernel_rfl) (fun _ _ _ h => h) (Or.inl ⟨by rfl, ?_⟩) (by assumption) ?_
  rotate_left
  · intro w hSw; (try dsimp only at hSw); go_simp; try (with_reducible rfl)
  (try simp only [Act.put, List.setIfInBounds_toArray, List.set_cons_zero, List.set_cons_succ])
  refine take_at (v := ?_) 4 (some 9) rfl (by kernel_rfl) (by kernel_rfl) (by kernel_rfl) (by kernel_rfl) (fun _ _ _ h => h) (Or.inl ⟨by rfl, ?_⟩) (by assumption) ?_
  rotate_left
  · intro w hSw; (try dsimp only at hSw); go_simp; try (with_reducible rfl)
  (try simp only [Act.put, List.setIfInBounds_toArray, List.set_cons_zero, List.set_cons_succ])
  refine take_at (v := ?_) 5 (some 10) rfl (by kernel_rfl) (by kernel_rfl) (by kernel_rfl) (by kernel_rfl) (fun _ _ _ h => h) (Or.inl ⟨by rfl, ?_⟩) (by assumption) ?_
  rotate_left
  · intro w hSw; (try dsimp only at hSw); go_simp; try (with_reducible rfl)
  (try simp only [Act.put, List.setIfInBounds_toArray, List.set_cons_zero, List.set_cons_succ])
  refine take_at (v := ?_) 6 (some 11) rfl (by kernel_rfl) (by kernel_rfl) (by kernel_rfl) (by kernel_rfl) (fun _ _ _ h => h) (Or.inl ⟨by rfl, ?_⟩) (by assumption) ?_
  rotate_left
  · intro w hSw; (try dsimp only at hSw); go_simp; try (with_reducible rfl)
  (try simp only [Act.put, List.setIfInBounds_toArray, List.set_cons_zero, List.set_cons_succ])
  refine wpAnyH_ready (rs := [3]) (by kernel_rfl) (by simp) ?_
  refine AllReadyH.cons rfl (fun K hK => ?_) AllReadyH.nil
  go_simp
  refine (next_load hHeld.1).mono ?_
  rintro e w3 ⟨rfl, hi, c3⟩
  refine hK.out _ _ ⟨hi, hHeld.2.trans (Ch_two1 c3)⟩ (fun hHeld => ?_)
  clear hK K hi c3
  (try simp only [Act.put, List.setIfInBounds_toArray, List.set_cons_zero, List.set_cons_succ])
  refine wpAnyH_ready (rs := [7]) (by kernel_rfl) (by simp) ?_
  refine AllReadyH.cons rfl (fun K hK => ?_) AllReadyH.nil
  go_simp
  refine (first_load hHeld.1).mono ?_
  rintro e w4 ⟨rfl, hi, c4⟩
  refine hK.out _ _ ⟨hi, hHeld.2.trans (Ch_two1 c4)⟩ (fun hHeld => ?_)
  clear hK K hi c4
  (try simp only [Act.put, List.setIfInBounds_toArray, List.set_cons_zero, List.set_cons_succ])
  refine take_at (v := ?_) 8 (some 13) rfl (by kernel_rfl) (by kernel_rfl) (by kernel_rfl) (by kernel_rfl) (fun _ _ _ h => h) (Or.inl ⟨by rfl, ?_⟩) (by assumption) ?_
  rotate_left
  · intro w hSw; (try dsimp only at hSw); go_simp; try (with_reducible rfl)
  (try simp only [Act.put, List.setIfInBounds_toArray, List.set_cons_zero, List.set_cons_succ])
  refine take_at (v := ?_) 9 (some 14) rfl (by kernel_rfl) (by kernel_rfl) (by kernel_rfl) (by kernel_rfl) (fun _ _ _ h => h) (Or.inl ⟨by rfl, ?_⟩) (by assumption) ?_
  rotate_left
  · intro w hSw; (try dsimp only at hSw); go_simp; try (with_reducible rfl)
  (try simp only [Act.put, List.setIfInBounds_toArray, List.set_cons_zero, List.set_cons_succ])
  refine take_at (v := ?_) 10 (some 2) rfl (by kernel_rfl) (by kernel_rfl) (by kernel_rfl) (by kernel_rfl) (fun _ _ _ h => h) (Or.inl ⟨by rfl, ?_⟩) (by assumption) ?_
  rotate_left
  · intro w hSw; (try dsimp only at hSw); go_simp; try (with_reducible rfl)
  (try simp only [Act.put, List.setIfInBounds_toArray, List.set_cons_zero, List.set_cons_succ])
  have hE := Lib.hid hHeld
  clear hHeld
  refine wpAnyH_done (by kernel_rfl) ?_ _
  go_wp2
  go_ret
  exact ⟨rfl, hE.out.1, hE.out.2⟩

theorem ready_at (b sb n nx fi : Nat) (P : Nat → Bool) (V : Nat → Tk) (w : World) (h : IsRing w b sb n nx fi P V) (hx : fi ≤ 1000000) :
    Calls Tryz.prog 66 #[.pointer (some ⟨b, 0, none⟩)] w fun e w' => e = .returned (.bool (P fi)) ∧ IsRing w' b sb n nx fi P V ∧ Ch (Two b sb) w w' := by
  have H := Lib.hid h
  have n0 := h.n0
  have n1 := h.n1
  have hs := h.seats
  clear h
  go_enter Tryz.func66, Tryz.ntmps66
  go_wp2_with fail
  refine (roomless_no b sb n _ hs n0).mono ?_
  rintro e w' ⟨rfl, rfl⟩
  clear hs
  go_wp2_with fail
  refine (first_load H.out).mono ?_
  rintro e w1 ⟨rfl, h1, c1⟩
  have H1 := Lib.hid h1
  clear h1
  go_wp2_with fail
  refine (seat_at b sb n fi _ H1.out.seats n0 n1 hx).mono ?_
  rintro e w2 ⟨rfl, k, rfl⟩
  go_wp2_with fail
  refine (mark_load (H1.out.drewN k) fi (by omega) _ rfl).mono ?_
  rintro e w2 ⟨rfl, h2, c2⟩
  have H2 := Lib.hid h2
  clear h2
  have heq := eqM
  go_wp2
  go_ret
  exact ⟨rfl, H2.out, ((Ch_two1 c1).drewN k).trans (Ch_two2 c2)⟩

/-- a ticket of the ring in block b -/
structure IsT (w : World) (t b : Nat) (st su : Int) (pos : Nat) (fl : Bool) : Prop where
  r : w.cell? ⟨t, 0, none⟩ = some (.pointer (some ⟨b, 0, none⟩))
  st : w.cell? ⟨t, 1, none⟩ = some (.int .i64 st)
  su : w.cell? ⟨t, 2, none⟩ = some (.int .i64 su)
  pos : w.cell? ⟨t, 3, none⟩ = some (.int .u64 pos)
  fl : w.cell? ⟨t, 4, none⟩ = some (.bool fl)
  f : ∀ i, w.frozen? ⟨t, i, none⟩ = false
theorem IsT.lt {w : World} {t b : Nat} {st su : Int} {pos : Nat} {fl : Bool} (h : IsT w t b st su pos fl) : t < w.heap.size := lt_of_cell h.r
theorem IsT.kept {S : Nat → Prop} {w w' : World} {t b : Nat} {st su : Int} {pos : Nat} {fl : Bool} (h : IsT w t b st su pos fl) (c : Ch S w w') (hn : ¬ S t) : IsT w' t b st su pos fl :=
  ⟨c.keeps h.r hn, c.keeps h.st hn, c.keeps h.su hn, c.keeps h.pos hn, c.keeps h.fl hn, fun i => (c.frozen (p := ⟨t, i, none⟩) h.lt hn).trans (h.f i)⟩
theorem begin_at (b sb n : Nat) (w : World) (hs : w.cell? ⟨b, 8, none⟩ = some (.slice (some ⟨sb, 0, none⟩) n n)) (n0 : 0 < n) :
    Calls Tryz.prog 117 #[.pointer (some ⟨b, 0, none⟩)] w fun e w' => e = .returned (.pointer (some ⟨w.heap.size, 0, none⟩)) ∧ IsT w' w.heap.size b 0 0 0 false ∧ Ch Nil w w' ∧ w'.heap.size = w.heap.size + 1 := by
  go_enter Tryz.func117, Tryz.ntmps117
  go_wp2_with fail
  refine (roomless_no b sb n _ hs n0).mono ?_
  rintro e w' ⟨rfl, rfl⟩
  clear hs
  go_wp2
  go_ret
  refine ⟨rfl, ?_, (Ch.refl _ _).alloc _, by simp⟩
  constructor <;> simp [go_sem]
end Go.Proofs.YtnbdafmjcmmfpaaGreat.RT

/-
  Contracts of package ring's functions at verge/api.Task: a ticket's three steps.
-/
namespace Go.Proofs.YtnbdafmjcmmfpaaGreat.RT
open Go.RowKit Verge
attribute [local go_sem] Oper.semAt_some
set_option linter.unusedVariables false
set_option linter.unusedSimpArgs false

section
variable {w : World} {t b : Nat} {st su : Int} {pos : Nat} {fl : Bool}
theorem IsT.setSt (h : IsT w t b st su pos fl) (x : Int) : IsT (w.setCell ⟨t, 1, none⟩ (.int .i64 x)) t b x su pos fl :=
  ⟨(cell_ne (by omega) _).trans h.r, World.cell?_setCell_same _ _ _ h.st, (cell_ne (by omega) _).trans h.su, (cell_ne (by omega) _).trans h.pos, (cell_ne (by omega) _).trans h.fl, fun i => (World.frozen?_setCell _ _ _ _).trans (h.f i)⟩
theorem IsT.setSu (h : IsT w t b st su pos fl) (x : Int) : IsT (w.setCell ⟨t, 2, none⟩ (.int .i64 x)) t b st x pos fl :=
  ⟨(cell_ne (by omega) _).trans h.r, (cell_ne (by omega) _).trans h.st, World.cell?_setCell_same _ _ _ h.su, (cell_ne (by omega) _).trans h.pos, (cell_ne (by omega) _).trans h.fl, fun i => (World.frozen?_setCell _ _ _ _).trans (h.f i)⟩
theorem IsT.setPos (h : IsT w t b st su pos fl) (x : Nat) : IsT (w.setCell ⟨t, 3, none⟩ (.int .u64 x)) t b st su x fl :=
  ⟨(cell_ne (by omega) _).trans h.r, (cell_ne (by omega) _).trans h.st, (cell_ne (by omega) _).trans h.su, World.cell?_setCell_same _ _ _ h.pos, (cell_ne (by omega) _).trans h.fl, fun i => (World.frozen?_setCell _ _ _ _).trans (h.f i)⟩
theorem IsT.setFl (h : IsT w t b st su pos fl) (x : Bool) : IsT (w.setCell ⟨t, 4, none⟩ (.bool x)) t b st su pos x :=
  ⟨(cell_ne (by omega) _).trans h.r, (cell_ne (by omega) _).trans h.st, (cell_ne (by omega) _).trans h.su, (cell_ne (by omega) _).trans h.pos, World.cell?_setCell_same _ _ _ h.fl, fun i => (World.frozen?_setCell _ _ _ _).trans (h.f i)⟩
end
theorem IsT.drewN {w : World} {t b : Nat} {st su : Int} {pos : Nat} {fl : Bool} (h : IsT w t b st su pos fl) (k : Nat) : IsT (w.drewN k) t b st su pos fl := h.kept (S := Nil) ((Ch.refl _ _).drewN k) (fun e => e)
/-- a ticket stepped: the ring, the ticket, and what else turned: nothing -/
def Stepped (w : World) (t b sb n nx fi : Nat) (P : Nat → Bool) (V : Nat → Tk) (st su : Int) (pos : Nat) (fl : Bool) (w' : World) : Prop :=
  IsRing w' b sb n nx fi P V ∧ IsT w' t b st su pos fl ∧ Ch (Tri t b sb) w w'
/-- what a region keeps -/
def Kp (w0 : World) (S : Nat → Prop) (b sb n nx fi : Nat) (P : Nat → Bool) (V : Nat → Tk) (w' : World) : Prop := IsRing w' b sb n nx fi P V ∧ Ch S w0 w'

set_option maxHeartbeats 1600000 in
theorem choose_at (t b sb n nx fi : Nat) (P : Nat → Bool) (V : Nat → Tk) (st su : Int) (pos : Nat) (fl : Bool) (w : World) (h : IsRing w b sb n nx fi P V) (k : IsT w t b st su pos fl) (hb : t ≠ b) (hs : t ≠ sb) :
    Calls Tryz.prog 138 #[.pointer (some ⟨t, 0, none⟩)] w fun e w' => e = .returned (.tuple #[]) ∧ Stepped w t b sb n nx fi P V 1 su nx fl w' := by
  have H := Lib.hid h
  have K := Lib.hid k
  have kr := k.r
  clear h k
  go_enter Tryz.func138, Tryz.ntmps138
  go_wp2_with fail
  refine (next_load H.out).mono ?_
  rintro e w1 ⟨rfl, h1, c1⟩
  have H1 := Lib.hid h1
  have k1 : IsT w1 t b st su pos fl := K.out.kept c1 hb
  have K1 := Lib.hid k1
  obtain ⟨q0, q1, q2, q3, q4, qf⟩ := k1
  have f1 := qf 1
  have f3 := qf 3
  clear h1 kr qf
  go_wp2
  go_end0
  have c2 : Ch (One t) w1 ((w1.setCell ⟨t, 3, none⟩ (.int .u64 nx)).setCell ⟨t, 1, none⟩ (.int .i64 1)) := ((Ch.refl _ _).setB _ _).setB _ _
  exact ⟨rfl, H1.out.kept c2 (fun e => hb e.symm) (fun e => hs e.symm), (K1.out.setPos _).setSt _, (Ch_tri (Ch_two1 c1)).trans (Ch_tri1 c2)⟩

/-- behind the first region of 'look': the mark in a box of its own -/
def LookCut (w : World) (t b sb n nx fi : Nat) (P : Nat → Bool) (V : Nat → Tk) (st su : Int) (pos : Nat) (fl : Bool) (q : Nat) (m : Value) (wc : World) : Prop :=
  ∃ B, m = .pointer (some ⟨B, 0, none⟩) ∧ wc.cell? ⟨B, 0, none⟩ = some (.int .u64 q) ∧ wc.cell? ⟨B, 1, none⟩ = some (.bool (P q)) ∧ B ≠ t ∧ IsRing wc b sb n nx fi P V ∧ IsT wc t b st su pos fl ∧ Ch (Two b sb) w wc
/-- what 'look' makes of a ticket's stage and status -/
def lookT (q pos : Nat) (pub : Bool) (st su : Int) : Int × Int := if q < pos then (st, 1) else if q = pos ∧ pub = false then (2, su) else (0, su)
theorem box_new {w : World} {a : Int} {p : Bool} (T : TypeId) : (w.alloc (.cells #[.int .u64 a, .bool p] T)).cell? ⟨w.heap.size, 0, none⟩ = some (.int .u64 a) ∧ (w.alloc (.cells #[.int .u64 a, .bool p] T)).cell? ⟨w.heap.size, 1, none⟩ = some (.bool p)
    ∧ (w.alloc (.cells #[.int .u64 a, .bool p] T)).frozen? ⟨w.heap.size, 0, none⟩ = false ∧ (w.alloc (.cells #[.int .u64 a, .bool p] T)).frozen? ⟨w.heap.size, 1, none⟩ = false := by
  refine ⟨?_, ?_, ?_, ?_⟩ <;> simp [go_sem]
/-- a box of a mark that was filled -/
structure IsBox (w : World) (B : Nat) (a : Int) (p : Bool) : Prop where
  a : w.cell? ⟨B, 0, none⟩ = some (.int .u64 a)
  p : w.cell? ⟨B, 1, none⟩ = some (.bool p)
  fa : w.frozen? ⟨B, 0, none⟩ = false
  fp : w.frozen? ⟨B, 1, none⟩ = false
theorem IsBox.kept {S : Nat → Prop} {w w' : World} {B : Nat} {a : Int} {p : Bool} (h : IsBox w B a p) (c : Ch S w w') (hn : ¬ S B) : IsBox w' B a p :=
  ⟨c.keeps h.a hn, c.keeps h.p hn, (c.frozen (p := ⟨B, 0, none⟩) (lt_of_cell h.a) hn).trans h.fa, (c.frozen (p := ⟨B, 1, none⟩) (lt_of_cell h.p) hn).trans h.fp⟩
theorem isBox_new (w : World) (a : Int) (p : Bool) (T : TypeId) : IsBox (w.alloc (.cells #[.int .u64 a, .bool p] T)) w.heap.size a p := by
  obtain ⟨h1, h2, h3, h4⟩ := box_new (w := w) (a := a) (p := p) T
  exact ⟨h1, h2, h3, h4⟩
theorem look_end {w w5 : World} {t b sb n nx fi : Nat} {P : Nat → Bool} {V : Nat → Tk} {st su : Int} {pos : Nat} {fl : Bool} {q B : Nat} {a : Int} {p : Bool} (hB : IsBox w5 B a p) (hBt : B ≠ t) (hBb : B ≠ b) (hBs : B ≠ sb) (hBw : w.heap.size ≤ B)
    (H : IsRing w5 b sb n nx fi P V) (K : IsT w5 t b st su pos fl) (c : Ch (Two b sb) w w5) :
    LookCut w t b sb n nx fi P V st su pos fl q (.pointer (some ⟨B, 0, none⟩)) ((w5.setCell ⟨B, 0, none⟩ (.int .u64 q)).setCell ⟨B, 1, none⟩ (.bool (P q))) := by
  have c2 : Ch (One B) w5 ((w5.setCell ⟨B, 0, none⟩ (.int .u64 q)).setCell ⟨B, 1, none⟩ (.bool (P q))) := ((Ch.refl _ _).setB _ _).setB _ _
  refine ⟨B, rfl, ?_, ?_, hBt, H.kept c2 (fun e => hBb e.symm) (fun e => hBs e.symm), K.kept c2 (fun e => hBt e.symm), c.then c2 (fun i hi e => ?_)⟩
  · exact (cell_ne (by omega) _).trans (World.cell?_setCell_same _ _ _ hB.a)
  · exact World.cell?_setCell_same _ _ _ ((cell_ne (by omega) _).trans hB.p)
  · change i = B at e; omega

set_option maxHeartbeats 4000000 in
set_option maxRecDepth 100000 in
theorem look_at (t b sb n nx fi : Nat) (P : Nat → Bool) (V : Nat → Tk) (st su : Int) (pos : Nat) (fl : Bool) (w : World) (h : IsRing w b sb n nx fi P V) (k : IsT w t b st su pos fl) (hb : t ≠ b) (hs : t ≠ sb) (hx : pos ≤ 1000000)
    (q : Nat) (hq : fi ≤ q ∧ q < fi + n) (hm : q % n = pos % n) :
    Calls Tryz.prog 139 #[.pointer (some ⟨t, 0, none⟩)] w fun e w' => e = .returned (.tuple #[]) ∧ Stepped w t b sb n nx fi P V (lookT q pos (P q) st su).1 (lookT q pos (P q) st su).2 pos fl w' := by
  have H := Lib.hid h
  have K := Lib.hid k
  have HM := Lib.hid hm
  obtain ⟨hq1, hq2⟩ := hq
  have hk := k.lt
  have hbl := h.lt
  have hsl := h.lt2
  clear h k hm
  go_enter Tryz.func139, Tryz.ntmps139
  go_upto_region 0 with (fail)
  go_cut [2] from 3 to 14 (fun m wc => LookCut w t b sb n nx fi P V st su pos fl q m wc)
  case first =>
    have hS : (w.drew.cell? ⟨t, 0, none⟩ = some (.pointer (some ⟨b, 0, none⟩)) ∧ w.drew.cell? ⟨t, 3, none⟩ = some (.int .u64 pos)) ∧ Kp w (Two b sb) b sb n nx fi P V w.drew := ⟨⟨K.out.r, K.out.pos⟩, H.out.drew, (Ch.refl _ _).drew⟩
    refine wp_region_held_drew (S := fun w' => (w'.cell? ⟨t, 0, none⟩ = some (.pointer (some ⟨b, 0, none⟩)) ∧ w'.cell? ⟨t, 3, none⟩ = some (.int .u64 pos)) ∧ Kp w (Two b sb) b sb n nx fi P V w') (by kernel_rfl) hS (fun hHeld => ?_)
    clear hS
    generalize w.drew = wd at hHeld ⊢
    refine take_at (v := ?_) 0 (some 3) rfl (by kernel_rfl) (by kernel_rfl) (by kernel_rfl) (by kernel_rfl) (fun _ _ _ h => h) (Or.inl ⟨by rfl, ?_⟩) (by assumption) ?_
    rotate_left
    · intro w hSw; (try dsimp only at hSw); go_simp; try (with_reducible rfl)
    (try simp only [Act.put, List.setIfInBounds_toArray, List.set_cons_zero, List.set_cons_succ])
    refine take_at (v := ?_) 1 (some 4) rfl (by kernel_rfl) (by kernel_rfl) (by kernel_rfl) (by kernel_rfl) (fun _ _ _ h => h) (Or.inl ⟨by rfl, ?_⟩) (by assumption) ?_
    rotate_left
    · intro w hSw; (try dsimp only at hSw); go_simp; try (with_reducible rfl)
    (try simp only [Act.put, List.setIfInBounds_toArray, List.set_cons_zero, List.set_cons_succ])
    refine take_at (v := ?_) 2 (some 5) rfl (by kernel_rfl) (by kernel_rfl) (by kernel_rfl) (by kernel_rfl) (fun _ _ _ h => h) (Or.inl ⟨by rfl, ?_⟩) (by assumption) ?_
    rotate_left
    · intro w hSw; (try dsimp only at hSw); go_simp; try (with_reducible rfl)
    (try simp only [Act.put, List.setIfInBounds_toArray, List.set_cons_zero, List.set_cons_succ])
    refine take_at (v := ?_) 3 (some 6) rfl (by kernel_rfl) (by kernel_rfl) (by kernel_rfl) (by kernel_rfl) (fun _ _ _ h => h) (Or.inl ⟨by rfl, ?_⟩) (by assumption) ?_
    rotate_left
    · intro w hSw; (try dsimp only at hSw); go_simp; try (with_reducible rfl)
    (try simp only [Act.put, List.setIfInBounds_toArray, List.set_cons_zero, List.set_cons_succ])
    refine take_at (v := ?_) 4 (some 7) rfl (by kernel_rfl) (by kernel_rfl) (by kernel_rfl) (by kernel_rfl) (fun _ _ _ h => h) (Or.inl ⟨by rfl, ?_⟩) (by assumption) ?_
    rotate_left
    · intro w hSw; (try dsimp only at hSw); go_simp; try (with_reducible rfl)
    (try simp only [Act.put, List.setIfInBounds_toArray, List.set_cons_zero, List.set_cons_succ])
    refine take_at (v := ?_) 5 (some 8) rfl (by kernel_rfl) (by kernel_rfl) (by kernel_rfl) (by kernel_rfl) (fun _ _ _ h => h) (Or.inl ⟨by rfl, ?_⟩) (by assumption) ?_
    rotate_left
    · intro w hSw; (try dsimp only at hSw); go_simp; try (with_reducible rfl)
    (try simp only [Act.put, List.setIfInBounds_toArray, List.set_cons_zero, List.set_cons_succ])
    refine take_at (v := ?_) 6 (some 9) rfl (by kernel_rfl) (by kernel_rfl) (by kernel_rfl) (by kernel_rfl) (fun _ _ _ h => h) (Or.inl ⟨by rfl, ?_⟩) (by assumption) ?_
    rotate_left
    · intro w hSw; (try dsimp only at hSw); go_simp; try (with_reducible rfl)
    (try simp only [Act.put, List.setIfInBounds_toArray, List.set_cons_zero, List.set_cons_succ])
    refine take_at (v := ?_) 7 (some 10) rfl (by kernel_rfl) (by kernel_rfl) (by kernel_rfl) (by kernel_rfl) (fun _ _ _ h => h) (Or.inl ⟨by rfl, ?_⟩) (by assumption) ?_
    rotate_left
    · intro w hSw; (try dsimp only at hSw); go_simp; try (with_reducible rfl)
    (try simp only [Act.put, List.setIfInBounds_toArray, List.set_cons_zero, List.set_cons_succ])
    refine wpAnyH_ready (rs := [8, 12]) (by kernel_rfl) (by simp) ?_
    refine AllReadyH.cons rfl (fun K' hK => ?_) (AllReadyH.cons rfl (fun K' hK => ?_) AllReadyH.nil)
    · go_simp
      refine (seat_of hHeld.2.1 pos hx).mono ?_
      rintro e w4 ⟨rfl, h4, c4⟩
      have h' : (w4.cell? ⟨t, 0, none⟩ = some (.pointer (some ⟨b, 0, none⟩)) ∧ w4.cell? ⟨t, 3, none⟩ = some (.int .u64 pos)) ∧ Kp w (Two b sb) b sb n nx fi P V w4 := ⟨⟨c4.keeps hHeld.1.1 (fun e => e), c4.keeps hHeld.1.2 (fun e => e)⟩, h4, hHeld.2.2.trans (Ch_any c4)⟩
      refine hK.out _ _ h' (fun hHeld9 => ?_)
      clear hK K' hHeld h4 c4 h'
      have hHeld := hHeld9
      clear hHeld9
      (try simp only [Act.put, List.setIfInBounds_toArray, List.set_cons_zero, List.set_cons_succ])
      refine take_at (v := ?_) 9 (some 12) rfl (by kernel_rfl) (by kernel_rfl) (by kernel_rfl) (by kernel_rfl) (fun _ _ _ h => h) (Or.inl ⟨by rfl, ?_⟩) (by assumption) ?_
      rotate_left
      · intro w hSw; (try dsimp only at hSw); go_simp; try (with_reducible rfl)
      (try simp only [Act.put, List.setIfInBounds_toArray, List.set_cons_zero, List.set_cons_succ])
      refine take_at (v := ?_) 10 (some 13) rfl (by kernel_rfl) (by kernel_rfl) (by kernel_rfl) (by kernel_rfl) (fun _ _ _ h => h) (Or.inl ⟨by rfl, ?_⟩) (by assumption) ?_
      rotate_left
      · intro w hSw; (try dsimp only at hSw); go_simp; try (with_reducible rfl)
      (try simp only [Act.put, List.setIfInBounds_toArray, List.set_cons_zero, List.set_cons_succ])
      refine wpAnyH_ready (rs := [11, 12]) (by kernel_rfl) (by simp) ?_
      refine AllReadyH.cons rfl (fun K' hK => ?_) (AllReadyH.cons rfl (fun K' hK => ?_) AllReadyH.nil)
      · go_simp
        refine (mark_load hHeld.2.1 q ⟨hq1, hq2⟩ _ (by rw [HM.out])).mono ?_
        rintro e w5 ⟨rfl, h5, c5⟩
        have d5 : Ch (Two b sb) w w5 := hHeld.2.2.trans (Ch_two2 c5)
        have k5 : IsT w5 t b st su pos fl := K.out.kept d5 (fun e => e.elim hb hs)
        have h' : (w5.cell? ⟨t, 0, none⟩ = some (.pointer (some ⟨b, 0, none⟩)) ∧ w5.cell? ⟨t, 3, none⟩ = some (.int .u64 pos)) ∧ Kp w (Two b sb) b sb n nx fi P V w5 := ⟨⟨k5.r, k5.pos⟩, h5, d5⟩
        refine hK.out _ _ h' (fun hHeld9 => ?_)
        clear hK K' hHeld h5 c5 d5 k5 h'
        have hHeld := hHeld9
        clear hHeld9
        (try simp only [Act.put, List.setIfInBounds_toArray, List.set_cons_zero, List.set_cons_succ])
        refine wpAnyH_ready (rs := [12]) (by kernel_rfl) (by simp) ?_
        refine AllReadyH.cons rfl (fun K' hK => ?_) AllReadyH.nil
        go_simp
        have cB : Ch Nil w5 (w5.alloc (.cells #[.int .u64 0, .bool false] 169)) := (Ch.refl _ _).alloc _
        have hB : IsBox (w5.alloc (.cells #[.int .u64 0, .bool false] 169)) w5.heap.size 0 false := isBox_new _ _ _ _
        have hBw : w.heap.size ≤ w5.heap.size := hHeld.2.2.size
        refine hK.out _ _ ⟨⟨cB.keeps hHeld.1.1 (fun e => e), cB.keeps hHeld.1.2 (fun e => e)⟩, hHeld.2.1.kept cB (fun e => e) (fun e => e), hHeld.2.2.trans (Ch_any cB)⟩ (fun hHeld9 => ?_)
        clear hK K' hHeld cB
        generalize w5.heap.size = B at hB hBw ⊢
        generalize w5.alloc (.cells #[.int .u64 0, .bool false] 169) = w9 at hB hHeld9 ⊢
        have hHeld := hHeld9
        clear hHeld9
        have HB := Lib.hid hB
        clear hB
        (try simp only [Act.put, List.setIfInBounds_toArray, List.set_cons_zero, List.set_cons_succ])
        refine wpAnyH_ready (rs := [13]) (by kernel_rfl) (by simp) ?_
        refine AllReadyH.cons rfl (fun K' hK => ?_) AllReadyH.nil
        obtain ⟨b0, b1, bf0, bf1⟩ := HB.out
        go_simp
        clear b0 b1 bf0 bf1
        have lc := look_end (q := q) HB.out (by omega) (by omega) (by omega) hBw hHeld.2.1 (K.out.kept hHeld.2.2 (fun e => e.elim hb hs)) hHeld.2.2
        have lc' := lc
        obtain ⟨B', -, -, -, -, hf, kf, cf⟩ := lc'
        refine hK.out _ _ ⟨⟨kf.r, kf.pos⟩, hf, cf⟩ (fun _ => ?_)
        clear hK K' hf kf cf hHeld HB
        generalize (w9.setCell ⟨B, 0, none⟩ (.int .u64 q)).setCell ⟨B, 1, none⟩ (.bool (P q)) = wE at lc ⊢
        (try simp only [Act.put, List.setIfInBounds_toArray, List.set_cons_zero, List.set_cons_succ])
        refine wpAnyH_done (by kernel_rfl) ?_ _
        go_wp2
        go_meet
        case rel => exact lc
      · go_simp
        have cB : Ch Nil w4 (w4.alloc (.cells #[.int .u64 0, .bool false] 169)) := (Ch.refl _ _).alloc _
        have hB : IsBox (w4.alloc (.cells #[.int .u64 0, .bool false] 169)) w4.heap.size 0 false := isBox_new _ _ _ _
        have hBw : w.heap.size ≤ w4.heap.size := hHeld.2.2.size
        refine hK.out _ _ ⟨⟨cB.keeps hHeld.1.1 (fun e => e), cB.keeps hHeld.1.2 (fun e => e)⟩, hHeld.2.1.kept cB (fun e => e) (fun e => e), hHeld.2.2.trans (Ch_any cB)⟩ (fun hHeld9 => ?_)
        clear hK K' hHeld cB
        generalize w4.heap.size = B at hB hBw ⊢
        generalize w4.alloc (.cells #[.int .u64 0, .bool false] 169) = w9 at hB hHeld9 ⊢
        have hHeld := hHeld9
        clear hHeld9
        have HB := Lib.hid hB
        clear hB
        (try simp only [Act.put, List.setIfInBounds_toArray, List.set_cons_zero, List.set_cons_succ])
        refine wpAnyH_ready (rs := [11]) (by kernel_rfl) (by simp) ?_
        refine AllReadyH.cons rfl (fun K' hK => ?_) AllReadyH.nil
        go_simp
        refine (mark_load hHeld.2.1 q ⟨hq1, hq2⟩ _ (by rw [HM.out])).mono ?_
        rintro e w5 ⟨rfl, h5, c5⟩
        have d5 : Ch (Two b sb) w w5 := hHeld.2.2.trans (Ch_two2 c5)
        have k5 : IsT w5 t b st su pos fl := K.out.kept d5 (fun e => e.elim hb hs)
        have h' : (w5.cell? ⟨t, 0, none⟩ = some (.pointer (some ⟨b, 0, none⟩)) ∧ w5.cell? ⟨t, 3, none⟩ = some (.int .u64 pos)) ∧ Kp w (Two b sb) b sb n nx fi P V w5 := ⟨⟨k5.r, k5.pos⟩, h5, d5⟩
        refine hK.out _ _ h' (fun hHeld9 => ?_)
        replace HB := Lib.hid (HB.out.kept c5 (fun e => by change _ = sb at e; omega))
        clear hK K' hHeld h5 c5 d5 k5 h'
        have hHeld := hHeld9
        clear hHeld9
        (try simp only [Act.put, List.setIfInBounds_toArray, List.set_cons_zero, List.set_cons_succ])
        refine wpAnyH_ready (rs := [13]) (by kernel_rfl) (by simp) ?_
        refine AllReadyH.cons rfl (fun K' hK => ?_) AllReadyH.nil
        obtain ⟨b0, b1, bf0, bf1⟩ := HB.out
        go_simp
        clear b0 b1 bf0 bf1
        have lc := look_end (q := q) HB.out (by omega) (by omega) (by omega) hBw hHeld.2.1 (K.out.kept hHeld.2.2 (fun e => e.elim hb hs)) hHeld.2.2
        have lc' := lc
        obtain ⟨B', -, -, -, -, hf, kf, cf⟩ := lc'
        refine hK.out _ _ ⟨⟨kf.r, kf.pos⟩, hf, cf⟩ (fun _ => ?_)
        clear hK K' hf kf cf hHeld HB
        generalize (w5.setCell ⟨B, 0, none⟩ (.int .u64 q)).setCell ⟨B, 1, none⟩ (.bool (P q)) = wE at lc ⊢
        (try simp only [Act.put, List.setIfInBounds_toArray, List.set_cons_zero, List.set_cons_succ])
        refine wpAnyH_done (by kernel_rfl) ?_ _
        go_wp2
        go_meet
        case rel => exact lc
    · go_simp
      have cB : Ch Nil wd (wd.alloc (.cells #[.int .u64 0, .bool false] 169)) := (Ch.refl _ _).alloc _
      have hB : IsBox (wd.alloc (.cells #[.int .u64 0, .bool false] 169)) wd.heap.size 0 false := isBox_new _ _ _ _
      have hBw : w.heap.size ≤ wd.heap.size := hHeld.2.2.size
      refine hK.out _ _ ⟨⟨cB.keeps hHeld.1.1 (fun e => e), cB.keeps hHeld.1.2 (fun e => e)⟩, hHeld.2.1.kept cB (fun e => e) (fun e => e), hHeld.2.2.trans (Ch_any cB)⟩ (fun hHeld9 => ?_)
      clear hK K' hHeld cB
      generalize wd.heap.size = B at hB hBw ⊢
      generalize wd.alloc (.cells #[.int .u64 0, .bool false] 169) = w9 at hB hHeld9 ⊢
      have hHeld := hHeld9
      clear hHeld9
      have HB := Lib.hid hB
      clear hB
      (try simp only [Act.put, List.setIfInBounds_toArray, List.set_cons_zero, List.set_cons_succ])
      refine wpAnyH_ready (rs := [8]) (by kernel_rfl) (by simp) ?_
      refine AllReadyH.cons rfl (fun K' hK => ?_) AllReadyH.nil
      go_simp
      refine (seat_of hHeld.2.1 pos hx).mono ?_
      rintro e w4 ⟨rfl, h4, c4⟩
      have h' : (w4.cell? ⟨t, 0, none⟩ = some (.pointer (some ⟨b, 0, none⟩)) ∧ w4.cell? ⟨t, 3, none⟩ = some (.int .u64 pos)) ∧ Kp w (Two b sb) b sb n nx fi P V w4 := ⟨⟨c4.keeps hHeld.1.1 (fun e => e), c4.keeps hHeld.1.2 (fun e => e)⟩, h4, hHeld.2.2.trans (Ch_any c4)⟩
      refine hK.out _ _ h' (fun hHeld9 => ?_)
      replace HB := Lib.hid (HB.out.kept c4 (fun e => e))
      clear hK K' hHeld h4 c4 h'
      have hHeld := hHeld9
      clear hHeld9
      (try simp only [Act.put, List.setIfInBounds_toArray, List.set_cons_zero, List.set_cons_succ])
      refine take_at (v := ?_) 9 (some 12) rfl (by kernel_rfl) (by kernel_rfl) (by kernel_rfl) (by kernel_rfl) (fun _ _ _ h => h) (Or.inl ⟨by rfl, ?_⟩) (by assumption) ?_
      rotate_left
      · intro w hSw; (try dsimp only at hSw); go_simp; try (with_reducible rfl)
      (try simp only [Act.put, List.setIfInBounds_toArray, List.set_cons_zero, List.set_cons_succ])
      refine take_at (v := ?_) 10 (some 13) rfl (by kernel_rfl) (by kernel_rfl) (by kernel_rfl) (by kernel_rfl) (fun _ _ _ h => h) (Or.inl ⟨by rfl, ?_⟩) (by assumption) ?_
      rotate_left
      · intro w hSw; (try dsimp only at hSw); go_simp; try (with_reducible rfl)
      (try simp only [Act.put, List.setIfInBounds_toArray, List.set_cons_zero, List.set_cons_succ])
      refine wpAnyH_ready (rs := [11]) (by kernel_rfl) (by simp) ?_
      refine AllReadyH.cons rfl (fun K' hK => ?_) AllReadyH.nil
      go_simp
      refine (mark_load hHeld.2.1 q ⟨hq1, hq2⟩ _ (by rw [HM.out])).mono ?_
      rintro e w5 ⟨rfl, h5, c5⟩
      have d5 : Ch (Two b sb) w w5 := hHeld.2.2.trans (Ch_two2 c5)
      have k5 : IsT w5 t b st su pos fl := K.out.kept d5 (fun e => e.elim hb hs)
      have h' : (w5.cell? ⟨t, 0, none⟩ = some (.pointer (some ⟨b, 0, none⟩)) ∧ w5.cell? ⟨t, 3, none⟩ = some (.int .u64 pos)) ∧ Kp w (Two b sb) b sb n nx fi P V w5 := ⟨⟨k5.r, k5.pos⟩, h5, d5⟩
      refine hK.out _ _ h' (fun hHeld9 => ?_)
      replace HB := Lib.hid (HB.out.kept c5 (fun e => by change _ = sb at e; omega))
      clear hK K' hHeld h5 c5 d5 k5 h'
      have hHeld := hHeld9
      clear hHeld9
      (try simp only [Act.put, List.setIfInBounds_toArray, List.set_cons_zero, List.set_cons_succ])
      refine wpAnyH_ready (rs := [13]) (by kernel_rfl) (by simp) ?_
      refine AllReadyH.cons rfl (fun K' hK => ?_) AllReadyH.nil
      obtain ⟨b0, b1, bf0, bf1⟩ := HB.out
      go_simp
      clear b0 b1 bf0 bf1
      have lc := look_end (q := q) HB.out (by omega) (by omega) (by omega) hBw hHeld.2.1 (K.out.kept hHeld.2.2 (fun e => e.elim hb hs)) hHeld.2.2
      have lc' := lc
      obtain ⟨B', -, -, -, -, hf, kf, cf⟩ := lc'
      refine hK.out _ _ ⟨⟨kf.r, kf.pos⟩, hf, cf⟩ (fun _ => ?_)
      clear hK K' hf kf cf hHeld HB
      generalize (w5.setCell ⟨B, 0, none⟩ (.int .u64 q)).setCell ⟨B, 1, none⟩ (.bool (P q)) = wE at lc ⊢
      (try simp only [Act.put, List.setIfInBounds_toArray, List.set_cons_zero, List.set_cons_succ])
      refine wpAnyH_done (by kernel_rfl) ?_ _
      go_wp2
      go_meet
      case rel => exact lc
  case rest =>
    obtain ⟨B, rfl, hB0, hB1, hBt, hc, kc, cc⟩ := hcut
    have HC := Lib.hid hc
    have KC := Lib.hid kc
    obtain ⟨q0, q1, q2, q3, q4, qf⟩ := kc
    have f1 := qf 1
    have f2 := qf 2
    clear qf hc
    have fin : ∀ (x y : Int) (wz : World), IsT wz t b x y pos fl → Ch (One t) wc wz → Stepped w t b sb n nx fi P V x y pos fl wz := fun x y wz hk hc => ⟨HC.out.kept hc (fun e => hb e.symm) (fun e => hs e.symm), hk, (Ch_tri cc).trans (Ch_tri1 hc)⟩
    by_cases hlt : q < pos
    · have e1 : lookT q pos (P q) st su = (st, 1) := by simp [lookT, hlt]
      have E1 := Lib.hid e1
      have d1 : decide ((q : Int) < (pos : Int)) = true := by simpa using hlt
      have d2 : decide (q < pos) = true := by simpa using hlt
      clear e1
      go_wp2
      go_quiet (fail)
      go_wp2
      go_end0
      rw [E1.out]
      exact ⟨rfl, fin _ _ _ ((KC.out.drewN _).setSu _) (((Ch.refl _ _).drewN _).setB _ _)⟩
    · have d1 : decide ((q : Int) < (pos : Int)) = false := by simpa using hlt
      have d2 : decide (q < pos) = false := by simpa using hlt
      by_cases heq : q = pos
      · subst heq
        cases hp : P q with
        | false =>
          have e1 : lookT q q (P q) st su = (2, su) := by simp [lookT, hp]
          have E1 := Lib.hid e1
          rw [hp] at hB1
          clear e1
          have HPp := Lib.hid hp
          clear hp
          go_wp2
          go_quiet (fail)
          go_wp2
          go_quiet (fail)
          go_wp2
          go_end0
          rw [E1.out]
          exact ⟨rfl, fin _ _ _ ((KC.out.drewN _).setSt _) (((Ch.refl _ _).drewN _).setB _ _)⟩
        | true =>
          have e1 : lookT q q (P q) st su = (0, su) := by simp [lookT, hp]
          have E1 := Lib.hid e1
          rw [hp] at hB1
          clear e1
          have HPp := Lib.hid hp
          clear hp
          go_wp2
          go_quiet (fail)
          go_wp2
          go_quiet (fail)
          go_wp2
          go_end0
          rw [E1.out]
          exact ⟨rfl, fin _ _ _ ((KC.out.drewN _).setSt _) (((Ch.refl _ _).drewN _).setB _ _)⟩
      · have e1 : lookT q pos (P q) st su = (0, su) := by simp [lookT, hlt, heq]
        have E1 := Lib.hid e1
        have d3 : ((q : Int) == (pos : Int)) = false := by rw [beq_eq_false_iff_ne]; omega
        have d4 : (q == pos) = false := by rw [beq_eq_false_iff_ne]; omega
        clear e1
        go_wp2
        go_quiet (fail)
        go_wp2
        go_quiet (fail)
        go_wp2
        go_end0
        rw [E1.out]
        exact ⟨rfl, fin _ _ _ ((KC.out.drewN _).setSt _) (((Ch.refl _ _).drewN _).setB _ _)⟩

section
variable {w : World} {b sb n nx fi : Nat} {P : Nat → Bool} {V : Nat → Tk}
theorem next_swap_yes (h : IsRing w b sb n nx fi P V) (x : Nat) (hx : x = nx + 1) :
    Calls Tryz.prog 152 #[.pointer (some ⟨b, 0, none⟩), .int .u64 nx, .int .u64 x] w fun e w' => e = .returned (.bool true) ∧ IsRing w' b sb n (nx + 1) fi P V ∧ Ch (One b) w w' := by
  subst hx
  exact (swapU_yes b 0 nx _ w h.next).mono fun e w' ⟨he, hu, c⟩ => ⟨he, ⟨hu, h.first.far c (by omega), (c.cell 8 (by omega)).trans h.seats, fun p h1 h2 => (h.seat p h1 h2).kept c.ch (fun e => h.ne e.symm), h.ne, h.n0, h.n1⟩, c.ch⟩
theorem next_swap_no (h : IsRing w b sb n nx fi P V) (old : Nat) (x : Int) (hne : nx ≠ old) :
    Calls Tryz.prog 152 #[.pointer (some ⟨b, 0, none⟩), .int .u64 old, .int .u64 x] w fun e w' => e = .returned (.bool false) ∧ IsRing w' b sb n nx fi P V ∧ Ch (One b) w w' :=
  (swapU_no b 0 nx old x w h.next (by rw [beq_eq_false_iff_ne]; omega)).mono fun e w' ⟨he, hu, c⟩ => ⟨he, ⟨hu, h.first.far c (by omega), (c.cell 8 (by omega)).trans h.seats, fun p h1 h2 => (h.seat p h1 h2).kept c.ch (fun e => h.ne e.symm), h.ne, h.n0, h.n1⟩, c.ch⟩
end

set_option maxHeartbeats 4000000 in
theorem take_yes (t b sb n nx fi : Nat) (P : Nat → Bool) (V : Nat → Tk) (st su : Int) (pos : Nat) (fl : Bool) (w : World) (h : IsRing w b sb n nx fi P V) (k : IsT w t b st su pos fl) (hb : t ≠ b) (hs : t ≠ sb) (hx : pos ≤ 1000000) (heq : nx = pos) :
    Calls Tryz.prog 140 #[.pointer (some ⟨t, 0, none⟩)] w fun e w' => e = .returned (.tuple #[]) ∧ Stepped w t b sb n (nx + 1) fi P V st 2 pos fl w' := by
  have HE := Lib.hid heq
  have H := Lib.hid h
  have K := Lib.hid k
  clear h k heq
  go_enter Tryz.func140, Tryz.ntmps140
  go_wp2
  have hS : (w.drew.cell? ⟨t, 0, none⟩ = some (.pointer (some ⟨b, 0, none⟩)) ∧ w.drew.cell? ⟨t, 3, none⟩ = some (.int .u64 pos)) ∧ True := ⟨⟨K.out.r, K.out.pos⟩, trivial⟩
  have e1 : IntKind.u64.wrap ((pos : Int) + 1) = (pos + 1 : Nat) := by rw [IntWalk.u64_in _ (by omega)]; omega
  refine wp_region_held_drew (S := fun w' => (w'.cell? ⟨t, 0, none⟩ = some (.pointer (some ⟨b, 0, none⟩)) ∧ w'.cell? ⟨t, 3, none⟩ = some (.int .u64 pos)) ∧ True) (by kernel_rfl) hS (fun hHeld => ?_)
  clear hS
  have H0 := Lib.hid H.out.drew
  have c0 : Ch (Tri t b sb) w w.drew := (Ch.refl _ _).drew
  have k0 : IsT w.drew t b st su pos fl := K.out.kept (S := Nil) (Ch.refl _ _).drew (fun e => e)
  have K0 := Lib.hid k0
  clear k0
  generalize w.drew = wd at hHeld H0 c0 K0 ⊢
  refine take_at (v := ?_) 0 (some 2) rfl (by kernel_rfl) (by kernel_rfl) (by kernel_rfl) (by kernel_rfl) (fun _ _ _ h => h) (Or.inl ⟨by rfl, ?_⟩) (by assumption) ?_
  rotate_left
  · intro w hSw; (try dsimp only at hSw); go_simp; try (with_reducible rfl)
  (try simp only [Act.put, List.setIfInBounds_toArray, List.set_cons_zero, List.set_cons_succ])
  refine take_at (v := ?_) 1 (some 3) rfl (by kernel_rfl) (by kernel_rfl) (by kernel_rfl) (by kernel_rfl) (fun _ _ _ h => h) (Or.inl ⟨by rfl, ?_⟩) (by assumption) ?_
  rotate_left
  · intro w hSw; (try dsimp only at hSw); go_simp; try (with_reducible rfl)
  (try simp only [Act.put, List.setIfInBounds_toArray, List.set_cons_zero, List.set_cons_succ])
  refine take_at (v := ?_) 2 (some 4) rfl (by kernel_rfl) (by kernel_rfl) (by kernel_rfl) (by kernel_rfl) (fun _ _ _ h => h) (Or.inl ⟨by rfl, ?_⟩) (by assumption) ?_
  rotate_left
  · intro w hSw; (try dsimp only at hSw); go_simp; try (with_reducible rfl)
  (try simp only [Act.put, List.setIfInBounds_toArray, List.set_cons_zero, List.set_cons_succ])
  refine take_at (v := ?_) 3 (some 5) rfl (by kernel_rfl) (by kernel_rfl) (by kernel_rfl) (by kernel_rfl) (fun _ _ _ h => h) (Or.inl ⟨by rfl, ?_⟩) (by assumption) ?_
  rotate_left
  · intro w hSw; (try dsimp only at hSw); go_simp; try (with_reducible rfl)
  (try simp only [Act.put, List.setIfInBounds_toArray, List.set_cons_zero, List.set_cons_succ])
  refine take_at (v := ?_) 4 (some 6) rfl (by kernel_rfl) (by kernel_rfl) (by kernel_rfl) (by kernel_rfl) (fun _ _ _ h => h) (Or.inl ⟨by rfl, ?_⟩) (by assumption) ?_
  rotate_left
  · intro w hSw; (try dsimp only at hSw); go_simp; try (with_reducible rfl)
  (try simp only [Act.put, List.setIfInBounds_toArray, List.set_cons_zero, List.set_cons_succ])
  refine take_at (v := ?_) 5 (some 7) rfl (by kernel_rfl) (by kernel_rfl) (by kernel_rfl) (by kernel_rfl) (fun _ _ _ h => h) (Or.inl ⟨by rfl, ?_⟩) (by assumption) ?_
  rotate_left
  · intro w hSw; (try dsimp only at hSw); go_simp; try (with_reducible rfl)
  (try simp only [Act.put, List.setIfInBounds_toArray, List.set_cons_zero, List.set_cons_succ])
  refine take_at (v := ?_) 6 (some 8) rfl (by kernel_rfl) (by kernel_rfl) (by kernel_rfl) (by kernel_rfl) (fun _ _ _ h => h) (Or.inl ⟨by rfl, ?_⟩) (by assumption) ?_
  rotate_left
  · intro w hSw; (try dsimp only at hSw); go_simp; try (with_reducible rfl)
  (try simp only [Act.put, List.setIfInBounds_toArray, List.set_cons_zero, List.set_cons_succ])
  refine take_at (v := ?_) 7 (some 9) rfl (by kernel_rfl) (by kernel_rfl) (by kernel_rfl) (by kernel_rfl) (fun _ _ _ h => h) (Or.inl ⟨by rfl, ?_⟩) (by assumption) ?_
  rotate_left
  · intro w hSw; (try dsimp only at hSw); go_simp; try (with_reducible rfl)
  (try simp only [Act.put, List.setIfInBounds_toArray, List.set_cons_zero, List.set_cons_succ])
  refine take_at (v := ?_) 8 (some 10) rfl (by kernel_rfl) (by kernel_rfl) (by kernel_rfl) (by kernel_rfl) (fun _ _ _ h => h) (Or.inl ⟨by rfl, ?_⟩) (by assumption) ?_
  rotate_left
  · intro w hSw; (try dsimp only at hSw); go_simp; try (with_reducible rfl)
  (try simp only [Act.put, List.setIfInBounds_toArray, List.set_cons_zero, List.set_cons_succ])
  refine take_at (v := ?_) 9 (some 11) rfl (by kernel_rfl) (by kernel_rfl) (by kernel_rfl) (by kernel_rfl) (fun _ _ _ h => h) (Or.inl ⟨by rfl, ?_⟩) (by assumption) ?_
  rotate_left
  · intro w hSw; (try dsimp only at hSw); go_simp; try (with_reducible rfl)
  (try simp only [Act.put, List.setIfInBounds_toArray, List.set_cons_zero, List.set_cons_succ])
  refine take_at (v := ?_) 10 (some 12) rfl (by kernel_rfl) (by kernel_rfl) (by kernel_rfl) (by kernel_rfl) (fun _ _ _ h => h) (Or.inl ⟨by rfl, ?_⟩) (by assumption) ?_
  rotate_left
  · intro w hSw; (try dsimp only at hSw); go_simp; try (with_reducible rfl)
  (try simp only [Act.put, List.setIfInBounds_toArray, List.set_cons_zero, List.set_cons_succ])
  refine take_at (v := ?_) 11 (some 13) rfl (by kernel_rfl) (by kernel_rfl) (by kernel_rfl) (by kernel_rfl) (fun _ _ _ h => h) (Or.inl ⟨by rfl, ?_⟩) (by assumption) ?_
  rotate_left
  · intro w hSw; (try dsimp only at hSw); go_simp; try (with_reducible rfl)
  (try simp only [Act.put, List.setIfInBounds_toArray, List.set_cons_zero, List.set_cons_succ])
  refine take_at (v := ?_) 12 (some 14) rfl (by kernel_rfl) (by kernel_rfl) (by kernel_rfl) (by kernel_rfl) (fun _ _ _ h => h) (Or.inl ⟨by rfl, ?_⟩) (by assumption) ?_
  rotate_left
  · intro w hSw; (try dsimp only at hSw); go_simp; try (with_reducible rfl)
  (try simp only [Act.put, List.setIfInBounds_toArray, List.set_cons_zero, List.set_cons_succ])
  refine take_at (v := ?_) 13 (some 15) rfl (by kernel_rfl) (by kernel_rfl) (by kernel_rfl) (by kernel_rfl) (fun _ _ _ h => h) (Or.inl ⟨by rfl, ?_⟩) (by assumption) ?_
  rotate_left
  · intro w hSw; (try dsimp only at hSw); go_simp; try (with_reducible rfl)
  (try simp only [Act.put, List.setIfInBounds_toArray, List.set_cons_zero, List.set_cons_succ])
  refine take_at (v := ?_) 14 (some 16) rfl (by kernel_rfl) (by kernel_rfl) (by kernel_rfl) (by kernel_rfl) (fun _ _ _ h => h) (Or.inl ⟨by rfl, ?_⟩) (by assumption) ?_
  rotate_left
  · intro w hSw; (try dsimp only at hSw); go_simp; try (with_reducible rfl)
  (try simp only [Act.put, List.setIfInBounds_toArray, List.set_cons_zero, List.set_cons_succ])
  clear e1
  refine wpAnyH_ready (rs := [15]) (by kernel_rfl) (by simp) ?_
  refine AllReadyH.cons rfl (fun K' hK => ?_) AllReadyH.nil
  go_simp
  obtain rfl : pos = nx := HE.out.symm
  refine (next_swap_yes H0.out (pos + 1) rfl).mono ?_
  rintro e w1 ⟨rfl, h1, c1⟩
  have k1 : IsT w1 t b st su pos fl := K0.out.kept c1 hb
  refine hK.out _ _ ⟨⟨k1.r, k1.pos⟩, trivial⟩ (fun _ => ?_)
  have H1 := Lib.hid h1
  have K1 := Lib.hid k1
  obtain ⟨q0, q1, q2, q3, q4, qf⟩ := k1
  have f1 := qf 1
  have f2 := qf 2
  clear qf h1 hK K' hHeld
  (try simp only [Act.put, List.setIfInBounds_toArray, List.set_cons_zero, List.set_cons_succ])
  refine wpAnyH_done (by kernel_rfl) ?_ _
  go_wp2
  (try simp only [Exit.inBlock, Exit.then]); refine bodyPost_ret (results_none rfl _ _ _) rfl ?_
  have c2 : Ch (One t) w1 (w1.setCell ⟨t, 2, none⟩ (.int .i64 2)) := (Ch.refl _ _).setB _ _
  exact ⟨rfl, H1.out.kept c2 (fun e => hb e.symm) (fun e => hs e.symm), K1.out.setSu _, (c0.trans (Ch_tri (Ch_two1 c1))).trans (Ch_tri1 c2)⟩

set_option maxHeartbeats 4000000 in
theorem take_no (t b sb n nx fi : Nat) (P : Nat → Bool) (V : Nat → Tk) (st su : Int) (pos : Nat) (fl : Bool) (w : World) (h : IsRing w b sb n nx fi P V) (k : IsT w t b st su pos fl) (hb : t ≠ b) (hs : t ≠ sb) (hx : pos ≤ 1000000) (heq : nx ≠ pos) :
    Calls Tryz.prog 140 #[.pointer (some ⟨t, 0, none⟩)] w fun e w' => e = .returned (.tuple #[]) ∧ Stepped w t b sb n nx fi P V 0 su pos fl w' := by
  have HE := Lib.hid heq
  have H := Lib.hid h
  have K := Lib.hid k
  clear h k heq
  go_enter Tryz.func140, Tryz.ntmps140
  go_wp2
  have hS : (w.drew.cell? ⟨t, 0, none⟩ = some (.pointer (some ⟨b, 0, none⟩)) ∧ w.drew.cell? ⟨t, 3, none⟩ = some (.int .u64 pos)) ∧ True := ⟨⟨K.out.r, K.out.pos⟩, trivial⟩
  have e1 : IntKind.u64.wrap ((pos : Int) + 1) = (pos + 1 : Nat) := by rw [IntWalk.u64_in _ (by omega)]; omega
  refine wp_region_held_drew (S := fun w' => (w'.cell? ⟨t, 0, none⟩ = some (.pointer (some ⟨b, 0, none⟩)) ∧ w'.cell? ⟨t, 3, none⟩ = some (.int .u64 pos)) ∧ True) (by kernel_rfl) hS (fun hHeld => ?_)
  clear hS
  have H0 := Lib.hid H.out.drew
  have c0 : Ch (Tri t b sb) w w.drew := (Ch.refl _ _).drew
  have k0 : IsT w.drew t b st su pos fl := K.out.kept (S := Nil) (Ch.refl _ _).drew (fun e => e)
  have K0 := Lib.hid k0
  clear k0
  generalize w.drew = wd at hHeld H0 c0 K0 ⊢
  refine take_at (v := ?_) 0 (some 2) rfl (by kernel_rfl) (by kernel_rfl) (by kernel_rfl) (by kernel_rfl) (fun _ _ _ h => h) (Or.inl ⟨by rfl, ?_⟩) (by assumption) ?_
  rotate_left
  · intro w hSw; (try dsimp only at hSw); go_simp; try (with_reducible rfl)
  (try simp only [Act.put, List.setIfInBounds_toArray, List.set_cons_zero, List.set_cons_succ])
  refine take_at (v := ?_) 1 (some 3) rfl (by kernel_rfl) (by kernel_rfl) (by kernel_rfl) (by kernel_rfl) (fun _ _ _ h => h) (Or.inl ⟨by rfl, ?_⟩) (by assumption) ?_
  rotate_left
  · intro w hSw; (try dsimp only at hSw); go_simp; try (with_reducible rfl)
  (try simp only [Act.put, List.setIfInBounds_toArray, List.set_cons_zero, List.set_cons_succ])
  refine take_at (v := ?_) 2 (some 4) rfl (by kernel_rfl) (by kernel_rfl) (by kernel_rfl) (by kernel_rfl) (fun _ _ _ h => h) (Or.inl ⟨by rfl, ?_⟩) (by assumption) ?_
  rotate_left
  · intro w hSw; (try dsimp only at hSw); go_simp; try (with_reducible rfl)
  (try simp only [Act.put, List.setIfInBounds_toArray, List.set_cons_zero, List.set_cons_succ])
  refine take_at (v := ?_) 3 (some 5) rfl (by kernel_rfl) (by kernel_rfl) (by kernel_rfl) (by kernel_rfl) (fun _ _ _ h => h) (Or.inl ⟨by rfl, ?_⟩) (by assumption) ?_
  rotate_left
  · intro w hSw; (try dsimp only at hSw); go_simp; try (with_reducible rfl)
  (try simp only [Act.put, List.setIfInBounds_toArray, List.set_cons_zero, List.set_cons_succ])
  refine take_at (v := ?_) 4 (some 6) rfl (by kernel_rfl) (by kernel_rfl) (by kernel_rfl) (by kernel_rfl) (fun _ _ _ h => h) (Or.inl ⟨by rfl, ?_⟩) (by assumption) ?_
  rotate_left
  · intro w hSw; (try dsimp only at hSw); go_simp; try (with_reducible rfl)
  (try simp only [Act.put, List.setIfInBounds_toArray, List.set_cons_zero, List.set_cons_succ])
  refine take_at (v := ?_) 5 (some 7) rfl (by kernel_rfl) (by kernel_rfl) (by kernel_rfl) (by kernel_rfl) (fun _ _ _ h => h) (Or.inl ⟨by rfl, ?_⟩) (by assumption) ?_
  rotate_left
  · intro w hSw; (try dsimp only at hSw); go_simp; try (with_reducible rfl)
  (try simp only [Act.put, List.setIfInBounds_toArray, List.set_cons_zero, List.set_cons_succ])
  refine take_at (v := ?_) 6 (some 8) rfl (by kernel_rfl) (by kernel_rfl) (by kernel_rfl) (by kernel_rfl) (fun _ _ _ h => h) (Or.inl ⟨by rfl, ?_⟩) (by assumption) ?_
  rotate_left
  · intro w hSw; (try dsimp only at hSw); go_simp; try (with_reducible rfl)
  (try simp only [Act.put, List.setIfInBounds_toArray, List.set_cons_zero, List.set_cons_succ])
  refine take_at (v := ?_) 7 (some 9) rfl (by kernel_rfl) (by kernel_rfl) (by kernel_rfl) (by kernel_rfl) (fun _ _ _ h => h) (Or.inl ⟨by rfl, ?_⟩) (by assumption) ?_
  rotate_left
  · intro w hSw; (try dsimp only at hSw); go_simp; try (with_reducible rfl)
  (try simp only [Act.put, List.setIfInBounds_toArray, List.set_cons_zero, List.set_cons_succ])
  refine take_at (v := ?_) 8 (some 10) rfl (by kernel_rfl) (by kernel_rfl) (by kernel_rfl) (by kernel_rfl) (fun _ _ _ h => h) (Or.inl ⟨by rfl, ?_⟩) (by assumption) ?_
  rotate_left
  · intro w hSw; (try dsimp only at hSw); go_simp; try (with_reducible rfl)
  (try simp only [Act.put, List.setIfInBounds_toArray, List.set_cons_zero, List.set_cons_succ])
  refine take_at (v := ?_) 9 (some 11) rfl (by kernel_rfl) (by kernel_rfl) (by kernel_rfl) (by kernel_rfl) (fun _ _ _ h => h) (Or.inl ⟨by rfl, ?_⟩) (by assumption) ?_
  rotate_left
  · intro w hSw; (try dsimp only at hSw); go_simp; try (with_reducible rfl)
  (try simp only [Act.put, List.setIfInBounds_toArray, List.set_cons_zero, List.set_cons_succ])
  refine take_at (v := ?_) 10 (some 12) rfl (by kernel_rfl) (by kernel_rfl) (by kernel_rfl) (by kernel_rfl) (fun _ _ _ h => h) (Or.inl ⟨by rfl, ?_⟩) (by assumption) ?_
  rotate_left
  · intro w hSw; (try dsimp only at hSw); go_simp; try (with_reducible rfl)
  (try simp only [Act.put, List.setIfInBounds_toArray, List.set_cons_zero, List.set_cons_succ])
  refine take_at (v := ?_) 11 (some 13) rfl (by kernel_rfl) (by kernel_rfl) (by kernel_rfl) (by kernel_rfl) (fun _ _ _ h => h) (Or.inl ⟨by rfl, ?_⟩) (by assumption) ?_
  rotate_left
  · intro w hSw; (try dsimp only at hSw); go_simp; try (with_reducible rfl)
  (try simp only [Act.put, List.setIfInBounds_toArray, List.set_cons_zero, List.set_cons_succ])
  refine take_at (v := ?_) 12 (some 14) rfl (by kernel_rfl) (by kernel_rfl) (by kernel_rfl) (by kernel_rfl) (fun _ _ _ h => h) (Or.inl ⟨by rfl, ?_⟩) (by assumption) ?_
  rotate_left
  · intro w hSw; (try dsimp only at hSw); go_simp; try (with_reducible rfl)
  (try simp only [Act.put, List.setIfInBounds_toArray, List.set_cons_zero, List.set_cons_succ])
  refine take_at (v := ?_) 13 (some 15) rfl (by kernel_rfl) (by kernel_rfl) (by kernel_rfl) (by kernel_rfl) (fun _ _ _ h => h) (Or.inl ⟨by rfl, ?_⟩) (by assumption) ?_
  rotate_left
  · intro w hSw; (try dsimp only at hSw); go_simp; try (with_reducible rfl)
  (try simp only [Act.put, List.setIfInBounds_toArray, List.set_cons_zero, List.set_cons_succ])
  refine take_at (v := ?_) 14 (some 16) rfl (by kernel_rfl) (by kernel_rfl) (by kernel_rfl) (by kernel_rfl) (fun _ _ _ h => h) (Or.inl ⟨by rfl, ?_⟩) (by assumption) ?_
  rotate_left
  · intro w hSw; (try dsimp only at hSw); go_simp; try (with_reducible rfl)
  (try simp only [Act.put, List.setIfInBounds_toArray, List.set_cons_zero, List.set_cons_succ])
  clear e1
  refine wpAnyH_ready (rs := [15]) (by kernel_rfl) (by simp) ?_
  refine AllReadyH.cons rfl (fun K' hK => ?_) AllReadyH.nil
  go_simp
  refine (next_swap_no H0.out pos _ HE.out).mono ?_
  rintro e w1 ⟨rfl, h1, c1⟩
  have k1 : IsT w1 t b st su pos fl := K0.out.kept c1 hb
  refine hK.out _ _ ⟨⟨k1.r, k1.pos⟩, trivial⟩ (fun _ => ?_)
  have H1 := Lib.hid h1
  have K1 := Lib.hid k1
  obtain ⟨q0, q1, q2, q3, q4, qf⟩ := k1
  have f1 := qf 1
  have f2 := qf 2
  clear qf h1 hK K' hHeld
  (try simp only [Act.put, List.setIfInBounds_toArray, List.set_cons_zero, List.set_cons_succ])
  refine wpAnyH_done (by kernel_rfl) ?_ _
  go_wp2
  go_end0
  have c2 : Ch (One t) w1 (w1.setCell ⟨t, 1, none⟩ (.int .i64 0)) := (Ch.refl _ _).setB _ _
  exact ⟨rfl, H1.out.kept c2 (fun e => hb e.symm) (fun e => hs e.symm), K1.out.setSt _, (c0.trans (Ch_tri (Ch_two1 c1))).trans (Ch_tri1 c2)⟩

end Go.Proofs.YtnbdafmjcmmfpaaGreat.RT
