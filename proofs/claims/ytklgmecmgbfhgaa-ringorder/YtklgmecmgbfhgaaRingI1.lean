/-
  Contracts of package ring's functions at int: seats, what a ring tells of itself, tickets.
-/
import Derived.Test.YtklgmecmgbfhgaaRingCells
import Derived.Test.YtklgmecmgbfhgaaHeld
namespace Go.Proofs.Ytklgmecmgbfhgaa.RI
open Go.RowKit
attribute [local go_sem] Oper.semAt_some
set_option linter.unusedVariables false
set_option linter.unusedSimpArgs false

/-- a seat: its mark, its thing -/
structure IsSeat (w : World) (b o : Nat) (p : Int) (q : Bool) (v : Int) : Prop where
  m : IsM w b o p q
  z : ∃ z, w.cell? ⟨b, o + 5, none⟩ = some (.int .i64 z) ∧ (q = true → z = v)
  f : w.frozen? ⟨b, o + 5, none⟩ = false
theorem IsSeat.kept {S : Nat → Prop} {w w' : World} {b o : Nat} {p : Int} {q : Bool} {v : Int} (h : IsSeat w b o p q v) (c : Ch S w w') (hn : ¬ S b) : IsSeat w' b o p q v := by
  have hl := h.m.lt
  obtain ⟨z, hz, hq⟩ := h.z
  exact ⟨h.m.kept c hn, ⟨z, c.keeps hz hn, hq⟩, (c.frozen (p := ⟨b, _, none⟩) hl hn).trans h.f⟩
theorem IsSeat.far {w w' : World} {b o o' k : Nat} {p : Int} {q : Bool} {v : Int} (h : IsSeat w b o p q v) (c : Tch b o' k w w') (hn : o + 6 ≤ o' ∨ o' + k ≤ o) : IsSeat w' b o p q v := by
  obtain ⟨z, hz, hq⟩ := h.z
  exact ⟨h.m.far c (by omega), ⟨z, (c.cell _ (by omega)).trans hz, hq⟩, (c.fz _).trans h.f⟩

/-- a ring: room n, the next position nx, the first one fi; of the window's positions whether each is published, with what -/
structure IsRing (w : World) (b sb n nx fi : Nat) (P : Nat → Bool) (V : Nat → Int) : Prop where
  next : IsU w b 0 nx
  first : IsU w b 4 fi
  seats : w.cell? ⟨b, 8, none⟩ = some (.slice (some ⟨sb, 0, none⟩) n n)
  seat : ∀ p, fi ≤ p → p < fi + n → IsSeat w sb (p % n * 6) p (P p) (V p)
  ne : b ≠ sb
  n0 : 0 < n
  n1 : n ≤ 64
theorem IsRing.lt {w : World} {b sb n nx fi : Nat} {P : Nat → Bool} {V : Nat → Int} (h : IsRing w b sb n nx fi P V) : b < w.heap.size := h.next.lt
theorem IsRing.lt2 {w : World} {b sb n nx fi : Nat} {P : Nat → Bool} {V : Nat → Int} (h : IsRing w b sb n nx fi P V) : sb < w.heap.size := (h.seat fi (Nat.le_refl _) (by have := h.n0; omega)).m.lt
theorem IsRing.kept {S : Nat → Prop} {w w' : World} {b sb n nx fi : Nat} {P : Nat → Bool} {V : Nat → Int} (h : IsRing w b sb n nx fi P V) (c : Ch S w w') (hb : ¬ S b) (hs : ¬ S sb) : IsRing w' b sb n nx fi P V :=
  ⟨h.next.kept c hb, h.first.kept c hb, c.keeps h.seats hb, fun p h1 h2 => (h.seat p h1 h2).kept c hs, h.ne, h.n0, h.n1⟩
/-- a position's seat has turned, its mark and its thing stand anew -/
theorem seats_turn {w w' : World} {sb n fi o k p : Nat} {P P' : Nat → Bool} {V V' : Nat → Int} (h : ∀ p, fi ≤ p → p < fi + n → IsSeat w sb (p % n * 6) p (P p) (V p)) (hp : fi ≤ p ∧ p < fi + n)
    (c : Tch sb o k w w') (ho : p % n * 6 ≤ o ∧ o + k ≤ p % n * 6 + 6) (hs : IsSeat w' sb (p % n * 6) p (P' p) (V' p)) (hP : ∀ q, q ≠ p → P' q = P q) (hV : ∀ q, q ≠ p → V' q = V q) :
    ∀ p, fi ≤ p → p < fi + n → IsSeat w' sb (p % n * 6) p (P' p) (V' p) := by
  intro q h1 h2
  by_cases e : q = p
  · subst e; exact hs
  · rw [hP q e, hV q e]
    have hm := mod_apart ⟨h1, h2⟩ hp e
    exact (h q h1 h2).far c (by omega)
abbrev Two (b sb : Nat) : Nat → Prop := fun k => k = b ∨ k = sb
abbrev Tri (t b sb : Nat) : Nat → Prop := fun k => k = t ∨ k = b ∨ k = sb

theorem Ch_two1 {b sb : Nat} {w w' : World} (c : Ch (One b) w w') : Ch (Two b sb) w w' := c.mono fun _ _ e => .inl e
theorem Ch_two2 {b sb : Nat} {w w' : World} (c : Ch (One sb) w w') : Ch (Two b sb) w w' := c.mono fun _ _ e => .inr e
theorem Ch_tri {t b sb : Nat} {w w' : World} (c : Ch (Two b sb) w w') : Ch (Tri t b sb) w w' := c.mono fun _ _ e => .inr e
theorem Ch_tri1 {t b sb : Nat} {w w' : World} (c : Ch (One t) w w') : Ch (Tri t b sb) w w' := c.mono fun _ _ e => .inl e
theorem Ch_any {S : Nat → Prop} {w w' : World} (c : Ch Nil w w') : Ch S w w' := c.mono fun _ _ e => e.elim

theorem seat_at (b sb n p : Nat) (w : World) (hs : w.cell? ⟨b, 8, none⟩ = some (.slice (some ⟨sb, 0, none⟩) n n)) (n0 : 0 < n) (n1 : n ≤ 64) (hp : p ≤ 1000000) :
    Calls Try.prog 31 #[.pointer (some ⟨b, 0, none⟩), .int .u64 p] w fun e w' => e = .returned (.pointer (some ⟨sb, p % n * 6, none⟩)) ∧ ∃ k, w' = w.drewN k := by
  have hm := Nat.mod_lt p n0
  go_enter Try.func31, Try.ntmps31
  go_wp2
  go_quiet (fail)
  go_wp2
  go_ret
  exact ⟨rfl, _, rfl⟩

theorem roomless_no (b sb n : Nat) (w : World) (hs : w.cell? ⟨b, 8, none⟩ = some (.slice (some ⟨sb, 0, none⟩) n n)) (n0 : 0 < n) :
    Calls Try.prog 27 #[.pointer (some ⟨b, 0, none⟩)] w fun e w' => e = .returned (.bool false) ∧ w = w' := by
  have hz : ((n : Int) == 0) = false := by rw [beq_eq_false_iff_ne]; omega
  go_enter Try.func27, Try.ntmps27
  go_wp2
  go_ret
  exact ⟨rfl, rfl⟩
theorem roomless_nil (w : World) :
    Calls Try.prog 27 #[.pointer none] w fun e w' => e = .returned (.bool true) ∧ w = w' := by
  go_enter Try.func27, Try.ntmps27
  go_wp2
  go_ret
  exact ⟨rfl, rfl⟩

section
variable {w : World} {b sb n nx fi : Nat} {P : Nat → Bool} {V : Nat → Int}
theorem IsRing.drewN (h : IsRing w b sb n nx fi P V) (k : Nat) : IsRing (w.drewN k) b sb n nx fi P V := h.kept (S := Nil) ((Ch.refl _ _).drewN k) (fun e => e) (fun e => e)
theorem IsRing.drew (h : IsRing w b sb n nx fi P V) : IsRing w.drew b sb n nx fi P V := h.kept (S := Nil) (Ch.refl _ _).drew (fun e => e) (fun e => e)
theorem IsRing.alloc (h : IsRing w b sb n nx fi P V) (o : Obj) : IsRing (w.alloc o) b sb n nx fi P V := h.kept (S := Nil) ((Ch.refl _ _).alloc o) (fun e => e) (fun e => e)
theorem next_load (h : IsRing w b sb n nx fi P V) :
    Calls Try.prog 32 #[.pointer (some ⟨b, 0, none⟩)] w fun e w' => e = .returned (.int .u64 nx) ∧ IsRing w' b sb n nx fi P V ∧ Ch (One b) w w' :=
  (loadU_at b 0 nx w h.next).mono fun e w' ⟨he, hu, c⟩ => ⟨he, ⟨hu, h.first.far c (by omega), (c.cell 8 (by omega)).trans h.seats, fun p h1 h2 => (h.seat p h1 h2).kept c.ch (fun e => h.ne e.symm), h.ne, h.n0, h.n1⟩, c.ch⟩
theorem first_load (h : IsRing w b sb n nx fi P V) :
    Calls Try.prog 32 #[.pointer (some ⟨b, 4, none⟩)] w fun e w' => e = .returned (.int .u64 fi) ∧ IsRing w' b sb n nx fi P V ∧ Ch (One b) w w' :=
  (loadU_at b 4 fi w h.first).mono fun e w' ⟨he, hu, c⟩ => ⟨he, ⟨h.next.far c (by omega), hu, (c.cell 8 (by omega)).trans h.seats, fun p h1 h2 => (h.seat p h1 h2).kept c.ch (fun e => h.ne e.symm), h.ne, h.n0, h.n1⟩, c.ch⟩
theorem mark_load (h : IsRing w b sb n nx fi P V) (p : Nat) (hp : fi ≤ p ∧ p < fi + n) (o : Nat) (ho : p % n * 6 = o) :
    Calls Try.prog 34 #[.pointer (some ⟨sb, o, none⟩)] w fun e w' => e = .returned (mk p (P p)) ∧ IsRing w' b sb n nx fi P V ∧ Ch (One sb) w w' := by
  subst ho
  obtain ⟨z, hz, hq⟩ := (h.seat p hp.1 hp.2).z
  refine (loadM_at sb (p % n * 6) p (P p) w (h.seat p hp.1 hp.2).m).mono fun e w' ⟨he, hm, c⟩ => ⟨he, ⟨h.next.kept c.ch h.ne, h.first.kept c.ch h.ne, c.ch.keeps h.seats h.ne, ?_, h.ne, h.n0, h.n1⟩, c.ch⟩
  exact seats_turn h.seat hp c (by omega) ⟨hm, ⟨z, (c.cell _ (by omega)).trans hz, hq⟩, (c.fz _).trans (h.seat p hp.1 hp.2).f⟩ (fun _ _ => rfl) (fun _ _ => rfl)
end

theorem seat_of {w : World} {b sb n nx fi : Nat} {P : Nat → Bool} {V : Nat → Int} (h : IsRing w b sb n nx fi P V) (p : Nat) (hp : p ≤ 1000000) :
    Calls Try.prog 31 #[.pointer (some ⟨b, 0, none⟩), .int .u64 p] w fun e w' => e = .returned (.pointer (some ⟨sb, p % n * 6, none⟩)) ∧ IsRing w' b sb n nx fi P V ∧ Ch Nil w w' :=
  (seat_at b sb n p w h.seats h.n0 h.n1 hp).mono fun e w' ⟨he, k, hw⟩ => by subst hw; exact ⟨he, h.drewN k, (Ch.refl _ _).drewN k⟩
set_option maxHeartbeats 1600000 in
theorem len_at (b sb n nx fi : Nat) (P : Nat → Bool) (V : Nat → Int) (w : World) (h : IsRing w b sb n nx fi P V) (hle : fi ≤ nx) (hx : nx ≤ 1000000) :
    Calls Try.prog 17 #[.pointer (some ⟨b, 0, none⟩)] w fun e w' => e = .returned (.int .i64 (nx - fi : Nat)) ∧ IsRing w' b sb n nx fi P V ∧ Ch (Two b sb) w w' := by
  have H := Lib.hid h
  have n0 := h.n0
  have hs := h.seats
  clear h
  go_enter Try.func17, Try.ntmps17
  go_wp2_with fail
  refine (roomless_no b sb n _ hs n0).mono ?_
  rintro e w' ⟨rfl, rfl⟩
  clear hs
  go_wp2
  have hS : IsRing w.drew b sb n nx fi P V ∧ Ch (Two b sb) w w.drew := ⟨H.out.drew, (Ch.refl _ _).drew⟩
  have e1 : IntKind.u64.wrap ((nx : Int) - fi) = (nx - fi : Nat) := by rw [IntWalk.u64_in _ (by omega)]; omega
  have e2 : IntKind.i64.wrap ((nx - fi : Nat) : Int) = (nx - fi : Nat) := IntWalk.i64_in _ (by omega)
  refine wp_region_held_drew (S := fun w' => IsRing w' b sb n nx fi P V ∧ Ch (Two b sb) w w') (by kernel_rfl) hS (fun hHeld => ?_)
  clear hS
  refine take_at (v := ?_) 0 (some 5) rfl (by kernel_rfl) (by kernel_rfl) (by kernel_rfl) (by kernel_rfl) (fun _ _ _ h => h) (Or.inl ⟨by rfl, ?_⟩) (by assumption) ?_
  rotate_left
  · intro w hSw; (try dsimp only at hSw); go_simp; try (with_reducible rfl)
  (try simp only [Act.put, List.setIfInBounds_toArray, List.set_cons_zero, List.set_cons_succ])
  refine take_at (v := ?_) 1 (some 6) rfl (by kernel_rfl) (by kernel_rfl) (by kernel_rfl) (by kernel_rfl) (fun _ _ _ h => h) (Or.inl ⟨by rfl, ?_⟩) (by assumption) ?_
  rotate_left
  · intro w hSw; (try dsimp only at hSw); go_simp; try (with_reducible rfl)
  (try simp only [Act.put, List.setIfInBounds_toArray, List.set_cons_zero, List.set_cons_succ])
  refine take_at (v := ?_) 2 (some 7) rfl (by kernel_rfl) (by kernel_rfl) (by kernel_rfl) (by kernel_rfl) (fun _ _ _ h => h) (Or.inl ⟨by rfl, ?_⟩) (by assumption) ?_
  rotate_left
  · intro w hSw; (try dsimp only at hSw); go_simp; try (with_reducible rfl)
  (try simp only [Act.put, List.setIfInBounds_toArray, List.set_cons_zero, List.set_cons_succ])
  refine take_at (v := ?_) 4 (some 9) rfl (by kernel_rfl) (by kernel_rfl) (by kernel_rfl) (by kernel_rfl) (fun _ _ _ h => h) (Or.inl ⟨by rfl, ?_⟩) (by assumption) ?_
  rotate_left
  · intro w hSw; (try dsimp only at hSw); go_simp; try (with_reducible rfl)
  (try simp only [Act.put, List.setIfInBounds_toArray, List.set_cons_zero, List.set_cons_succ])
  refine take_at (v := ?_) 5 (some 10) rfl (by kernel_rfl) (by kernel_rfl) (by kernel_rfl) (by kernel_rfl) (fun _ _ _ h => h) (Or.inl ⟨by rfl, ?_⟩) (by assumption) ?_
  rotate_left
  · intro w hSw; (try dsimp only at hSw); go_simp; try (with_reducible rfl)
  (try simp only [Act.put, List.setIfInBounds_toArray, List.set_cons_zero, List.set_cons_succ])
  refine take_at (v := ?_) 6 (some 11) rfl (by kernel_rfl) (by kernel_rfl) (by kernel_rfl) (by kernel_rfl) (fun _ _ _ h => h) (Or.inl ⟨by rfl, ?_⟩) (by assumption) ?_
  rotate_left
  · intro w hSw; (try dsimp only at hSw); go_simp; try (with_reducible rfl)
  (try simp only [Act.put, List.setIfInBounds_toArray, List.set_cons_zero, List.set_cons_succ])
  refine wpAnyH_ready (rs := [3]) (by kernel_rfl) (by simp) ?_
  refine AllReadyH.cons rfl (fun K hK => ?_) AllReadyH.nil
  go_simp
  refine (next_load hHeld.1).mono ?_
  rintro e w3 ⟨rfl, hi, c3⟩
  refine hK.out _ _ ⟨hi, hHeld.2.trans (Ch_two1 c3)⟩ (fun hHeld => ?_)
  clear hK K hi c3
  (try simp only [Act.put, List.setIfInBounds_toArray, List.set_cons_zero, List.set_cons_succ])
  refine wpAnyH_ready (rs := [7]) (by kernel_rfl) (by simp) ?_
  refine AllReadyH.cons rfl (fun K hK => ?_) AllReadyH.nil
  go_simp
  refine (first_load hHeld.1).mono ?_
  rintro e w4 ⟨rfl, hi, c4⟩
  refine hK.out _ _ ⟨hi, hHeld.2.trans (Ch_two1 c4)⟩ (fun hHeld => ?_)
  clear hK K hi c4
  (try simp only [Act.put, List.setIfInBounds_toArray, List.set_cons_zero, List.set_cons_succ])
  refine take_at (v := ?_) 8 (some 13) rfl (by kernel_rfl) (by kernel_rfl) (by kernel_rfl) (by kernel_rfl) (fun _ _ _ h => h) (Or.inl ⟨by rfl, ?_⟩) (by assumption) ?_
  rotate_left
  · intro w hSw; (try dsimp only at hSw); go_simp; try (with_reducible rfl)
  (try simp only [Act.put, List.setIfInBounds_toArray, List.set_cons_zero, List.set_cons_succ])
  refine take_at (v := ?_) 9 (some 14) rfl (by kernel_rfl) (by kernel_rfl) (by kernel_rfl) (by kernel_rfl) (fun _ _ _ h => h) (Or.inl ⟨by rfl, ?_⟩) (by assumption) ?_
  rotate_left
  · intro w hSw; (try dsimp only at hSw); go_simp; try (with_reducible rfl)
  (try simp only [Act.put, List.setIfInBounds_toArray, List.set_cons_zero, List.set_cons_succ])
  refine take_at (v := ?_) 10 (some 2) rfl (by kernel_rfl) (by kernel_rfl) (by kernel_rfl) (by kernel_rfl) (fun _ _ _ h => h) (Or.inl ⟨by rfl, ?_⟩) (by assumption) ?_
  rotate_left
  · intro w hSw; (try dsimp only at hSw); go_simp; try (with_reducible rfl)
  (try simp only [Act.put, List.setIfInBounds_toArray, List.set_cons_zero, List.set_cons_succ])
  have hE := Lib.hid hHeld
  clear hHeld
  refine wpAnyH_done (by kernel_rfl) ?_ _
  go_wp2
  go_ret
  exact ⟨rfl, hE.out.1, hE.out.2⟩

theorem ready_at (b sb n nx fi : Nat) (P : Nat → Bool) (V : Nat → Int) (w : World) (h : IsRing w b sb n nx fi P V) (hx : fi ≤ 1000000) :
    Calls Try.prog 18 #[.pointer (some ⟨b, 0, none⟩)] w fun e w' => e = .returned (.bool (P fi)) ∧ IsRing w' b sb n nx fi P V ∧ Ch (Two b sb) w w' := by
  have H := Lib.hid h
  have n0 := h.n0
  have n1 := h.n1
  have hs := h.seats
  clear h
  go_enter Try.func18, Try.ntmps18
  go_wp2_with fail
  refine (roomless_no b sb n _ hs n0).mono ?_
  rintro e w' ⟨rfl, rfl⟩
  clear hs
  go_wp2_with fail
  refine (first_load H.out).mono ?_
  rintro e w1 ⟨rfl, h1, c1⟩
  have H1 := Lib.hid h1
  clear h1
  go_wp2_with fail
  refine (seat_at b sb n fi _ H1.out.seats n0 n1 hx).mono ?_
  rintro e w2 ⟨rfl, k, rfl⟩
  go_wp2_with fail
  refine (mark_load (H1.out.drewN k) fi (by omega) _ rfl).mono ?_
  rintro e w2 ⟨rfl, h2, c2⟩
  have H2 := Lib.hid h2
  clear h2
  have heq := eqM
  go_wp2
  go_ret
  exact ⟨rfl, H2.out, ((Ch_two1 c1).drewN k).trans (Ch_two2 c2)⟩

/-- a ticket of the ring in block b -/
structure IsT (w : World) (t b : Nat) (st su : Int) (pos : Nat) (fl : Bool) : Prop where
  r : w.cell? ⟨t, 0, none⟩ = some (.pointer (some ⟨b, 0, none⟩))
  st : w.cell? ⟨t, 1, none⟩ = some (.int .i64 st)
  su : w.cell? ⟨t, 2, none⟩ = some (.int .i64 su)
  pos : w.cell? ⟨t, 3, none⟩ = some (.int .u64 pos)
  fl : w.cell? ⟨t, 4, none⟩ = some (.bool fl)
  f : ∀ i, w.frozen? ⟨t, i, none⟩ = false
theorem IsT.lt {w : World} {t b : Nat} {st su : Int} {pos : Nat} {fl : Bool} (h : IsT w t b st su pos fl) : t < w.heap.size := lt_of_cell h.r
theorem IsT.kept {S : Nat → Prop} {w w' : World} {t b : Nat} {st su : Int} {pos : Nat} {fl : Bool} (h : IsT w t b st su pos fl) (c : Ch S w w') (hn : ¬ S t) : IsT w' t b st su pos fl :=
  ⟨c.keeps h.r hn, c.keeps h.st hn, c.keeps h.su hn, c.keeps h.pos hn, c.keeps h.fl hn, fun i => (c.frozen (p := ⟨t, i, none⟩) h.lt hn).trans (h.f i)⟩
theorem begin_at (b sb n : Nat) (w : World) (hs : w.cell? ⟨b, 8, none⟩ = some (.slice (some ⟨sb, 0, none⟩) n n)) (n0 : 0 < n) :
    Calls Try.prog 10 #[.pointer (some ⟨b, 0, none⟩)] w fun e w' => e = .returned (.pointer (some ⟨w.heap.size, 0, none⟩)) ∧ IsT w' w.heap.size b 0 0 0 false ∧ Ch Nil w w' ∧ w'.heap.size = w.heap.size + 1 := by
  go_enter Try.func10, Try.ntmps10
  go_wp2_with fail
  refine (roomless_no b sb n _ hs n0).mono ?_
  rintro e w' ⟨rfl, rfl⟩
  clear hs
  go_wp2
  go_ret
  refine ⟨rfl, ?_, (Ch.refl _ _).alloc _, by simp⟩
  constructor <;> simp [go_sem]
end Go.Proofs.Ytklgmecmgbfhgaa.RI
