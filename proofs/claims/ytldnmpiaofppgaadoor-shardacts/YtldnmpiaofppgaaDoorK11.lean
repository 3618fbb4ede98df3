import Derived.Test.YtldnmpiaofppgaaDoorK05
import Derived.Defers
import Derived.Recover
import Derived.BigQuiet
import Derived.Deep.QuietTactic
import Derived.Laws.StructEq
import Derived.Test.YtldnmpiaofppgaaDoorK07
/-
  Contracts of package cell's functions at unsigned numbers and at marks.
-/
namespace Go.Proofs.YtldnmpiaofppgaaDoor
open Go.RowKit
attribute [local go_sem] Oper.semAt_some
set_option linter.unusedVariables false
set_option linter.unusedSimpArgs false

theorem catchU_idle (w : World) :
    CallsD Tryd.prog 103 #[] .returning w fun e u' w' => e = .returned (.tuple #[]) ∧ u' = .returning ∧ w = w' := by
  refine callsD_of_wpS Tryd.func103 rfl fun c₀ cs hu => ?_
  apply wpS_region
  cases c₀
  simp_all [wpOpsS, go_sem, recoverD, Tryd.ntmps103, bodyPostS, results, Tryd.results103]

theorem sameU_any (a b : Int) (w : World) :
    Calls Tryd.prog 93 #[.int .u64 a, .int .u64 b] w fun e w' => e = .returned (.bool (a == b)) ∧ w = w' := by
  have hmf : ∀ (fn : Fn) (first cap : Array Value) (w : World), (Instr.makeFunc fn first cap).run Tryd.prog w = .ok (.func fn first cap) w := fun _ _ _ _ => rfl
  go_enter_defers Tryd.func93, Tryd.ntmps93
  go_wp2
  refine leaves_cons (f := 103) (args := #[]) (by simp) (by simp [go_sem]) ?_
  refine (catchU_idle _).mono ?_
  rintro e u' w'' ⟨rfl, rfl, rfl⟩
  simp [Leaves, settle, results, Tryd.results93, go_sem]

theorem changeU_no (b o : Nat) (v x : Value) (l t u : Int) (w : World) (h : IsC w b o v l t u) :
    Calls Tryd.prog 92 #[.pointer (some ⟨b, o, none⟩), x, .bool false] w fun e w' => e = .returned (.bool false) ∧ w.setCell ⟨b, o + 2, none⟩ (.int .i64 (wrap64 (t + 1))) = w' := by
  obtain ⟨hv, hl, ht, hu, fv, fl, ft, fu⟩ := h
  go_enter Tryd.func92, Tryd.ntmps92
  go_wp2
  go_ret
  exact ⟨rfl, rfl⟩

theorem changeU_yes (b o : Nat) (v : Value) (x l t u : Int) (w : World) (h : IsC w b o v l t u) :
    Calls Tryd.prog 92 #[.pointer (some ⟨b, o, none⟩), .int .u64 x, .bool true] w fun e w' => e = .returned (.bool true) ∧
      ((w.setCell ⟨b, o + 2, none⟩ (.int .i64 (wrap64 (t + 1)))).setCell ⟨b, o, none⟩ (.int .u64 x)).setCell ⟨b, o + 3, none⟩ (.int .i64 (wrap64 (u + 1))) = w' := by
  obtain ⟨hv, hl, ht, hu, fv, fl, ft, fu⟩ := h
  go_enter Tryd.func92, Tryd.ntmps92
  go_wp2
  go_ret
  exact ⟨rfl, rfl⟩

theorem swapU_no (b o : Nat) (v old x : Int) (w : World) (h : IsU w b o v) (hne : (v == old) = false) :
    Calls Tryd.prog 75 #[.pointer (some ⟨b, o, none⟩), .int .u64 old, .int .u64 x] w fun e w' => e = .returned (.bool false) ∧ IsU w' b o v ∧ Tch b o 4 w w' := by
  obtain ⟨l, t, u, h⟩ := h
  have H := Lib.hid h
  have hv := h.v
  clear h
  go_enter Tryd.func75, Tryd.ntmps75
  go_wp2_with fail
  refine (sameU_any _ _ _).mono ?_
  rintro e w1 ⟨rfl, rfl⟩
  rw [hne]
  go_wp2_with fail
  refine (changeU_no b o _ _ l t u _ H.out).mono ?_
  rintro e w1 ⟨rfl, rfl⟩
  go_wp2
  go_ret
  exact ⟨rfl, ⟨_, _, _, H.out.setT _⟩, (Tch.refl _ _ _ _).set _ (by omega) _⟩

theorem swapU_yes (b o : Nat) (v x : Int) (w : World) (h : IsU w b o v) :
    Calls Tryd.prog 75 #[.pointer (some ⟨b, o, none⟩), .int .u64 v, .int .u64 x] w fun e w' => e = .returned (.bool true) ∧ IsU w' b o x ∧ Tch b o 4 w w' := by
  obtain ⟨l, t, u, h⟩ := h
  have H := Lib.hid h
  have hv := h.v
  clear h
  go_enter Tryd.func75, Tryd.ntmps75
  go_wp2_with fail
  refine (sameU_any _ _ _).mono ?_
  rintro e w1 ⟨rfl, rfl⟩
  rw [beq_self_eq_true]
  go_wp2_with fail
  refine (changeU_yes b o _ _ l t u _ H.out).mono ?_
  rintro e w1 ⟨rfl, rfl⟩
  go_wp2
  go_ret
  exact ⟨rfl, ⟨_, _, _, ((H.out.setT _).setV _).setU _⟩, (((Tch.refl _ _ _ _).set _ (by omega) _).set _ (by omega) _).set _ (by omega) _⟩

theorem loadU_at (b o : Nat) (v : Int) (w : World) (h : IsU w b o v) :
    Calls Tryd.prog 73 #[.pointer (some ⟨b, o, none⟩)] w fun e w' => e = .returned (.int .u64 v) ∧ IsU w' b o v ∧ Tch b o 4 w w' := by
  obtain ⟨l, t, u, h⟩ := h
  have H := Lib.hid h
  obtain ⟨hv, hl, ht, hu, fv, fl, ft, fu⟩ := h
  go_enter Tryd.func73, Tryd.ntmps73
  go_wp2
  go_ret
  exact ⟨rfl, ⟨_, _, _, H.out.setL _⟩, (Tch.refl _ _ _ _).set _ (by omega) _⟩

theorem storeU_at (b o : Nat) (v x : Int) (w : World) (h : IsU w b o v) :
    Calls Tryd.prog 76 #[.pointer (some ⟨b, o, none⟩), .int .u64 x] w fun e w' => e = .returned (.tuple #[]) ∧ IsU w' b o x ∧ Tch b o 4 w w' := by
  obtain ⟨l, t, u, h⟩ := h
  have H := Lib.hid h
  obtain ⟨hv, hl, ht, hu, fv, fl, ft, fu⟩ := h
  go_enter Tryd.func76, Tryd.ntmps76
  go_wp2
  go_end0
  exact ⟨rfl, ⟨_, _, _, H.out.setV _⟩, (Tch.refl _ _ _ _).set _ (by omega) _⟩

theorem storeM_at (b o : Nat) (p x : Int) (q y : Bool) (w : World) (h : IsM w b o p q) :
    Calls Tryd.prog 48 #[.pointer (some ⟨b, o, none⟩), mk x y] w fun e w' => e = .returned (.tuple #[]) ∧ IsM w' b o x y ∧ Tch b o 5 w w' := by
  obtain ⟨l, t, u, h⟩ := h
  have H := Lib.hid h
  have hlt := h.lt
  have hne : ¬ w.heap.size = b := by omega
  obtain ⟨hp, hq, hl, ht, hu, fp, fq, fl⟩ := h
  go_enter Tryd.func48, Tryd.ntmps48
  go_wp2
  go_end0
  exact ⟨rfl, ⟨_, _, _, ((H.out.setP _).setQ _).alloc _⟩, (((Tch.refl _ _ _ _).set _ (by omega) _).set _ (by omega) _).alloc hlt _⟩

theorem loadM_at (b o : Nat) (p : Int) (q : Bool) (w : World) (h : IsM w b o p q) :
    Calls Tryd.prog 74 #[.pointer (some ⟨b, o, none⟩)] w fun e w' => e = .returned (mk p q) ∧ IsM w' b o p q ∧ Tch b o 5 w w' := by
  obtain ⟨l, t, u, h⟩ := h
  have H := Lib.hid h
  have hlt := h.lt
  have hne : ¬ w.heap.size = b := by omega
  obtain ⟨hp, hq, hl, ht, hu, fp, fq, fl⟩ := h
  go_enter Tryd.func74, Tryd.ntmps74
  go_wp2
  refine bodyPost_ret (v := mk p q) (by simp [results, Tryd.results74, go_sem]) rfl ⟨rfl, ?_⟩
  exact ⟨⟨_, _, _, (H.out.setL _).alloc _⟩, ((Tch.refl _ _ _ _).set _ (by omega) _).alloc hlt _⟩

theorem eqM (a c : Int) (p q : Bool) (w : World) : (Op.equalIn 10000 99 (.agg #[.int .u64 a, .bool p]) (.agg #[.int .u64 c, .bool q])).run Tryd.prog w = .ok (a == c && p == q) w := by
  have u3 := Tryd.underlying29
  have u4 := Tryd.underlying4
  rw [show (10000 : Nat) = 9999 + 1 from rfl, run_equalIn_struct _ _ _ _ _ (by kernel_rfl) (by kernel_rfl)]
  simp only [Program.fieldsOf, Tryd.underlying99]
  simp only [Op.eqFields]
  go_simp
  by_cases h1 : a = c <;> cases p <;> cases q <;> simp [h1]
end Go.Proofs.YtldnmpiaofppgaaDoor

/-
  Contracts of package ring's functions at verge/api.Task: seats, what a ring tells of itself, tickets.
-/
namespace Go.Proofs.YtldnmpiaofppgaaDoor.RT
open Go.RowKit Verge
attribute [local go_sem] Oper.semAt_some
set_option linter.unusedVariables false
set_option linter.unusedSimpArgs false

/-- a seat: its mark, its thing -/
structure IsSeat (w : World) (b o : Nat) (p : Int) (q : Bool) (v : Tk) : Prop where
  m : IsM w b o p q
  z : ∃ z, IsTk w b (o + 5) z ∧ (q = true → z = v)
  f : ∀ j, w.frozen? ⟨b, j, none⟩ = false
theorem IsSeat.kept {S : Nat → Prop} {w w' : World} {b o : Nat} {p : Int} {q : Bool} {v : Tk} (h : IsSeat w b o p q v) (c : Ch S w w') (hn : ¬ S b) : IsSeat w' b o p q v := by
  have hl := h.m.lt
  obtain ⟨z, hz, hq⟩ := h.z
  exact ⟨h.m.kept c hn, ⟨z, hz.kept c hn, hq⟩, fun j => (c.frozen (p := ⟨b, _, none⟩) hl hn).trans (h.f j)⟩
theorem IsSeat.far {w w' : World} {b o o' k : Nat} {p : Int} {q : Bool} {v : Tk} (h : IsSeat w b o p q v) (c : Tch b o' k w w') (hn : o + 10 ≤ o' ∨ o' + k ≤ o) : IsSeat w' b o p q v := by
  obtain ⟨z, hz, hq⟩ := h.z
  exact ⟨h.m.far c (by omega), ⟨z, hz.far c (by omega), hq⟩, fun j => (c.fz _).trans (h.f j)⟩

/-- a ring: room n, the next position nx, the first one fi; of the window's positions whether each is published, with what -/
structure IsRing (w : World) (b sb n nx fi : Nat) (P : Nat → Bool) (V : Nat → Tk) : Prop where
  next : IsU w b 0 nx
  first : IsU w b 4 fi
  seats : w.cell? ⟨b, 8, none⟩ = some (.slice (some ⟨sb, 0, none⟩) n n)
  seat : ∀ p, fi ≤ p → p < fi + n → IsSeat w sb (p % n * 10) p (P p) (V p)
  ne : b ≠ sb
  n0 : 0 < n
  n1 : n ≤ 64
theorem IsRing.lt {w : World} {b sb n nx fi : Nat} {P : Nat → Bool} {V : Nat → Tk} (h : IsRing w b sb n nx fi P V) : b < w.heap.size := h.next.lt
theorem IsRing.lt2 {w : World} {b sb n nx fi : Nat} {P : Nat → Bool} {V : Nat → Tk} (h : IsRing w b sb n nx fi P V) : sb < w.heap.size := (h.seat fi (Nat.le_refl _) (by have := h.n0; omega)).m.lt
theorem IsRing.kept {S : Nat → Prop} {w w' : World} {b sb n nx fi : Nat} {P : Nat → Bool} {V : Nat → Tk} (h : IsRing w b sb n nx fi P V) (c : Ch S w w') (hb : ¬ S b) (hs : ¬ S sb) : IsRing w' b sb n nx fi P V :=
  ⟨h.next.kept c hb, h.first.kept c hb, c.keeps h.seats hb, fun p h1 h2 => (h.seat p h1 h2).kept c hs, h.ne, h.n0, h.n1⟩
/-- a position's seat has turned, its mark and its thing stand anew -/
theorem seats_turn {w w' : World} {sb n fi o k p : Nat} {P P' : Nat → Bool} {V V' : Nat → Tk} (h : ∀ p, fi ≤ p → p < fi + n → IsSeat w sb (p % n * 10) p (P p) (V p)) (hp : fi ≤ p ∧ p < fi + n)
    (c : Tch sb o k w w') (ho : p % n * 10 ≤ o ∧ o + k ≤ p % n * 10 + 10) (hs : IsSeat w' sb (p % n * 10) p (P' p) (V' p)) (hP : ∀ q, q ≠ p → P' q = P q) (hV : ∀ q, q ≠ p → V' q = V q) :
    ∀ p, fi ≤ p → p < fi + n → IsSeat w' sb (p % n * 10) p (P' p) (V' p) := by
  intro q h1 h2
  by_cases e : q = p
  · subst e; exact hs
  · rw [hP q e, hV q e]
    have hm := mod_apart ⟨h1, h2⟩ hp e
    exact (h q h1 h2).far c (by omega)
abbrev Two (b sb : Nat) : Nat → Prop := fun k => k = b ∨ k = sb
abbrev Tri (t b sb : Nat) : Nat → Prop := fun k => k = t ∨ k = b ∨ k = sb

theorem Ch_two1 {b sb : Nat} {w w' : World} (c : Ch (One b) w w') : Ch (Two b sb) w w' := c.mono fun _ _ e => .inl e
theorem Ch_two2 {b sb : Nat} {w w' : World} (c : Ch (One sb) w w') : Ch (Two b sb) w w' := c.mono fun _ _ e => .inr e
theorem Ch_tri {t b sb : Nat} {w w' : World} (c : Ch (Two b sb) w w') : Ch (Tri t b sb) w w' := c.mono fun _ _ e => .inr e
theorem Ch_tri1 {t b sb : Nat} {w w' : World} (c : Ch (One t) w w') : Ch (Tri t b sb) w w' := c.mono fun _ _ e => .inl e
theorem Ch_any {S : Nat → Prop} {w w' : World} (c : Ch Nil w w') : Ch S w w' := c.mono fun _ _ e => e.elim

theorem seat_at (b sb n p : Nat) (w : World) (hs : w.cell? ⟨b, 8, none⟩ = some (.slice (some ⟨sb, 0, none⟩) n n)) (n0 : 0 < n) (n1 : n ≤ 64) (hp : p ≤ 1000000) :
    Calls Tryd.prog 47 #[.pointer (some ⟨b, 0, none⟩), .int .u64 p] w fun e w' => e = .returned (.pointer (some ⟨sb, p % n * 10, none⟩)) ∧ ∃ k, w' = w.drewN k := by
  have hm := Nat.mod_lt p n0
  go_enter Tryd.func47, Tryd.ntmps47
  go_wp2
  go_quiet (fail)
  go_wp2
  go_ret
  exact ⟨rfl, _, rfl⟩

theorem roomless_no (b sb n : Nat) (w : World) (hs : w.cell? ⟨b, 8, none⟩ = some (.slice (some ⟨sb, 0, none⟩) n n)) (n0 : 0 < n) :
    Calls Tryd.prog 42 #[.pointer (some ⟨b, 0, none⟩)] w fun e w' => e = .returned (.bool false) ∧ w = w' := by
  have hz : ((n : Int) == 0) = false := by rw [beq_eq_false_iff_ne]; omega
  go_enter Tryd.func42, Tryd.ntmps42
  go_wp2
  go_ret
  exact ⟨rfl, rfl⟩
theorem roomless_nil (w : World) :
    Calls Tryd.prog 42 #[.pointer none] w fun e w' => e = .returned (.bool true) ∧ w = w' := by
  go_enter Tryd.func42, Tryd.ntmps42
  go_wp2
  go_ret
  exact ⟨rfl, rfl⟩

section
variable {w : World} {b sb n nx fi : Nat} {P : Nat → Bool} {V : Nat → Tk}
theorem IsRing.drewN (h : IsRing w b sb n nx fi P V) (k : Nat) : IsRing (w.drewN k) b sb n nx fi P V := h.kept (S := Nil) ((Ch.refl _ _).drewN k) (fun e => e) (fun e => e)
theorem IsRing.drew (h : IsRing w b sb n nx fi P V) : IsRing w.drew b sb n nx fi P V := h.kept (S := Nil) (Ch.refl _ _).drew (fun e => e) (fun e => e)
theorem IsRing.alloc (h : IsRing w b sb n nx fi P V) (o : Obj) : IsRing (w.alloc o) b sb n nx fi P V := h.kept (S := Nil) ((Ch.refl _ _).alloc o) (fun e => e) (fun e => e)
theorem next_load (h : IsRing w b sb n nx fi P V) :
    Calls Tryd.prog 73 #[.pointer (some ⟨b, 0, none⟩)] w fun e w' => e = .returned (.int .u64 nx) ∧ IsRing w' b sb n nx fi P V ∧ Ch (One b) w w' :=
  (loadU_at b 0 nx w h.next).mono fun e w' ⟨he, hu, c⟩ => ⟨he, ⟨hu, h.first.far c (by omega), (c.cell 8 (by omega)).trans h.seats, fun p h1 h2 => (h.seat p h1 h2).kept c.ch (fun e => h.ne e.symm), h.ne, h.n0, h.n1⟩, c.ch⟩
theorem first_load (h : IsRing w b sb n nx fi P V) :
    Calls Tryd.prog 73 #[.pointer (some ⟨b, 4, none⟩)] w fun e w' => e = .returned (.int .u64 fi) ∧ IsRing w' b sb n nx fi P V ∧ Ch (One b) w w' :=
  (loadU_at b 4 fi w h.first).mono fun e w' ⟨he, hu, c⟩ => ⟨he, ⟨h.next.far c (by omega), hu, (c.cell 8 (by omega)).trans h.seats, fun p h1 h2 => (h.seat p h1 h2).kept c.ch (fun e => h.ne e.symm), h.ne, h.n0, h.n1⟩, c.ch⟩
theorem mark_load (h : IsRing w b sb n nx fi P V) (p : Nat) (hp : fi ≤ p ∧ p < fi + n) (o : Nat) (ho : p % n * 10 = o) :
    Calls Tryd.prog 74 #[.pointer (some ⟨sb, o, none⟩)] w fun e w' => e = .returned (mk p (P p)) ∧ IsRing w' b sb n nx fi P V ∧ Ch (One sb) w w' := by
  subst ho
  obtain ⟨z, hz, hq⟩ := (h.seat p hp.1 hp.2).z
  refine (loadM_at sb (p % n * 10) p (P p) w (h.seat p hp.1 hp.2).m).mono fun e w' ⟨he, hm, c⟩ => ⟨he, ⟨h.next.kept c.ch h.ne, h.first.kept c.ch h.ne, c.ch.keeps h.seats h.ne, ?_, h.ne, h.n0, h.n1⟩, c.ch⟩
  exact seats_turn h.seat hp c (by omega) ⟨hm, ⟨z, hz.far c (by omega), hq⟩, fun j => (c.fz _).trans ((h.seat p hp.1 hp.2).f j)⟩ (fun _ _ => rfl) (fun _ _ => rfl)
end

theorem seat_of {w : World} {b sb n nx fi : Nat} {P : Nat → Bool} {V : Nat → Tk} (h : IsRing w b sb n nx fi P V) (p : Nat) (hp : p ≤ 1000000) :
    Calls Tryd.prog 47 #[.pointer (some ⟨b, 0, none⟩), .int .u64 p] w fun e w' => e = .returned (.pointer (some ⟨sb, p % n * 10, none⟩)) ∧ IsRing w' b sb n nx fi P V ∧ Ch Nil w w' :=
  (seat_at b sb n p w h.seats h.n0 h.n1 hp).mono fun e w' ⟨he, k, hw⟩ => by subst hw; exact ⟨he, h.drewN k, (Ch.refl _ _).drewN k⟩
set_option maxHeartbeats 1600000 in
theorem len_at (b sb n nx fi : Nat) (P : Nat → Bool) (V : Nat → Tk) (w : World) (h : IsRing w b sb n nx fi P V) (hle : fi ≤ nx) (hx : nx ≤ 1000000) :
    Calls Tryd.prog 49 #[.pointer (some ⟨b, 0, none⟩)] w fun e w' => e = .returned (.int .i64 (nx - fi : Nat)) ∧ IsRing w' b sb n nx fi P V ∧ Ch (Two b sb) w w' := by
  have H := Lib.hid h
  have n0 := h.n0
  have hs := h.seats
  clear h
  go_enter Tryd.func49, Tryd.ntmps49
  go_wp2_with fail
  refine (roomless_no b sb n _ hs n0).mono ?_
  rintro e w' ⟨rfl, rfl⟩
  clear hs
  go_wp2
  have hS : IsRing w.drew b sb n nx fi P V ∧ Ch (Two b sb) w w.drew := ⟨H.out.drew, (Ch.refl _ _).drew⟩
  have e1 : IntKind.u64.wrap ((nx : Int) - fi) = (nx - fi : Nat) := by rw [IntWalk.u64_in _ (by omega)]; omega
  have e2 : IntKind.i64.wrap ((nx - fi : Nat) : Int) = (nx - fi : Nat) := IntWalk.i64_in _ (by omega)
  refine wp_region_held_drew (S := fun w' => IsRing w' b sb n nx fi P V ∧ Ch (Two b sb) w w') (by kernel_rfl) hS (fun hHeld => ?_)
  clear hS
  refine take_at (v := ?_) 0 (some 5) rfl (by kernel_rfl) (by kernel_rfl) (by kernel_rfl) (by kernel_rfl) (fun _ _ _ h => h) (Or.inl ⟨by rfl, ?_⟩) (by assumption) ?_
  rotate_left
  · intro w hSw; (try dsimp only at hSw); go_simp; try (with_reducible rfl)
  (try simp only [Act.put, List.setIfInBounds_toArray, List.set_cons_zero, List.set_cons_succ])
  refine take_at (v := ?_) 1 (some 6) rfl (by kernel_rfl) (by kernel_rfl) (by kernel_rfl) (by kernel_rfl) (fun _ _ _ h => h) (Or.inl ⟨by rfl, ?_⟩) (by assumption) ?_
  rotate_left
  · intro w hSw; (try dsimp only at hSw); go_simp; try (with_reducible rfl)
  (try simp only [Act.put, List.setIfInBounds_toArray, List.set_cons_zero, List.set_cons_succ])
  refine take_at (v := ?_) 2 (some 7) rfl (by kernel_rfl) (by kernel_rfl) (by kernel_rfl) (by kernel_rfl) (fun _ _ _ h => h) (Or.inl ⟨by rfl, ?_⟩) (by assumption) ?_
  rotate_left
  · intro w hSw; (try dsimp only at hSw); go_simp; try (with_reducible rfl)
  (try simp only [Act.put, List.setIfInBounds_toArray, List.set_cons_zero, List.set_cons_succ])
  refine take_at (v := ?_) 4 (some 9) rfl (by kernel_rfl) (by kernel_rfl) (by kernel_rfl) (by kernel_rfl) (fun _ _ _ h => h) (Or.inl ⟨by rfl, ?_⟩) (by assumption) ?_
  rotate_left
  · intro w hSw; (try dsimp only at hSw); go_simp; try (with_reducible rfl)
  (try simp only [Act.put, List.setIfInBounds_toArray, List.set_cons_zero, List.set_cons_succ])
  refine take_at (v := ?_) 5 (some 10) rfl (by kernel_rfl) (by kernel_rfl) (by kernel_rfl) (by kernel_rfl) (fun _ _ _ h => h) (Or.inl ⟨by rfl, ?_⟩) (by assumption) ?_
  rotate_left
  · intro w hSw; (try dsimp only at hSw); go_simp; try (with_reducible rfl)
  (try simp only [Act.put, List.setIfInBounds_toArray, List.set_cons_zero, List.set_cons_succ])
  refine take_at (v := ?_) 6 (some 11) rfl (by kernel_rfl) (by kernel_rfl) (by kernel_rfl) (by kernel_rfl) (fun _ _ _ h => h) (Or.inl ⟨by rfl, ?_⟩) (by assumption) ?_
  rotate_left
  · intro w hSw; (try dsimp only at hSw); go_simp; try (with_reducible rfl)
  (try simp only [Act.put, List.setIfInBounds_toArray, List.set_cons_zero, List.set_cons_succ])
  refine wpAnyH_ready (rs := [3]) (by kernel_rfl) (by simp) ?_
  refine AllReadyH.cons rfl (fun K hK => ?_) AllReadyH.nil
  go_simp
  refine (next_load hHeld.1).mono ?_
  rintro e w3 ⟨rfl, hi, c3⟩
  refine hK.out _ _ ⟨hi, hHeld.2.trans (Ch_two1 c3)⟩ (fun hHeld => ?_)
  clear hK K hi c3
  (try simp only [Act.put, List.setIfInBounds_toArray, List.set_cons_zero, List.set_cons_succ])
  refine wpAnyH_ready (rs := [7]) (by kernel_rfl) (by simp) ?_
  refine AllReadyH.cons rfl (fun K hK => ?_) AllReadyH.nil
  go_simp
  refine (first_load hHeld.1).mono ?_
  rintro e w4 ⟨rfl, hi, c4⟩
  refine hK.out _ _ ⟨hi, hHeld.2.trans (Ch_two1 c4)⟩ (fun hHeld => ?_)
  clear hK K hi c4
  (try simp only [Act.put, List.setIfInBounds_toArray, List.set_cons_zero, List.set_cons_succ])
  refine take_at (v := ?_) 8 (some 13) rfl (by kernel_rfl) (by kernel_rfl) (by kernel_rfl) (by kernel_rfl) (fun _ _ _ h => h) (Or.inl ⟨by rfl, ?_⟩) (by assumption) ?_
  rotate_left
  · intro w hSw; (try dsimp only at hSw); go_simp; try (with_reducible rfl)
  (try simp only [Act.put, List.setIfInBounds_toArray, List.set_cons_zero, List.set_cons_succ])
  refine take_at (v := ?_) 9 (some 14) rfl (by kernel_rfl) (by kernel_rfl) (by kernel_rfl) (by kernel_rfl) (fun _ _ _ h => h) (Or.inl ⟨by rfl, ?_⟩) (by assumption) ?_
  rotate_left
  · intro w hSw; (try dsimp only at hSw); go_simp; try (with_reducible rfl)
  (try simp only [Act.put, List.setIfInBounds_toArray, List.set_cons_zero, List.set_cons_succ])
  refine take_at (v := ?_) 10 (some 2) rfl (by kernel_rfl) (by kernel_rfl) (by kernel_rfl) (by kernel_rfl) (fun _ _ _ h => h) (Or.inl ⟨by rfl, ?_⟩) (by assumption) ?_
  rotate_left
  · intro w hSw; (try dsimp only at hSw); go_simp; try (with_reducible rfl)
  (try simp only [Act.put, List.setIfInBounds_toArray, List.set_cons_zero, List.set_cons_succ])
  have hE := Lib.hid hHeld
  clear hHeld
  refine wpAnyH_done (by kernel_rfl) ?_ _
  go_wp2
  go_ret
  exact ⟨rfl, hE.out.1, hE.out.2⟩

theorem ready_at (b sb n nx fi : Nat) (P : Nat → Bool) (V : Nat → Tk) (w : World) (h : IsRing w b sb n nx fi P V) (hx : fi ≤ 1000000) :
    Calls Tryd.prog 46 #[.pointer (some ⟨b, 0, none⟩)] w fun e w' => e = .returned (.bool (P fi)) ∧ IsRing w' b sb n nx fi P V ∧ Ch (Two b sb) w w' := by
  have H := Lib.hid h
  have n0 := h.n0
  have n1 := h.n1
  have hs := h.seats
  clear h
  go_enter Tryd.func46, Tryd.ntmps46
  go_wp2_with fail
  refine (roomless_no b sb n _ hs n0).mono ?_
  rintro e w' ⟨rfl, rfl⟩
  clear hs
  go_wp2_with fail
  refine (first_load H.out).mono ?_
  rintro e w1 ⟨rfl, h1, c1⟩
  have H1 := Lib.hid h1
  clear h1
  go_wp2_with fail
  refine (seat_at b sb n fi _ H1.out.seats n0 n1 hx).mono ?_
  rintro e w2 ⟨rfl, k, rfl⟩
  go_wp2_with fail
  refine (mark_load (H1.out.drewN k) fi (by omega) _ rfl).mono ?_
  rintro e w2 ⟨rfl, h2, c2⟩
  have H2 := Lib.hid h2
  clear h2
  have heq := eqM
  go_wp2
  go_ret
  exact ⟨rfl, H2.out, ((Ch_two1 c1).drewN k).trans (Ch_two2 c2)⟩

/-- a ticket of the ring in block b -/
structure IsT (w : World) (t b : Nat) (st su : Int) (pos : Nat) (fl : Bool) : Prop where
  r : w.cell? ⟨t, 0, none⟩ = some (.pointer (some ⟨b, 0, none⟩))
  st : w.cell? ⟨t, 1, none⟩ = some (.int .i64 st)
  su : w.cell? ⟨t, 2, none⟩ = some (.int .i64 su)
  pos : w.cell? ⟨t, 3, none⟩ = some (.int .u64 pos)
  fl : w.cell? ⟨t, 4, none⟩ = some (.bool fl)
  f : ∀ i, w.frozen? ⟨t, i, none⟩ = false
theorem IsT.lt {w : World} {t b : Nat} {st su : Int} {pos : Nat} {fl : Bool} (h : IsT w t b st su pos fl) : t < w.heap.size := lt_of_cell h.r
theorem IsT.kept {S : Nat → Prop} {w w' : World} {t b : Nat} {st su : Int} {pos : Nat} {fl : Bool} (h : IsT w t b st su pos fl) (c : Ch S w w') (hn : ¬ S t) : IsT w' t b st su pos fl :=
  ⟨c.keeps h.r hn, c.keeps h.st hn, c.keeps h.su hn, c.keeps h.pos hn, c.keeps h.fl hn, fun i => (c.frozen (p := ⟨t, i, none⟩) h.lt hn).trans (h.f i)⟩
theorem begin_at (b sb n : Nat) (w : World) (hs : w.cell? ⟨b, 8, none⟩ = some (.slice (some ⟨sb, 0, none⟩) n n)) (n0 : 0 < n) :
    Calls Tryd.prog 41 #[.pointer (some ⟨b, 0, none⟩)] w fun e w' => e = .returned (.pointer (some ⟨w.heap.size, 0, none⟩)) ∧ IsT w' w.heap.size b 0 0 0 false ∧ Ch Nil w w' ∧ w'.heap.size = w.heap.size + 1 := by
  go_enter Tryd.func41, Tryd.ntmps41
  go_wp2_with fail
  refine (roomless_no b sb n _ hs n0).mono ?_
  rintro e w' ⟨rfl, rfl⟩
  clear hs
  go_wp2
  go_ret
  refine ⟨rfl, ?_, (Ch.refl _ _).alloc _, by simp⟩
  constructor <;> simp [go_sem]
end Go.Proofs.YtldnmpiaofppgaaDoor.RT
