import Derived.Test.YtldnmpiaofppgaaDoorK09
import Derived.Test.YtldnmpiaofppgaaDoorK07
import Derived.Defers
import Derived.Recover
import Derived.BigQuiet
import Derived.Deep.QuietTactic
import Derived.Deep.Cut
import Derived.Deep.CutRange
import Derived.Deep.CutBlock
/-
  Contracts of package cell's functions at a lock's value, and of the lock's small functions.
-/
namespace Go.Proofs.YtldnmpiaofppgaaDoor
open Go.RowKit
attribute [local go_sem] Oper.semAt_some
set_option linter.unusedVariables false
set_option linter.unusedSimpArgs false

theorem new_any (w : World) :
    Calls Tryd.prog 29 #[] w fun e w' => e = .returned (.pointer (some ⟨w.heap.size, 0, none⟩)) ∧ IsK w' w.heap.size 0 false 0 ∧ Ch Nil w w' := by
  go_enter Tryd.func29, Tryd.ntmps29
  go_wp2
  go_ret
  refine ⟨rfl, ⟨0, 0, 0, ?_⟩, (Ch.refl _ _).alloc _⟩
  constructor <;> simp [go_sem]

theorem changeH_yes (b : Nat) (o : Int) (t : Bool) (n : Int) (x : Int) (y : Bool) (z : Int) (w : World) (h : IsK w b o t n) :
    Calls Tryd.prog 78 #[.pointer (some ⟨b, 0, none⟩), hv x y z, .bool true] w fun e w' => e = .returned (.bool true) ∧ IsK w' b x y z ∧ Ch (One b) w w' := by
  obtain ⟨l, r, u, h⟩ := h
  have H := Lib.hid h
  have hlt := h.lt
  have hne : ¬ w.heap.size = b := by omega
  obtain ⟨ho, ht, hn, hl, hr, hu, hf⟩ := h
  go_enter Tryd.func78, Tryd.ntmps78
  go_wp2
  go_ret
  refine ⟨rfl, ⟨_, _, _, (((((H.out.setR _).setO _).setT _).setN _).setU _).alloc _⟩, ?_⟩
  exact ((((((Ch.refl _ _).setB _ _).setB _ _).setB _ _).setB _ _).setB _ _).alloc _

theorem loadH_at (b : Nat) (o : Int) (t : Bool) (n : Int) (w : World) (h : IsK w b o t n) :
    Calls Tryd.prog 77 #[.pointer (some ⟨b, 0, none⟩)] w fun e w' => e = .returned (hv o t n) ∧ IsK w' b o t n ∧ Ch (One b) w w' := by
  obtain ⟨l, r, u, h⟩ := h
  have H := Lib.hid h
  have hlt := h.lt
  have hne : ¬ w.heap.size = b := by omega
  obtain ⟨ho, ht, hn, hl, hr, hu, hf⟩ := h
  go_enter Tryd.func77, Tryd.ntmps77
  go_wp2
  refine bodyPost_ret (v := hv o t n) (by simp [results, Tryd.results77, go_sem]) rfl ⟨rfl, ?_⟩
  exact ⟨⟨_, _, _, (H.out.setL _).alloc _⟩, ((Ch.refl _ _).setB _ _).alloc _⟩

theorem left_any (o : Int) (t : Bool) (n : Int) (w : World) :
    Calls Tryd.prog 56 #[hv o t n] w fun e w' => e = .returned (hv 0 false n) ∧ Ch Nil w w' := by
  go_enter Tryd.func56, Tryd.ntmps56
  go_wp2
  refine bodyPost_ret (v := hv 0 false n) (by simp [results, Tryd.results56, go_sem]) rfl ⟨rfl, ?_⟩
  exact ((Ch.refl _ _).alloc _).alloc _
theorem takenBy_any (o : Int) (t : Bool) (n who : Int) (w : World) :
    Calls Tryd.prog 53 #[hv o t n, .int .i64 who] w fun e w' => e = .returned (hv who true (wrap64 (n + 1))) ∧ Ch Nil w w' := by
  go_enter Tryd.func53, Tryd.ntmps53
  go_wp2
  refine bodyPost_ret (v := hv who true (wrap64 (n + 1))) (by simp [results, Tryd.results53, go_sem]) rfl ⟨rfl, ?_⟩
  exact ((Ch.refl _ _).alloc _).alloc _
/-- may it be taken? -/
def opn (t : Bool) (who : Int) : Bool := decide (0 ≤ who) && !t
theorem open_any (o : Int) (t : Bool) (n who : Int) (w : World) :
    Calls Tryd.prog 54 #[hv o t n, .int .i64 who] w fun e w' => e = .returned (.bool (opn t who)) ∧ Ch Nil w w' := by
  unfold opn
  by_cases h0 : 0 ≤ who
  · have h1 : decide ((0 : Int) ≤ who) = true := decide_eq_true h0
    rw [h1, Bool.true_and]
    go_enter Tryd.func54, Tryd.ntmps54
    go_wp2
    go_ret
    exact ⟨rfl, (Ch.refl _ _).alloc _⟩
  · have h1 : decide ((0 : Int) ≤ who) = false := decide_eq_false h0
    rw [h1, Bool.false_and]
    go_enter Tryd.func54, Tryd.ntmps54
    go_wp2
    go_ret
    exact ⟨rfl, (Ch.refl _ _).alloc _⟩
end Go.Proofs.YtldnmpiaofppgaaDoor

/-
  Contracts of the lock's closures and of its functions.
-/
namespace Go.Proofs.YtldnmpiaofppgaaDoor
open Go.RowKit
attribute [local go_sem] Oper.semAt_some
set_option linter.unusedVariables false
set_option linter.unusedSimpArgs false

theorem results_cell_tmp {fn : Func} {P : Program} {w : World} {a b : Value} {tmps : Array Value} (h : (results fn tmps).run P w = .ok (.tuple #[a, b]) w) : (results fn tmps).run P w = .ok (.tuple #[a, b]) w := h
section
variable {w w' : World} {B A : Nat} {o : Int} {t : Bool} {n who : Int}
/-- what the closures read: the value's box, the box of who -/
abbrev KS (B A : Nat) (o : Int) (t : Bool) (n who : Int) (w : World) : Prop :=
  (w.cell? ⟨B, 0, none⟩ = some (.int .i64 o) ∧ w.cell? ⟨B, 1, none⟩ = some (.bool t)) ∧ w.cell? ⟨B, 2, none⟩ = some (.int .i64 n) ∧ w.cell? ⟨A, 0, none⟩ = some (.int .i64 who)
theorem KS_kept (h : KS B A o t n who w) (c : Ch Nil w w') : KS B A o t n who w' :=
  ⟨⟨c.keeps h.1.1 (fun e => e), c.keeps h.1.2 (fun e => e)⟩, c.keeps h.2.1 (fun e => e), c.keeps h.2.2 (fun e => e)⟩
/-- a fresh box -/
theorem isHb_new (w : World) (o : Int) (t : Bool) (n : Int) (T : TypeId) : IsHb (w.alloc (.cells #[.int .i64 o, .bool t, .int .i64 n] T)) w.heap.size o t n := by
  constructor <;> simp [go_sem]
end
set_option maxHeartbeats 4000000 in
theorem try1_any (o : Int) (t : Bool) (n who : Int) (A : Nat) (w : World) (h : w.cell? ⟨A, 0, none⟩ = some (.int .i64 who)) :
    Calls Tryd.prog 52 #[hv o t n, .pointer (some ⟨A, 0, none⟩)] w fun e w' => e = .returned (.tuple #[hv who true (wrap64 (n + 1)), .bool (opn t who)]) ∧ Ch Nil w w' := by
  go_enter Tryd.func52, Tryd.ntmps52
  go_wp2
  have c0 : Ch Nil w ((w.alloc (.cells #[.int .i64 o, .bool t, .int .i64 n] 106)).alloc (.cells #[.int .i64 0, .bool false, .int .i64 0] 106)) := ((Ch.refl _ _).alloc _).alloc _
  have hb : IsHb ((w.alloc (.cells #[.int .i64 o, .bool t, .int .i64 n] 106)).alloc (.cells #[.int .i64 0, .bool false, .int .i64 0] 106)) w.heap.size o t n := (isHb_new w o t n _).kept (S := Nil) ((Ch.refl _ _).alloc _) (fun e => e)
  have hc : IsHb ((w.alloc (.cells #[.int .i64 o, .bool t, .int .i64 n] 106)).alloc (.cells #[.int .i64 0, .bool false, .int .i64 0] 106)) (w.heap.size + 1) 0 false 0 := by
    have := isHb_new (w.alloc (.cells #[.int .i64 o, .bool t, .int .i64 n] 106)) 0 false 0 106
    rwa [show (w.alloc (.cells #[.int .i64 o, .bool t, .int .i64 n] 106)).heap.size = w.heap.size + 1 by simp] at this
  generalize (w.alloc (.cells #[.int .i64 o, .bool t, .int .i64 n] 106)).alloc (.cells #[.int .i64 0, .bool false, .int .i64 0] 106) = w0 at c0 hb hc ⊢
  have b0 : KS w.heap.size A o t n who w0 := ⟨⟨hb.o, hb.t⟩, hb.n, c0.keeps h (fun e => e)⟩
  refine wp_region_held_drew (S := fun w' => (w'.cell? ⟨w.heap.size, 0, none⟩ = some (.int .i64 o) ∧ w'.cell? ⟨w.heap.size, 1, none⟩ = some (.bool t)) ∧ w'.cell? ⟨w.heap.size, 2, none⟩ = some (.int .i64 n) ∧ w'.cell? ⟨A, 0, none⟩ = some (.int .i64 who)) (by kernel_rfl) b0 (fun hHeld => ?_)
  have C0 := Lib.hid c0.drew
  have HC := Lib.hid (hc.kept (S := Nil) ((Ch.refl _ _).drew) (fun e => e))
  have HA : Hid (A ≠ w.heap.size + 1) := Lib.hid (by have := lt_of_cell h; show A ≠ _; have e : A < w.heap.size := this; omega)
  clear b0 hb hc c0 h
  generalize w0.drew = w1 at C0 HC hHeld ⊢
  refine take_at (v := ?_) 0 (some 5) rfl (by kernel_rfl) (by kernel_rfl) (by kernel_rfl) (by kernel_rfl) (fun _ _ _ h => h) (Or.inl ⟨by rfl, ?_⟩) (by assumption) ?_
  rotate_left
  · intro w hSw; (try dsimp only at hSw); go_simp; try (with_reducible rfl)
  (try simp only [Act.put, List.setIfInBounds_toArray, List.set_cons_zero, List.set_cons_succ])
  refine take_at (v := ?_) 1 (some 6) rfl (by kernel_rfl) (by kernel_rfl) (by kernel_rfl) (by kernel_rfl) (fun _ _ _ h => h) (Or.inl ⟨by rfl, ?_⟩) (by assumption) ?_
  rotate_left
  · intro w hSw; (try dsimp only at hSw); go_simp; try (with_reducible rfl)
  (try simp only [Act.put, List.setIfInBounds_toArray, List.set_cons_zero, List.set_cons_succ])
  refine take_at (v := ?_) 3 (some 8) rfl (by kernel_rfl) (by kernel_rfl) (by kernel_rfl) (by kernel_rfl) (fun _ _ _ h => h) (Or.inl ⟨by rfl, ?_⟩) (by assumption) ?_
  rotate_left
  · intro w hSw; (try dsimp only at hSw); go_simp; try (with_reducible rfl)
  (try simp only [Act.put, List.setIfInBounds_toArray, List.set_cons_zero, List.set_cons_succ])
  refine take_at (v := ?_) 4 (some 9) rfl (by kernel_rfl) (by kernel_rfl) (by kernel_rfl) (by kernel_rfl) (fun _ _ _ h => h) (Or.inl ⟨by rfl, ?_⟩) (by assumption) ?_
  rotate_left
  · intro w hSw; (try dsimp only at hSw); go_simp; try (with_reducible rfl)
  (try simp only [Act.put, List.setIfInBounds_toArray, List.set_cons_zero, List.set_cons_succ])
  refine wpAnyH_ready (rs := [2]) (by kernel_rfl) (by simp) ?_
  refine AllReadyH.cons rfl (fun K hK => ?_) AllReadyH.nil
  go_simp
  refine (takenBy_any _ _ _ _ _).mono ?_
  rintro e w2 ⟨rfl, c2⟩
  refine hK.out _ _ (KS_kept hHeld c2) (fun hHeld => ?_)
  clear hK K
  (try simp only [Act.put, List.setIfInBounds_toArray, List.set_cons_zero, List.set_cons_succ])
  refine wpAnyH_ready (rs := [5]) (by kernel_rfl) (by simp) ?_
  refine AllReadyH.cons rfl (fun K hK => ?_) AllReadyH.nil
  go_simp
  refine (open_any _ _ _ _ _).mono ?_
  rintro e w3 ⟨rfl, c3⟩
  refine hK.out _ _ (KS_kept hHeld c3) (fun hHeld => ?_)
  clear hK K
  (try simp only [Act.put, List.setIfInBounds_toArray, List.set_cons_zero, List.set_cons_succ])
  have C3 := Lib.hid ((C0.out.trans c2).trans c3)
  have H3 := (HC.out.kept (S := Nil) (c2.trans c3) (fun e => e))
  have k3 := hHeld
  clear C0 HC c2 c3
  have ho := H3.o
  have ht := H3.t
  have hn := H3.n
  have hf := H3.f
  refine wpAnyH_ready (rs := [6]) (by kernel_rfl) (by simp) ?_
  refine AllReadyH.cons rfl (fun K hK => ?_) AllReadyH.nil
  go_simp
  have cS : Ch (One (w.heap.size + 1)) w3 (((w3.setCell ⟨w.heap.size + 1, 0, none⟩ (.int .i64 who)).setCell ⟨w.heap.size + 1, 1, none⟩ (.bool true)).setCell ⟨w.heap.size + 1, 2, none⟩ (.int .i64 (wrap64 (n + 1)))) := (((Ch.refl _ _).setB _ _).setB _ _).setB _ _
  have hA : A ≠ w.heap.size + 1 := HA.out
  refine hK.out _ _ ⟨⟨cS.keeps k3.1.1 (by show ¬ w.heap.size = w.heap.size + 1; omega), cS.keeps k3.1.2 (by show ¬ w.heap.size = w.heap.size + 1; omega)⟩, cS.keeps k3.2.1 (by show ¬ w.heap.size = w.heap.size + 1; omega), cS.keeps k3.2.2 hA⟩ (fun hHeld => ?_)
  clear hK K
  (try simp only [Act.put, List.setIfInBounds_toArray, List.set_cons_zero, List.set_cons_succ])
  refine take_at (v := ?_) 7 (some 4) rfl (by kernel_rfl) (by kernel_rfl) (by kernel_rfl) (by kernel_rfl) (fun _ _ _ h => h) (Or.inl ⟨by rfl, ?_⟩) (by assumption) ?_
  rotate_left
  · intro w hSw; (try dsimp only at hSw); go_simp; try (with_reducible rfl)
  (try simp only [Act.put, List.setIfInBounds_toArray, List.set_cons_zero, List.set_cons_succ])
  refine wpAnyH_done (by kernel_rfl) ?_ _
  go_wp2
  refine bodyPost_ret (v := .tuple #[hv who true (wrap64 (n + 1)), .bool (opn t who)]) (by simp [results, Tryd.results52, go_sem, ho, ht, hn]) rfl ⟨rfl, ?_⟩
  exact C3.out.then cS (fun i hi e => by have : i = w.heap.size + 1 := e; omega)
set_option maxHeartbeats 4000000 in
theorem leave1_some (o : Int) (n who : Int) (A : Nat) (w : World) (h : w.cell? ⟨A, 0, none⟩ = some (.int .i64 who)) :
    Calls Tryd.prog 55 #[hv o true n, .pointer (some ⟨A, 0, none⟩)] w fun e w' => e = .returned (.tuple #[hv 0 false n, .bool (o == who)]) ∧ Ch Nil w w' := by
  go_enter Tryd.func55, Tryd.ntmps55
  go_wp2
  have c0 : Ch Nil w ((w.alloc (.cells #[.int .i64 o, .bool true, .int .i64 n] 106)).alloc (.cells #[.int .i64 0, .bool false, .int .i64 0] 106)) := ((Ch.refl _ _).alloc _).alloc _
  have hb : IsHb ((w.alloc (.cells #[.int .i64 o, .bool true, .int .i64 n] 106)).alloc (.cells #[.int .i64 0, .bool false, .int .i64 0] 106)) w.heap.size o true n := (isHb_new w o true n _).kept (S := Nil) ((Ch.refl _ _).alloc _) (fun e => e)
  have hc : IsHb ((w.alloc (.cells #[.int .i64 o, .bool true, .int .i64 n] 106)).alloc (.cells #[.int .i64 0, .bool false, .int .i64 0] 106)) (w.heap.size + 1) 0 false 0 := by
    have := isHb_new (w.alloc (.cells #[.int .i64 o, .bool true, .int .i64 n] 106)) 0 false 0 106
    rwa [show (w.alloc (.cells #[.int .i64 o, .bool true, .int .i64 n] 106)).heap.size = w.heap.size + 1 by simp] at this
  generalize (w.alloc (.cells #[.int .i64 o, .bool true, .int .i64 n] 106)).alloc (.cells #[.int .i64 0, .bool false, .int .i64 0] 106) = w0 at c0 hb hc ⊢
  have b0 : KS w.heap.size A o true n who w0 := ⟨⟨hb.o, hb.t⟩, hb.n, c0.keeps h (fun e => e)⟩
  refine wp_region_held_drew (S := fun w' => (w'.cell? ⟨w.heap.size, 0, none⟩ = some (.int .i64 o) ∧ w'.cell? ⟨w.heap.size, 1, none⟩ = some (.bool true)) ∧ w'.cell? ⟨w.heap.size, 2, none⟩ = some (.int .i64 n) ∧ w'.cell? ⟨A, 0, none⟩ = some (.int .i64 who)) (by kernel_rfl) b0 (fun hHeld => ?_)
  have C0 := Lib.hid c0.drew
  have HC := Lib.hid (hc.kept (S := Nil) ((Ch.refl _ _).drew) (fun e => e))
  have HA : Hid (A ≠ w.heap.size + 1) := Lib.hid (by have := lt_of_cell h; show A ≠ _; have e : A < w.heap.size := this; omega)
  clear b0 hb hc c0 h
  generalize w0.drew = w1 at C0 HC hHeld ⊢
  refine take_at (v := ?_) 0 (some 5) rfl (by kernel_rfl) (by kernel_rfl) (by kernel_rfl) (by kernel_rfl) (fun _ _ _ h => h) (Or.inl ⟨by rfl, ?_⟩) (by assumption) ?_
  rotate_left
  · intro w hSw; (try dsimp only at hSw); go_simp; try (with_reducible rfl)
  (try simp only [Act.put, List.setIfInBounds_toArray, List.set_cons_zero, List.set_cons_succ])
  refine take_at (v := ?_) 2 (some 7) rfl (by kernel_rfl) (by kernel_rfl) (by kernel_rfl) (by kernel_rfl) (fun _ _ _ h => h) (Or.inl ⟨by rfl, ?_⟩) (by assumption) ?_
  rotate_left
  · intro w hSw; (try dsimp only at hSw); go_simp; try (with_reducible rfl)
  (try simp only [Act.put, List.setIfInBounds_toArray, List.set_cons_zero, List.set_cons_succ])
  refine take_at (v := ?_) 3 (some 8) rfl (by kernel_rfl) (by kernel_rfl) (by kernel_rfl) (by kernel_rfl) (fun _ _ _ h => h) (Or.inl ⟨by rfl, ?_⟩) (by assumption) ?_
  rotate_left
  · intro w hSw; (try dsimp only at hSw); go_simp; try (with_reducible rfl)
  (try simp only [Act.put, List.setIfInBounds_toArray, List.set_cons_zero, List.set_cons_succ])
  refine wpAnyH_ready (rs := [1]) (by kernel_rfl) (by simp) ?_
  refine AllReadyH.cons rfl (fun K hK => ?_) AllReadyH.nil
  go_simp
  refine (left_any _ _ _ _).mono ?_
  rintro e w2 ⟨rfl, c2⟩
  refine hK.out _ _ (KS_kept hHeld c2) (fun hHeld => ?_)
  clear hK K
  (try simp only [Act.put, List.setIfInBounds_toArray, List.set_cons_zero, List.set_cons_succ])
  refine take_at (v := ?_) 4 (some 9) rfl (by kernel_rfl) (by kernel_rfl) (by kernel_rfl) (by kernel_rfl) (fun _ _ _ h => h) (Or.inl ⟨by rfl, ?_⟩) (by assumption) ?_
  rotate_left
  · intro w hSw; (try dsimp only at hSw); go_simp; try (with_reducible rfl)
  (try simp only [Act.put, List.setIfInBounds_toArray, List.set_cons_zero, List.set_cons_succ])
  refine take_at (v := ?_) 5 (some 10) rfl (by kernel_rfl) (by kernel_rfl) (by kernel_rfl) (by kernel_rfl) (fun _ _ _ h => h) (Or.inl ⟨by rfl, ?_⟩) (by assumption) ?_
  rotate_left
  · intro w hSw; (try dsimp only at hSw); go_simp; try (with_reducible rfl)
  (try simp only [Act.put, List.setIfInBounds_toArray, List.set_cons_zero, List.set_cons_succ])
  refine take_at (v := ?_) 6 (some 11) rfl (by kernel_rfl) (by kernel_rfl) (by kernel_rfl) (by kernel_rfl) (fun _ _ _ h => h) (Or.inl ⟨by rfl, ?_⟩) (by assumption) ?_
  rotate_left
  · intro w hSw; (try dsimp only at hSw); go_simp; try (with_reducible rfl)
  (try simp only [Act.put, List.setIfInBounds_toArray, List.set_cons_zero, List.set_cons_succ])
  refine take_at (v := ?_) 7 (some 12) rfl (by kernel_rfl) (by kernel_rfl) (by kernel_rfl) (by kernel_rfl) (fun _ _ _ h => h) (Or.inl ⟨by rfl, ?_⟩) (by assumption) ?_
  rotate_left
  · intro w hSw; (try dsimp only at hSw); go_simp; try (with_reducible rfl)
  (try simp only [Act.put, List.setIfInBounds_toArray, List.set_cons_zero, List.set_cons_succ])
  refine take_at (v := ?_) 8 (some 13) rfl (by kernel_rfl) (by kernel_rfl) (by kernel_rfl) (by kernel_rfl) (fun _ _ _ h => h) (Or.inl ⟨by rfl, ?_⟩) (by assumption) ?_
  rotate_left
  · intro w hSw; (try dsimp only at hSw); go_simp; try (with_reducible rfl)
  (try simp only [Act.put, List.setIfInBounds_toArray, List.set_cons_zero, List.set_cons_succ])
  refine take_at (v := ?_) 9 (some 14) rfl (by kernel_rfl) (by kernel_rfl) (by kernel_rfl) (by kernel_rfl) (fun _ _ _ h => h) (Or.inl ⟨by rfl, ?_⟩) (by assumption) ?_
  rotate_left
  · intro w hSw; (try dsimp only at hSw); go_simp; try (with_reducible rfl)
  (try simp only [Act.put, List.setIfInBounds_toArray, List.set_cons_zero, List.set_cons_succ])
  have C3 := Lib.hid (C0.out.trans c2)
  have H3 := (HC.out.kept (S := Nil) c2 (fun e => e))
  have k3 := hHeld
  clear C0 HC c2
  have ho := H3.o
  have ht := H3.t
  have hn := H3.n
  have hf := H3.f
  refine wpAnyH_ready (rs := [10]) (by kernel_rfl) (by simp) ?_
  refine AllReadyH.cons rfl (fun K hK => ?_) AllReadyH.nil
  go_simp
  have cS : Ch (One (w.heap.size + 1)) w2 (((w2.setCell ⟨w.heap.size + 1, 0, none⟩ (.int .i64 0)).setCell ⟨w.heap.size + 1, 1, none⟩ (.bool false)).setCell ⟨w.heap.size + 1, 2, none⟩ (.int .i64 n)) := (((Ch.refl _ _).setB _ _).setB _ _).setB _ _
  have hA : A ≠ w.heap.size + 1 := HA.out
  refine hK.out _ _ ⟨⟨cS.keeps k3.1.1 (by show ¬ w.heap.size = w.heap.size + 1; omega), cS.keeps k3.1.2 (by show ¬ w.heap.size = w.heap.size + 1; omega)⟩, cS.keeps k3.2.1 (by show ¬ w.heap.size = w.heap.size + 1; omega), cS.keeps k3.2.2 hA⟩ (fun hHeld => ?_)
  clear hK K
  (try simp only [Act.put, List.setIfInBounds_toArray, List.set_cons_zero, List.set_cons_succ])
  refine take_at (v := ?_) 11 (some 4) rfl (by kernel_rfl) (by kernel_rfl) (by kernel_rfl) (by kernel_rfl) (fun _ _ _ h => h) (Or.inl ⟨by rfl, ?_⟩) (by assumption) ?_
  rotate_left
  · intro w hSw; (try dsimp only at hSw); go_simp; try (with_reducible rfl)
  (try simp only [Act.put, List.setIfInBounds_toArray, List.set_cons_zero, List.set_cons_succ])
  refine wpAnyH_done (by kernel_rfl) ?_ _
  go_wp2
  refine bodyPost_ret (v := .tuple #[hv 0 false n, .bool (o == who)]) (by simp [results, Tryd.results55, go_sem, ho, ht, hn]) rfl ⟨rfl, ?_⟩
  exact C3.out.then cS (fun i hi e => by have : i = w.heap.size + 1 := e; omega)
set_option maxHeartbeats 4000000 in
theorem leave1_none (o : Int) (n who : Int) (A : Nat) (w : World) (h : w.cell? ⟨A, 0, none⟩ = some (.int .i64 who)) :
    Calls Tryd.prog 55 #[hv o false n, .pointer (some ⟨A, 0, none⟩)] w fun e w' => e = .returned (.tuple #[hv 0 false n, .bool false]) ∧ Ch Nil w w' := by
  go_enter Tryd.func55, Tryd.ntmps55
  go_wp2
  have c0 : Ch Nil w ((w.alloc (.cells #[.int .i64 o, .bool false, .int .i64 n] 106)).alloc (.cells #[.int .i64 0, .bool false, .int .i64 0] 106)) := ((Ch.refl _ _).alloc _).alloc _
  have hb : IsHb ((w.alloc (.cells #[.int .i64 o, .bool false, .int .i64 n] 106)).alloc (.cells #[.int .i64 0, .bool false, .int .i64 0] 106)) w.heap.size o false n := (isHb_new w o false n _).kept (S := Nil) ((Ch.refl _ _).alloc _) (fun e => e)
  have hc : IsHb ((w.alloc (.cells #[.int .i64 o, .bool false, .int .i64 n] 106)).alloc (.cells #[.int .i64 0, .bool false, .int .i64 0] 106)) (w.heap.size + 1) 0 false 0 := by
    have := isHb_new (w.alloc (.cells #[.int .i64 o, .bool false, .int .i64 n] 106)) 0 false 0 106
    rwa [show (w.alloc (.cells #[.int .i64 o, .bool false, .int .i64 n] 106)).heap.size = w.heap.size + 1 by simp] at this
  generalize (w.alloc (.cells #[.int .i64 o, .bool false, .int .i64 n] 106)).alloc (.cells #[.int .i64 0, .bool false, .int .i64 0] 106) = w0 at c0 hb hc ⊢
  have b0 : KS w.heap.size A o false n who w0 := ⟨⟨hb.o, hb.t⟩, hb.n, c0.keeps h (fun e => e)⟩
  refine wp_region_held_drew (S := fun w' => (w'.cell? ⟨w.heap.size, 0, none⟩ = some (.int .i64 o) ∧ w'.cell? ⟨w.heap.size, 1, none⟩ = some (.bool false)) ∧ w'.cell? ⟨w.heap.size, 2, none⟩ = some (.int .i64 n) ∧ w'.cell? ⟨A, 0, none⟩ = some (.int .i64 who)) (by kernel_rfl) b0 (fun hHeld => ?_)
  have C0 := Lib.hid c0.drew
  have HC := Lib.hid (hc.kept (S := Nil) ((Ch.refl _ _).drew) (fun e => e))
  have HA : Hid (A ≠ w.heap.size + 1) := Lib.hid (by have := lt_of_cell h; show A ≠ _; have e : A < w.heap.size := this; omega)
  clear b0 hb hc c0 h
  generalize w0.drew = w1 at C0 HC hHeld ⊢
  refine take_at (v := ?_) 0 (some 5) rfl (by kernel_rfl) (by kernel_rfl) (by kernel_rfl) (by kernel_rfl) (fun _ _ _ h => h) (Or.inl ⟨by rfl, ?_⟩) (by assumption) ?_
  rotate_left
  · intro w hSw; (try dsimp only at hSw); go_simp; try (with_reducible rfl)
  (try simp only [Act.put, List.setIfInBounds_toArray, List.set_cons_zero, List.set_cons_succ])
  refine take_at (v := ?_) 2 (some 7) rfl (by kernel_rfl) (by kernel_rfl) (by kernel_rfl) (by kernel_rfl) (fun _ _ _ h => h) (Or.inl ⟨by rfl, ?_⟩) (by assumption) ?_
  rotate_left
  · intro w hSw; (try dsimp only at hSw); go_simp; try (with_reducible rfl)
  (try simp only [Act.put, List.setIfInBounds_toArray, List.set_cons_zero, List.set_cons_succ])
  refine take_at (v := ?_) 3 (some 8) rfl (by kernel_rfl) (by kernel_rfl) (by kernel_rfl) (by kernel_rfl) (fun _ _ _ h => h) (Or.inl ⟨by rfl, ?_⟩) (by assumption) ?_
  rotate_left
  · intro w hSw; (try dsimp only at hSw); go_simp; try (with_reducible rfl)
  (try simp only [Act.put, List.setIfInBounds_toArray, List.set_cons_zero, List.set_cons_succ])
  refine wpAnyH_ready (rs := [1]) (by kernel_rfl) (by simp) ?_
  refine AllReadyH.cons rfl (fun K hK => ?_) AllReadyH.nil
  go_simp
  refine (left_any _ _ _ _).mono ?_
  rintro e w2 ⟨rfl, c2⟩
  refine hK.out _ _ (KS_kept hHeld c2) (fun hHeld => ?_)
  clear hK K
  (try simp only [Act.put, List.setIfInBounds_toArray, List.set_cons_zero, List.set_cons_succ])
  refine take_at (v := ?_) 4 (some 9) rfl (by kernel_rfl) (by kernel_rfl) (by kernel_rfl) (by kernel_rfl) (fun _ _ _ h => h) (Or.inl ⟨by rfl, ?_⟩) (by assumption) ?_
  rotate_left
  · intro w hSw; (try dsimp only at hSw); go_simp; try (with_reducible rfl)
  (try simp only [Act.put, List.setIfInBounds_toArray, List.set_cons_zero, List.set_cons_succ])
  refine take_at (v := undef) 5 (some 10) rfl (by kernel_rfl) (by kernel_rfl) (by kernel_rfl) (by kernel_rfl) (fun _ _ _ h => h) (Or.inr ⟨by rfl, rfl⟩) (by assumption) ?_
  (try simp only [Act.put, List.setIfInBounds_toArray, List.set_cons_zero, List.set_cons_succ])
  refine take_at (v := undef) 6 (some 11) rfl (by kernel_rfl) (by kernel_rfl) (by kernel_rfl) (by kernel_rfl) (fun _ _ _ h => h) (Or.inr ⟨by rfl, rfl⟩) (by assumption) ?_
  (try simp only [Act.put, List.setIfInBounds_toArray, List.set_cons_zero, List.set_cons_succ])
  refine take_at (v := undef) 7 (some 12) rfl (by kernel_rfl) (by kernel_rfl) (by kernel_rfl) (by kernel_rfl) (fun _ _ _ h => h) (Or.inr ⟨by rfl, rfl⟩) (by assumption) ?_
  (try simp only [Act.put, List.setIfInBounds_toArray, List.set_cons_zero, List.set_cons_succ])
  refine take_at (v := undef) 8 (some 13) rfl (by kernel_rfl) (by kernel_rfl) (by kernel_rfl) (by kernel_rfl) (fun _ _ _ h => h) (Or.inr ⟨by rfl, rfl⟩) (by assumption) ?_
  (try simp only [Act.put, List.setIfInBounds_toArray, List.set_cons_zero, List.set_cons_succ])
  refine take_at (v := ?_) 9 (some 14) rfl (by kernel_rfl) (by kernel_rfl) (by kernel_rfl) (by kernel_rfl) (fun _ _ _ h => h) (Or.inl ⟨by rfl, ?_⟩) (by assumption) ?_
  rotate_left
  · intro w hSw; (try dsimp only at hSw); go_simp; try (with_reducible rfl)
  (try simp only [Act.put, List.setIfInBounds_toArray, List.set_cons_zero, List.set_cons_succ])
  have C3 := Lib.hid (C0.out.trans c2)
  have H3 := (HC.out.kept (S := Nil) c2 (fun e => e))
  have k3 := hHeld
  clear C0 HC c2
  have ho := H3.o
  have ht := H3.t
  have hn := H3.n
  have hf := H3.f
  refine wpAnyH_ready (rs := [10]) (by kernel_rfl) (by simp) ?_
  refine AllReadyH.cons rfl (fun K hK => ?_) AllReadyH.nil
  go_simp
  have cS : Ch (One (w.heap.size + 1)) w2 (((w2.setCell ⟨w.heap.size + 1, 0, none⟩ (.int .i64 0)).setCell ⟨w.heap.size + 1, 1, none⟩ (.bool false)).setCell ⟨w.heap.size + 1, 2, none⟩ (.int .i64 n)) := (((Ch.refl _ _).setB _ _).setB _ _).setB _ _
  have hA : A ≠ w.heap.size + 1 := HA.out
  refine hK.out _ _ ⟨⟨cS.keeps k3.1.1 (by show ¬ w.heap.size = w.heap.size + 1; omega), cS.keeps k3.1.2 (by show ¬ w.heap.size = w.heap.size + 1; omega)⟩, cS.keeps k3.2.1 (by show ¬ w.heap.size = w.heap.size + 1; omega), cS.keeps k3.2.2 hA⟩ (fun hHeld => ?_)
  clear hK K
  (try simp only [Act.put, List.setIfInBounds_toArray, List.set_cons_zero, List.set_cons_succ])
  refine take_at (v := ?_) 11 (some 4) rfl (by kernel_rfl) (by kernel_rfl) (by kernel_rfl) (by kernel_rfl) (fun _ _ _ h => h) (Or.inl ⟨by rfl, ?_⟩) (by assumption) ?_
  rotate_left
  · intro w hSw; (try dsimp only at hSw); go_simp; try (with_reducible rfl)
  (try simp only [Act.put, List.setIfInBounds_toArray, List.set_cons_zero, List.set_cons_succ])
  refine wpAnyH_done (by kernel_rfl) ?_ _
  go_wp2
  refine bodyPost_ret (v := .tuple #[hv 0 false n, .bool false]) (by simp [results, Tryd.results55, go_sem, ho, ht, hn]) rfl ⟨rfl, ?_⟩
  exact C3.out.then cS (fun i hi e => by have : i = w.heap.size + 1 := e; omega)
/-- does it become nobody's? -/
def lvs (t : Bool) (o who : Int) : Bool := t && (o == who)
theorem leave1_any (o : Int) (t : Bool) (n who : Int) (A : Nat) (w : World) (h : w.cell? ⟨A, 0, none⟩ = some (.int .i64 who)) :
    Calls Tryd.prog 55 #[hv o t n, .pointer (some ⟨A, 0, none⟩)] w fun e w' => e = .returned (.tuple #[hv 0 false n, .bool (lvs t o who)]) ∧ Ch Nil w w' := by
  cases t
  · exact leave1_none o n who A w h
  · exact leave1_some o n who A w h
end Go.Proofs.YtldnmpiaofppgaaDoor

/-
  Contracts of a cell's Turn at a lock's value, with the lock's closures.
-/
namespace Go.Proofs.YtldnmpiaofppgaaDoor
open Go.RowKit
attribute [local go_sem] Oper.semAt_some
set_option linter.unusedVariables false
set_option linter.unusedSimpArgs false

theorem fn_nilH (f : Fn) (a c : Array Value) (w : World) : (binOp .eql 114 (.func f a c) .nilFunc).run Tryd.prog w = .ok (.bool false) w := run_eql_fn _ w _ f a c _ Tryd.underlying114 rfl
theorem setHb {w : World} {B : Nat} {o : Int} {t : Bool} {n : Int} (h : IsHb w B o t n) (x : Int) (y : Bool) (z : Int) : IsHb (((w.setCell ⟨B, 0, none⟩ (.int .i64 x)).setCell ⟨B, 1, none⟩ (.bool y)).setCell ⟨B, 2, none⟩ (.int .i64 z)) B x y z := by
  obtain ⟨ho, ht, hn, hf⟩ := h
  constructor
  all_goals (try intro i)
  all_goals simp [go_sem, ho, ht, hn, hf]
set_option maxHeartbeats 4000000 in
theorem turn_try_no (b A : Nat) (o : Int) (t : Bool) (n who : Int) (w : World) (h : IsK w b o t n) (ha : w.cell? ⟨A, 0, none⟩ = some (.int .i64 who)) (hab : A ≠ b) (hs : opn t who = false) :
    Calls Tryd.prog 51 #[.pointer (some ⟨b, 0, none⟩), .func (.func 52) #[] #[.pointer (some ⟨A, 0, none⟩)]] w fun e w' =>
      e = .returned (.tuple #[hv o t n, .bool false]) ∧ IsK w' b o t n ∧ Ch (One b) w w' := by
  have hlt := h.lt
  have hal := lt_of_cell ha
  have hfn := fn_nilH
  have HS := Lib.hid hs
  have cA : Ch Nil w (w.alloc (.cells #[.int .i64 0, .bool false, .int .i64 0] 106)) := (Ch.refl _ _).alloc _
  have H := Lib.hid (h.kept cA (fun e => e))
  have A0 := Lib.hid (cA.keeps ha (fun e => e))
  have B0 := Lib.hid (isHb_new w 0 false 0 106)
  have C0 := Lib.hid cA
  clear hs h ha cA
  go_enter Tryd.func51, Tryd.ntmps51
  go_wp2_with fail
  refine (loadH_at b _ _ _ _ H.out).mono ?_
  rintro e w1 ⟨rfl, hi, c1⟩
  have nb : ¬ w.heap.size = b := by omega
  have H1 := Lib.hid hi
  have A1 := Lib.hid (c1.keeps A0.out hab)
  have B1 := Lib.hid (B0.out.kept c1 nb)
  have C1 := Lib.hid ((C0.out.mono (S' := One b) (fun _ _ e => e.elim)).trans c1)
  have cB : Ch Nil w1 (w1.alloc (.cells #[.int .i64 o, .bool t, .int .i64 n] 106)) := (Ch.refl _ _).alloc _
  have H2 := Lib.hid (hi.kept cB (fun e => e))
  have A2 := Lib.hid (cB.keeps A1.out (fun e => e))
  have B2 := Lib.hid (B1.out.kept cB (fun e => e))
  have D2 := Lib.hid (isHb_new w1 o t n 106)
  have C2 := Lib.hid (C1.out.trans (cB.mono (S' := One b) (fun _ _ e => e.elim)))
  have n1 : w.heap.size + 1 ≤ w1.heap.size := by have := B1.out.lt; omega
  have n2 : b < w1.heap.size := by omega
  clear hi c1 cB H A0 B0 C0 H1 A1 B1 C1
  go_wp2_with fail
  refine (try1_any o t n who A _ A2.out).mono ?_
  rintro e w2 ⟨rfl, c2⟩
  rw [HS.out]
  have H3 := Lib.hid (H2.out.kept c2 (fun e => e))
  have B3 := B2.out.kept c2 (fun e => e)
  have D3 := D2.out.kept c2 (fun e => e)
  have C3 := Lib.hid (C2.out.trans (c2.mono (S' := One b) (fun _ _ e => e.elim)))
  have l3 := D3.lt
  have z1 : ¬ w2.heap.size = w.heap.size := by omega
  have z2 : ¬ w2.heap.size = w1.heap.size := by omega
  have z3 : ¬ w.heap.size = w1.heap.size := by omega
  have z4 : ¬ w1.heap.size = w.heap.size := by omega
  clear c2 H2 A2 B2 D2 C2
  have cB : Ch Nil w2 (w2.alloc (.cells #[.int .i64 who, .bool true, .int .i64 (wrap64 (n + 1))] 106)) := (Ch.refl _ _).alloc _
  go_upto_region 6 with (fail)
  have H4 := Lib.hid (H3.out.kept cB (fun e => e))
  have B4 := B3.kept cB (fun e => e)
  have D4 := D3.kept cB (fun e => e)
  have C4 := Lib.hid (C3.out.trans (cB.mono (S' := One b) (fun _ _ e => e.elim)))
  clear H3 B3 D3 C3 cB
  generalize w2.alloc (.cells #[.int .i64 who, .bool true, .int .i64 (wrap64 (n + 1))] 106) = w4 at H4 B4 D4 C4 ⊢
  obtain ⟨ho, ht, hn, hf⟩ := D4
  obtain ⟨go, gt, gn, gf⟩ := B4
  go_wp2
  (try simp only [Exit.inBlock, Exit.then])
  refine bodyPost_ret (v := .tuple #[hv o t n, .bool false]) ?hr rfl ?_
  case hr => simp [results, Tryd.results51, go_sem, go, gt, gn]
  refine ⟨rfl, ?_⟩
  have cS : Ch (One w.heap.size) w4 (((w4.setCell ⟨w.heap.size, 0, none⟩ (.int .i64 o)).setCell ⟨w.heap.size, 1, none⟩ (.bool t)).setCell ⟨w.heap.size, 2, none⟩ (.int .i64 n)) := (((Ch.refl _ _).setB _ _).setB _ _).setB _ _
  exact ⟨H4.out.kept cS (fun e => nb e.symm), C4.out.then cS (fun i hi e => by have : i = w.heap.size := e; omega)⟩
set_option maxHeartbeats 4000000 in
theorem turn_leave_no (b A : Nat) (o : Int) (t : Bool) (n who : Int) (w : World) (h : IsK w b o t n) (ha : w.cell? ⟨A, 0, none⟩ = some (.int .i64 who)) (hab : A ≠ b) (hs : lvs t o who = false) :
    Calls Tryd.prog 51 #[.pointer (some ⟨b, 0, none⟩), .func (.func 55) #[] #[.pointer (some ⟨A, 0, none⟩)]] w fun e w' =>
      e = .returned (.tuple #[hv o t n, .bool false]) ∧ IsK w' b o t n ∧ Ch (One b) w w' := by
  have hlt := h.lt
  have hal := lt_of_cell ha
  have hfn := fn_nilH
  have HS := Lib.hid hs
  have cA : Ch Nil w (w.alloc (.cells #[.int .i64 0, .bool false, .int .i64 0] 106)) := (Ch.refl _ _).alloc _
  have H := Lib.hid (h.kept cA (fun e => e))
  have A0 := Lib.hid (cA.keeps ha (fun e => e))
  have B0 := Lib.hid (isHb_new w 0 false 0 106)
  have C0 := Lib.hid cA
  clear hs h ha cA
  go_enter Tryd.func51, Tryd.ntmps51
  go_wp2_with fail
  refine (loadH_at b _ _ _ _ H.out).mono ?_
  rintro e w1 ⟨rfl, hi, c1⟩
  have nb : ¬ w.heap.size = b := by omega
  have H1 := Lib.hid hi
  have A1 := Lib.hid (c1.keeps A0.out hab)
  have B1 := Lib.hid (B0.out.kept c1 nb)
  have C1 := Lib.hid ((C0.out.mono (S' := One b) (fun _ _ e => e.elim)).trans c1)
  have cB : Ch Nil w1 (w1.alloc (.cells #[.int .i64 o, .bool t, .int .i64 n] 106)) := (Ch.refl _ _).alloc _
  have H2 := Lib.hid (hi.kept cB (fun e => e))
  have A2 := Lib.hid (cB.keeps A1.out (fun e => e))
  have B2 := Lib.hid (B1.out.kept cB (fun e => e))
  have D2 := Lib.hid (isHb_new w1 o t n 106)
  have C2 := Lib.hid (C1.out.trans (cB.mono (S' := One b) (fun _ _ e => e.elim)))
  have n1 : w.heap.size + 1 ≤ w1.heap.size := by have := B1.out.lt; omega
  have n2 : b < w1.heap.size := by omega
  clear hi c1 cB H A0 B0 C0 H1 A1 B1 C1
  go_wp2_with fail
  refine (leave1_any o t n who A _ A2.out).mono ?_
  rintro e w2 ⟨rfl, c2⟩
  rw [HS.out]
  have H3 := Lib.hid (H2.out.kept c2 (fun e => e))
  have B3 := B2.out.kept c2 (fun e => e)
  have D3 := D2.out.kept c2 (fun e => e)
  have C3 := Lib.hid (C2.out.trans (c2.mono (S' := One b) (fun _ _ e => e.elim)))
  have l3 := D3.lt
  have z1 : ¬ w2.heap.size = w.heap.size := by omega
  have z2 : ¬ w2.heap.size = w1.heap.size := by omega
  have z3 : ¬ w.heap.size = w1.heap.size := by omega
  have z4 : ¬ w1.heap.size = w.heap.size := by omega
  clear c2 H2 A2 B2 D2 C2
  have cB : Ch Nil w2 (w2.alloc (.cells #[.int .i64 0, .bool false, .int .i64 n] 106)) := (Ch.refl _ _).alloc _
  go_upto_region 6 with (fail)
  have H4 := Lib.hid (H3.out.kept cB (fun e => e))
  have B4 := B3.kept cB (fun e => e)
  have D4 := D3.kept cB (fun e => e)
  have C4 := Lib.hid (C3.out.trans (cB.mono (S' := One b) (fun _ _ e => e.elim)))
  clear H3 B3 D3 C3 cB
  generalize w2.alloc (.cells #[.int .i64 0, .bool false, .int .i64 n] 106) = w4 at H4 B4 D4 C4 ⊢
  obtain ⟨ho, ht, hn, hf⟩ := D4
  obtain ⟨go, gt, gn, gf⟩ := B4
  go_wp2
  (try simp only [Exit.inBlock, Exit.then])
  refine bodyPost_ret (v := .tuple #[hv o t n, .bool false]) ?hr rfl ?_
  case hr => simp [results, Tryd.results51, go_sem, go, gt, gn]
  refine ⟨rfl, ?_⟩
  have cS : Ch (One w.heap.size) w4 (((w4.setCell ⟨w.heap.size, 0, none⟩ (.int .i64 o)).setCell ⟨w.heap.size, 1, none⟩ (.bool t)).setCell ⟨w.heap.size, 2, none⟩ (.int .i64 n)) := (((Ch.refl _ _).setB _ _).setB _ _).setB _ _
  exact ⟨H4.out.kept cS (fun e => nb e.symm), C4.out.then cS (fun i hi e => by have : i = w.heap.size := e; omega)⟩
set_option maxHeartbeats 4000000 in
theorem turn_try_yes (b A : Nat) (o : Int) (t : Bool) (n who : Int) (w : World) (h : IsK w b o t n) (ha : w.cell? ⟨A, 0, none⟩ = some (.int .i64 who)) (hab : A ≠ b) (hs : opn t who = true) :
    Calls Tryd.prog 51 #[.pointer (some ⟨b, 0, none⟩), .func (.func 52) #[] #[.pointer (some ⟨A, 0, none⟩)]] w fun e w' =>
      e = .returned (.tuple #[hv o t n, .bool true]) ∧ IsK w' b who true (wrap64 (n + 1)) ∧ Ch (One b) w w' := by
  have hlt := h.lt
  have hal := lt_of_cell ha
  have hfn := fn_nilH
  have HS := Lib.hid hs
  have cA : Ch Nil w (w.alloc (.cells #[.int .i64 0, .bool false, .int .i64 0] 106)) := (Ch.refl _ _).alloc _
  have H := Lib.hid (h.kept cA (fun e => e))
  have A0 := Lib.hid (cA.keeps ha (fun e => e))
  have B0 := Lib.hid (isHb_new w 0 false 0 106)
  have C0 := Lib.hid cA
  clear hs h ha cA
  go_enter Tryd.func51, Tryd.ntmps51
  go_wp2_with fail
  refine (loadH_at b _ _ _ _ H.out).mono ?_
  rintro e w1 ⟨rfl, hi, c1⟩
  have nb : ¬ w.heap.size = b := by omega
  have H1 := Lib.hid hi
  have A1 := Lib.hid (c1.keeps A0.out hab)
  have B1 := Lib.hid (B0.out.kept c1 nb)
  have C1 := Lib.hid ((C0.out.mono (S' := One b) (fun _ _ e => e.elim)).trans c1)
  have cB : Ch Nil w1 (w1.alloc (.cells #[.int .i64 o, .bool t, .int .i64 n] 106)) := (Ch.refl _ _).alloc _
  have H2 := Lib.hid (hi.kept cB (fun e => e))
  have A2 := Lib.hid (cB.keeps A1.out (fun e => e))
  have B2 := Lib.hid (B1.out.kept cB (fun e => e))
  have D2 := Lib.hid (isHb_new w1 o t n 106)
  have C2 := Lib.hid (C1.out.trans (cB.mono (S' := One b) (fun _ _ e => e.elim)))
  have n1 : w.heap.size + 1 ≤ w1.heap.size := by have := B1.out.lt; omega
  have n2 : b < w1.heap.size := by omega
  clear hi c1 cB H A0 B0 C0 H1 A1 B1 C1
  go_wp2_with fail
  refine (try1_any o t n who A _ A2.out).mono ?_
  rintro e w2 ⟨rfl, c2⟩
  rw [HS.out]
  have H3 := Lib.hid (H2.out.kept c2 (fun e => e))
  have B3 := B2.out.kept c2 (fun e => e)
  have D3 := D2.out.kept c2 (fun e => e)
  have C3 := Lib.hid (C2.out.trans (c2.mono (S' := One b) (fun _ _ e => e.elim)))
  have l3 := D3.lt
  have z1 : ¬ w2.heap.size = w.heap.size := by omega
  have z2 : ¬ w2.heap.size = w1.heap.size := by omega
  have z3 : ¬ w.heap.size = w1.heap.size := by omega
  have z4 : ¬ w1.heap.size = w.heap.size := by omega
  clear c2 H2 A2 B2 D2 C2
  have cB : Ch Nil w2 (w2.alloc (.cells #[.int .i64 who, .bool true, .int .i64 (wrap64 (n + 1))] 106)) := (Ch.refl _ _).alloc _
  have E4 := (isHb_new w2 who true (wrap64 (n + 1)) 106)
  go_upto_region 7 with (fail)
  have H4 := Lib.hid (H3.out.kept (cB.drew) (fun e => e))
  have B4 := Lib.hid (B3.kept (cB.drew) (fun e => e))
  have D4 := D3.kept (cB.drew) (fun e => e)
  replace E4 := E4.kept (S := Nil) ((Ch.refl _ _).drew) (fun e => e)
  have C4 := Lib.hid (C3.out.trans ((cB.drew).mono (S' := One b) (fun _ _ e => e.elim)))
  clear H3 B3 D3 C3 cB
  have nE : ¬ w2.heap.size = b := by omega
  have nD : ¬ w1.heap.size = b := by omega
  obtain ⟨E, hE⟩ : ∃ E, E = w2.heap.size := ⟨_, rfl⟩
  obtain ⟨D, hD⟩ : ∃ D, D = w1.heap.size := ⟨_, rfl⟩
  rw [← hE] at E4 z1 z2 nE ⊢
  rw [← hD] at D4 z2 z3 z4 n1 n2 nD ⊢
  clear l3 hE hD
  have b0 : ((w2.alloc (.cells #[.int .i64 who, .bool true, .int .i64 (wrap64 (n + 1))] 106)).cell? ⟨D, 0, none⟩ = some (.int .i64 o) ∧ (w2.alloc (.cells #[.int .i64 who, .bool true, .int .i64 (wrap64 (n + 1))] 106)).cell? ⟨D, 1, none⟩ = some (.bool t) ∧ (w2.alloc (.cells #[.int .i64 who, .bool true, .int .i64 (wrap64 (n + 1))] 106)).cell? ⟨D, 2, none⟩ = some (.int .i64 n)) ∧ (w2.alloc (.cells #[.int .i64 who, .bool true, .int .i64 (wrap64 (n + 1))] 106)).cell? ⟨E, 0, none⟩ = some (.int .i64 who) ∧ (w2.alloc (.cells #[.int .i64 who, .bool true, .int .i64 (wrap64 (n + 1))] 106)).cell? ⟨E, 1, none⟩ = some (.bool true) ∧ (w2.alloc (.cells #[.int .i64 who, .bool true, .int .i64 (wrap64 (n + 1))] 106)).cell? ⟨E, 2, none⟩ = some (.int .i64 (wrap64 (n + 1))) := ⟨⟨D4.o, D4.t, D4.n⟩, E4.o, E4.t, E4.n⟩
  refine wp_region_held_drew (S := fun w' => (w'.cell? ⟨D, 0, none⟩ = some (.int .i64 o) ∧ w'.cell? ⟨D, 1, none⟩ = some (.bool t) ∧ w'.cell? ⟨D, 2, none⟩ = some (.int .i64 n)) ∧ w'.cell? ⟨E, 0, none⟩ = some (.int .i64 who) ∧ w'.cell? ⟨E, 1, none⟩ = some (.bool true) ∧ w'.cell? ⟨E, 2, none⟩ = some (.int .i64 (wrap64 (n + 1)))) (by kernel_rfl) b0 (fun hHeld => ?_)
  clear b0 D4 E4
  generalize (w2.alloc (.cells #[.int .i64 who, .bool true, .int .i64 (wrap64 (n + 1))] 106)).drew = w4 at H4 B4 C4 hHeld ⊢
  refine take_at (v := ?_) 0 (some 27) rfl (by kernel_rfl) (by kernel_rfl) (by kernel_rfl) (by kernel_rfl) (fun _ _ _ h => h) (Or.inl ⟨by rfl, ?_⟩) (by assumption) ?_
  rotate_left
  · intro w hSw; (try dsimp only at hSw); go_simp; try (with_reducible rfl)
  (try simp only [Act.put, List.setIfInBounds_toArray, List.set_cons_zero, List.set_cons_succ])
  refine take_at (v := ?_) 1 (some 28) rfl (by kernel_rfl) (by kernel_rfl) (by kernel_rfl) (by kernel_rfl) (fun _ _ _ h => h) (Or.inl ⟨by rfl, ?_⟩) (by assumption) ?_
  rotate_left
  · intro w hSw; (try dsimp only at hSw); go_simp; try (with_reducible rfl)
  (try simp only [Act.put, List.setIfInBounds_toArray, List.set_cons_zero, List.set_cons_succ])
  refine take_at (v := ?_) 2 (some 29) rfl (by kernel_rfl) (by kernel_rfl) (by kernel_rfl) (by kernel_rfl) (fun _ _ _ h => h) (Or.inl ⟨by rfl, ?_⟩) (by assumption) ?_
  rotate_left
  · intro w hSw; (try dsimp only at hSw); go_simp; try (with_reducible rfl)
  (try simp only [Act.put, List.setIfInBounds_toArray, List.set_cons_zero, List.set_cons_succ])
  refine wpAnyH_ready (rs := [3]) (by kernel_rfl) (by simp) ?_
  refine AllReadyH.cons rfl (fun K hK => ?_) AllReadyH.nil
  go_simp
  refine (changeH_yes b o t n _ _ _ _ H4.out).mono ?_
  rintro e w5 ⟨rfl, hi, c5⟩
  have k5 : (w5.cell? ⟨D, 0, none⟩ = some (.int .i64 o) ∧ w5.cell? ⟨D, 1, none⟩ = some (.bool t) ∧ w5.cell? ⟨D, 2, none⟩ = some (.int .i64 n)) ∧ w5.cell? ⟨E, 0, none⟩ = some (.int .i64 who) ∧ w5.cell? ⟨E, 1, none⟩ = some (.bool true) ∧ w5.cell? ⟨E, 2, none⟩ = some (.int .i64 (wrap64 (n + 1))) := ⟨⟨c5.keeps hHeld.1.1 nD, c5.keeps hHeld.1.2.1 nD, c5.keeps hHeld.1.2.2 nD⟩, c5.keeps hHeld.2.1 nE, c5.keeps hHeld.2.2.1 nE, c5.keeps hHeld.2.2.2 nE⟩
  have H5 := Lib.hid hi
  have B5 := B4.out.kept c5 nb
  have C5 := Lib.hid (C4.out.trans c5)
  clear hi c5 H4 B4 C4 hHeld
  refine hK.out _ _ k5 (fun hHeld => ?_)
  clear hK K
  (try simp only [Act.put, List.setIfInBounds_toArray, List.set_cons_zero, List.set_cons_succ])
  obtain ⟨go, gt, gn, gf⟩ := B5
  refine wpAnyH_ready (rs := [4]) (by kernel_rfl) (by simp) ?_
  refine AllReadyH.cons rfl (fun K hK => ?_) AllReadyH.nil
  go_simp
  have cS : Ch (One w.heap.size) w5 (((w5.setCell ⟨w.heap.size, 0, none⟩ (.int .i64 o)).setCell ⟨w.heap.size, 1, none⟩ (.bool t)).setCell ⟨w.heap.size, 2, none⟩ (.int .i64 n)) := (((Ch.refl _ _).setB _ _).setB _ _).setB _ _
  refine hK.out _ _ ⟨⟨cS.keeps k5.1.1 z4, cS.keeps k5.1.2.1 z4, cS.keeps k5.1.2.2 z4⟩, cS.keeps k5.2.1 z1, cS.keeps k5.2.2.1 z1, cS.keeps k5.2.2.2 z1⟩ (fun hHeld => ?_)
  clear hK K
  (try simp only [Act.put, List.setIfInBounds_toArray, List.set_cons_zero, List.set_cons_succ])
  refine take_at (v := ?_) 5 (some 5) rfl (by kernel_rfl) (by kernel_rfl) (by kernel_rfl) (by kernel_rfl) (fun _ _ _ h => h) (Or.inl ⟨by rfl, ?_⟩) (by assumption) ?_
  rotate_left
  · intro w hSw; (try dsimp only at hSw); go_simp; try (with_reducible rfl)
  (try simp only [Act.put, List.setIfInBounds_toArray, List.set_cons_zero, List.set_cons_succ])
  refine wpAnyH_done (by kernel_rfl) ?_ _
  go_wp2
  (try simp only [Exit.inBlock, Exit.then])
  refine bodyPost_ret (v := .tuple #[hv o t n, .bool true]) ?hr rfl ?_
  case hr => simp [results, Tryd.results51, go_sem, go, gt, gn]
  refine ⟨rfl, ?_⟩
  exact ⟨H5.out.kept cS (fun e => nb e.symm), C5.out.then cS (fun i hi e => by have : i = w.heap.size := e; omega)⟩
set_option maxHeartbeats 4000000 in
theorem turn_leave_yes (b A : Nat) (o : Int) (t : Bool) (n who : Int) (w : World) (h : IsK w b o t n) (ha : w.cell? ⟨A, 0, none⟩ = some (.int .i64 who)) (hab : A ≠ b) (hs : lvs t o who = true) :
    Calls Tryd.prog 51 #[.pointer (some ⟨b, 0, none⟩), .func (.func 55) #[] #[.pointer (some ⟨A, 0, none⟩)]] w fun e w' =>
      e = .returned (.tuple #[hv o t n, .bool true]) ∧ IsK w' b 0 false n ∧ Ch (One b) w w' := by
  have hlt := h.lt
  have hal := lt_of_cell ha
  have hfn := fn_nilH
  have HS := Lib.hid hs
  have cA : Ch Nil w (w.alloc (.cells #[.int .i64 0, .bool false, .int .i64 0] 106)) := (Ch.refl _ _).alloc _
  have H := Lib.hid (h.kept cA (fun e => e))
  have A0 := Lib.hid (cA.keeps ha (fun e => e))
  have B0 := Lib.hid (isHb_new w 0 false 0 106)
  have C0 := Lib.hid cA
  clear hs h ha cA
  go_enter Tryd.func51, Tryd.ntmps51
  go_wp2_with fail
  refine (loadH_at b _ _ _ _ H.out).mono ?_
  rintro e w1 ⟨rfl, hi, c1⟩
  have nb : ¬ w.heap.size = b := by omega
  have H1 := Lib.hid hi
  have A1 := Lib.hid (c1.keeps A0.out hab)
  have B1 := Lib.hid (B0.out.kept c1 nb)
  have C1 := Lib.hid ((C0.out.mono (S' := One b) (fun _ _ e => e.elim)).trans c1)
  have cB : Ch Nil w1 (w1.alloc (.cells #[.int .i64 o, .bool t, .int .i64 n] 106)) := (Ch.refl _ _).alloc _
  have H2 := Lib.hid (hi.kept cB (fun e => e))
  have A2 := Lib.hid (cB.keeps A1.out (fun e => e))
  have B2 := Lib.hid (B1.out.kept cB (fun e => e))
  have D2 := Lib.hid (isHb_new w1 o t n 106)
  have C2 := Lib.hid (C1.out.trans (cB.mono (S' := One b) (fun _ _ e => e.elim)))
  have n1 : w.heap.size + 1 ≤ w1.heap.size := by have := B1.out.lt; omega
  have n2 : b < w1.heap.size := by omega
  clear hi c1 cB H A0 B0 C0 H1 A1 B1 C1
  go_wp2_with fail
  refine (leave1_any o t n who A _ A2.out).mono ?_
  rintro e w2 ⟨rfl, c2⟩
  rw [HS.out]
  have H3 := Lib.hid (H2.out.kept c2 (fun e => e))
  have B3 := B2.out.kept c2 (fun e => e)
  have D3 := D2.out.kept c2 (fun e => e)
  have C3 := Lib.hid (C2.out.trans (c2.mono (S' := One b) (fun _ _ e => e.elim)))
  have l3 := D3.lt
  have z1 : ¬ w2.heap.size = w.heap.size := by omega
  have z2 : ¬ w2.heap.size = w1.heap.size := by omega
  have z3 : ¬ w.heap.size = w1.heap.size := by omega
  have z4 : ¬ w1.heap.size = w.heap.size := by omega
  clear c2 H2 A2 B2 D2 C2
  have cB : Ch Nil w2 (w2.alloc (.cells #[.int .i64 0, .bool false, .int .i64 n] 106)) := (Ch.refl _ _).alloc _
  have E4 := (isHb_new w2 0 false n 106)
  go_upto_region 7 with (fail)
  have H4 := Lib.hid (H3.out.kept (cB.drew) (fun e => e))
  have B4 := Lib.hid (B3.kept (cB.drew) (fun e => e))
  have D4 := D3.kept (cB.drew) (fun e => e)
  replace E4 := E4.kept (S := Nil) ((Ch.refl _ _).drew) (fun e => e)
  have C4 := Lib.hid (C3.out.trans ((cB.drew).mono (S' := One b) (fun _ _ e => e.elim)))
  clear H3 B3 D3 C3 cB
  have nE : ¬ w2.heap.size = b := by omega
  have nD : ¬ w1.heap.size = b := by omega
  obtain ⟨E, hE⟩ : ∃ E, E = w2.heap.size := ⟨_, rfl⟩
  obtain ⟨D, hD⟩ : ∃ D, D = w1.heap.size := ⟨_, rfl⟩
  rw [← hE] at E4 z1 z2 nE ⊢
  rw [← hD] at D4 z2 z3 z4 n1 n2 nD ⊢
  clear l3 hE hD
  have b0 : ((w2.alloc (.cells #[.int .i64 0, .bool false, .int .i64 n] 106)).cell? ⟨D, 0, none⟩ = some (.int .i64 o) ∧ (w2.alloc (.cells #[.int .i64 0, .bool false, .int .i64 n] 106)).cell? ⟨D, 1, none⟩ = some (.bool t) ∧ (w2.alloc (.cells #[.int .i64 0, .bool false, .int .i64 n] 106)).cell? ⟨D, 2, none⟩ = some (.int .i64 n)) ∧ (w2.alloc (.cells #[.int .i64 0, .bool false, .int .i64 n] 106)).cell? ⟨E, 0, none⟩ = some (.int .i64 0) ∧ (w2.alloc (.cells #[.int .i64 0, .bool false, .int .i64 n] 106)).cell? ⟨E, 1, none⟩ = some (.bool false) ∧ (w2.alloc (.cells #[.int .i64 0, .bool false, .int .i64 n] 106)).cell? ⟨E, 2, none⟩ = some (.int .i64 n) := ⟨⟨D4.o, D4.t, D4.n⟩, E4.o, E4.t, E4.n⟩
  refine wp_region_held_drew (S := fun w' => (w'.cell? ⟨D, 0, none⟩ = some (.int .i64 o) ∧ w'.cell? ⟨D, 1, none⟩ = some (.bool t) ∧ w'.cell? ⟨D, 2, none⟩ = some (.int .i64 n)) ∧ w'.cell? ⟨E, 0, none⟩ = some (.int .i64 0) ∧ w'.cell? ⟨E, 1, none⟩ = some (.bool false) ∧ w'.cell? ⟨E, 2, none⟩ = some (.int .i64 n)) (by kernel_rfl) b0 (fun hHeld => ?_)
  clear b0 D4 E4
  generalize (w2.alloc (.cells #[.int .i64 0, .bool false, .int .i64 n] 106)).drew = w4 at H4 B4 C4 hHeld ⊢
  refine take_at (v := ?_) 0 (some 27) rfl (by kernel_rfl) (by kernel_rfl) (by kernel_rfl) (by kernel_rfl) (fun _ _ _ h => h) (Or.inl ⟨by rfl, ?_⟩) (by assumption) ?_
  rotate_left
  · intro w hSw; (try dsimp only at hSw); go_simp; try (with_reducible rfl)
  (try simp only [Act.put, List.setIfInBounds_toArray, List.set_cons_zero, List.set_cons_succ])
  refine take_at (v := ?_) 1 (some 28) rfl (by kernel_rfl) (by kernel_rfl) (by kernel_rfl) (by kernel_rfl) (fun _ _ _ h => h) (Or.inl ⟨by rfl, ?_⟩) (by assumption) ?_
  rotate_left
  · intro w hSw; (try dsimp only at hSw); go_simp; try (with_reducible rfl)
  (try simp only [Act.put, List.setIfInBounds_toArray, List.set_cons_zero, List.set_cons_succ])
  refine take_at (v := ?_) 2 (some 29) rfl (by kernel_rfl) (by kernel_rfl) (by kernel_rfl) (by kernel_rfl) (fun _ _ _ h => h) (Or.inl ⟨by rfl, ?_⟩) (by assumption) ?_
  rotate_left
  · intro w hSw; (try dsimp only at hSw); go_simp; try (with_reducible rfl)
  (try simp only [Act.put, List.setIfInBounds_toArray, List.set_cons_zero, List.set_cons_succ])
  refine wpAnyH_ready (rs := [3]) (by kernel_rfl) (by simp) ?_
  refine AllReadyH.cons rfl (fun K hK => ?_) AllReadyH.nil
  go_simp
  refine (changeH_yes b o t n _ _ _ _ H4.out).mono ?_
  rintro e w5 ⟨rfl, hi, c5⟩
  have k5 : (w5.cell? ⟨D, 0, none⟩ = some (.int .i64 o) ∧ w5.cell? ⟨D, 1, none⟩ = some (.bool t) ∧ w5.cell? ⟨D, 2, none⟩ = some (.int .i64 n)) ∧ w5.cell? ⟨E, 0, none⟩ = some (.int .i64 0) ∧ w5.cell? ⟨E, 1, none⟩ = some (.bool false) ∧ w5.cell? ⟨E, 2, none⟩ = some (.int .i64 n) := ⟨⟨c5.keeps hHeld.1.1 nD, c5.keeps hHeld.1.2.1 nD, c5.keeps hHeld.1.2.2 nD⟩, c5.keeps hHeld.2.1 nE, c5.keeps hHeld.2.2.1 nE, c5.keeps hHeld.2.2.2 nE⟩
  have H5 := Lib.hid hi
  have B5 := B4.out.kept c5 nb
  have C5 := Lib.hid (C4.out.trans c5)
  clear hi c5 H4 B4 C4 hHeld
  refine hK.out _ _ k5 (fun hHeld => ?_)
  clear hK K
  (try simp only [Act.put, List.setIfInBounds_toArray, List.set_cons_zero, List.set_cons_succ])
  obtain ⟨go, gt, gn, gf⟩ := B5
  refine wpAnyH_ready (rs := [4]) (by kernel_rfl) (by simp) ?_
  refine AllReadyH.cons rfl (fun K hK => ?_) AllReadyH.nil
  go_simp
  have cS : Ch (One w.heap.size) w5 (((w5.setCell ⟨w.heap.size, 0, none⟩ (.int .i64 o)).setCell ⟨w.heap.size, 1, none⟩ (.bool t)).setCell ⟨w.heap.size, 2, none⟩ (.int .i64 n)) := (((Ch.refl _ _).setB _ _).setB _ _).setB _ _
  refine hK.out _ _ ⟨⟨cS.keeps k5.1.1 z4, cS.keeps k5.1.2.1 z4, cS.keeps k5.1.2.2 z4⟩, cS.keeps k5.2.1 z1, cS.keeps k5.2.2.1 z1, cS.keeps k5.2.2.2 z1⟩ (fun hHeld => ?_)
  clear hK K
  (try simp only [Act.put, List.setIfInBounds_toArray, List.set_cons_zero, List.set_cons_succ])
  refine take_at (v := ?_) 5 (some 5) rfl (by kernel_rfl) (by kernel_rfl) (by kernel_rfl) (by kernel_rfl) (fun _ _ _ h => h) (Or.inl ⟨by rfl, ?_⟩) (by assumption) ?_
  rotate_left
  · intro w hSw; (try dsimp only at hSw); go_simp; try (with_reducible rfl)
  (try simp only [Act.put, List.setIfInBounds_toArray, List.set_cons_zero, List.set_cons_succ])
  refine wpAnyH_done (by kernel_rfl) ?_ _
  go_wp2
  (try simp only [Exit.inBlock, Exit.then])
  refine bodyPost_ret (v := .tuple #[hv o t n, .bool true]) ?hr rfl ?_
  case hr => simp [results, Tryd.results51, go_sem, go, gt, gn]
  refine ⟨rfl, ?_⟩
  exact ⟨H5.out.kept cS (fun e => nb e.symm), C5.out.then cS (fun i hi e => by have : i = w.heap.size := e; omega)⟩
end Go.Proofs.YtldnmpiaofppgaaDoor

/-
  A lock as a value, and the contracts of package lock's functions.
-/
namespace Go.Proofs.YtldnmpiaofppgaaDoor
open Go.RowKit
attribute [local go_sem] Oper.semAt_some
set_option linter.unusedVariables false
set_option linter.unusedSimpArgs false

/-- a lock: whose it is, whether it is somebody's, how often it became somebody's -/
structure Lk where
  o : Int
  t : Bool
  n : Nat
def tryK (k : Lk) (who : Int) : Lk := if opn k.t who = true then ⟨who, true, k.n + 1⟩ else k
def goes (k : Lk) (who : Int) : Bool := decide (0 ≤ who) && lvs k.t k.o who
def leaveK (k : Lk) (who : Int) : Lk := if goes k who = true then ⟨0, false, k.n⟩ else k
def leaveE (k : Lk) (who : Int) : Int := if who < 0 then 1 else if lvs k.t k.o who = true then 0 else 7
abbrev IsLk (w : World) (b : Nat) (k : Lk) : Prop := IsK w b k.o k.t (k.n : Nat)
theorem tryK_n (k : Lk) (who : Int) : (tryK k who).n ≤ k.n + 1 := by unfold tryK; split <;> simp
theorem leaveK_n (k : Lk) (who : Int) : (leaveK k who).n = k.n := by unfold leaveK; split <;> rfl

theorem fld_turns (a b c : Value) (w : World) : (Instr.field 106 (.agg #[a, b, c]) 2).run Tryd.prog w = .ok c w := by kernel_rfl
theorem new_lk (w : World) :
    Calls Tryd.prog 29 #[] w fun e w' => e = .returned (.pointer (some ⟨w.heap.size, 0, none⟩)) ∧ IsLk w' w.heap.size ⟨0, false, 0⟩ ∧ Ch Nil w w' := new_any w

set_option maxHeartbeats 4000000 in
theorem try_nil (who : Int) (w : World) :
    Calls Tryd.prog 26 #[.pointer none, .int .i64 who] w fun e w' => e = .returned (.bool false) ∧ Ch Nil w w' := by
  go_enter Tryd.func26, Tryd.ntmps26
  go_wp2
  go_ret
  exact ⟨rfl, (Ch.refl _ _).alloc _⟩
theorem leave_nil (who : Int) (w : World) :
    Calls Tryd.prog 27 #[.pointer none, .int .i64 who] w fun e w' => e = .returned (.int .i64 7) ∧ Ch Nil w w' := by
  go_enter Tryd.func27, Tryd.ntmps27
  go_wp2
  go_ret
  exact ⟨rfl, (Ch.refl _ _).alloc _⟩
section
variable {b : Nat} {k : Lk} {w : World}
set_option maxHeartbeats 4000000 in
theorem try_of (who : Int) (h : IsLk w b k) (hn : k.n ≤ 1000000) :
    Calls Tryd.prog 26 #[.pointer (some ⟨b, 0, none⟩), .int .i64 who] w fun e w' => e = .returned (.bool (opn k.t who)) ∧ IsLk w' b (tryK k who) ∧ Ch (One b) w w' := by
  have hmf : ∀ (fn : Fn) (first cap : Array Value) (w : World), (Instr.makeFunc fn first cap).run Tryd.prog w = .ok (.func fn first cap) w := fun _ _ _ _ => rfl
  have hlt := h.lt
  have cA : Ch Nil w (w.alloc (.cells #[.int .i64 who] 3)) := (Ch.refl _ _).alloc _
  have H := Lib.hid (h.kept cA (fun e => e))
  have A0 : Hid ((w.alloc (.cells #[.int .i64 who] 3)).cell? ⟨w.heap.size, 0, none⟩ = some (.int .i64 who)) := Lib.hid (by simp [go_sem])
  have C := Lib.hid (cA.mono (S' := One b) (fun _ _ e => e.elim))
  have nb : w.heap.size ≠ b := by omega
  clear h cA
  unfold tryK
  obtain ⟨so, hso⟩ : ∃ so, opn k.t who = so := ⟨_, rfl⟩
  rw [hso]
  have HS := Lib.hid hso
  clear hso
  cases so
  · rw [if_neg (by simp)]
    go_enter Tryd.func26, Tryd.ntmps26
    go_wp2_with fail
    refine (turn_try_no b _ _ _ _ who _ H.out A0.out nb HS.out).mono ?_
    rintro e w1 ⟨rfl, hi, c1⟩
    have H1 := Lib.hid hi
    clear hi
    go_wp2
    go_ret
    exact ⟨rfl, H1.out.kept (S := Nil) ((Ch.refl _ _).alloc _) (fun e => e), (C.out.trans c1).alloc _⟩
  · rw [if_pos rfl]
    go_enter Tryd.func26, Tryd.ntmps26
    go_wp2_with fail
    refine (turn_try_yes b _ _ _ _ who _ H.out A0.out nb HS.out).mono ?_
    rintro e w1 ⟨rfl, hi, c1⟩
    have e1 : wrap64 ((k.n : Nat) + 1 : Int) = ((k.n + 1 : Nat) : Int) := by unfold wrap64; omega
    rw [e1] at hi
    have H1 := Lib.hid hi
    clear hi e1
    go_wp2
    go_ret
    exact ⟨rfl, H1.out.kept (S := Nil) ((Ch.refl _ _).alloc _) (fun e => e), (C.out.trans c1).alloc _⟩
set_option maxHeartbeats 4000000 in
theorem leave_of (who : Int) (h : IsLk w b k) :
    Calls Tryd.prog 27 #[.pointer (some ⟨b, 0, none⟩), .int .i64 who] w fun e w' => e = .returned (.int .i64 (leaveE k who)) ∧ IsLk w' b (leaveK k who) ∧ Ch (One b) w w' := by
  have hmf : ∀ (fn : Fn) (first cap : Array Value) (w : World), (Instr.makeFunc fn first cap).run Tryd.prog w = .ok (.func fn first cap) w := fun _ _ _ _ => rfl
  have hlt := h.lt
  have cA : Ch Nil w (w.alloc (.cells #[.int .i64 who] 3)) := (Ch.refl _ _).alloc _
  have H := Lib.hid (h.kept cA (fun e => e))
  have A0 : Hid ((w.alloc (.cells #[.int .i64 who] 3)).cell? ⟨w.heap.size, 0, none⟩ = some (.int .i64 who)) := Lib.hid (by simp [go_sem])
  have C := Lib.hid (cA.mono (S' := One b) (fun _ _ e => e.elim))
  have nb : w.heap.size ≠ b := by omega
  clear h cA
  unfold leaveK leaveE goes
  by_cases h0 : who < 0
  · rw [if_pos h0, decide_eq_false (by omega), Bool.false_and, if_neg (by simp)]
    go_enter Tryd.func27, Tryd.ntmps27
    go_wp2
    go_ret
    exact ⟨rfl, H.out, C.out⟩
  · have h1 : 0 ≤ who := by omega
    rw [if_neg h0, decide_eq_true h1, Bool.true_and]
    obtain ⟨so, hso⟩ : ∃ so, lvs k.t k.o who = so := ⟨_, rfl⟩
    rw [hso]
    have HS := Lib.hid hso
    clear hso
    cases so
    · rw [if_neg (by simp), if_neg (by simp)]
      go_enter Tryd.func27, Tryd.ntmps27
      go_wp2_with fail
      refine (turn_leave_no b _ _ _ _ who _ H.out A0.out nb HS.out).mono ?_
      rintro e w1 ⟨rfl, hi, c1⟩
      have H1 := Lib.hid hi
      clear hi
      go_wp2
      go_ret
      exact ⟨rfl, H1.out.kept (S := Nil) ((Ch.refl _ _).alloc _) (fun e => e), (C.out.trans c1).alloc _⟩
    · rw [if_pos rfl, if_pos rfl]
      go_enter Tryd.func27, Tryd.ntmps27
      go_wp2_with fail
      refine (turn_leave_yes b _ _ _ _ who _ H.out A0.out nb HS.out).mono ?_
      rintro e w1 ⟨rfl, hi, c1⟩
      have H1 := Lib.hid hi
      clear hi
      go_wp2
      go_ret
      exact ⟨rfl, H1.out.kept (S := Nil) ((Ch.refl _ _).alloc _) (fun e => e), (C.out.trans c1).alloc _⟩
end
/-- the document's example -/
theorem tr_yes {b : Nat} {w : World} (o : Int) (n : Nat) (who : Int) (h : IsLk w b ⟨o, false, n⟩) (h0 : 0 ≤ who) (hn : n ≤ 1000) :
    Calls Tryd.prog 26 #[.pointer (some ⟨b, 0, none⟩), .int .i64 who] w fun e w' => e = .returned (.bool true) ∧ IsLk w' b ⟨who, true, n + 1⟩ ∧ Ch (One b) w w' := by
  have e1 : opn false who = true := by unfold opn; simp [h0]
  have := try_of who h (by show n ≤ 1000000; omega)
  unfold tryK at this
  simp only [e1, if_true] at this
  exact this
theorem tr_no {b : Nat} {w : World} (o : Int) (n : Nat) (who : Int) (h : IsLk w b ⟨o, true, n⟩) (hn : n ≤ 1000) :
    Calls Tryd.prog 26 #[.pointer (some ⟨b, 0, none⟩), .int .i64 who] w fun e w' => e = .returned (.bool false) ∧ IsLk w' b ⟨o, true, n⟩ ∧ Ch (One b) w w' := by
  have e1 : opn true who = false := by unfold opn; simp
  have := try_of who h (by show n ≤ 1000000; omega)
  unfold tryK at this
  rw [show opn (Lk.mk o true n).t who = false from e1, if_neg (by simp)] at this
  exact this
theorem lv_no {b : Nat} {w : World} (o : Int) (n : Nat) (who : Int) (h : IsLk w b ⟨o, true, n⟩) (h0 : 0 ≤ who) (hw : (o == who) = false) :
    Calls Tryd.prog 27 #[.pointer (some ⟨b, 0, none⟩), .int .i64 who] w fun e w' => e = .returned (.int .i64 7) ∧ IsLk w' b ⟨o, true, n⟩ ∧ Ch (One b) w w' := by
  have e1 : lvs true o who = false := by unfold lvs; simp [hw]
  have := leave_of who h
  unfold leaveK leaveE goes at this
  rw [show lvs (Lk.mk o true n).t (Lk.mk o true n).o who = false from e1, if_neg (by omega), if_neg (by simp), Bool.and_false, if_neg (by simp)] at this
  exact this
theorem lv_yes {b : Nat} {w : World} (n : Nat) (who : Int) (h : IsLk w b ⟨who, true, n⟩) (h0 : 0 ≤ who) :
    Calls Tryd.prog 27 #[.pointer (some ⟨b, 0, none⟩), .int .i64 who] w fun e w' => e = .returned (.int .i64 0) ∧ IsLk w' b ⟨0, false, n⟩ ∧ Ch (One b) w w' := by
  have e1 : lvs true who who = true := by unfold lvs; simp
  have := leave_of who h
  unfold leaveK leaveE goes at this
  rw [show lvs (Lk.mk who true n).t (Lk.mk who true n).o who = true from e1, if_neg (by omega), if_pos rfl, decide_eq_true h0, Bool.true_and, if_pos rfl] at this
  exact this
end Go.Proofs.YtldnmpiaofppgaaDoor
