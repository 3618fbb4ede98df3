/-
  Contracts of package cell's functions at pairs ([2]int).
-/
import Derived.Test.YtnflieejfegnhaaCellWalks1
import Derived.Test.YtnflieejfegnhaaHeld
import Derived.Laws.StructEq
import Derived.Laws.Tables
import Derived.Laws.Cover2
namespace Go.Proofs.Ytnflieejfegnhaa
open Go.RowKit
attribute [local go_sem] Oper.semAt_some
set_option linter.unusedVariables false
set_option linter.unusedSimpArgs false

theorem catchA_idle (w : World) :
    CallsD Try.prog 35 #[] .returning w fun e u' w' => e = .returned (.tuple #[]) ∧ u' = .returning ∧ w = w' := by
  refine callsD_of_wpS Try.func35 rfl fun c₀ cs hu => ?_
  apply wpS_region
  cases c₀
  simp_all [wpOpsS, go_sem, recoverD, Try.ntmps35, bodyPostS, results, Try.results35]

abbrev pr (a b : Int) : Value := .agg #[.int .i64 a, .int .i64 b]
/-- a cell of a pair, in block b -/
structure IsA (w : World) (b : Nat) (x y l t u : Int) : Prop where
  x : w.cell? ⟨b, 0, none⟩ = some (.int .i64 x)
  y : w.cell? ⟨b, 1, none⟩ = some (.int .i64 y)
  l : w.cell? ⟨b, 2, none⟩ = some (.int .i64 l)
  t : w.cell? ⟨b, 3, none⟩ = some (.int .i64 t)
  u : w.cell? ⟨b, 4, none⟩ = some (.int .i64 u)
  f : ∀ i, w.frozen? ⟨b, i, none⟩ = false
theorem IsA.lt {w : World} {b : Nat} {x y l t u : Int} (h : IsA w b x y l t u) : b < w.heap.size := lt_of_cell h.x
theorem IsA.kept {S : Nat → Prop} {w w' : World} {b : Nat} {x y l t u : Int} (h : IsA w b x y l t u) (c : Ch S w w') (hn : ¬ S b) : IsA w' b x y l t u :=
  ⟨c.keeps h.x hn, c.keeps h.y hn, c.keeps h.l hn, c.keeps h.t hn, c.keeps h.u hn, fun i => (c.frozen (p := ⟨b, i, none⟩) h.lt hn).trans (h.f i)⟩

theorem eqA (a b c d : Int) (w : World) : (Op.equalIn 10000 51 (.agg #[.int .i64 a, .int .i64 b]) (.agg #[.int .i64 c, .int .i64 d])).run Try.prog w = .ok (a == c && b == d) w := by
  have u3 := Try.underlying3
  have a3 := Try.isAgg3
  have z3 := Try.sizeOf3
  rw [show (10000 : Nat) = 9999 + 1 from rfl, Op.equalIn]
  simp only [Sem.run_bind, run_underlying Try.underlying51, Result.andThen_ok]
  simp only [Std.Legacy.Range.forIn_eq_forIn_range', Std.Legacy.Range.size, Nat.sub_zero, Nat.add_sub_cancel, Nat.div_one, List.range'_succ, List.range'_zero, List.forIn_cons, List.forIn_nil]
  go_simp
  by_cases h1 : a = c <;> by_cases h2 : b = d <;> simp [h1, h2]

theorem sameA_any (a b c d : Int) (w : World) :
    Calls Try.prog 32 #[pr a b, pr c d] w fun e w' => e = .returned (.bool (a == c && b == d)) ∧ Ch Nil w w' := by
  have hmf : ∀ (fn : Fn) (first cap : Array Value) (w : World), (Instr.makeFunc fn first cap).run Try.prog w = .ok (.func fn first cap) w := fun _ _ _ _ => rfl
  have heq := eqA
  go_enter_defers Try.func32, Try.ntmps32
  go_wp2
  refine leaves_cons (f := 35) (args := #[]) (by simp) (by simp [go_sem]) ?_
  refine (catchA_idle _).mono ?_
  rintro e u' w'' ⟨rfl, rfl, rfl⟩
  simp [Leaves, settle, results, Try.results32, go_sem]
  exact ((Ch.refl _ _).alloc _).alloc _

theorem changeA_no (b : Nat) (x y l t u m n : Int) (w : World) (h : IsA w b x y l t u) :
    Calls Try.prog 31 #[.pointer (some ⟨b, 0, none⟩), pr m n, .bool false] w fun e w' => e = .returned (.bool false) ∧
      w' = (w.setCell ⟨b, 3, none⟩ (.int .i64 (wrap64 (t + 1)))).alloc (.cells #[.int .i64 m, .int .i64 n] 51) := by
  have hlt := h.lt
  obtain ⟨hx, hy, hl, ht, hu, hf⟩ := h
  go_enter Try.func31, Try.ntmps31
  go_wp2
  go_ret
  exact ⟨rfl, rfl⟩
theorem changeA_yes (b : Nat) (x y l t u m n : Int) (w : World) (h : IsA w b x y l t u) :
    Calls Try.prog 31 #[.pointer (some ⟨b, 0, none⟩), pr m n, .bool true] w fun e w' => e = .returned (.bool true) ∧
      w' = ((((w.setCell ⟨b, 3, none⟩ (.int .i64 (wrap64 (t + 1)))).setCell ⟨b, 0, none⟩ (.int .i64 m)).setCell ⟨b, 1, none⟩ (.int .i64 n)).setCell ⟨b, 4, none⟩ (.int .i64 (wrap64 (u + 1)))).alloc (.cells #[.int .i64 m, .int .i64 n] 51) := by
  have hlt := h.lt
  obtain ⟨hx, hy, hl, ht, hu, hf⟩ := h
  go_enter Try.func31, Try.ntmps31
  go_wp2
  go_ret
  exact ⟨rfl, rfl⟩
theorem loadA_at (b : Nat) (x y l t u : Int) (w : World) (h : IsA w b x y l t u) :
    Calls Try.prog 22 #[.pointer (some ⟨b, 0, none⟩)] w fun e w' => e = .returned (pr x y) ∧ ∃ o, w' = (w.setCell ⟨b, 2, none⟩ (.int .i64 (wrap64 (l + 1)))).alloc o := by
  have hlt := h.lt
  have hne : ¬ w.heap.size = b := by omega
  obtain ⟨hx, hy, hl, ht, hu, hf⟩ := h
  go_enter Try.func22, Try.ntmps22
  go_wp2
  exact bodyPost_ret (v := pr x y) (by simp [results, Try.results22, go_sem]) rfl ⟨rfl, _, rfl⟩
theorem ofA_any (m n : Int) (w : World) :
    Calls Try.prog 20 #[pr m n] w fun e w' => e = .returned (.pointer (some ⟨w.heap.size + 1, 0, none⟩)) ∧ IsA w' (w.heap.size + 1) m n 0 0 0 ∧ Ch Nil w w' := by
  go_enter Try.func20, Try.ntmps20
  go_wp2
  go_ret
  refine ⟨rfl, ?_, ((Ch.refl _ _).alloc _).alloc _⟩
  constructor <;> simp [go_sem]

theorem ch_no (w : World) (b : Nat) (v : Value) (o : Obj) : Ch (One b) w ((w.setCell ⟨b, 3, none⟩ v).alloc o) := ((Ch.refl _ _).setB _ _).alloc _
theorem ch_yes (w : World) (b : Nat) (v1 v2 v3 v4 : Value) (o : Obj) : Ch (One b) w (((((w.setCell ⟨b, 3, none⟩ v1).setCell ⟨b, 0, none⟩ v2).setCell ⟨b, 1, none⟩ v3).setCell ⟨b, 4, none⟩ v4).alloc o) :=
  (((((Ch.refl _ _).setB _ _).setB _ _).setB _ _).setB _ _).alloc _
theorem isA_yes {w : World} {b : Nat} {x y l t u : Int} (h : IsA w b x y l t u) (m n t' u' : Int) (o : Obj) :
    IsA (((((w.setCell ⟨b, 3, none⟩ (.int .i64 t')).setCell ⟨b, 0, none⟩ (.int .i64 m)).setCell ⟨b, 1, none⟩ (.int .i64 n)).setCell ⟨b, 4, none⟩ (.int .i64 u')).alloc o) b m n l t' u' := by
  have hlt := h.lt
  obtain ⟨hx, hy, hl, ht, hu, hf⟩ := h
  have hs : b < ((((w.setCell ⟨b, 3, none⟩ (.int .i64 t')).setCell ⟨b, 0, none⟩ (.int .i64 m)).setCell ⟨b, 1, none⟩ (.int .i64 n)).setCell ⟨b, 4, none⟩ (.int .i64 u')).heap.size := by simp [World.setCell]; omega
  constructor
  all_goals (try intro i)
  all_goals first | rw [World.cell?_alloc_past (hn := hs)] | rw [World.frozen?_alloc_past (hn := hs)]
  all_goals simp [go_sem, hx, hy, hl, ht, hu, hf]

set_option maxHeartbeats 4000000 in
theorem swapA_yes (b : Nat) (x y l t u m n : Int) (w : World) (h : IsA w b x y l t u) :
    Calls Try.prog 21 #[.pointer (some ⟨b, 0, none⟩), pr x y, pr m n] w fun e w' => e = .returned (.bool true) ∧ IsA w' b m n l (wrap64 (t + 1)) (wrap64 (u + 1)) ∧ Ch (One b) w w' := by
  have hlt := h.lt
  have H := Lib.hid h
  clear h
  go_enter Try.func21, Try.ntmps21
  go_wp2
  have c0 : Ch Nil w ((w.alloc (.cells #[.int .i64 x, .int .i64 y] 51)).alloc (.cells #[.int .i64 m, .int .i64 n] 51)) := ((Ch.refl _ _).alloc _).alloc _
  have b0 : (((w.alloc (.cells #[.int .i64 x, .int .i64 y] 51)).alloc (.cells #[.int .i64 m, .int .i64 n] 51)).cell? ⟨w.heap.size, 0, none⟩ = some (.int .i64 x)
      ∧ ((w.alloc (.cells #[.int .i64 x, .int .i64 y] 51)).alloc (.cells #[.int .i64 m, .int .i64 n] 51)).cell? ⟨w.heap.size, 1, none⟩ = some (.int .i64 y))
      ∧ ((w.alloc (.cells #[.int .i64 x, .int .i64 y] 51)).alloc (.cells #[.int .i64 m, .int .i64 n] 51)).cell? ⟨w.heap.size + 1, 0, none⟩ = some (.int .i64 m)
      ∧ ((w.alloc (.cells #[.int .i64 x, .int .i64 y] 51)).alloc (.cells #[.int .i64 m, .int .i64 n] 51)).cell? ⟨w.heap.size + 1, 1, none⟩ = some (.int .i64 n) := by
    refine ⟨⟨?_, ?_⟩, ?_, ?_⟩ <;> simp [go_sem]
  generalize (w.alloc (.cells #[.int .i64 x, .int .i64 y] 51)).alloc (.cells #[.int .i64 m, .int .i64 n] 51) = w0 at c0 b0 ⊢
  refine wp_region_held_drew (S := fun w' => (w'.cell? ⟨w.heap.size, 0, none⟩ = some (.int .i64 x) ∧ w'.cell? ⟨w.heap.size, 1, none⟩ = some (.int .i64 y)) ∧ w'.cell? ⟨w.heap.size + 1, 0, none⟩ = some (.int .i64 m) ∧ w'.cell? ⟨w.heap.size + 1, 1, none⟩ = some (.int .i64 n)) (by kernel_rfl) b0 (fun hHeld => ?_)
  replace c0 := c0.drew
  clear b0
  generalize w0.drew = w1 at c0 hHeld ⊢
  have h1 : IsA w1 b x y l t u := H.out.kept c0 (fun e => e)
  have H1 := Lib.hid h1
  have nb : ¬ w.heap.size = b := by omega
  have nb2 : ¬ w.heap.size + 1 = b := by omega
  refine take_at (v := ?_) 0 (some 9) rfl (by kernel_rfl) (by kernel_rfl) (by kernel_rfl) (by kernel_rfl) (fun _ _ _ h => h) (Or.inl ⟨by rfl, ?_⟩) (by assumption) ?_
  rotate_left
  · intro w hSw; (try dsimp only at hSw); go_simp; try (with_reducible rfl)
  (try simp only [Act.put, List.setIfInBounds_toArray, List.set_cons_zero, List.set_cons_succ])
  refine take_at (v := ?_) 1 (some 10) rfl (by kernel_rfl) (by kernel_rfl) (by kernel_rfl) (by kernel_rfl) (fun _ _ _ h => h) (Or.inl ⟨by rfl, ?_⟩) (by assumption) ?_
  rotate_left
  · intro w hSw; (try dsimp only at hSw); go_simp; try (with_reducible rfl)
  (try simp only [Act.put, List.setIfInBounds_toArray, List.set_cons_zero, List.set_cons_succ])
  refine take_at (v := ?_) 2 (some 11) rfl (by kernel_rfl) (by kernel_rfl) (by kernel_rfl) (by kernel_rfl) (fun _ _ _ h => h) (Or.inl ⟨by rfl, ?_⟩) (by assumption) ?_
  rotate_left
  · intro w hSw; (try dsimp only at hSw); go_simp; try (with_reducible rfl)
  (try simp only [Act.put, List.setIfInBounds_toArray, List.set_cons_zero, List.set_cons_succ])
  refine take_at (v := ?_) 3 (some 12) rfl (by kernel_rfl) (by kernel_rfl) (by kernel_rfl) (by kernel_rfl) (fun _ _ _ h => h) (Or.inl ⟨by rfl, ?_⟩) (by assumption) ?_
  rotate_left
  · intro w hSw; (try dsimp only at hSw); go_simp; try (with_reducible rfl)
  (try simp only [Act.put, List.setIfInBounds_toArray, List.set_cons_zero, List.set_cons_succ])
  refine take_at (v := ?_) 4 (some 13) rfl (by kernel_rfl) (by kernel_rfl) (by kernel_rfl) (by kernel_rfl) (fun _ _ _ h => h) (Or.inl ⟨by rfl, ?_⟩) (by assumption) ?_
  rotate_left
  · intro w hSw; (try dsimp only at hSw); go_simp; try (with_reducible rfl)
  (try simp only [Act.put, List.setIfInBounds_toArray, List.set_cons_zero, List.set_cons_succ])
  refine take_at (v := ?_) 6 (some 15) rfl (by kernel_rfl) (by kernel_rfl) (by kernel_rfl) (by kernel_rfl) (fun _ _ _ h => h) (Or.inl ⟨by rfl, ?_⟩) (by assumption) ?_
  rotate_left
  · intro w hSw; (try dsimp only at hSw); go_simp; try (with_reducible rfl)
  (try simp only [Act.put, List.setIfInBounds_toArray, List.set_cons_zero, List.set_cons_succ])
  have hx := H1.out.x
  have hy := H1.out.y
  refine wpAnyH_ready (rs := [5]) (by kernel_rfl) (by simp) ?_
  refine AllReadyH.cons rfl (fun K hK => ?_) AllReadyH.nil
  go_simp
  refine hK.out _ _ hHeld (fun _ => ?_)
  clear hK K hx hy
  (try simp only [Act.put, List.setIfInBounds_toArray, List.set_cons_zero, List.set_cons_succ])
  refine wpAnyH_ready (rs := [7]) (by kernel_rfl) (by simp) ?_
  refine AllReadyH.cons rfl (fun K hK => ?_) AllReadyH.nil
  go_simp
  refine (sameA_any _ _ _ _ _).mono ?_
  rw [show (x == x && y == y) = true by simp]
  rintro e w2 ⟨rfl, c2⟩
  have k2 : (w2.cell? ⟨w.heap.size, 0, none⟩ = some (.int .i64 x) ∧ w2.cell? ⟨w.heap.size, 1, none⟩ = some (.int .i64 y)) ∧ w2.cell? ⟨w.heap.size + 1, 0, none⟩ = some (.int .i64 m) ∧ w2.cell? ⟨w.heap.size + 1, 1, none⟩ = some (.int .i64 n) :=
    ⟨⟨c2.keeps hHeld.1.1 (fun e => e), c2.keeps hHeld.1.2 (fun e => e)⟩, c2.keeps hHeld.2.1 (fun e => e), c2.keeps hHeld.2.2 (fun e => e)⟩
  refine hK.out _ _ k2 (fun _ => ?_)
  clear hK K
  (try simp only [Act.put, List.setIfInBounds_toArray, List.set_cons_zero, List.set_cons_succ])
  have H2 := Lib.hid (H1.out.kept c2 (fun e => e))
  refine wpAnyH_ready (rs := [8]) (by kernel_rfl) (by simp) ?_
  refine AllReadyH.cons rfl (fun K hK => ?_) AllReadyH.nil
  go_simp
  refine (changeA_yes b x y l t u m n _ H2.out).mono ?_
  rintro e w3 ⟨rfl, hw3⟩
  have c3 : Ch (One b) w2 w3 := by rw [hw3]; exact ch_yes _ _ _ _ _ _ _
  have h3 : IsA w3 b m n l (wrap64 (t + 1)) (wrap64 (u + 1)) := by rw [hw3]; exact isA_yes H2.out _ _ _ _ _
  have H3 := Lib.hid h3
  clear h3
  have k3 : (w3.cell? ⟨w.heap.size, 0, none⟩ = some (.int .i64 x) ∧ w3.cell? ⟨w.heap.size, 1, none⟩ = some (.int .i64 y)) ∧ w3.cell? ⟨w.heap.size + 1, 0, none⟩ = some (.int .i64 m) ∧ w3.cell? ⟨w.heap.size + 1, 1, none⟩ = some (.int .i64 n) :=
    ⟨⟨c3.keeps k2.1.1 nb, c3.keeps k2.1.2 nb⟩, c3.keeps k2.2.1 nb2, c3.keeps k2.2.2 nb2⟩
  clear hw3
  refine hK.out _ _ k3 (fun _ => ?_)
  clear hK K
  (try simp only [Act.put, List.setIfInBounds_toArray, List.set_cons_zero, List.set_cons_succ])
  clear hHeld k2
  refine take_at (v := ?_) 9 (some 6) rfl (by kernel_rfl) (by kernel_rfl) (by kernel_rfl) (by kernel_rfl) (fun _ _ _ h => h) (Or.inl ⟨by rfl, ?_⟩) (by assumption) ?_
  rotate_left
  · intro w hSw; (try dsimp only at hSw); go_simp; try (with_reducible rfl)
  (try simp only [Act.put, List.setIfInBounds_toArray, List.set_cons_zero, List.set_cons_succ])
  refine wpAnyH_done (by kernel_rfl) ?_ _
  go_wp2
  go_ret
  exact ⟨rfl, H3.out, ((c0.trans c2).mono (S' := One b) (fun _ _ h => h.elim)).trans c3⟩
set_option maxHeartbeats 4000000 in
theorem swapA_no (b : Nat) (x y l t u m n p q : Int) (w : World) (h : IsA w b x y l t u) (hq : (x == p && y == q) = false) :
    Calls Try.prog 21 #[.pointer (some ⟨b, 0, none⟩), pr p q, pr m n] w fun e w' => e = .returned (.bool false) ∧ Ch (One b) w w' := by
  have hlt := h.lt
  have H := Lib.hid h
  clear h
  go_enter Try.func21, Try.ntmps21
  go_wp2
  have c0 : Ch Nil w ((w.alloc (.cells #[.int .i64 p, .int .i64 q] 51)).alloc (.cells #[.int .i64 m, .int .i64 n] 51)) := ((Ch.refl _ _).alloc _).alloc _
  have b0 : (((w.alloc (.cells #[.int .i64 p, .int .i64 q] 51)).alloc (.cells #[.int .i64 m, .int .i64 n] 51)).cell? ⟨w.heap.size, 0, none⟩ = some (.int .i64 p)
      ∧ ((w.alloc (.cells #[.int .i64 p, .int .i64 q] 51)).alloc (.cells #[.int .i64 m, .int .i64 n] 51)).cell? ⟨w.heap.size, 1, none⟩ = some (.int .i64 q))
      ∧ ((w.alloc (.cells #[.int .i64 p, .int .i64 q] 51)).alloc (.cells #[.int .i64 m, .int .i64 n] 51)).cell? ⟨w.heap.size + 1, 0, none⟩ = some (.int .i64 m)
      ∧ ((w.alloc (.cells #[.int .i64 p, .int .i64 q] 51)).alloc (.cells #[.int .i64 m, .int .i64 n] 51)).cell? ⟨w.heap.size + 1, 1, none⟩ = some (.int .i64 n) := by
    refine ⟨⟨?_, ?_⟩, ?_, ?_⟩ <;> simp [go_sem]
  generalize (w.alloc (.cells #[.int .i64 p, .int .i64 q] 51)).alloc (.cells #[.int .i64 m, .int .i64 n] 51) = w0 at c0 b0 ⊢
  refine wp_region_held_drew (S := fun w' => (w'.cell? ⟨w.heap.size, 0, none⟩ = some (.int .i64 p) ∧ w'.cell? ⟨w.heap.size, 1, none⟩ = some (.int .i64 q)) ∧ w'.cell? ⟨w.heap.size + 1, 0, none⟩ = some (.int .i64 m) ∧ w'.cell? ⟨w.heap.size + 1, 1, none⟩ = some (.int .i64 n)) (by kernel_rfl) b0 (fun hHeld => ?_)
  replace c0 := c0.drew
  clear b0
  generalize w0.drew = w1 at c0 hHeld ⊢
  have h1 : IsA w1 b x y l t u := H.out.kept c0 (fun e => e)
  have H1 := Lib.hid h1
  have nb : ¬ w.heap.size = b := by omega
  have nb2 : ¬ w.heap.size + 1 = b := by omega
  refine take_at (v := ?_) 0 (some 9) rfl (by kernel_rfl) (by kernel_rfl) (by kernel_rfl) (by kernel_rfl) (fun _ _ _ h => h) (Or.inl ⟨by rfl, ?_⟩) (by assumption) ?_
  rotate_left
  · intro w hSw; (try dsimp only at hSw); go_simp; try (with_reducible rfl)
  (try simp only [Act.put, List.setIfInBounds_toArray, List.set_cons_zero, List.set_cons_succ])
  refine take_at (v := ?_) 1 (some 10) rfl (by kernel_rfl) (by kernel_rfl) (by kernel_rfl) (by kernel_rfl) (fun _ _ _ h => h) (Or.inl ⟨by rfl, ?_⟩) (by assumption) ?_
  rotate_left
  · intro w hSw; (try dsimp only at hSw); go_simp; try (with_reducible rfl)
  (try simp only [Act.put, List.setIfInBounds_toArray, List.set_cons_zero, List.set_cons_succ])
  refine take_at (v := ?_) 2 (some 11) rfl (by kernel_rfl) (by kernel_rfl) (by kernel_rfl) (by kernel_rfl) (fun _ _ _ h => h) (Or.inl ⟨by rfl, ?_⟩) (by assumption) ?_
  rotate_left
  · intro w hSw; (try dsimp only at hSw); go_simp; try (with_reducible rfl)
  (try simp only [Act.put, List.setIfInBounds_toArray, List.set_cons_zero, List.set_cons_succ])
  refine take_at (v := ?_) 3 (some 12) rfl (by kernel_rfl) (by kernel_rfl) (by kernel_rfl) (by kernel_rfl) (fun _ _ _ h => h) (Or.inl ⟨by rfl, ?_⟩) (by assumption) ?_
  rotate_left
  · intro w hSw; (try dsimp only at hSw); go_simp; try (with_reducible rfl)
  (try simp only [Act.put, List.setIfInBounds_toArray, List.set_cons_zero, List.set_cons_succ])
  refine take_at (v := ?_) 4 (some 13) rfl (by kernel_rfl) (by kernel_rfl) (by kernel_rfl) (by kernel_rfl) (fun _ _ _ h => h) (Or.inl ⟨by rfl, ?_⟩) (by assumption) ?_
  rotate_left
  · intro w hSw; (try dsimp only at hSw); go_simp; try (with_reducible rfl)
  (try simp only [Act.put, List.setIfInBounds_toArray, List.set_cons_zero, List.set_cons_succ])
  refine take_at (v := ?_) 6 (some 15) rfl (by kernel_rfl) (by kernel_rfl) (by kernel_rfl) (by kernel_rfl) (fun _ _ _ h => h) (Or.inl ⟨by rfl, ?_⟩) (by assumption) ?_
  rotate_left
  · intro w hSw; (try dsimp only at hSw); go_simp; try (with_reducible rfl)
  (try simp only [Act.put, List.setIfInBounds_toArray, List.set_cons_zero, List.set_cons_succ])
  have hx := H1.out.x
  have hy := H1.out.y
  refine wpAnyH_ready (rs := [5]) (by kernel_rfl) (by simp) ?_
  refine AllReadyH.cons rfl (fun K hK => ?_) AllReadyH.nil
  go_simp
  refine hK.out _ _ hHeld (fun _ => ?_)
  clear hK K hx hy
  (try simp only [Act.put, List.setIfInBounds_toArray, List.set_cons_zero, List.set_cons_succ])
  refine wpAnyH_ready (rs := [7]) (by kernel_rfl) (by simp) ?_
  refine AllReadyH.cons rfl (fun K hK => ?_) AllReadyH.nil
  go_simp
  refine (sameA_any _ _ _ _ _).mono ?_
  rw [show (x == p && y == q) = false by exact hq]
  rintro e w2 ⟨rfl, c2⟩
  have k2 : (w2.cell? ⟨w.heap.size, 0, none⟩ = some (.int .i64 p) ∧ w2.cell? ⟨w.heap.size, 1, none⟩ = some (.int .i64 q)) ∧ w2.cell? ⟨w.heap.size + 1, 0, none⟩ = some (.int .i64 m) ∧ w2.cell? ⟨w.heap.size + 1, 1, none⟩ = some (.int .i64 n) :=
    ⟨⟨c2.keeps hHeld.1.1 (fun e => e), c2.keeps hHeld.1.2 (fun e => e)⟩, c2.keeps hHeld.2.1 (fun e => e), c2.keeps hHeld.2.2 (fun e => e)⟩
  refine hK.out _ _ k2 (fun _ => ?_)
  clear hK K
  (try simp only [Act.put, List.setIfInBounds_toArray, List.set_cons_zero, List.set_cons_succ])
  have H2 := Lib.hid (H1.out.kept c2 (fun e => e))
  refine wpAnyH_ready (rs := [8]) (by kernel_rfl) (by simp) ?_
  refine AllReadyH.cons rfl (fun K hK => ?_) AllReadyH.nil
  go_simp
  refine (changeA_no b x y l t u m n _ H2.out).mono ?_
  rintro e w3 ⟨rfl, hw3⟩
  have c3 : Ch (One b) w2 w3 := by rw [hw3]; exact ch_no _ _ _ _
  skip
  have k3 : (w3.cell? ⟨w.heap.size, 0, none⟩ = some (.int .i64 p) ∧ w3.cell? ⟨w.heap.size, 1, none⟩ = some (.int .i64 q)) ∧ w3.cell? ⟨w.heap.size + 1, 0, none⟩ = some (.int .i64 m) ∧ w3.cell? ⟨w.heap.size + 1, 1, none⟩ = some (.int .i64 n) :=
    ⟨⟨c3.keeps k2.1.1 nb, c3.keeps k2.1.2 nb⟩, c3.keeps k2.2.1 nb2, c3.keeps k2.2.2 nb2⟩
  clear hw3
  refine hK.out _ _ k3 (fun _ => ?_)
  clear hK K
  (try simp only [Act.put, List.setIfInBounds_toArray, List.set_cons_zero, List.set_cons_succ])
  clear hHeld k2
  refine take_at (v := ?_) 9 (some 6) rfl (by kernel_rfl) (by kernel_rfl) (by kernel_rfl) (by kernel_rfl) (fun _ _ _ h => h) (Or.inl ⟨by rfl, ?_⟩) (by assumption) ?_
  rotate_left
  · intro w hSw; (try dsimp only at hSw); go_simp; try (with_reducible rfl)
  (try simp only [Act.put, List.setIfInBounds_toArray, List.set_cons_zero, List.set_cons_succ])
  refine wpAnyH_done (by kernel_rfl) ?_ _
  go_wp2
  go_ret
  exact ⟨rfl, ((c0.trans c2).mono (S' := One b) (fun _ _ h => h.elim)).trans c3⟩
end Go.Proofs.Ytnflieejfegnhaa
