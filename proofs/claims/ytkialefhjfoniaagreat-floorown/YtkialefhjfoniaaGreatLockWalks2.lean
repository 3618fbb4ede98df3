/-
  Contracts of the lock's closures and of its functions.
-/
import Derived.Test.YtkialefhjfoniaaGreatLockWalks1
namespace Go.Proofs.YtkialefhjfoniaaGreat
open Go.RowKit
attribute [local go_sem] Oper.semAt_some
set_option linter.unusedVariables false
set_option linter.unusedSimpArgs false

theorem results_cell_tmp {fn : Func} {P : Program} {w : World} {a b : Value} {tmps : Array Value} (h : (results fn tmps).run P w = .ok (.tuple #[a, b]) w) : (results fn tmps).run P w = .ok (.tuple #[a, b]) w := h
section
variable {w w' : World} {B A : Nat} {o : Int} {t : Bool} {n who : Int}
/-- what the closures read: the value's box, the box of who -/
abbrev KS (B A : Nat) (o : Int) (t : Bool) (n who : Int) (w : World) : Prop :=
  (w.cell? ⟨B, 0, none⟩ = some (.int .i64 o) ∧ w.cell? ⟨B, 1, none⟩ = some (.bool t)) ∧ w.cell? ⟨B, 2, none⟩ = some (.int .i64 n) ∧ w.cell? ⟨A, 0, none⟩ = some (.int .i64 who)
theorem KS_kept (h : KS B A o t n who w) (c : Ch Nil w w') : KS B A o t n who w' :=
  ⟨⟨c.keeps h.1.1 (fun e => e), c.keeps h.1.2 (fun e => e)⟩, c.keeps h.2.1 (fun e => e), c.keeps h.2.2 (fun e => e)⟩
/-- a fresh box -/
theorem isHb_new (w : World) (o : Int) (t : Bool) (n : Int) (T : TypeId) : IsHb (w.alloc (.cells #[.int .i64 o, .bool t, .int .i64 n] T)) w.heap.size o t n := by
  constructor <;> simp [go_sem]
end
set_option maxHeartbeats 4000000 in
theorem try1_any (o : Int) (t : Bool) (n who : Int) (A : Nat) (w : World) (h : w.cell? ⟨A, 0, none⟩ = some (.int .i64 who)) :
    Calls Tryz.prog 60 #[hv o t n, .pointer (some ⟨A, 0, none⟩)] w fun e w' => e = .returned (.tuple #[hv who true (wrap64 (n + 1)), .bool (opn t who)]) ∧ Ch Nil w w' := by
  go_enter Tryz.func60, Tryz.ntmps60
  go_wp2
  have c0 : Ch Nil w ((w.alloc (.cells #[.int .i64 o, .bool t, .int .i64 n] 115)).alloc (.cells #[.int .i64 0, .bool false, .int .i64 0] 115)) := ((Ch.refl _ _).alloc _).alloc _
  have hb : IsHb ((w.alloc (.cells #[.int .i64 o, .bool t, .int .i64 n] 115)).alloc (.cells #[.int .i64 0, .bool false, .int .i64 0] 115)) w.heap.size o t n := (isHb_new w o t n _).kept (S := Nil) ((Ch.refl _ _).alloc _) (fun e => e)
  have hc : IsHb ((w.alloc (.cells #[.int .i64 o, .bool t, .int .i64 n] 115)).alloc (.cells #[.int .i64 0, .bool false, .int .i64 0] 115)) (w.heap.size + 1) 0 false 0 := by
    have := isHb_new (w.alloc (.cells #[.int .i64 o, .bool t, .int .i64 n] 115)) 0 false 0 115
    rwa [show (w.alloc (.cells #[.int .i64 o, .bool t, .int .i64 n] 115)).heap.size = w.heap.size + 1 by simp] at this
  generalize (w.alloc (.cells #[.int .i64 o, .bool t, .int .i64 n] 115)).alloc (.cells #[.int .i64 0, .bool false, .int .i64 0] 115) = w0 at c0 hb hc ⊢
  have b0 : KS w.heap.size A o t n who w0 := ⟨⟨hb.o, hb.t⟩, hb.n, c0.keeps h (fun e => e)⟩
  refine wp_region_held_drew (S := fun w' => (w'.cell? ⟨w.heap.size, 0, none⟩ = some (.int .i64 o) ∧ w'.cell? ⟨w.heap.size, 1, none⟩ = some (.bool t)) ∧ w'.cell? ⟨w.heap.size, 2, none⟩ = some (.int .i64 n) ∧ w'.cell? ⟨A, 0, none⟩ = some (.int .i64 who)) (by kernel_rfl) b0 (fun hHeld => ?_)
  have C0 := Lib.hid c0.drew
  have HC := Lib.hid (hc.kept (S := Nil) ((Ch.refl _ _).drew) (fun e => e))
  have HA : Hid (A ≠ w.heap.size + 1) := Lib.hid (by have := lt_of_cell h; show A ≠ _; have e : A < w.heap.size := this; omega)
  clear b0 hb hc c0 h
  generalize w0.drew = w1 at C0 HC hHeld ⊢
  refine take_at (v := ?_) 0 (some 5) rfl (by kernel_rfl) (by kernel_rfl) (by kernel_rfl) (by kernel_rfl) (fun _ _ _ h => h) (Or.inl ⟨by rfl, ?_⟩) (by assumption) ?_
  rotate_left
  · intro w hSw; (try dsimp only at hSw); go_simp; try (with_reducible rfl)
  (try simp only [Act.put, List.setIfInBounds_toArray, List.set_cons_zero, List.set_cons_succ])
  refine take_at (v := ?_) 1 (some 6) rfl (by kernel_rfl) (by kernel_rfl) (by kernel_rfl) (by kernel_rfl) (fun _ _ _ h => h) (Or.inl ⟨by rfl, ?_⟩) (by assumption) ?_
  rotate_left
  · intro w hSw; (try dsimp only at hSw); go_simp; try (with_reducible rfl)
  (try simp only [Act.put, List.setIfInBounds_toArray, List.set_cons_zero, List.set_cons_succ])
  refine take_at (v := ?_) 3 (some 8) rfl (by kernel_rfl) (by kernel_rfl) (by kernel_rfl) (by kernel_rfl) (fun _ _ _ h => h) (Or.inl ⟨by rfl, ?_⟩) (by assumption) ?_
  rotate_left
  · intro w hSw; (try dsimp only at hSw); go_simp; try (with_reducible rfl)
  (try simp only [Act.put, List.setIfInBounds_toArray, List.set_cons_zero, List.set_cons_succ])
  refine take_at (v := ?_) 4 (some 9) rfl (by kernel_rfl) (by kernel_rfl) (by kernel_rfl) (by kernel_rfl) (fun _ _ _ h => h) (Or.inl ⟨by rfl, ?_⟩) (by assumption) ?_
  rotate_left
  · intro w hSw; (try dsimp only at hSw); go_simp; try (with_reducible rfl)
  (try simp only [Act.put, List.setIfInBounds_toArray, List.set_cons_zero, List.set_cons_succ])
  refine wpAnyH_ready (rs := [2]) (by kernel_rfl) (by simp) ?_
  refine AllReadyH.cons rfl (fun K hK => ?_) AllReadyH.nil
  go_simp
  refine (takenBy_any _ _ _ _ _).mono ?_
  rintro e w2 ⟨rfl, c2⟩
  refine hK.out _ _ (KS_kept hHeld c2) (fun hHeld => ?_)
  clear hK K
  (try simp only [Act.put, List.setIfInBounds_toArray, List.set_cons_zero, List.set_cons_succ])
  refine wpAnyH_ready (rs := [5]) (by kernel_rfl) (by simp) ?_
  refine AllReadyH.cons rfl (fun K hK => ?_) AllReadyH.nil
  go_simp
  refine (open_any _ _ _ _ _).mono ?_
  rintro e w3 ⟨rfl, c3⟩
  refine hK.out _ _ (KS_kept hHeld c3) (fun hHeld => ?_)
  clear hK K
  (try simp only [Act.put, List.setIfInBounds_toArray, List.set_cons_zero, List.set_cons_succ])
  have C3 := Lib.hid ((C0.out.trans c2).trans c3)
  have H3 := (HC.out.kept (S := Nil) (c2.trans c3) (fun e => e))
  have k3 := hHeld
  clear C0 HC c2 c3
  have ho := H3.o
  have ht := H3.t
  have hn := H3.n
  have hf := H3.f
  refine wpAnyH_ready (rs := [6]) (by kernel_rfl) (by simp) ?_
  refine AllReadyH.cons rfl (fun K hK => ?_) AllReadyH.nil
  go_simp
  have cS : Ch (One (w.heap.size + 1)) w3 (((w3.setCell ⟨w.heap.size + 1, 0, none⟩ (.int .i64 who)).setCell ⟨w.heap.size + 1, 1, none⟩ (.bool true)).setCell ⟨w.heap.size + 1, 2, none⟩ (.int .i64 (wrap64 (n + 1)))) := (((Ch.refl _ _).setB _ _).setB _ _).setB _ _
  have hA : A ≠ w.heap.size + 1 := HA.out
  refine hK.out _ _ ⟨⟨cS.keeps k3.1.1 (by show ¬ w.heap.size = w.heap.size + 1; omega), cS.keeps k3.1.2 (by show ¬ w.heap.size = w.heap.size + 1; omega)⟩, cS.keeps k3.2.1 (by show ¬ w.heap.size = w.heap.size + 1; omega), cS.keeps k3.2.2 hA⟩ (fun hHeld => ?_)
  clear hK K
  (try simp only [Act.put, List.setIfInBounds_toArray, List.set_cons_zero, List.set_cons_succ])
  refine take_at (v := ?_) 7 (some 4) rfl (by kernel_rfl) (by kernel_rfl) (by kernel_rfl) (by kernel_rfl) (fun _ _ _ h => h) (Or.inl ⟨by rfl, ?_⟩) (by assumption) ?_
  rotate_left
  · intro w hSw; (try dsimp only at hSw); go_simp; try (with_reducible rfl)
  (try simp only [Act.put, List.setIfInBounds_toArray, List.set_cons_zero, List.set_cons_succ])
  refine wpAnyH_done (by kernel_rfl) ?_ _
  go_wp2
  refine bodyPost_ret (v := .tuple #[hv who true (wrap64 (n + 1)), .bool (opn t who)]) (by simp [results, Tryz.results60, go_sem, ho, ht, hn]) rfl ⟨rfl, ?_⟩
  exact C3.out.then cS (fun i hi e => by have : i = w.heap.size + 1 := e; omega)
/-- does it become nobody's? -/
def lvs (t : Bool) (o who : Int) : Bool := t && (o == who)
end Go.Proofs.YtkialefhjfoniaaGreat
