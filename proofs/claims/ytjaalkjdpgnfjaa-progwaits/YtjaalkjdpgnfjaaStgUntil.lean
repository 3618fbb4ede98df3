/-
  Until: the stage of both functions; a state of nothing.
-/
import Derived.Test.YtjaalkjdpgnfjaaStgPg
namespace Go.Proofs.Ytjaalkjdpgnfjaa
open Go.RowKit Verge
attribute [local go_sem] Oper.semAt_some
set_option linter.unusedVariables false
set_option linter.unusedSimpArgs false
/-- nothing is owned -/
def Triv : Own where
  P M w := ∀ k, ¬ M k
  lt M w h k hk := absurd hk (h k)
  ag M w w' h c := h
set_option maxHeartbeats 1000000 in
theorem until_ff (K : Nat) (c : Array Value) (K' : Nat) (c' : Array Value) (w : World) :
    Calls Try.prog 18 #[(.func (.func K) #[] c), (.func (.func K') #[] c')] w fun e w' => e = .returned (.agg #[(.func (.func K) #[] c), (.func (.func K') #[] c')]) ∧ Ch Nil w w' := by
  have c0 : Ch Nil w (w.alloc (.cells #[.nilFunc, .nilFunc] 31)) := (Ch.refl _ _).alloc _
  have z0 : (w.alloc (.cells #[.nilFunc, .nilFunc] 31)).cell? ⟨w.heap.size, 0, none⟩ = some .nilFunc := by rw [cell_fresh]; rfl
  have z1 : (w.alloc (.cells #[.nilFunc, .nilFunc] 31)).cell? ⟨w.heap.size, 1, none⟩ = some .nilFunc := by rw [cell_fresh]; rfl
  have hfz := (Blk.new w #[.nilFunc, .nilFunc] 31).fz
  have t1 := run_store_fn
  have t2 := IsFn.store (v := .nilFunc) (.inl rfl)
  go_enter Try.func18, Try.ntmps18
  go_upto_region 1 with (fail)
  generalize w.alloc (.cells #[.nilFunc, .nilFunc] 31) = w0 at c0 z0 z1 hfz ⊢
  go_wp2
  have cS : Ch (One w.heap.size) w0 ((w0.setCell ⟨w.heap.size, 0, none⟩ (.func (.func K) #[] c)).setCell ⟨w.heap.size, 1, none⟩ (.func (.func K') #[] c')) := ((Ch.refl _ _).setB _ _).setB _ _
  (try simp only [Exit.inBlock, Exit.then])
  refine bodyPost_ret (v := .agg #[(.func (.func K) #[] c), (.func (.func K') #[] c')]) (by simp [results, Try.results18, go_sem, z0, z1, cell_set]) rfl ?_
  exact ⟨rfl, c0.then cS (fun i hi e => by have e' : i = w.heap.size := e; omega)⟩
set_option maxHeartbeats 1000000 in
theorem until_fn (K : Nat) (c : Array Value) (w : World) :
    Calls Try.prog 18 #[(.func (.func K) #[] c), .nilFunc] w fun e w' => e = .returned (.agg #[(.func (.func K) #[] c), .nilFunc]) ∧ Ch Nil w w' := by
  have c0 : Ch Nil w (w.alloc (.cells #[.nilFunc, .nilFunc] 31)) := (Ch.refl _ _).alloc _
  have z0 : (w.alloc (.cells #[.nilFunc, .nilFunc] 31)).cell? ⟨w.heap.size, 0, none⟩ = some .nilFunc := by rw [cell_fresh]; rfl
  have z1 : (w.alloc (.cells #[.nilFunc, .nilFunc] 31)).cell? ⟨w.heap.size, 1, none⟩ = some .nilFunc := by rw [cell_fresh]; rfl
  have hfz := (Blk.new w #[.nilFunc, .nilFunc] 31).fz
  have t1 := run_store_fn
  have t2 := IsFn.store (v := .nilFunc) (.inl rfl)
  go_enter Try.func18, Try.ntmps18
  go_upto_region 1 with (fail)
  generalize w.alloc (.cells #[.nilFunc, .nilFunc] 31) = w0 at c0 z0 z1 hfz ⊢
  go_wp2
  have cS : Ch (One w.heap.size) w0 ((w0.setCell ⟨w.heap.size, 0, none⟩ (.func (.func K) #[] c)).setCell ⟨w.heap.size, 1, none⟩ .nilFunc) := ((Ch.refl _ _).setB _ _).setB _ _
  (try simp only [Exit.inBlock, Exit.then])
  refine bodyPost_ret (v := .agg #[(.func (.func K) #[] c), .nilFunc]) (by simp [results, Try.results18, go_sem, z0, z1, cell_set]) rfl ?_
  exact ⟨rfl, c0.then cS (fun i hi e => by have e' : i = w.heap.size := e; omega)⟩
end Go.Proofs.Ytjaalkjdpgnfjaa
