/-
  'for x := range f': a law of our own for a loop that runs out, whose iterator turns a channel and makes memory of its own between the rounds.
-/
import Derived.Test.YtpddiphknpplcaaListRange
namespace Go.Proofs.Ytpddiphknpplcaa
open Go.RowKit
set_option linter.unusedVariables false

/-- how a round is left: it goes on; what is free for the iterator stands -/
def rotPost (B : Nat) (I : Nat → World → Prop) (Fr : World → Nat → Prop) (k : Nat) (W : World) : Exit → Act → World → Prop
  | .normal, _, W' => KeepsFrom B W W' ∧ I k W' ∧ ∀ t, t < W.heap.size → Fr W t → W'.heap[t]? = W.heap[t]? ∧ Fr W' t
  | _, _, _ => False

/-- what is asked of the iterator: c is what its channel, in block cb, holds; F are the blocks that no round turns -/
def TellsRot (n : Nat) (P : Program) (gf : Nat) (args : Nat → Array Value) (N : Nat) (val : Nat → Value) (cb : Nat) (I : Nat → Obj → World → Prop) (c0 : Obj) (End : Obj → Prop) : Prop :=
  ∀ (l : Nat) (J : Nat → Obj → World → Prop) (F : World → Nat → Prop) (W : World), (∀ k c W, J k c W → I k c W) →
    (∀ k c c' W W', J k c W → Ch (One cb) W W' → W'.heap[cb]? = some c' → J k c' W') →
    (∀ k c W W' t, J k c W → Ch Nil W W' → W.heap.size ≤ t → F W' t) →
    (∀ k c W1, J k c W1 → k < N → YieldAt Fence.wide (n - 1) P l #[val k] W1 fun e W' => e = .returned (.bool true) ∧ J (k + 1) c W' ∧ ∀ t, t < W1.heap.size → F W1 t → W'.heap[t]? = W1.heap[t]? ∧ F W' t) → J 0 c0 W →
    CallsIn Fence.wide n P gf (args l) W fun e W' => (∃ v, e = .returned v) ∧ ∃ c, End c ∧ J N c W'

theorem range_rot {n : Nat} {P : Program} {g : Operand} {ps : Array Tmp} {assign body : Code} {Q : Exit → Act → World → Prop} {a : Act} {w : World} {gf : Nat} {ba : Array Value}
    (hg : a.eval g = .func (.func gf) ba #[]) (eg : ∀ args w, (callFunc gf args).run P w = .ok (.enter gf args) w)
    (N : Nat) (val : Nat → Value) (hps : ps.size = 1) (cb : Nat) (hcb : cb < w.heap.size) (I : Nat → Obj → World → Prop) (Fr : World → Nat → Prop) (c0 : Obj) (End : Obj → Prop)
    (hI : ∀ c, Steady w.heap.size (fun k => I k c)) (hF : ∀ t, Steady w.heap.size (fun _ W => Fr W t))
    (hT : ∀ k c c' W W', I k c W → Ch (One cb) W W' → W'.heap[cb]? = some c' → I k c' W')
    (hA : ∀ k c W W' t, I k c W → Ch Nil W W' → W.heap.size ≤ t → Fr W' t)
    (h0 : I 0 c0 w)
    (hit : TellsRot (n - 1) P gf (fun l => ba ++ #[.func (.yield l) #[] #[]]) N val cb I c0 End) (a₁ : Nat → Act)
    (hassign : ∀ (l k : Nat) (W : World) (K : Act → World → Prop), K (a₁ k) W →
      assign.wpIn (Fence.wide.inRound l) (n - 1 - 1) P (Exit.then K (fun _ _ _ => False)) { tmps := (ps.zip #[val k]).foldl (fun t (p, v) => t.setIfInBounds p v) a.tmps, defers := [] } W)
    (hbody : ∀ (l k : Nat) (c : Obj) (W : World), I k c W → k < N → body.wpIn (Fence.wide.inRound l) (n - 1 - 1) P (rotPost w.heap.size (fun k => I k c) Fr (k + 1) W) (a₁ k) W)
    (hdone : ∀ (D : Nat) (c : Obj) (W : World), w.heap.size ≤ D → End c → I N c W → W.heap[D]? = some (.deferred (some [])) → Q .normal { a with defers := { target := .collected D, args := #[] } :: a.defers } W) :
    (Code.rangeFunc g ps assign body).wpIn Fence.wide n P Q a w := by
  refine wpIn_rangeFunc ?_
  intro fn hfn
  obtain ⟨D, hD⟩ : ∃ D, D = w.heap.size := ⟨_, rfl⟩
  obtain ⟨rec, hrec⟩ : ∃ rec : LoopState → Loop, rec = fun st => { state := st, pending := none, fn, tmps := a.tmps, params := ps, assign, body, defers := D } := ⟨_, rfl⟩
  obtain ⟨W1, hW1⟩ : ∃ W1, W1 = (w.alloc (.deferred (some []))).alloc (.loop (rec .ready)) := ⟨_, rfl⟩
  have hs1 : (w.alloc (.deferred (some []))).heap.size = D + 1 := by rw [World.size_alloc, hD]
  have hK1 : W1.heap[D]? = some (.deferred (some [])) := by
    rw [hW1, Below.heap_alloc _ _ _ (by omega), hD]; exact World.alloc_heap_new w _
  have hL1 : W1.heap[D + 1]? = some (.loop (rec .ready)) := by
    rw [hW1, ← hs1]; exact World.alloc_heap_new _ _
  have hI1 : I 0 c0 W1 := by rw [hW1]; exact (hI c0).new _ ((hI c0).new _ h0 (Nat.le_refl _)) (by rw [World.size_alloc]; omega)
  let J : Nat → Obj → World → Prop := fun k c W => I k c W ∧ W.heap[D + 1]? = some (.loop (rec .ready)) ∧ W.heap[D]? = some (.deferred (some []))
  let F : World → Nat → Prop := fun W t => Fr W t ∧ t ≠ D + 1
  refine ⟨D + 1, [{ target := .collected D, args := #[] }], W1, { target := .fn (.func gf) #[], args := ba ++ #[.func (.yield (D + 1)) #[] #[]] }, W1, gf, ba ++ #[.func (.yield (D + 1)) #[] #[]], W1, ?_, ?_, fun _ _ => trivial, ?_, fun h => (by cases h), ?_⟩
  · rw [hW1, hrec, hD]; exact run_enterLoop_outer fn a.tmps ps assign body
  · simp only [resolve, hg]; simp [go_sem]
  · simp [invoke, go_sem, eg]
  · refine (hit (D + 1) J F W1 (fun k c W h => h.1) ?_ ?_ ?_ ⟨hI1, hL1, hK1⟩).mono ?_
    · rintro k c c' W W' ⟨hi, hl, hk⟩ ch hc'
      have l1 := (Array.getElem?_eq_some_iff.1 hl).1
      have l2 := (Array.getElem?_eq_some_iff.1 hk).1
      exact ⟨hT k c c' W W' hi ch hc', (ch.block _ l1 (fun e => by have : D + 1 = cb := e; omega)).trans hl, (ch.block _ l2 (fun e => by have : D = cb := e; omega)).trans hk⟩
    · rintro k c W W' t ⟨hi, hl, hk⟩ ch ht
      have l1 := (Array.getElem?_eq_some_iff.1 hl).1
      exact ⟨hA k c W W' t hi ch ht, by omega⟩
    · rintro k c W ⟨hi, hl, hk⟩ hkN
      have hlt := (Array.getElem?_eq_some_iff.1 hl).1
      have hy := run_yield (P := P) (args := #[val k]) hl (by rw [hrec]; simp [hps])
      rw [hrec] at hy
      refine ⟨fn, _, assign, body, hy, roundIn_of_wpIn hfn (hassign _ k W _ ⟨_, run_beginRound hl (by rw [hrec]), ?_⟩)⟩
      refine wpIn_mono (hbody _ k c _ ((hI c).put _ hi (by omega) hl rfl) hkN) ?_
      rintro e a3 W3 hp
      cases e with
      | normal =>
        obtain ⟨kf, hi3, hf3⟩ := hp
        have hl3 := kf.same _ _ (by omega) (World.putObj_heap_same hlt) rfl
        have hk3 := kf.same _ _ (Nat.le_of_eq hD.symm) ((World.putObj_heap_other (by omega)).trans hk) rfl
        refine ⟨_, _, run_endRound none hl3, rfl, ⟨(hI c).put _ hi3 (by omega) hl3 rfl, ?_, (World.putObj_heap_other (by omega)).trans hk3⟩, ?_⟩
        · rw [World.putObj_heap_same (Array.getElem?_eq_some_iff.1 hl3).1, hrec]; rfl
        · rintro t ht ⟨hfr, hne⟩
          obtain ⟨q1, q2⟩ := hf3 t (by simpa using ht) ((hF t).put (k := 0) _ hfr (by omega) hl rfl)
          exact ⟨(World.putObj_heap_other hne).trans (q1.trans (World.putObj_heap_other hne)), (hF t).put (k := 0) _ q2 (by omega) hl3 rfl, hne⟩
      | ret => exact hp.elim
      | exit id => exact hp.elim
      | goto t => exact hp.elim
      | panic ch => exact hp.elim
      | outgrown => exact hp.elim
    · rintro e W2 ⟨⟨v, rfl⟩, c, hend, hi, hl, hk⟩
      have hE := run_endLoop (P := P) hl (by rw [hrec]; simp)
      have hp : (rec .ready).pending = none := by rw [hrec]
      rw [hp] at hE
      exact ⟨none, _, hE, hdone D c _ (Nat.le_of_eq hD.symm) hend ((hI c).put _ hi (by omega) hl rfl) ((World.putObj_heap_other (by omega)).trans hk)⟩
end Go.Proofs.Ytpddiphknpplcaa
