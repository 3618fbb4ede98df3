/-
  'for x := range f': a law of our own for a loop that runs out, whose rounds are told by their number: what holds between two rounds may be all that the iterator reads.
-/
import Derived.Test.YtjaalkjdpgnfjaaCellMem
import Derived.RangeFuncNested
import Derived.RangeFuncBound
import Derived.RangeFuncCalls
import Derived.RangeFuncLeaves
namespace Go.Proofs.Ytjaalkjdpgnfjaa
open Go.RowKit
set_option linter.unusedVariables false

/-- no cells lie in block r -/
def NoCells (W : World) (r : Nat) : Prop := ∀ o, W.heap[r]? = some o → o.isCells = false
/-- what stands though a block behind B that holds no cells turns -/
def Steady (B : Nat) (I : Nat → World → Prop) : Prop := ∀ k W W' r, I k W → Ch (One r) W W' → B ≤ r → NoCells W r → I k W'
theorem NoCells.of_loop {W : World} {r : Nat} {o : Obj} (h : W.heap[r]? = some o) (ho : o.isCells = false) : NoCells W r := fun o' h' => by rw [h] at h'; cases h'; exact ho
theorem NoCells.new (W : World) : NoCells W W.heap.size := fun o h => by simp at h
theorem NoCells.cell {W : World} {r : Nat} (h : NoCells W r) {p : Addr} {v : Value} (hc : W.cell? p = some v) : p.block ≠ r := by
  intro e
  unfold World.cell? at hc
  rw [e] at hc
  cases ho : W.heap[r]? with
  | none => simp [ho] at hc
  | some o =>
    have := h o ho
    cases o <;> simp_all [Obj.isCells]
theorem NoCells.row {W : World} {r g : Nat} (h : NoCells W r) {cs : Array Value} {t : TypeId} {z : Nat × Nat} (hg : W.heap[g]? = some (.cells cs t z)) : g ≠ r := by
  rintro rfl
  have := h _ hg
  simp [Obj.isCells] at this
theorem Ch.put {W : World} (r : Nat) (o : Obj) : Ch (One r) W (W.putObj r o) := ⟨rfl, rfl, rfl, by simp, fun k _ hk => World.putObj_heap_other hk⟩
theorem Steady.put {B : Nat} {I : Nat → World → Prop} (h : Steady B I) {k : Nat} {W : World} {r : Nat} {o : Obj} (o' : Obj) (hi : I k W) (hB : B ≤ r) (ho : W.heap[r]? = some o) (hc : o.isCells = false) : I k (W.putObj r o') :=
  h k W _ r hi (Ch.put r o') hB (.of_loop ho hc)
theorem Steady.new {B : Nat} {I : Nat → World → Prop} (h : Steady B I) {k : Nat} {W : World} (o : Obj) (hi : I k W) (hB : B ≤ W.heap.size) : I k (W.alloc o) :=
  h k W _ W.heap.size hi ((Ch.refl _ _).alloc o) hB (.new W)

/-- how a round is left: it goes on -/
def allPost (B : Nat) (I : Nat → World → Prop) (k : Nat) (W : World) : Exit → Act → World → Prop
  | .normal, _, W' => KeepsFrom B W W' ∧ I k W'
  | _, _, _ => False

/-- what is asked of the iterator: whatever the caller's word J of the rounds, as long as it tells I -/
def TellsAll (n : Nat) (P : Program) (gf : Nat) (args : Nat → Array Value) (N : Nat) (val : Nat → Value) (I : Nat → World → Prop) : Prop :=
  ∀ (l : Nat) (J : Nat → World → Prop) (W : World), (∀ k W, J k W → I k W) →
    (∀ k W1, J k W1 → k < N → YieldAt Fence.wide (n - 1) P l #[val k] W1 fun e W' => e = .returned (.bool true) ∧ J (k + 1) W') → J 0 W →
    CallsIn Fence.wide n P gf (args l) W fun e W' => (∃ v, e = .returned v) ∧ J N W'

theorem range_all {n : Nat} {P : Program} {g : Operand} {ps : Array Tmp} {assign body : Code} {Q : Exit → Act → World → Prop} {a : Act} {w : World} {gf : Nat} {ba : Array Value}
    (hg : a.eval g = .func (.func gf) ba #[]) (eg : ∀ args w, (callFunc gf args).run P w = .ok (.enter gf args) w)
    (N : Nat) (val : Nat → Value) (hps : ps.size = 1) (I : Nat → World → Prop) (hI : Steady w.heap.size I) (h0 : I 0 w)
    (hit : TellsAll (n - 1) P gf (fun l => ba ++ #[.func (.yield l) #[] #[]]) N val I) (a₁ : Nat → Act)
    (hassign : ∀ (l k : Nat) (W : World) (K : Act → World → Prop), K (a₁ k) W →
      assign.wpIn (Fence.wide.inRound l) (n - 1 - 1) P (Exit.then K (fun _ _ _ => False)) { tmps := (ps.zip #[val k]).foldl (fun t (p, v) => t.setIfInBounds p v) a.tmps, defers := [] } W)
    (hbody : ∀ (l k : Nat) (W : World), I k W → k < N → body.wpIn (Fence.wide.inRound l) (n - 1 - 1) P (allPost w.heap.size I (k + 1) W) (a₁ k) W)
    (hdone : ∀ (D : Nat) (W : World), w.heap.size ≤ D → I N W → W.heap[D]? = some (.deferred (some [])) → Q .normal { a with defers := { target := .collected D, args := #[] } :: a.defers } W) :
    (Code.rangeFunc g ps assign body).wpIn Fence.wide n P Q a w := by
  refine wpIn_rangeFunc ?_
  intro fn hfn
  -- the block for deferred calls lies at w's end, the loop's record behind it
  obtain ⟨D, hD⟩ : ∃ D, D = w.heap.size := ⟨_, rfl⟩
  obtain ⟨rec, hrec⟩ : ∃ rec : LoopState → Loop, rec = fun st => { state := st, pending := none, fn, tmps := a.tmps, params := ps, assign, body, defers := D } := ⟨_, rfl⟩
  obtain ⟨W1, hW1⟩ : ∃ W1, W1 = (w.alloc (.deferred (some []))).alloc (.loop (rec .ready)) := ⟨_, rfl⟩
  have hs1 : (w.alloc (.deferred (some []))).heap.size = D + 1 := by rw [World.size_alloc, hD]
  have hK1 : W1.heap[D]? = some (.deferred (some [])) := by
    rw [hW1, Below.heap_alloc _ _ _ (by omega), hD]; exact World.alloc_heap_new w _
  have hL1 : W1.heap[D + 1]? = some (.loop (rec .ready)) := by
    rw [hW1, ← hs1]; exact World.alloc_heap_new _ _
  have hI1 : I 0 W1 := by rw [hW1]; exact hI.new _ (hI.new _ h0 (Nat.le_refl _)) (by rw [World.size_alloc]; omega)
  -- between two rounds: I, the record ready, no deferred call
  let J : Nat → World → Prop := fun k W => I k W ∧ W.heap[D + 1]? = some (.loop (rec .ready)) ∧ W.heap[D]? = some (.deferred (some []))
  refine ⟨D + 1, [{ target := .collected D, args := #[] }], W1, { target := .fn (.func gf) #[], args := ba ++ #[.func (.yield (D + 1)) #[] #[]] }, W1, gf, ba ++ #[.func (.yield (D + 1)) #[] #[]], W1, ?_, ?_, fun _ _ => trivial, ?_, fun h => (by cases h), ?_⟩
  · rw [hW1, hrec, hD]; exact run_enterLoop_outer fn a.tmps ps assign body
  · simp only [resolve, hg]; simp [go_sem]
  · simp [invoke, go_sem, eg]
  · refine (hit (D + 1) J W1 (fun k W h => h.1) ?_ ⟨hI1, hL1, hK1⟩).mono ?_
    · rintro k W ⟨hi, hl, hk⟩ hkN
      have hlt := (Array.getElem?_eq_some_iff.1 hl).1
      have hy := run_yield (P := P) (args := #[val k]) hl (by rw [hrec]; simp [hps])
      rw [hrec] at hy
      refine ⟨fn, _, assign, body, hy, roundIn_of_wpIn hfn (hassign _ k W _ ⟨_, run_beginRound hl (by rw [hrec]), ?_⟩)⟩
      refine wpIn_mono (hbody _ k _ (hI.put _ hi (by omega) hl rfl) hkN) ?_
      rintro e a3 W3 hp
      cases e with
      | normal =>
        obtain ⟨kf, hi3⟩ := hp
        have hl3 := kf.same _ _ (by omega) (World.putObj_heap_same hlt) rfl
        have hk3 := kf.same _ _ (Nat.le_of_eq hD.symm) ((World.putObj_heap_other (by omega)).trans hk) rfl
        refine ⟨_, _, run_endRound none hl3, rfl, hI.put _ hi3 (by omega) hl3 rfl, ?_, (World.putObj_heap_other (by omega)).trans hk3⟩
        rw [World.putObj_heap_same (Array.getElem?_eq_some_iff.1 hl3).1, hrec]; rfl
      | ret => exact hp.elim
      | exit id => exact hp.elim
      | goto t => exact hp.elim
      | panic ch => exact hp.elim
      | outgrown => exact hp.elim
    · rintro e W2 ⟨⟨v, rfl⟩, hi, hl, hk⟩
      have hE := run_endLoop (P := P) hl (by rw [hrec]; simp)
      have hp : (rec .ready).pending = none := by rw [hrec]
      rw [hp] at hE
      exact ⟨none, _, hE, hdone D _ (Nat.le_of_eq hD.symm) (hI.put _ hi (by omega) hl rfl) ((World.putObj_heap_other (by omega)).trans hk)⟩
end Go.Proofs.Ytjaalkjdpgnfjaa
