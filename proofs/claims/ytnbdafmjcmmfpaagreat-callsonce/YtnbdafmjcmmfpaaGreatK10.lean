import Derived.Test.YtnbdafmjcmmfpaaGreatK02
import Derived.Test.YtnbdafmjcmmfpaaGreatK08
import Derived.RangeFuncNested
import Derived.RangeFuncBound
import Derived.RangeFuncCalls
import Derived.RangeFuncLeaves
import Derived.Shelf.Abstract
import Derived.Shelf.RegionOpen
import Derived.WalkKit
import Derived.OwnWalkIn
import Derived.TacticsInMore
import Derived.LoopNIn
import Derived.LoopIn
import Derived.Lib.Hide
import Derived.IntWalk
import Derived.Test.YtnbdafmjcmmfpaaGreatK09
/-
  'for x := range f': a law of our own for a loop whose rounds are told by their number and may leave it (a return, a break).
-/
namespace Go.Proofs.YtnbdafmjcmmfpaaGreat
open Go.RowKit
set_option linter.unusedVariables false

/-- how a round is left: it goes on, or it leaves by a return or a break -/
def somePost (B : Nat) (I : Nat → World → Prop) (Ix : Code → Nat → World → Prop) (k : Nat) (W : World) : Exit → Act → World → Prop
  | .normal, _, W' => KeepsFrom B W W' ∧ I (k + 1) W'
  | .ret, _, W' => KeepsFrom B W W' ∧ Ix .ret k W'
  | .exit id, _, W' => KeepsFrom B W W' ∧ Ix (.exit id) k W'
  | _, _, _ => False

/-- what is asked of the iterator: whatever the caller's words J, Jx of the rounds, as long as J tells I -/
def TellsSome (n : Nat) (P : Program) (gf : Nat) (args : Nat → Array Value) (N : Nat) (val : Nat → Value) (I : Nat → World → Prop) : Prop :=
  ∀ (l : Nat) (J Jx : Nat → World → Prop) (W : World), (∀ k W, J k W → I k W) →
    (∀ k W1, J k W1 → k < N → YieldAt Fence.wide (n - 1) P l #[val k] W1 fun e W' => (e = .returned (.bool true) ∧ J (k + 1) W') ∨ (e = .returned (.bool false) ∧ Jx k W')) → J 0 W →
    CallsIn Fence.wide n P gf (args l) W fun e W' => (∃ v, e = .returned v) ∧ (J N W' ∨ ∃ k, k < N ∧ Jx k W')

theorem range_some {n : Nat} {P : Program} {g : Operand} {ps : Array Tmp} {assign body : Code} {Q : Exit → Act → World → Prop} {a : Act} {w : World} {gf : Nat} {ba : Array Value}
    (hg : a.eval g = .func (.func gf) ba #[]) (eg : ∀ args w, (callFunc gf args).run P w = .ok (.enter gf args) w)
    (N : Nat) (val : Nat → Value) (hps : ps.size = 1) (I : Nat → World → Prop) (Ix : Code → Nat → World → Prop) (hI : Steady w.heap.size I) (hIx : ∀ c, Steady w.heap.size (Ix c)) (h0 : I 0 w)
    (hit : TellsSome (n - 1) P gf (fun l => ba ++ #[.func (.yield l) #[] #[]]) N val I) (a₁ : Nat → Act)
    (hassign : ∀ (l k : Nat) (W : World) (K : Act → World → Prop), K (a₁ k) W →
      assign.wpIn (Fence.wide.inRound l) (n - 1 - 1) P (Exit.then K (fun _ _ _ => False)) { tmps := (ps.zip #[val k]).foldl (fun t (p, v) => t.setIfInBounds p v) a.tmps, defers := [] } W)
    (hbody : ∀ (l k : Nat) (W : World), I k W → k < N → body.wpIn (Fence.wide.inRound l) (n - 1 - 1) P (somePost w.heap.size I Ix k W) (a₁ k) W)
    (hdone : ∀ (D : Nat) (W : World), w.heap.size ≤ D → I N W → W.heap[D]? = some (.deferred (some [])) → Q .normal { a with defers := { target := .collected D, args := #[] } :: a.defers } W)
    (hstop : ∀ (D : Nat) (c : Code) (k : Nat) (W : World), w.heap.size ≤ D → k < N → Ix c k W → W.heap[D]? = some (.deferred (some [])) → c.wpIn Fence.wide n P Q { a with defers := { target := .collected D, args := #[] } :: a.defers } W) :
    (Code.rangeFunc g ps assign body).wpIn Fence.wide n P Q a w := by
  refine wpIn_rangeFunc ?_
  intro fn hfn
  obtain ⟨D, hD⟩ : ∃ D, D = w.heap.size := ⟨_, rfl⟩
  obtain ⟨rec, hrec⟩ : ∃ rec : LoopState → Option Code → Loop, rec = fun st pe => { state := st, pending := pe, fn, tmps := a.tmps, params := ps, assign, body, defers := D } := ⟨_, rfl⟩
  obtain ⟨W1, hW1⟩ : ∃ W1, W1 = (w.alloc (.deferred (some []))).alloc (.loop (rec .ready none)) := ⟨_, rfl⟩
  have hs1 : (w.alloc (.deferred (some []))).heap.size = D + 1 := by rw [World.size_alloc, hD]
  have hK1 : W1.heap[D]? = some (.deferred (some [])) := by
    rw [hW1, Below.heap_alloc _ _ _ (by omega), hD]; exact World.alloc_heap_new w _
  have hL1 : W1.heap[D + 1]? = some (.loop (rec .ready none)) := by
    rw [hW1, ← hs1]; exact World.alloc_heap_new _ _
  have hI1 : I 0 W1 := by rw [hW1]; exact hI.new _ (hI.new _ h0 (Nat.le_refl _)) (by rw [World.size_alloc]; omega)
  let J : Nat → World → Prop := fun k W => I k W ∧ W.heap[D + 1]? = some (.loop (rec .ready none)) ∧ W.heap[D]? = some (.deferred (some []))
  let Jx : Nat → World → Prop := fun k W => ∃ c, Ix c k W ∧ W.heap[D + 1]? = some (.loop (rec .done (some c))) ∧ W.heap[D]? = some (.deferred (some []))
  refine ⟨D + 1, [{ target := .collected D, args := #[] }], W1, { target := .fn (.func gf) #[], args := ba ++ #[.func (.yield (D + 1)) #[] #[]] }, W1, gf, ba ++ #[.func (.yield (D + 1)) #[] #[]], W1, ?_, ?_, fun _ _ => trivial, ?_, fun h => (by cases h), ?_⟩
  · rw [hW1, hrec, hD]; exact run_enterLoop_outer fn a.tmps ps assign body
  · simp only [resolve, hg]; simp [go_sem]
  · simp [invoke, go_sem, eg]
  · refine (hit (D + 1) J Jx W1 (fun k W h => h.1) ?_ ⟨hI1, hL1, hK1⟩).mono ?_
    · rintro k W ⟨hi, hl, hk⟩ hkN
      have hlt := (Array.getElem?_eq_some_iff.1 hl).1
      have hy := run_yield (P := P) (args := #[val k]) hl (by rw [hrec]; simp [hps])
      rw [hrec] at hy
      refine ⟨fn, _, assign, body, hy, roundIn_of_wpIn hfn (hassign _ k W _ ⟨_, run_beginRound hl (by rw [hrec]), ?_⟩)⟩
      have hl2 : (W.putObj (D + 1) (.loop { rec .ready none with state := .busy })).heap[D + 1]? = some (.loop { rec .ready none with state := .busy }) := World.putObj_heap_same hlt
      have hk2 : (W.putObj (D + 1) (.loop { rec .ready none with state := .busy })).heap[D]? = some (.deferred (some [])) := (World.putObj_heap_other (by omega)).trans hk
      refine wpIn_mono (hbody _ k _ (hI.put _ hi (by omega) hl rfl) hkN) ?_
      have fin : ∀ (jump : Option Code) (W3 : World), KeepsFrom w.heap.size (W.putObj (D + 1) (.loop { rec .ready none with state := .busy })) W3 →
          (Instr.endRound (D + 1) jump).run P W3 = .ok (.bool jump.isNone) (W3.putObj (D + 1) (.loop (rec (if jump.isNone then .ready else .done) jump))) ∧
          W3.heap[D + 1]? = some (.loop { rec .ready none with state := .busy }) ∧
          (W3.putObj (D + 1) (.loop (rec (if jump.isNone then .ready else .done) jump))).heap[D + 1]? = some (.loop (rec (if jump.isNone then .ready else .done) jump)) ∧
          (W3.putObj (D + 1) (.loop (rec (if jump.isNone then .ready else .done) jump))).heap[D]? = some (.deferred (some [])) := fun jump W3 kf => by
        have hl3 := kf.same _ _ (by omega) hl2 rfl
        have hk3 := kf.same _ _ (Nat.le_of_eq hD.symm) hk2 rfl
        have hr := run_endRound (P := P) jump hl3
        refine ⟨by rw [hr, hrec], hl3, ?_, (World.putObj_heap_other (by omega)).trans hk3⟩
        rw [World.putObj_heap_same (Array.getElem?_eq_some_iff.1 hl3).1]
      rintro e a3 W3 hp
      cases e with
      | normal =>
        obtain ⟨kf, hi3⟩ := hp
        obtain ⟨hr, hl3, hl4, hk4⟩ := fin none W3 kf
        exact ⟨_, _, hr, .inl ⟨rfl, hI.put _ hi3 (by omega) hl3 rfl, hl4, hk4⟩⟩
      | ret =>
        obtain ⟨kf, hi3⟩ := hp
        obtain ⟨hr, hl3, hl4, hk4⟩ := fin (some .ret) W3 kf
        exact ⟨_, _, hr, .inr ⟨rfl, .ret, (hIx _).put _ hi3 (by omega) hl3 rfl, hl4, hk4⟩⟩
      | exit id =>
        obtain ⟨kf, hi3⟩ := hp
        obtain ⟨hr, hl3, hl4, hk4⟩ := fin (some (.exit id)) W3 kf
        exact ⟨_, _, hr, .inr ⟨rfl, .exit id, (hIx _).put _ hi3 (by omega) hl3 rfl, hl4, hk4⟩⟩
      | goto t => exact hp.elim
      | panic ch => exact hp.elim
      | outgrown => exact hp.elim
    · rintro e W2 ⟨⟨v, rfl⟩, (⟨hi, hl, hk⟩ | ⟨k, hkN, c, hi, hl, hk⟩)⟩
      · have hE := run_endLoop (P := P) hl (by rw [hrec]; simp)
        have hp : (rec .ready none).pending = none := by rw [hrec]
        rw [hp] at hE
        exact ⟨none, _, hE, hdone D _ (Nat.le_of_eq hD.symm) (hI.put _ hi (by omega) hl rfl) ((World.putObj_heap_other (by omega)).trans hk)⟩
      · have hE := run_endLoop (P := P) hl (by rw [hrec]; simp)
        have hp : (rec .done (some c)).pending = some c := by rw [hrec]
        rw [hp] at hE
        exact ⟨some c, _, hE, hstop D c k _ (Nat.le_of_eq hD.symm) hkN ((hIx c).put _ hi (by omega) hl rfl) ((World.putObj_heap_other (by omega)).trans hk)⟩
end Go.Proofs.YtnbdafmjcmmfpaaGreat

/-
  'for x, y := range f': as RangeSome, for rounds of whatever many values, and an iterator that may make memory between rounds.
-/
namespace Go.Proofs.YtnbdafmjcmmfpaaGreat
open Go.RowKit
set_option linter.unusedVariables false

/-- what is asked of the iterator: whatever the caller's words J, Jx of the rounds, as long as J tells I -/
def TellsVals (n : Nat) (P : Program) (gf : Nat) (args : Nat → Array Value) (N : Nat) (val : Nat → Array Value) (I : Nat → World → Prop) : Prop :=
  ∀ (l : Nat) (J Jx : Nat → World → Prop) (W : World), (∀ k W, J k W → I k W) → (∀ k W W', J k W → Ch Nil W W' → J k W') →
    (∀ k W1, J k W1 → k < N → YieldAt Fence.wide (n - 1) P l (val k) W1 fun e W' => (e = .returned (.bool true) ∧ J (k + 1) W') ∨ (e = .returned (.bool false) ∧ Jx k W')) → J 0 W →
    CallsIn Fence.wide n P gf (args l) W fun e W' => (∃ v, e = .returned v) ∧ (J N W' ∨ ∃ k, k < N ∧ Jx k W')

theorem range_vals {n : Nat} {P : Program} {g : Operand} {ps : Array Tmp} {assign body : Code} {Q : Exit → Act → World → Prop} {a : Act} {w : World} {gf : Nat} {ba : Array Value}
    (hg : a.eval g = .func (.func gf) ba #[]) (eg : ∀ args w, (callFunc gf args).run P w = .ok (.enter gf args) w)
    (N : Nat) (val : Nat → Array Value) (hps : ∀ k, (val k).size = ps.size) (I : Nat → World → Prop) (Ix : Code → Nat → World → Prop) (hI : Steady w.heap.size I) (hQ : ∀ k W W', I k W → Ch Nil W W' → I k W') (hIx : ∀ c, Steady w.heap.size (Ix c)) (h0 : I 0 w)
    (hit : TellsVals (n - 1) P gf (fun l => ba ++ #[.func (.yield l) #[] #[]]) N val I) (a₁ : Nat → Act)
    (hassign : ∀ (l k : Nat) (W : World) (K : Act → World → Prop), K (a₁ k) W →
      assign.wpIn (Fence.wide.inRound l) (n - 1 - 1) P (Exit.then K (fun _ _ _ => False)) { tmps := (ps.zip (val k)).foldl (fun t (p, v) => t.setIfInBounds p v) a.tmps, defers := [] } W)
    (hbody : ∀ (l k : Nat) (W : World), I k W → k < N → body.wpIn (Fence.wide.inRound l) (n - 1 - 1) P (somePost w.heap.size I Ix k W) (a₁ k) W)
    (hdone : ∀ (D : Nat) (W : World), w.heap.size ≤ D → I N W → W.heap[D]? = some (.deferred (some [])) → Q .normal { a with defers := { target := .collected D, args := #[] } :: a.defers } W)
    (hstop : ∀ (D : Nat) (c : Code) (k : Nat) (W : World), w.heap.size ≤ D → k < N → Ix c k W → W.heap[D]? = some (.deferred (some [])) → c.wpIn Fence.wide n P Q { a with defers := { target := .collected D, args := #[] } :: a.defers } W) :
    (Code.rangeFunc g ps assign body).wpIn Fence.wide n P Q a w := by
  refine wpIn_rangeFunc ?_
  intro fn hfn
  obtain ⟨D, hD⟩ : ∃ D, D = w.heap.size := ⟨_, rfl⟩
  obtain ⟨rec, hrec⟩ : ∃ rec : LoopState → Option Code → Loop, rec = fun st pe => { state := st, pending := pe, fn, tmps := a.tmps, params := ps, assign, body, defers := D } := ⟨_, rfl⟩
  obtain ⟨W1, hW1⟩ : ∃ W1, W1 = (w.alloc (.deferred (some []))).alloc (.loop (rec .ready none)) := ⟨_, rfl⟩
  have hs1 : (w.alloc (.deferred (some []))).heap.size = D + 1 := by rw [World.size_alloc, hD]
  have hK1 : W1.heap[D]? = some (.deferred (some [])) := by
    rw [hW1, Below.heap_alloc _ _ _ (by omega), hD]; exact World.alloc_heap_new w _
  have hL1 : W1.heap[D + 1]? = some (.loop (rec .ready none)) := by
    rw [hW1, ← hs1]; exact World.alloc_heap_new _ _
  have hI1 : I 0 W1 := by rw [hW1]; exact hI.new _ (hI.new _ h0 (Nat.le_refl _)) (by rw [World.size_alloc]; omega)
  let J : Nat → World → Prop := fun k W => I k W ∧ W.heap[D + 1]? = some (.loop (rec .ready none)) ∧ W.heap[D]? = some (.deferred (some []))
  let Jx : Nat → World → Prop := fun k W => ∃ c, Ix c k W ∧ W.heap[D + 1]? = some (.loop (rec .done (some c))) ∧ W.heap[D]? = some (.deferred (some []))
  refine ⟨D + 1, [{ target := .collected D, args := #[] }], W1, { target := .fn (.func gf) #[], args := ba ++ #[.func (.yield (D + 1)) #[] #[]] }, W1, gf, ba ++ #[.func (.yield (D + 1)) #[] #[]], W1, ?_, ?_, fun _ _ => trivial, ?_, fun h => (by cases h), ?_⟩
  · rw [hW1, hrec, hD]; exact run_enterLoop_outer fn a.tmps ps assign body
  · simp only [resolve, hg]; simp [go_sem]
  · simp [invoke, go_sem, eg]
  · refine (hit (D + 1) J Jx W1 (fun k W h => h.1) (fun k W W' h c => ⟨hQ k W W' h.1 c, (c.block _ (Array.getElem?_eq_some_iff.1 h.2.1).1 (fun e => e)).trans h.2.1, (c.block _ (Array.getElem?_eq_some_iff.1 h.2.2).1 (fun e => e)).trans h.2.2⟩) ?_ ⟨hI1, hL1, hK1⟩).mono ?_
    · rintro k W ⟨hi, hl, hk⟩ hkN
      have hlt := (Array.getElem?_eq_some_iff.1 hl).1
      have hy := run_yield (P := P) (args := (val k)) hl (by rw [hrec]; first | exact hps k | exact (hps k).symm | simp [hps])
      rw [hrec] at hy
      refine ⟨fn, _, assign, body, hy, roundIn_of_wpIn hfn (hassign _ k W _ ⟨_, run_beginRound hl (by rw [hrec]), ?_⟩)⟩
      have hl2 : (W.putObj (D + 1) (.loop { rec .ready none with state := .busy })).heap[D + 1]? = some (.loop { rec .ready none with state := .busy }) := World.putObj_heap_same hlt
      have hk2 : (W.putObj (D + 1) (.loop { rec .ready none with state := .busy })).heap[D]? = some (.deferred (some [])) := (World.putObj_heap_other (by omega)).trans hk
      refine wpIn_mono (hbody _ k _ (hI.put _ hi (by omega) hl rfl) hkN) ?_
      have fin : ∀ (jump : Option Code) (W3 : World), KeepsFrom w.heap.size (W.putObj (D + 1) (.loop { rec .ready none with state := .busy })) W3 →
          (Instr.endRound (D + 1) jump).run P W3 = .ok (.bool jump.isNone) (W3.putObj (D + 1) (.loop (rec (if jump.isNone then .ready else .done) jump))) ∧
          W3.heap[D + 1]? = some (.loop { rec .ready none with state := .busy }) ∧
          (W3.putObj (D + 1) (.loop (rec (if jump.isNone then .ready else .done) jump))).heap[D + 1]? = some (.loop (rec (if jump.isNone then .ready else .done) jump)) ∧
          (W3.putObj (D + 1) (.loop (rec (if jump.isNone then .ready else .done) jump))).heap[D]? = some (.deferred (some [])) := fun jump W3 kf => by
        have hl3 := kf.same _ _ (by omega) hl2 rfl
        have hk3 := kf.same _ _ (Nat.le_of_eq hD.symm) hk2 rfl
        have hr := run_endRound (P := P) jump hl3
        refine ⟨by rw [hr, hrec], hl3, ?_, (World.putObj_heap_other (by omega)).trans hk3⟩
        rw [World.putObj_heap_same (Array.getElem?_eq_some_iff.1 hl3).1]
      rintro e a3 W3 hp
      cases e with
      | normal =>
        obtain ⟨kf, hi3⟩ := hp
        obtain ⟨hr, hl3, hl4, hk4⟩ := fin none W3 kf
        exact ⟨_, _, hr, .inl ⟨rfl, hI.put _ hi3 (by omega) hl3 rfl, hl4, hk4⟩⟩
      | ret =>
        obtain ⟨kf, hi3⟩ := hp
        obtain ⟨hr, hl3, hl4, hk4⟩ := fin (some .ret) W3 kf
        exact ⟨_, _, hr, .inr ⟨rfl, .ret, (hIx _).put _ hi3 (by omega) hl3 rfl, hl4, hk4⟩⟩
      | exit id =>
        obtain ⟨kf, hi3⟩ := hp
        obtain ⟨hr, hl3, hl4, hk4⟩ := fin (some (.exit id)) W3 kf
        exact ⟨_, _, hr, .inr ⟨rfl, .exit id, (hIx _).put _ hi3 (by omega) hl3 rfl, hl4, hk4⟩⟩
      | goto t => exact hp.elim
      | panic ch => exact hp.elim
      | outgrown => exact hp.elim
    · rintro e W2 ⟨⟨v, rfl⟩, (⟨hi, hl, hk⟩ | ⟨k, hkN, c, hi, hl, hk⟩)⟩
      · have hE := run_endLoop (P := P) hl (by rw [hrec]; simp)
        have hp : (rec .ready none).pending = none := by rw [hrec]
        rw [hp] at hE
        exact ⟨none, _, hE, hdone D _ (Nat.le_of_eq hD.symm) (hI.put _ hi (by omega) hl rfl) ((World.putObj_heap_other (by omega)).trans hk)⟩
      · have hE := run_endLoop (P := P) hl (by rw [hrec]; simp)
        have hp : (rec .done (some c)).pending = some c := by rw [hrec]
        rw [hp] at hE
        exact ⟨some c, _, hE, hstop D c k _ (Nat.le_of_eq hD.symm) hkN ((hIx c).put _ hi (by omega) hl rfl) ((World.putObj_heap_other (by omega)).trans hk)⟩
end Go.Proofs.YtnbdafmjcmmfpaaGreat

/-
  Contracts of package floor's Config, Slab, Pipe, Log, and of the law's own plain.
-/
namespace Go.Proofs.YtnbdafmjcmmfpaaGreat
open Go.RowKit Verge
attribute [local go_sem] Oper.semAt_some
set_option linter.unusedVariables false
set_option linter.unusedSimpArgs false

section
variable {w : World} {F : Fb} {tr : Option Addr} {tl tc : Nat}
theorem slab_nil (w : World) :
    Calls Tryz.prog 15 #[.pointer none] w fun e w' => e = .returned (.pointer none) ∧ Ch Nil w w' := by
  have hfld := fld1
  go_enter Tryz.func15, Tryz.ntmps15
  go_wp2_with fail
  refine (whole_nil _).mono ?_
  rintro e w1 ⟨rfl, c1⟩
  have C1 := Lib.hid c1
  clear c1
  go_wp2
  go_ret
  exact ⟨rfl, C1.out⟩
theorem slab_of (h : IsF w F tr tl tc) :
    Calls Tryz.prog 15 #[.pointer (some ⟨F.f, 0, none⟩)] w fun e w' => e = .returned (.pointer (some ⟨F.sb, 0, none⟩)) ∧ Ch Nil w w' := by
  have hfld := fld1
  have H := Lib.hid h
  clear h
  go_enter Tryz.func15, Tryz.ntmps15
  go_wp2_with fail
  refine (whole_of H.out).mono ?_
  rintro e w1 ⟨rfl, c1⟩
  have C1 := Lib.hid c1
  clear c1
  go_wp2
  go_ret
  exact ⟨rfl, C1.out⟩
set_option maxHeartbeats 4000000 in
set_option maxRecDepth 100000 in
theorem config_nil (w : World) :
    Calls Tryz.prog 116 #[.pointer none] w fun e w' => e = .returned (.agg #[.int .i64 0, .int .i64 0, .int .i64 0, .int .i64 0, .int .i64 0, .int .i64 0]) ∧ Ch Nil w w' := by
  have hfld := fld0
  have cA : Ch Nil w (w.alloc (Obj.cells #[.int .i64 0, .int .i64 0, .int .i64 0, .int .i64 0, .int .i64 0, .int .i64 0] 30)) := (Ch.refl _ _).alloc _
  have bx : IsVs (w.alloc (Obj.cells #[.int .i64 0, .int .i64 0, .int .i64 0, .int .i64 0, .int .i64 0, .int .i64 0] 30)) w.heap.size [.int .i64 0, .int .i64 0, .int .i64 0, .int .i64 0, .int .i64 0, .int .i64 0] := IsVs.new w [.int .i64 0, .int .i64 0, .int .i64 0, .int .i64 0, .int .i64 0, .int .i64 0] 30
  have CA := Lib.hid cA
  clear cA
  go_enter Tryz.func116, Tryz.ntmps116
  go_upto_region 1 with (fail)
  generalize w.alloc (Obj.cells #[.int .i64 0, .int .i64 0, .int .i64 0, .int .i64 0, .int .i64 0, .int .i64 0] 30) = W at CA bx ⊢
  obtain ⟨B, hB⟩ : ∃ B, B = w.heap.size := ⟨_, rfl⟩
  rw [← hB] at bx ⊢
  have HB := Lib.hid hB
  have BX := Lib.hid bx
  clear hB bx
  go_wp2_with fail
  refine (whole_nil _).mono ?_
  rintro e w1 ⟨rfl, k1⟩
  have BX := Lib.hid (BX.out.kept k1 (fun e => e))
  have CA := Lib.hid (CA.out.trans k1)
  clear k1
  obtain ⟨c0, c1, c2, c3, c4, c5⟩ := BX.out.cells6
  have f0 := BX.out.b.fz 0
  have f1 := BX.out.b.fz 1
  have f2 := BX.out.b.fz 2
  have f3 := BX.out.b.fz 3
  have f4 := BX.out.b.fz 4
  have f5 := BX.out.b.fz 5
  go_wp2
  have hr : IsVs (setVs w1 B 0 [.int .i64 0, .int .i64 0, .int .i64 0, .int .i64 0, .int .i64 0, .int .i64 0]) B [.int .i64 0, .int .i64 0, .int .i64 0, .int .i64 0, .int .i64 0, .int .i64 0] := BX.out.set rfl
  have hc : Ch Nil w (setVs w1 B 0 [.int .i64 0, .int .i64 0, .int .i64 0, .int .i64 0, .int .i64 0, .int .i64 0]) := setVs_nil B _ CA.out (Nat.le_of_eq HB.out.symm)
  (try simp only [Exit.inBlock, Exit.then])
  refine bodyPost_ret (v := .agg #[.int .i64 0, .int .i64 0, .int .i64 0, .int .i64 0, .int .i64 0, .int .i64 0]) ?hr rfl ⟨rfl, hc⟩
  case hr =>
    change (results _ _).run _ (setVs w1 B 0 [.int .i64 0, .int .i64 0, .int .i64 0, .int .i64 0, .int .i64 0, .int .i64 0]) = .ok _ (setVs w1 B 0 [.int .i64 0, .int .i64 0, .int .i64 0, .int .i64 0, .int .i64 0, .int .i64 0])
    generalize setVs w1 B 0 [.int .i64 0, .int .i64 0, .int .i64 0, .int .i64 0, .int .i64 0, .int .i64 0] = W5 at hr ⊢
    obtain ⟨d0, d1, d2, d3, d4, d5⟩ := hr.cells6
    simp [results, Tryz.results116, go_sem, d0, d1, d2, d3, d4, d5]
set_option maxHeartbeats 4000000 in
set_option maxRecDepth 100000 in
theorem config_of (h : IsF w F tr tl tc) :
    Calls Tryz.prog 116 #[.pointer (some ⟨F.f, 0, none⟩)] w fun e w' => e = .returned (.agg #[.int .i64 F.c.s, .int .i64 F.c.c, .int .i64 F.c.r, .int .i64 F.c.m, .int .i64 F.c.k, .int .i64 F.c.l]) ∧ Ch Nil w w' := by
  have hfld := fld0
  have cA : Ch Nil w (w.alloc (Obj.cells #[.int .i64 0, .int .i64 0, .int .i64 0, .int .i64 0, .int .i64 0, .int .i64 0] 30)) := (Ch.refl _ _).alloc _
  have bx : IsVs (w.alloc (Obj.cells #[.int .i64 0, .int .i64 0, .int .i64 0, .int .i64 0, .int .i64 0, .int .i64 0] 30)) w.heap.size [.int .i64 0, .int .i64 0, .int .i64 0, .int .i64 0, .int .i64 0, .int .i64 0] := IsVs.new w [.int .i64 0, .int .i64 0, .int .i64 0, .int .i64 0, .int .i64 0, .int .i64 0] 30
  have H := Lib.hid (h.kept cA (fun e => e))
  clear h
  have CA := Lib.hid cA
  clear cA
  go_enter Tryz.func116, Tryz.ntmps116
  go_upto_region 1 with (fail)
  generalize w.alloc (Obj.cells #[.int .i64 0, .int .i64 0, .int .i64 0, .int .i64 0, .int .i64 0, .int .i64 0] 30) = W at CA bx H ⊢
  obtain ⟨B, hB⟩ : ∃ B, B = w.heap.size := ⟨_, rfl⟩
  rw [← hB] at bx ⊢
  have HB := Lib.hid hB
  have BX := Lib.hid bx
  clear hB bx
  go_wp2_with fail
  refine (whole_of H.out).mono ?_
  rintro e w1 ⟨rfl, k1⟩
  have BX := Lib.hid (BX.out.kept k1 (fun e => e))
  have CA := Lib.hid (CA.out.trans k1)
  clear k1 H
  obtain ⟨c0, c1, c2, c3, c4, c5⟩ := BX.out.cells6
  have f0 := BX.out.b.fz 0
  have f1 := BX.out.b.fz 1
  have f2 := BX.out.b.fz 2
  have f3 := BX.out.b.fz 3
  have f4 := BX.out.b.fz 4
  have f5 := BX.out.b.fz 5
  go_wp2
  have hr : IsVs (setVs w1 B 0 [.int .i64 F.c.s, .int .i64 F.c.c, .int .i64 F.c.r, .int .i64 F.c.m, .int .i64 F.c.k, .int .i64 F.c.l]) B [.int .i64 F.c.s, .int .i64 F.c.c, .int .i64 F.c.r, .int .i64 F.c.m, .int .i64 F.c.k, .int .i64 F.c.l] := BX.out.set rfl
  have hc : Ch Nil w (setVs w1 B 0 [.int .i64 F.c.s, .int .i64 F.c.c, .int .i64 F.c.r, .int .i64 F.c.m, .int .i64 F.c.k, .int .i64 F.c.l]) := setVs_nil B _ CA.out (Nat.le_of_eq HB.out.symm)
  (try simp only [Exit.inBlock, Exit.then])
  refine bodyPost_ret (v := .agg #[.int .i64 F.c.s, .int .i64 F.c.c, .int .i64 F.c.r, .int .i64 F.c.m, .int .i64 F.c.k, .int .i64 F.c.l]) ?hr rfl ⟨rfl, hc⟩
  case hr =>
    change (results _ _).run _ (setVs w1 B 0 [.int .i64 F.c.s, .int .i64 F.c.c, .int .i64 F.c.r, .int .i64 F.c.m, .int .i64 F.c.k, .int .i64 F.c.l]) = .ok _ (setVs w1 B 0 [.int .i64 F.c.s, .int .i64 F.c.c, .int .i64 F.c.r, .int .i64 F.c.m, .int .i64 F.c.k, .int .i64 F.c.l])
    generalize setVs w1 B 0 [.int .i64 F.c.s, .int .i64 F.c.c, .int .i64 F.c.r, .int .i64 F.c.m, .int .i64 F.c.k, .int .i64 F.c.l] = W5 at hr ⊢
    obtain ⟨d0, d1, d2, d3, d4, d5⟩ := hr.cells6
    simp [results, Tryz.results116, go_sem, d0, d1, d2, d3, d4, d5]
end
end Go.Proofs.YtnbdafmjcmmfpaaGreat

/-
  Contracts of package floor's eachShard, Shard and Home.
-/
namespace Go.Proofs.YtnbdafmjcmmfpaaGreat
open Go.RowKit Verge
attribute [local go_sem] Oper.semAt_some
set_option linter.unusedVariables false
set_option linter.unusedSimpArgs false

theorem Ch.later14 {S : Nat → Prop} {r : Nat} {a w w' : World} (h : Ch S a w) (c : Ch (One r) w w') (hr : a.heap.size ≤ r) : Ch S a w' :=
  h.then c fun i hi e => by subst e; omega
theorem Keeps.of14 {S : Nat → Prop} {w w' : World} {B : Nat} (c : Ch S w w') (hS : ∀ k, S k → k < B) : KeepsFrom B w w' :=
  ⟨c.size, fun k o hB hk ho => (c.block k (Array.getElem?_eq_some_iff.1 hk).1 fun hs => by have := hS k hs; omega).trans hk⟩
/-- a floor's shards, as eachShard reads them: of no floor none -/
structure Shs (w : World) (p : Option Addr) (n : Nat) (sh : Nat → Nat) : Prop where
  f : (p = none ∧ n = 0) ∨ ∃ (F : Fb) (tr : Option Addr) (tl tc : Nat), p = some ⟨F.f, 0, none⟩ ∧ n = F.n ∧ sh = F.sh ∧ IsF w F tr tl tc ∧ Row w 42 1 (some ⟨F.g, 0, none⟩) F.n F.gc (shV F)
section
variable {S : Nat → Prop} {w w' : World} {p : Option Addr} {n : Nat} {sh : Nat → Nat}
theorem Shs.kept (h : Shs w p n sh) (c : Ch Nil w w') : Shs w' p n sh := by
  rcases h.f with h | ⟨F, tr, tl, tc, h1, h2, h3, h4, h5⟩
  · exact ⟨.inl h⟩
  · exact ⟨.inr ⟨F, tr, tl, tc, h1, h2, h3, h4.kept c (fun e => e), h5.kept c (fun _ _ e => e)⟩⟩
/-- what whole tells of them: the slice's row -/
theorem Shs.whole (h : Shs w p n sh) : ∃ (a : Option Addr) (c : Nat) (V : Array Value), (∀ W, (Instr.field 87 (.agg V) 2).run Tryz.prog W = .ok (.slice a n c) W) ∧ (∀ W, Ch Nil w W → ∀ k, k < n → ∃ g, a = some ⟨g, 0, none⟩ ∧ W.cell? ⟨g, k, none⟩ = some (.pointer (some ⟨sh k, 0, none⟩))) ∧
    (∀ W, Ch Nil w W → Calls Tryz.prog 46 #[.pointer p] W fun e w' => e = .returned (.agg V) ∧ Ch Nil W w') := by
  rcases h.f with ⟨rfl, rfl⟩ | ⟨F, tr, tl, tc, rfl, rfl, rfl, h4, h5⟩
  · exact ⟨none, 0, #[.int .i64 0, .int .i64 0, .int .i64 0, .int .i64 0, .int .i64 0, .int .i64 0, .pointer none, .slice none 0 0, .pointer none, .pointer none, .pointer none, .pointer none, .pointer none, .pointer none, .slice none 0 0], fun W => fld2 .., fun W c k hk => by omega, fun W c => whole_nil W⟩
  · exact ⟨some ⟨F.g, 0, none⟩, F.gc, #[.int .i64 F.c.s, .int .i64 F.c.c, .int .i64 F.c.r, .int .i64 F.c.m, .int .i64 F.c.k, .int .i64 F.c.l, .pointer (some ⟨F.sb, 0, none⟩), .slice (some ⟨F.g, 0, none⟩) F.n F.gc, .pointer (some ⟨F.pb, 0, none⟩), .pointer (some ⟨F.lb, 0, none⟩), .pointer (some ⟨F.cl, 0, none⟩), .pointer (some ⟨F.ins, 0, none⟩), .pointer (some ⟨F.bz, 0, none⟩), .pointer (some ⟨F.nw, 0, none⟩), .slice tr tl tc], fun W => fld2 .., fun W c k hk => ⟨F.g, rfl, (h5.kept c (fun _ _ e => e)).cell k (by omega)⟩, fun W c => whole_of (h4.kept c (fun e => e))⟩
end
set_option maxRecDepth 100000 in
set_option maxHeartbeats 2000000 in
theorem each_tells (m : Nat) (h1 : 1 ≤ m) (w : World) (p : Option Addr) (n : Nat) (sh : Nat → Nat) (hs : Shs w p n sh) (I : Nat → World → Prop) (hT : ∀ k W, I k W → Ch Nil w W) (hn : n ≤ 1000) :
    TellsVals m Tryz.prog 43 (fun l => #[.pointer p] ++ #[.func (.yield l) #[] #[]]) n (fun k => #[.int .i64 (k : Int), .pointer (some ⟨sh k, 0, none⟩)]) I := by
  intro l J Jx W hJ hQ hY h0
  obtain ⟨a, c, V, hF, hC, hW⟩ := hs.whole
  have HT := Lib.hid fun k W h => hT k W (hJ k W h)
  have HY := Lib.hid hY
  have HQ := Lib.hid hQ
  have H0 := Lib.hid h0
  have HC := Lib.hid hC
  have HW := Lib.hid (hW W (hT 0 W (hJ 0 W h0)))
  clear hT hJ hY h0 hQ hs hC hW
  refine callsIn_of_wp Tryz.func43 rfl trivial ?_ rfl
  simp only [Tryz.ntmps43, List.size_toArray, List.length_cons, List.length_nil, Nat.reduceAdd, Nat.reduceSub, Array.replicate_succ, Array.replicate_zero, List.push_toArray, List.append_toArray, List.nil_append, List.cons_append]
  gi_wp2_with (refine ⟨trivial, ?_⟩; gi_at_call 46; refine (callsIn_wide.2 HW.out).mono ?_; rintro e w1 ⟨rfl, c1⟩)
  have HJ1 := Lib.hid (HQ.out 0 _ _ H0.out c1)
  clear c1 HW H0
  gi_wp2
  gi_loopw [10] (fun v wr => ∃ k : Nat, k ≤ n ∧ v = .int .i64 k ∧ J k wr) (fun v _ => n - (intOf v).toNat)
  case atStart => exact ⟨0, by omega, rfl, HJ1.out⟩
  case round =>
    obtain ⟨k, hk, rfl, hj⟩ := hrel
    have HJ2 := Lib.hid hj
    clear hj
    by_cases hlt : k < n
    · obtain ⟨g, rfl, hg⟩ := HC.out wr (HT.out k wr HJ2.out) k hlt
      obtain ⟨fn, tmps, assign, body, hy, hR⟩ := HY.out k wr HJ2.out hlt
      have HR := Lib.hid hR
      clear hR
      have hkz : (k : Int) < (n : Int) := by omega
      have hkz0 : (0 : Int) ≤ (k : Int) := by omega
      gi_wp2
      refine HR.out.mono ?_
      rintro e W3 (⟨rfl, hJ3⟩ | ⟨rfl, hJx3⟩)
      · have HJ3 := Lib.hid hJ3
        clear hJ3
        gi_wp2
        go_roundw
        case rel => exact ⟨k + 1, by omega, by go_num, HJ3.out⟩
        case measure => simp [intOf]; omega
      · have HJ3 := Lib.hid hJx3
        clear hJx3
        gi_wp2
        refine bodyPost_ret (results_none rfl _ _ _) rfl ?_
        exact ⟨⟨_, rfl⟩, .inr ⟨k, hlt, HJ3.out⟩⟩
    · obtain rfl : k = n := by omega
      gi_wp2
      go_end0
      exact ⟨⟨_, rfl⟩, .inl HJ2.out⟩
/-- between two rounds of Shard: none so far -/
structure ShIn (w : World) (i : Int) (k : Nat) (W : World) : Prop where
  sc : W.cell? ⟨w.heap.size, 0, none⟩ = some (.int .i64 i)
  r : ∃ x, W.cell? ⟨w.heap.size + 1, 0, none⟩ = some (.pointer x)
  f : W.frozen? ⟨w.heap.size + 1, 0, none⟩ = false
  c : Ch Nil w W
  no : ∀ j : Nat, j < k → (j : Int) ≠ i
structure ShOut (w : World) (i : Int) (sh : Nat → Nat) (k : Nat) (W : World) : Prop where
  x : W.cell? ⟨w.heap.size + 1, 0, none⟩ = some (.pointer (some ⟨sh k, 0, none⟩))
  c : Ch Nil w W
  yes : (k : Int) = i
theorem ShIn.steady {w : World} {i : Int} {B : Nat} (hB : w.heap.size + 2 ≤ B) : Steady B (ShIn w i) := fun k W W' r h c hr nc => by
  obtain ⟨x, hx⟩ := h.r
  exact ⟨c.keeps h.sc (fun e => nc.cell h.sc e), ⟨x, c.keeps hx (fun e => nc.cell hx e)⟩,
    (c.frozen (p := ⟨w.heap.size + 1, 0, none⟩) (lt_of_cell hx) (fun e => nc.cell hx e)).trans h.f, h.c.later14 c (by omega), h.no⟩
theorem ShIn.quiet {w : World} {i : Int} (k : Nat) (W W' : World) (h : ShIn w i k W) (c : Ch Nil W W') : ShIn w i k W' := by
  obtain ⟨x, hx⟩ := h.r
  exact ⟨c.keeps h.sc (fun e => e), ⟨x, c.keeps hx (fun e => e)⟩, (c.frozen (p := ⟨w.heap.size + 1, 0, none⟩) (lt_of_cell hx) (fun e => e)).trans h.f, h.c.trans c, h.no⟩
theorem ShOut.steady {w : World} {i : Int} {sh : Nat → Nat} {B : Nat} (hB : w.heap.size + 2 ≤ B) : Steady B (ShOut w i sh) := fun k W W' r h c hr nc =>
  ⟨c.keeps h.x (fun e => nc.cell h.x e), h.c.later14 c (by omega), h.yes⟩
/-- the shard with that number, if there is one -/
def shP (n : Nat) (sh : Nat → Nat) (i : Int) : Option Nat := if 0 ≤ i ∧ i < n then some (sh i.toNat) else none
set_option maxRecDepth 100000 in
set_option maxHeartbeats 2000000 in
theorem shard_any {w : World} {p : Option Addr} {n : Nat} {sh : Nat → Nat} (hs : Shs w p n sh) (hn : n ≤ 1000) (i : Int) :
    Calls Tryz.prog 13 #[.pointer p, .int .i64 i] w fun e w' => e = .returned (pt (shP n sh i)) ∧ Ch Nil w w' := by
  have c1 : Ch Nil w (w.alloc (.cells #[.int .i64 i] 3)) := (Ch.refl _ _).alloc _
  have c2 : Ch Nil (w.alloc (.cells #[.int .i64 i] 3)) ((w.alloc (.cells #[.int .i64 i] 3)).alloc (.cells #[.pointer none] 42)) := (Ch.refl _ _).alloc _
  have hI0 : ShIn w i 0 ((w.alloc (.cells #[.int .i64 i] 3)).alloc (.cells #[.pointer none] 42)) := by
    have hs : (w.alloc (.cells #[.int .i64 i] 3)).heap.size = w.heap.size + 1 := by simp
    refine ⟨c2.keeps (by simp [cell_fresh]) (fun e => e), ⟨none, ?_⟩, ?_, c1.trans c2, fun j hj => by omega⟩
    · rw [← hs]; simp [cell_fresh]
    · rw [← hs]; simp [frozen_fresh]
  have HI0 := Lib.hid hI0
  have hsz : ((w.alloc (.cells #[.int .i64 i] 3)).alloc (.cells #[.pointer none] 42)).heap.size = w.heap.size + 2 := by simp
  have HS := Lib.hid hs
  clear hI0 c1 c2 hs
  refine (callsIn_wide (n := 5)).1 ?_
  refine callsIn_of_wp_marks Tryz.func13 rfl trivial ?_ rfl
  simp only [Tryz.ntmps13, List.size_toArray, List.length_cons, List.length_nil, Nat.reduceAdd, Nat.reduceSub, Array.replicate_succ, Array.replicate_zero, List.push_toArray, List.append_toArray, List.nil_append, List.cons_append]
  gi_wp2
  generalize hW0 : ((w.alloc (.cells #[.int .i64 i] 3)).alloc (.cells #[.pointer none] 42)) = W0 at *
  clear hW0
  refine range_vals (n := 5) (gf := 43) (ba := #[.pointer p]) rfl (enters_of Tryz.func43 (by kernel_rfl) rfl) n (fun k => #[.int .i64 (k : Int), .pointer (some ⟨sh k, 0, none⟩)]) (fun _ => rfl)
    (ShIn w i) (fun c k W => c = .ret ∧ ShOut w i sh k W) (ShIn.steady (by omega)) ShIn.quiet ?hIx HI0.out (each_tells 4 (by omega) w p n sh HS.out _ (fun k W h => h.c) hn) ?act1 ?assign ?body ?done ?stop
  case hIx => exact fun c k W W' r h ch hr nc => ⟨h.1, ShOut.steady (B := W0.heap.size) (by omega) k W W' r h.2 ch hr nc⟩
  case assign =>
    intro l k W K hK
    gi_wp2
    exact hK
  case body =>
    intro l k W hW hk
    have c1 := hW.sc
    have f1 := hW.f
    obtain ⟨x, c2⟩ := hW.r
    have HW := Lib.hid hW
    clear hW
    have hlt := lt_of_cell c2
    by_cases hs : (k : Int) = i
    · have hb : ((k : Int) == i) = true := by rw [beq_iff_eq]; exact hs
      have HSI := Lib.hid hs
      clear hs
      gi_wp2
      have ch : Ch (One (w.heap.size + 1)) W (W.setCell ⟨w.heap.size + 1, 0, none⟩ (.pointer (some ⟨sh k, 0, none⟩))) := (Ch.refl _ _).setB 0 _
      refine ⟨Keeps.of14 ch (fun j hj => by rw [hj]; omega), rfl, World.cell?_setCell_same _ _ _ c2, HW.out.c.then ch (fun i hi e => by subst e; omega), HSI.out⟩
    · have hb : ((k : Int) == i) = false := by rw [beq_eq_false_iff_ne]; exact hs
      have HSI := Lib.hid hs
      clear hs
      gi_wp2
      refine ⟨KeepsFrom.refl _ _, HW.out.sc, HW.out.r, HW.out.f, HW.out.c, fun j hj => ?_⟩
      by_cases e : j < k
      · exact HW.out.no j e
      · obtain rfl : j = k := by omega
        exact HSI.out
  case done =>
    intro D W hD hW hK
    have f1 := hW.f
    obtain ⟨x, c2⟩ := hW.r
    have hF : shP n sh i = none := by
      unfold shP
      rw [if_neg]
      rintro ⟨h1, h2⟩
      have := hW.no i.toNat (by omega)
      omega
    have HF := Lib.hid hF
    have hc := hW.c
    have HC := Lib.hid hc
    clear hW hF hc
    gi_wp2
    have hlt := lt_of_cell c2
    have ch : Ch (One (w.heap.size + 1)) W (W.setCell ⟨w.heap.size + 1, 0, none⟩ (.pointer none)) := (Ch.refl _ _).setB 0 _
    have hK2 : (W.setCell ⟨w.heap.size + 1, 0, none⟩ (.pointer none)).heap[D]? = some (.deferred (some [])) := (ch.block D (Array.getElem?_eq_some_iff.1 hK).1 (by intro e; omega)).trans hK
    refine ⟨by simp, .inl ⟨_, _, rfl, run_takeDeferred hK2, ?_⟩⟩
    have c3 := (Ch.put (W := W.setCell ⟨w.heap.size + 1, 0, none⟩ (.pointer none)) D (.deferred none)).keeps (World.cell?_setCell_same _ _ _ c2) (by intro e; simp at e; omega)
    refine ⟨.pointer none, by simp [results, Tryz.results13, go_sem, c3], ?_, ?_⟩
    · rw [HF.out]; rfl
    · exact (HC.out.then ch (fun i hi e => by subst e; omega)).later14 (Ch.put D (.deferred none)) (by omega)
  case stop =>
    intro D c k W hD hk hW hK
    obtain ⟨rfl, hW⟩ := hW
    have hF : shP n sh i = some (sh k) := by
      unfold shP
      have := hW.yes
      rw [if_pos (by omega), show i.toNat = k by omega]
    have hput := (ShOut.steady (B := w.heap.size + 2) (Nat.le_refl _)).put (.deferred none) hW (by omega) hK rfl
    have HP := Lib.hid hput
    have HF := Lib.hid hF
    clear hW hput hF
    gi_wp2
    refine ⟨by simp, .inl ⟨_, _, rfl, run_takeDeferred hK, ?_⟩⟩
    have c3 := HP.out.x
    refine ⟨.pointer (some ⟨sh k, 0, none⟩), by simp [results, Tryz.results13, go_sem, c3], ?_, HP.out.c⟩
    rw [HF.out]; rfl
/-- the shards of no floor; of a floor -/
theorem Shs.nil (w : World) (sh : Nat → Nat) : Shs w none 0 sh := ⟨.inl ⟨rfl, rfl⟩⟩
theorem Shs.of {w : World} {F : Fb} {tr : Option Addr} {tl tc : Nat} (h : IsF w F tr tl tc) (r : Row w 42 1 (some ⟨F.g, 0, none⟩) F.n F.gc (shV F)) : Shs w (some ⟨F.f, 0, none⟩) F.n F.sh :=
  ⟨.inr ⟨F, tr, tl, tc, rfl, rfl, rfl, h, r⟩⟩
/-- a slot's home -/
def homeP (n : Nat) (sh : Nat → Nat) (i : Int) : Option Nat := if 0 ≤ i then some (sh (i.toNat % n)) else none
set_option maxHeartbeats 2000000 in
theorem home_nil (i : Int) (w : World) :
    Calls Tryz.prog 102 #[.pointer none, .int .i64 i] w fun e w' => e = .returned (.pointer none) ∧ Ch Nil w w' := by
  have hfld := cfld0
  by_cases h0 : i < 0
  · go_enter Tryz.func102, Tryz.ntmps102
    go_wp2_with fail
    refine (config_nil _).mono ?_
    rintro e w1 ⟨rfl, c1⟩
    have C1 := Lib.hid c1
    clear c1
    go_wp2
    go_ret
    exact ⟨rfl, C1.out⟩
  · go_enter Tryz.func102, Tryz.ntmps102
    go_wp2_with fail
    refine (config_nil _).mono ?_
    rintro e w1 ⟨rfl, c1⟩
    have C1 := Lib.hid c1
    clear c1
    go_wp2
    go_ret
    exact ⟨rfl, C1.out⟩
set_option maxHeartbeats 2000000 in
theorem home_of {w : World} {F : Fb} {tr : Option Addr} {tl tc : Nat} (h : IsF w F tr tl tc) (r : Row w 42 1 (some ⟨F.g, 0, none⟩) F.n F.gc (shV F)) (hn : F.c.s = F.n) (n0 : 0 < F.n) (n1 : F.n ≤ 1000) (i : Int) :
    Calls Tryz.prog 102 #[.pointer (some ⟨F.f, 0, none⟩), .int .i64 i] w fun e w' => e = .returned (pt (homeP F.n F.sh i)) ∧ Ch Nil w w' := by
  have hfld := cfld0
  have H := Lib.hid h
  have R := Lib.hid r
  obtain ⟨m, hm⟩ : ∃ m : Nat, m = F.n := ⟨_, rfl⟩
  have HM := Lib.hid hm
  have HN := Lib.hid hn
  have hs : F.c.s = (m : Int) := by rw [hn, hm]
  clear h r hn hm
  by_cases h0 : i < 0
  · have E : homeP F.n F.sh i = none := if_neg (by omega)
    have HE := Lib.hid E
    have hd := Lib.hid (decide_eq_true h0)
    clear E
    go_enter Tryz.func102, Tryz.ntmps102
    go_wp2_with fail
    refine (config_of H.out).mono ?_
    rintro e w1 ⟨rfl, c1⟩
    have C1 := Lib.hid c1
    clear c1
    go_wp2
    go_ret
    exact ⟨by rw [HE.out]; rfl, C1.out⟩
  · obtain ⟨q, rfl⟩ : ∃ q : Nat, i = q := ⟨i.toNat, by omega⟩
    have E : homeP F.n F.sh q = shP F.n F.sh ((q : Int) % (m : Int)) := by
      have := HM.out
      have hlt : q % m < m := Nat.mod_lt _ (by omega)
      rw [show (q : Int) % (m : Int) = ((q % m : Nat) : Int) by omega]
      unfold homeP shP
      rw [if_pos (by omega), if_pos (by omega), Int.toNat_natCast, Int.toNat_natCast, HM.out]
    have HE := Lib.hid E
    have hz : ((m : Int) == 0) = false := by rw [beq_eq_false_iff_ne]; have := HM.out; omega
    have hz2 : ¬ (m = 0) := by have := HM.out; omega
    have hd : decide ((q : Int) < 0) = false := decide_eq_false h0
    have hmod : (q : Int).tmod (m : Int) = ((q % m : Nat) : Int) := by rw [Int.tmod_eq_emod_of_nonneg (by omega)]; omega
    clear E h0
    go_enter Tryz.func102, Tryz.ntmps102
    go_wp2_with fail
    refine (config_of H.out).mono ?_
    rintro e w1 ⟨rfl, c1⟩
    have C1 := Lib.hid c1
    clear c1
    go_wp2_with fail
    refine (shard_any (Shs.of (H.out.kept C1.out (fun e => e)) (R.out.kept C1.out (fun _ _ e => e))) n1 _).mono ?_
    rintro e w2 ⟨rfl, c2⟩
    have C2 := Lib.hid (C1.out.trans c2)
    clear c2
    rw [← HE.out]
    go_wp2
    go_ret
    exact ⟨rfl, C2.out⟩
end Go.Proofs.YtnbdafmjcmmfpaaGreat

/-
  Contracts of package floor's Enter, Leave, Inside, Work, Busy, Shut, Closed, Turn, Now: of a floor, of no floor.
-/
namespace Go.Proofs.YtnbdafmjcmmfpaaGreat
open Go.RowKit Verge
attribute [local go_sem] Oper.semAt_some
set_option linter.unusedVariables false
set_option linter.unusedSimpArgs false

section
variable {w : World} {F : Fb} {tr : Option Addr} {tl tc : Nat}
theorem inside_of (h : IsF w F tr tl tc) {v : Int} (hc : IsJ w F.ins 0 v) :
    Calls Tryz.prog 19 #[.pointer (some ⟨F.f, 0, none⟩)] w fun e w' => e = .returned (.int .i64 v) ∧ IsJ w' F.ins 0 v ∧ Ch (One F.ins) w w' := by
  have hfld := fld6
  have H := Lib.hid h
  have C := Lib.hid hc
  clear h hc
  go_enter Tryz.func19, Tryz.ntmps19
  go_wp2_with fail
  refine (whole_of H.out).mono ?_
  rintro e w1 ⟨rfl, c1⟩
  have C1 := Lib.hid c1
  have K1 := Lib.hid (C.out.kept c1 (fun e => e))
  clear c1 C
  go_wp2_with fail
  refine (floadJ _ K1.out).mono ?_
  rintro e w2 ⟨rfl, k2, c2⟩
  have C2 := Lib.hid ((C1.out.mono (fun _ _ e => e.elim)).trans c2.ch)
  have K2 := Lib.hid k2
  clear c2 k2
  go_wp2
  go_ret
  exact ⟨rfl, K2.out, C2.out⟩
theorem inside_nil (w : World) :
    Calls Tryz.prog 19 #[.pointer none] w fun e w' => e = .returned (.int .i64 0) ∧ Ch Nil w w' := by
  have hfld := fld6
  go_enter Tryz.func19, Tryz.ntmps19
  go_wp2_with fail
  refine (whole_nil _).mono ?_
  rintro e w1 ⟨rfl, c1⟩
  have C1 := Lib.hid c1
  clear c1
  go_wp2_with fail
  refine (floadJ_nil _).mono ?_
  rintro e w2 ⟨rfl, rfl⟩
  go_wp2
  go_ret
  exact ⟨rfl, C1.out⟩
theorem closed_of (h : IsF w F tr tl tc) {v : Bool} (hc : IsB w F.cl v) :
    Calls Tryz.prog 84 #[.pointer (some ⟨F.f, 0, none⟩)] w fun e w' => e = .returned (.bool v) ∧ IsB w' F.cl v ∧ Ch (One F.cl) w w' := by
  have hfld := fld5
  have H := Lib.hid h
  have C := Lib.hid hc
  clear h hc
  go_enter Tryz.func84, Tryz.ntmps84
  go_wp2_with fail
  refine (whole_of H.out).mono ?_
  rintro e w1 ⟨rfl, c1⟩
  have C1 := Lib.hid c1
  have K1 := Lib.hid (C.out.kept c1 (fun e => e))
  clear c1 C
  go_wp2_with fail
  refine (floadB _ K1.out).mono ?_
  rintro e w2 ⟨rfl, k2, c2⟩
  have C2 := Lib.hid ((C1.out.mono (fun _ _ e => e.elim)).trans c2.ch)
  have K2 := Lib.hid k2
  clear c2 k2
  go_wp2
  go_ret
  exact ⟨rfl, K2.out, C2.out⟩
theorem closed_nil (w : World) :
    Calls Tryz.prog 84 #[.pointer none] w fun e w' => e = .returned (.bool false) ∧ Ch Nil w w' := by
  have hfld := fld5
  go_enter Tryz.func84, Tryz.ntmps84
  go_wp2_with fail
  refine (whole_nil _).mono ?_
  rintro e w1 ⟨rfl, c1⟩
  have C1 := Lib.hid c1
  clear c1
  go_wp2_with fail
  refine (floadB_nil _).mono ?_
  rintro e w2 ⟨rfl, rfl⟩
  go_wp2
  go_ret
  exact ⟨rfl, C1.out⟩
theorem shut_first (h : IsF w F tr tl tc) (hc : IsB w F.cl false) :
    Calls Tryz.prog 21 #[.pointer (some ⟨F.f, 0, none⟩)] w fun e w' => e = .returned (.bool true) ∧ IsB w' F.cl true ∧ Ch (One F.cl) w w' := by
  have hfld := fld5
  have H := Lib.hid h
  have C := Lib.hid hc
  clear h hc
  go_enter Tryz.func21, Tryz.ntmps21
  go_wp2_with fail
  refine (whole_of H.out).mono ?_
  rintro e w1 ⟨rfl, c1⟩
  have C1 := Lib.hid c1
  have K1 := Lib.hid (C.out.kept c1 (fun e => e))
  clear c1 C
  go_wp2_with fail
  refine (shutB_first K1.out).mono ?_
  rintro e w2 ⟨rfl, k2, c2⟩
  have C2 := Lib.hid ((C1.out.mono (fun _ _ e => e.elim)).trans c2.ch)
  have K2 := Lib.hid k2
  clear c2 k2
  go_wp2
  go_ret
  exact ⟨rfl, K2.out, C2.out⟩
theorem shut_again (h : IsF w F tr tl tc) (hc : IsB w F.cl true) :
    Calls Tryz.prog 21 #[.pointer (some ⟨F.f, 0, none⟩)] w fun e w' => e = .returned (.bool false) ∧ IsB w' F.cl true ∧ Ch (One F.cl) w w' := by
  have hfld := fld5
  have H := Lib.hid h
  have C := Lib.hid hc
  clear h hc
  go_enter Tryz.func21, Tryz.ntmps21
  go_wp2_with fail
  refine (whole_of H.out).mono ?_
  rintro e w1 ⟨rfl, c1⟩
  have C1 := Lib.hid c1
  have K1 := Lib.hid (C.out.kept c1 (fun e => e))
  clear c1 C
  go_wp2_with fail
  refine (shutB_again K1.out).mono ?_
  rintro e w2 ⟨rfl, k2, c2⟩
  have C2 := Lib.hid ((C1.out.mono (fun _ _ e => e.elim)).trans c2.ch)
  have K2 := Lib.hid k2
  clear c2 k2
  go_wp2
  go_ret
  exact ⟨rfl, K2.out, C2.out⟩
theorem shut_nil (w : World) :
    Calls Tryz.prog 21 #[.pointer none] w fun e w' => e = .returned (.bool false) ∧ Ch Nil w w' := by
  have hfld := fld5
  go_enter Tryz.func21, Tryz.ntmps21
  go_wp2_with fail
  refine (whole_nil _).mono ?_
  rintro e w1 ⟨rfl, c1⟩
  have C1 := Lib.hid c1
  clear c1
  go_wp2_with fail
  refine (shutB_nil _).mono ?_
  rintro e w2 ⟨rfl, rfl⟩
  go_wp2
  go_ret
  exact ⟨rfl, C1.out⟩
theorem enter_of (h : IsF w F tr tl tc) {v : Nat} (hv : v ≤ 1000000) (hc : IsJ w F.ins 0 (v : Nat)) :
    Calls Tryz.prog 82 #[.pointer (some ⟨F.f, 0, none⟩)] w fun e w' => e = .returned (.tuple #[]) ∧ IsJ w' F.ins 0 ((v + 1 : Nat) : Int) ∧ Ch (One F.ins) w w' := by
  have hfld := fld6
  have H := Lib.hid h
  have C := Lib.hid hc
  clear h hc
  go_enter Tryz.func82, Tryz.ntmps82
  go_wp2_with fail
  refine (whole_of H.out).mono ?_
  rintro e w1 ⟨rfl, c1⟩
  have C1 := Lib.hid c1
  have K1 := Lib.hid (C.out.kept c1 (fun e => e))
  clear c1 C
  go_wp2_with fail
  refine (count_more v hv K1.out).mono ?_
  rintro e w2 ⟨rfl, k2, c2⟩
  have C2 := Lib.hid ((C1.out.mono (fun _ _ e => e.elim)).trans c2.ch)
  have K2 := Lib.hid k2
  clear c2 k2
  go_wp2
  go_end0
  exact ⟨rfl, K2.out, C2.out⟩
theorem enter_nil (w : World) :
    Calls Tryz.prog 82 #[.pointer none] w fun e w' => e = .returned (.tuple #[]) ∧ Ch Nil w w' := by
  have hfld := fld6
  go_enter Tryz.func82, Tryz.ntmps82
  go_wp2_with fail
  refine (whole_nil _).mono ?_
  rintro e w1 ⟨rfl, c1⟩
  have C1 := Lib.hid c1
  clear c1
  go_wp2_with fail
  refine (count_more_nil _).mono ?_
  rintro e w2 ⟨rfl, rfl⟩
  go_wp2
  go_end0
  exact ⟨rfl, C1.out⟩
theorem leave_yes (h : IsF w F tr tl tc) {v : Nat} (hv : v ≤ 1000000) (h0 : Hid (0 < v)) (hc : IsJ w F.ins 0 (v : Nat)) :
    Calls Tryz.prog 100 #[.pointer (some ⟨F.f, 0, none⟩)] w fun e w' => e = .returned (.int .i64 0) ∧ IsJ w' F.ins 0 ((v - 1 : Nat) : Int) ∧ Ch (One F.ins) w w' := by
  have hfld := fld6
  have H := Lib.hid h
  have C := Lib.hid hc
  clear h hc
  go_enter Tryz.func100, Tryz.ntmps100
  go_wp2_with fail
  refine (whole_of H.out).mono ?_
  rintro e w1 ⟨rfl, c1⟩
  have C1 := Lib.hid c1
  have K1 := Lib.hid (C.out.kept c1 (fun e => e))
  clear c1 C
  go_wp2_with fail
  refine (count_less v hv K1.out h0.out).mono ?_
  rintro e w2 ⟨rfl, k2, c2⟩
  have C2 := Lib.hid ((C1.out.mono (fun _ _ e => e.elim)).trans c2.ch)
  have K2 := Lib.hid k2
  clear c2 k2
  go_wp2
  go_ret
  exact ⟨rfl, K2.out, C2.out⟩
theorem leave_no (h : IsF w F tr tl tc) {v : Nat} (hv : v ≤ 1000000) (h0 : Hid (v = 0)) (hc : IsJ w F.ins 0 (v : Nat)) :
    Calls Tryz.prog 100 #[.pointer (some ⟨F.f, 0, none⟩)] w fun e w' => e = .returned (.int .i64 6) ∧ IsJ w' F.ins 0 (v : Int) ∧ Ch (One F.ins) w w' := by
  have hfld := fld6
  have H := Lib.hid h
  have C := Lib.hid hc
  clear h hc
  go_enter Tryz.func100, Tryz.ntmps100
  go_wp2_with fail
  refine (whole_of H.out).mono ?_
  rintro e w1 ⟨rfl, c1⟩
  have C1 := Lib.hid c1
  have K1 := Lib.hid (C.out.kept c1 (fun e => e))
  clear c1 C
  go_wp2_with fail
  refine (count_lessno v hv K1.out h0.out).mono ?_
  rintro e w2 ⟨rfl, k2, c2⟩
  have C2 := Lib.hid ((C1.out.mono (fun _ _ e => e.elim)).trans c2.ch)
  have K2 := Lib.hid k2
  clear c2 k2
  go_wp2
  go_ret
  exact ⟨rfl, K2.out, C2.out⟩
theorem leave_nil (w : World) :
    Calls Tryz.prog 100 #[.pointer none] w fun e w' => e = .returned (.int .i64 6) ∧ Ch Nil w w' := by
  have hfld := fld6
  go_enter Tryz.func100, Tryz.ntmps100
  go_wp2_with fail
  refine (whole_nil _).mono ?_
  rintro e w1 ⟨rfl, c1⟩
  have C1 := Lib.hid c1
  clear c1
  go_wp2_with fail
  refine (count_less_nil _).mono ?_
  rintro e w2 ⟨rfl, rfl⟩
  go_wp2
  go_ret
  exact ⟨rfl, C1.out⟩
/-- one more than a time below 2^64 - 1 -/
theorem addOne (a : Nat) (h : a ≤ 1000000) (w : World) :
    Calls Tryz.prog 79 #[.int .u64 (a : Nat), .int .u64 1] w fun e w' => e = .returned (.tuple #[.int .u64 ((a + 1 : Nat) : Int), .int .i64 0]) ∧ w = w' := by
  go_enter Tryz.func79, Tryz.ntmps79
  go_wp2
  go_ret2
  exact ⟨by first | rfl | (simp; done), rfl⟩
abbrev Two14 (b c : Nat) : Nat → Prop := fun k => k = b ∨ k = c
/-- Turn's two boxes -/
theorem turnBox (w : World) : ∀ W, W = ((w.alloc (Obj.cells #[.int .u64 0] 36)).alloc (Obj.cells #[.int .i64 6] 26)) → IsVs W w.heap.size [.int .u64 ((0 : Nat) : Int)] ∧ IsVs W (w.heap.size + 1) [.int .i64 6] ∧ Ch Nil w W := by
  rintro W rfl
  have c1 : Ch Nil w (w.alloc (Obj.cells #[.int .u64 0] 36)) := (Ch.refl _ _).alloc _
  have c2 : Ch Nil (w.alloc (Obj.cells #[.int .u64 0] 36)) ((w.alloc (Obj.cells #[.int .u64 0] 36)).alloc (Obj.cells #[.int .i64 6] 26)) := (Ch.refl _ _).alloc _
  have e1 : (w.alloc (Obj.cells #[.int .u64 0] 36)).heap.size = w.heap.size + 1 := by simp
  have v1 := (IsVs.new w [.int .u64 0] 36).kept c2 (fun e => e)
  have v2 := IsVs.new (w.alloc (Obj.cells #[.int .u64 0] 36)) [.int .i64 6] 26
  rw [e1] at v2
  exact ⟨v1, v2, c1.trans c2⟩
end
end Go.Proofs.YtnbdafmjcmmfpaaGreat

/-
  A new floor of the law's plain config; the document's example, as the statements ask it.
-/
namespace Go.Proofs.YtnbdafmjcmmfpaaGreat
open Go.RowKit Verge
attribute [local go_sem] Oper.semAt_some
set_option linter.unusedVariables false
set_option linter.unusedSimpArgs false

/-- a floor, whole: how many are inside, busy, whether it is closed, its time, its trace -/
theorem plain_ok (n c : Nat) (hn : 1 ≤ n ∧ n ≤ 4) (hc : 1 ≤ c ∧ c ≤ 64) : cfOk ⟨n, c, (4 : Nat), (4 : Nat), 2, 4⟩ := by
  intro i hi
  rcases lt6 hi with rfl | rfl | rfl | rfl | rfl | rfl <;> simp [numC, limC] <;> omega
theorem newPlain (s r : Int) (n c : Nat) (hs : s = n) (hr : r = c) (hn : 1 ≤ n ∧ n ≤ 4) (hc : 1 ≤ c ∧ c ≤ 64) (w : World) :
    Calls Tryz.prog 9 #[.agg #[.int .i64 s, .int .i64 r, .int .i64 4, .int .i64 4, .int .i64 2, .int .i64 4]] w fun e w' => ∃ F : Fb, e = .returned (.tuple #[.pointer (some ⟨F.f, 0, none⟩), .int .i64 0]) ∧ F.c = ⟨n, c, 4, 4, 2, 4⟩ ∧ F.n = n ∧ NewF w w' F c 4 := by
  subst hs hr
  exact floorNew_ok n c 4 4 2 4 (plain_ok n c hn hc) w
theorem shard_in {w : World} {F : Fb} {tr : Option Addr} {tl tc : Nat} (h : IsF w F tr tl tc) (r : Row w 42 1 (some ⟨F.g, 0, none⟩) F.n F.gc (shV F)) (n1 : F.n ≤ 1000) (i : Int) (q : Nat) (hi : i = q) (hq : q < F.n) :
    Calls Tryz.prog 13 #[.pointer (some ⟨F.f, 0, none⟩), .int .i64 i] w fun e w' => e = .returned (.pointer (some ⟨F.sh q, 0, none⟩)) ∧ Ch Nil w w' := by
  have e : pt (shP F.n F.sh i) = .pointer (some ⟨F.sh q, 0, none⟩) := by
    subst hi; unfold shP; rw [if_pos (by omega), Int.toNat_natCast]; rfl
  have := shard_any (Shs.of h r) n1 i
  rwa [e] at this
theorem home_in {w : World} {F : Fb} {tr : Option Addr} {tl tc : Nat} (h : IsF w F tr tl tc) (r : Row w 42 1 (some ⟨F.g, 0, none⟩) F.n F.gc (shV F)) (hn : F.c.s = F.n) (n0 : 0 < F.n) (n1 : F.n ≤ 1000) (i : Int) (q k : Nat) (hi : i = q) (hk : q % F.n = k) :
    Calls Tryz.prog 102 #[.pointer (some ⟨F.f, 0, none⟩), .int .i64 i] w fun e w' => e = .returned (.pointer (some ⟨F.sh k, 0, none⟩)) ∧ Ch Nil w w' := by
  have e : pt (homeP F.n F.sh i) = .pointer (some ⟨F.sh k, 0, none⟩) := by
    subst hi hk; unfold homeP; rw [if_pos (by omega), Int.toNat_natCast]; rfl
  have := home_of h r hn n0 n1 i
  rwa [e] at this
theorem shard_nil (i : Int) (w : World) :
    Calls Tryz.prog 13 #[.pointer none, .int .i64 i] w fun e w' => e = .returned (.pointer none) ∧ Ch Nil w w' := by
  have e : pt (shP 0 (fun _ => 0) i) = .pointer none := by unfold shP; rw [if_neg (by omega)]; rfl
  have := shard_any (Shs.nil w (fun _ => 0)) (by omega) i
  rwa [e] at this
/-- two shards held against each other -/
theorem eqlS {w : World} {s t : Nat} (hs : Blk w s) (ht : Blk w t) : (binOp .eql 42 (.pointer (some ⟨s, 0, none⟩)) (.pointer (some ⟨t, 0, none⟩))).run Tryz.prog w = .ok (.bool (decide (s = t))) w := by
  have := run_eql_pt (P := Tryz.prog) (w := w) (t := 42) (some s) (some t) (by rintro b h; cases h; exact hs) (by rintro b h; cases h; exact ht) Tryz.underlying42 (by kernel_rfl)
  simpa using this
end Go.Proofs.YtnbdafmjcmmfpaaGreat
