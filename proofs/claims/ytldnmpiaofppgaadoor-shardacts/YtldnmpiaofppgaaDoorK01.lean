import Derived.Test.YtldnmpiaofppgaaDoorRows
import Derived.WalkKit
import Derived.Below
import Derived.Deep.Draws
import Derived.Lib.Hide
import Derived.RangeFuncNested
import Derived.RangeFuncBound
import Derived.RangeFuncCalls
import Derived.RangeFuncLeaves
import Derived.IntWalk
import Derived.LaidEql
import Derived.RegionTactic
import Derived.BigRegion
/-
  What turns in memory, block by block: a relation of our own, and its laws; and what a cell in memory is.
-/
namespace Go.Proofs.YtldnmpiaofppgaaDoor
open Go.RowKit
set_option linter.unusedVariables false

/-- of the blocks that were there none has turned but those in S -/
structure Ch (S : Nat → Prop) (w w' : World) : Prop where
  os : w'.os = w.os
  tape : w'.tape = w.tape
  output : w'.output = w.output
  size : w.heap.size ≤ w'.heap.size
  block : ∀ k, k < w.heap.size → ¬ S k → w'.heap[k]? = w.heap[k]?

theorem Ch.refl (S : Nat → Prop) (w : World) : Ch S w w := ⟨rfl, rfl, rfl, Nat.le_refl _, fun _ _ _ => rfl⟩
theorem Ch.then {S S' : Nat → Prop} {a b c : World} (h : Ch S a b) (k : Ch S' b c) (hs : ∀ i, i < a.heap.size → S' i → S i) : Ch S a c :=
  ⟨k.os.trans h.os, k.tape.trans h.tape, k.output.trans h.output, Nat.le_trans h.size k.size,
   fun i hi hn => (k.block i (Nat.lt_of_lt_of_le hi h.size) (fun x => hn (hs i hi x))).trans (h.block i hi hn)⟩
theorem Ch.trans {S : Nat → Prop} {a b c : World} (h : Ch S a b) (k : Ch S b c) : Ch S a c := h.then k fun _ _ x => x
theorem Ch.mono {S S' : Nat → Prop} {a b : World} (h : Ch S a b) (hs : ∀ i, i < a.heap.size → S i → S' i) : Ch S' a b :=
  ⟨h.os, h.tape, h.output, h.size, fun i hi hn => h.block i hi fun x => hn (hs i hi x)⟩
theorem Ch.drewN {S : Nat → Prop} {a b : World} (h : Ch S a b) (n : Nat) : Ch S a (b.drewN n) := ⟨h.os, h.tape, h.output, h.size, h.block⟩
theorem Ch.drew {S : Nat → Prop} {a b : World} (h : Ch S a b) : Ch S a b.drew := ⟨h.os, h.tape, h.output, h.size, h.block⟩
theorem Ch.alloc {S : Nat → Prop} {a b : World} (h : Ch S a b) (o : Obj) : Ch S a (b.alloc o) :=
  h.trans ⟨rfl, rfl, rfl, by simp, fun k hk _ => Below.heap_alloc _ _ _ hk⟩
theorem Ch.set {S : Nat → Prop} {a b : World} (h : Ch S a b) {p : Addr} (hp : p.block < a.heap.size → S p.block) (v : Value) : Ch S a (b.setCell p v) :=
  h.then (S' := fun k => k = p.block) ⟨rfl, rfl, rfl, by simp [World.setCell], fun k _ hk => Below.heap_setCell _ _ _ _ hk⟩ (fun i hi e => by subst e; exact hp hi)
theorem Ch.below {S : Nat → Prop} {a b : World} {B : Nat} (h : Ch S a b) (hB : B ≤ a.heap.size) (hs : ∀ i, i < a.heap.size → S i → B ≤ i) : Below B a b :=
  ⟨h.os, h.tape, h.output, h.size, fun k hk => h.block k (by omega) fun x => by have := hs k (by omega) x; omega⟩
theorem Ch.of_below {S : Nat → Prop} {a b : World} (h : Below a.heap.size a b) : Ch S a b := ⟨h.os, h.tape, h.output, h.size, fun k hk _ => h.block k hk⟩
theorem Ch.cell {S : Nat → Prop} {a b : World} (h : Ch S a b) {p : Addr} (hp : p.block < a.heap.size) (hn : ¬ S p.block) : b.cell? p = a.cell? p := World.cell?_of_block (w := a) (h.block _ hp hn)
theorem Ch.frozen {S : Nat → Prop} {a b : World} (h : Ch S a b) {p : Addr} (hp : p.block < a.heap.size) (hn : ¬ S p.block) : b.frozen? p = a.frozen? p := World.frozen?_of_block (w := a) (h.block _ hp hn)
theorem lt_of_cell {w : World} {p : Addr} {v : Value} (h : w.cell? p = some v) : p.block < w.heap.size := World.block_lt_of_cell? w p h
theorem Ch.keeps {S : Nat → Prop} {a b : World} (h : Ch S a b) {p : Addr} {v : Value} (hc : a.cell? p = some v) (hn : ¬ S p.block) : b.cell? p = some v := (h.cell (lt_of_cell hc) hn).trans hc

/-- block b alone -/
abbrev One (b : Nat) : Nat → Prop := fun k => k = b
/-- no block -/
abbrev Nil : Nat → Prop := fun _ => False

/-- a cell that lies in block b from place o on: what it holds, how often it was loaded, tried, turned -/
structure IsC (w : World) (b o : Nat) (v : Value) (l t u : Int) : Prop where
  v : w.cell? ⟨b, o, none⟩ = some v
  l : w.cell? ⟨b, o + 1, none⟩ = some (.int .i64 l)
  t : w.cell? ⟨b, o + 2, none⟩ = some (.int .i64 t)
  u : w.cell? ⟨b, o + 3, none⟩ = some (.int .i64 u)
  fv : w.frozen? ⟨b, o, none⟩ = false
  fl : w.frozen? ⟨b, o + 1, none⟩ = false
  ft : w.frozen? ⟨b, o + 2, none⟩ = false
  fu : w.frozen? ⟨b, o + 3, none⟩ = false

theorem IsC.lt {w : World} {b o : Nat} {v : Value} {l t u : Int} (h : IsC w b o v l t u) : b < w.heap.size := lt_of_cell h.v
theorem IsC.keeps {S : Nat → Prop} {w w' : World} {b o : Nat} {v : Value} {l t u : Int} (h : IsC w b o v l t u) (c : Ch S w w') (hn : ¬ S b) : IsC w' b o v l t u := by
  have hl := h.lt
  exact ⟨c.keeps h.v hn, c.keeps h.l hn, c.keeps h.t hn, c.keeps h.u hn, (c.frozen (p := ⟨b, _, none⟩) hl hn).trans h.fv, (c.frozen (p := ⟨b, _, none⟩) hl hn).trans h.fl, (c.frozen (p := ⟨b, _, none⟩) hl hn).trans h.ft, (c.frozen (p := ⟨b, _, none⟩) hl hn).trans h.fu⟩
theorem IsC.drewN {w : World} {b o : Nat} {v : Value} {l t u : Int} (h : IsC w b o v l t u) (n : Nat) : IsC (w.drewN n) b o v l t u := ⟨h.v, h.l, h.t, h.u, h.fv, h.fl, h.ft, h.fu⟩

theorem IsC.drew {w : World} {b o : Nat} {v : Value} {l t u : Int} (h : IsC w b o v l t u) : IsC w.drew b o v l t u := ⟨h.v, h.l, h.t, h.u, h.fv, h.fl, h.ft, h.fu⟩
theorem IsC.alloc {w : World} {b o : Nat} {v : Value} {l t u : Int} (h : IsC w b o v l t u) (x : Obj) : IsC (w.alloc x) b o v l t u := h.keeps (S := Nil) ((Ch.refl _ _).alloc _) (fun e => e)
theorem Ch.setB {a w : World} {b : Nat} (h : Ch (One b) a w) (i : Nat) (v : Value) : Ch (One b) a (w.setCell ⟨b, i, none⟩ v) := h.set (p := ⟨b, i, none⟩) (fun _ => rfl) v
theorem cell_ne {w : World} {b i j : Nat} (h : i ≠ j) (x : Value) : (w.setCell ⟨b, i, none⟩ x).cell? ⟨b, j, none⟩ = w.cell? ⟨b, j, none⟩ :=
  World.cell?_setCell_other _ _ _ _ (fun e => by cases e; exact h rfl)
theorem IsC.setV {w : World} {b o : Nat} {v : Value} {l t u : Int} (h : IsC w b o v l t u) (x : Value) : IsC (w.setCell ⟨b, o, none⟩ (x)) b o x l t u :=
  ⟨World.cell?_setCell_same _ _ _ h.v, (cell_ne (by omega) _).trans h.l, (cell_ne (by omega) _).trans h.t, (cell_ne (by omega) _).trans h.u, (World.frozen?_setCell _ _ _ _).trans h.fv, (World.frozen?_setCell _ _ _ _).trans h.fl, (World.frozen?_setCell _ _ _ _).trans h.ft, (World.frozen?_setCell _ _ _ _).trans h.fu⟩
theorem IsC.setL {w : World} {b o : Nat} {v : Value} {l t u : Int} (h : IsC w b o v l t u) (x : Int) : IsC (w.setCell ⟨b, o + 1, none⟩ (.int .i64 x)) b o v x t u :=
  ⟨(cell_ne (by omega) _).trans h.v, World.cell?_setCell_same _ _ _ h.l, (cell_ne (by omega) _).trans h.t, (cell_ne (by omega) _).trans h.u, (World.frozen?_setCell _ _ _ _).trans h.fv, (World.frozen?_setCell _ _ _ _).trans h.fl, (World.frozen?_setCell _ _ _ _).trans h.ft, (World.frozen?_setCell _ _ _ _).trans h.fu⟩
theorem IsC.setT {w : World} {b o : Nat} {v : Value} {l t u : Int} (h : IsC w b o v l t u) (x : Int) : IsC (w.setCell ⟨b, o + 2, none⟩ (.int .i64 x)) b o v l x u :=
  ⟨(cell_ne (by omega) _).trans h.v, (cell_ne (by omega) _).trans h.l, World.cell?_setCell_same _ _ _ h.t, (cell_ne (by omega) _).trans h.u, (World.frozen?_setCell _ _ _ _).trans h.fv, (World.frozen?_setCell _ _ _ _).trans h.fl, (World.frozen?_setCell _ _ _ _).trans h.ft, (World.frozen?_setCell _ _ _ _).trans h.fu⟩
theorem IsC.setU {w : World} {b o : Nat} {v : Value} {l t u : Int} (h : IsC w b o v l t u) (x : Int) : IsC (w.setCell ⟨b, o + 3, none⟩ (.int .i64 x)) b o v l t x :=
  ⟨(cell_ne (by omega) _).trans h.v, (cell_ne (by omega) _).trans h.l, (cell_ne (by omega) _).trans h.t, World.cell?_setCell_same _ _ _ h.u, (World.frozen?_setCell _ _ _ _).trans h.fv, (World.frozen?_setCell _ _ _ _).trans h.fl, (World.frozen?_setCell _ _ _ _).trans h.ft, (World.frozen?_setCell _ _ _ _).trans h.fu⟩

/-- a function that is held against nil: it isn't nil -/
theorem run_equalIn_fn (P : Program) (w : World) (d : Nat) (t : TypeId) (f : Fn) (a c : Array Value) (τ : _) (h : P.underlying t = some τ) (hf : τ matches .func ..) : (Op.equalIn (d + 1) t (.func f a c) .nilFunc).run P w = .ok false w := by
  cases τ <;> simp at hf
  simp [Op.equalIn, run_underlying h]
theorem run_eql_fn (P : Program) (w : World) (t : TypeId) (f : Fn) (a c : Array Value) (τ : _) (h : P.underlying t = some τ) (hf : τ matches .func ..) : (binOp .eql t (.func f a c) .nilFunc).run P w = .ok (.bool false) w := by
  simp only [binOp]
  simp [show Op.equal t (.func f a c) .nilFunc = Op.equalIn (9999 + 1) t (.func f a c) .nilFunc from rfl, run_equalIn_fn P w 9999 t f a c τ h hf]
end Go.Proofs.YtldnmpiaofppgaaDoor

/-
  'for x := range f': a law of our own for a loop that runs out, whose rounds are told by their number: what holds between two rounds may be all that the iterator reads.
-/
namespace Go.Proofs.YtldnmpiaofppgaaDoor
open Go.RowKit
set_option linter.unusedVariables false

/-- no cells lie in block r -/
def NoCells (W : World) (r : Nat) : Prop := ∀ o, W.heap[r]? = some o → o.isCells = false
/-- what stands though a block behind B that holds no cells turns -/
def Steady (B : Nat) (I : Nat → World → Prop) : Prop := ∀ k W W' r, I k W → Ch (One r) W W' → B ≤ r → NoCells W r → I k W'
theorem NoCells.of_loop {W : World} {r : Nat} {o : Obj} (h : W.heap[r]? = some o) (ho : o.isCells = false) : NoCells W r := fun o' h' => by rw [h] at h'; cases h'; exact ho
theorem NoCells.new (W : World) : NoCells W W.heap.size := fun o h => by simp at h
theorem NoCells.cell {W : World} {r : Nat} (h : NoCells W r) {p : Addr} {v : Value} (hc : W.cell? p = some v) : p.block ≠ r := by
  intro e
  unfold World.cell? at hc
  rw [e] at hc
  cases ho : W.heap[r]? with
  | none => simp [ho] at hc
  | some o =>
    have := h o ho
    cases o <;> simp_all [Obj.isCells]
theorem NoCells.row {W : World} {r g : Nat} (h : NoCells W r) {cs : Array Value} {t : TypeId} {z : Nat × Nat} (hg : W.heap[g]? = some (.cells cs t z)) : g ≠ r := by
  rintro rfl
  have := h _ hg
  simp [Obj.isCells] at this
theorem Ch.put {W : World} (r : Nat) (o : Obj) : Ch (One r) W (W.putObj r o) := ⟨rfl, rfl, rfl, by simp, fun k _ hk => World.putObj_heap_other hk⟩
theorem Steady.put {B : Nat} {I : Nat → World → Prop} (h : Steady B I) {k : Nat} {W : World} {r : Nat} {o : Obj} (o' : Obj) (hi : I k W) (hB : B ≤ r) (ho : W.heap[r]? = some o) (hc : o.isCells = false) : I k (W.putObj r o') :=
  h k W _ r hi (Ch.put r o') hB (.of_loop ho hc)
theorem Steady.new {B : Nat} {I : Nat → World → Prop} (h : Steady B I) {k : Nat} {W : World} (o : Obj) (hi : I k W) (hB : B ≤ W.heap.size) : I k (W.alloc o) :=
  h k W _ W.heap.size hi ((Ch.refl _ _).alloc o) hB (.new W)

/-- how a round is left: it goes on -/
def allPost (B : Nat) (I : Nat → World → Prop) (k : Nat) (W : World) : Exit → Act → World → Prop
  | .normal, _, W' => KeepsFrom B W W' ∧ I k W'
  | _, _, _ => False

/-- what is asked of the iterator: whatever the caller's word J of the rounds, as long as it tells I -/
def TellsAll (n : Nat) (P : Program) (gf : Nat) (args : Nat → Array Value) (N : Nat) (val : Nat → Value) (I : Nat → World → Prop) : Prop :=
  ∀ (l : Nat) (J : Nat → World → Prop) (W : World), (∀ k W, J k W → I k W) →
    (∀ k W1, J k W1 → k < N → YieldAt Fence.wide (n - 1) P l #[val k] W1 fun e W' => e = .returned (.bool true) ∧ J (k + 1) W') → J 0 W →
    CallsIn Fence.wide n P gf (args l) W fun e W' => (∃ v, e = .returned v) ∧ J N W'

theorem range_all {n : Nat} {P : Program} {g : Operand} {ps : Array Tmp} {assign body : Code} {Q : Exit → Act → World → Prop} {a : Act} {w : World} {gf : Nat} {ba : Array Value}
    (hg : a.eval g = .func (.func gf) ba #[]) (eg : ∀ args w, (callFunc gf args).run P w = .ok (.enter gf args) w)
    (N : Nat) (val : Nat → Value) (hps : ps.size = 1) (I : Nat → World → Prop) (hI : Steady w.heap.size I) (h0 : I 0 w)
    (hit : TellsAll (n - 1) P gf (fun l => ba ++ #[.func (.yield l) #[] #[]]) N val I) (a₁ : Nat → Act)
    (hassign : ∀ (l k : Nat) (W : World) (K : Act → World → Prop), K (a₁ k) W →
      assign.wpIn (Fence.wide.inRound l) (n - 1 - 1) P (Exit.then K (fun _ _ _ => False)) { tmps := (ps.zip #[val k]).foldl (fun t (p, v) => t.setIfInBounds p v) a.tmps, defers := [] } W)
    (hbody : ∀ (l k : Nat) (W : World), I k W → k < N → body.wpIn (Fence.wide.inRound l) (n - 1 - 1) P (allPost w.heap.size I (k + 1) W) (a₁ k) W)
    (hdone : ∀ (D : Nat) (W : World), w.heap.size ≤ D → I N W → W.heap[D]? = some (.deferred (some [])) → Q .normal { a with defers := { target := .collected D, args := #[] } :: a.defers } W) :
    (Code.rangeFunc g ps assign body).wpIn Fence.wide n P Q a w := by
  refine wpIn_rangeFunc ?_
  intro fn hfn
  -- the block for deferred calls lies at w's end, the loop's record behind it
  obtain ⟨D, hD⟩ : ∃ D, D = w.heap.size := ⟨_, rfl⟩
  obtain ⟨rec, hrec⟩ : ∃ rec : LoopState → Loop, rec = fun st => { state := st, pending := none, fn, tmps := a.tmps, params := ps, assign, body, defers := D } := ⟨_, rfl⟩
  obtain ⟨W1, hW1⟩ : ∃ W1, W1 = (w.alloc (.deferred (some []))).alloc (.loop (rec .ready)) := ⟨_, rfl⟩
  have hs1 : (w.alloc (.deferred (some []))).heap.size = D + 1 := by rw [World.size_alloc, hD]
  have hK1 : W1.heap[D]? = some (.deferred (some [])) := by
    rw [hW1, Below.heap_alloc _ _ _ (by omega), hD]; exact World.alloc_heap_new w _
  have hL1 : W1.heap[D + 1]? = some (.loop (rec .ready)) := by
    rw [hW1, ← hs1]; exact World.alloc_heap_new _ _
  have hI1 : I 0 W1 := by rw [hW1]; exact hI.new _ (hI.new _ h0 (Nat.le_refl _)) (by rw [World.size_alloc]; omega)
  -- between two rounds: I, the record ready, no deferred call
  let J : Nat → World → Prop := fun k W => I k W ∧ W.heap[D + 1]? = some (.loop (rec .ready)) ∧ W.heap[D]? = some (.deferred (some []))
  refine ⟨D + 1, [{ target := .collected D, args := #[] }], W1, { target := .fn (.func gf) #[], args := ba ++ #[.func (.yield (D + 1)) #[] #[]] }, W1, gf, ba ++ #[.func (.yield (D + 1)) #[] #[]], W1, ?_, ?_, fun _ _ => trivial, ?_, fun h => (by cases h), ?_⟩
  · rw [hW1, hrec, hD]; exact run_enterLoop_outer fn a.tmps ps assign body
  · simp only [resolve, hg]; simp [go_sem]
  · simp [invoke, go_sem, eg]
  · refine (hit (D + 1) J W1 (fun k W h => h.1) ?_ ⟨hI1, hL1, hK1⟩).mono ?_
    · rintro k W ⟨hi, hl, hk⟩ hkN
      have hlt := (Array.getElem?_eq_some_iff.1 hl).1
      have hy := run_yield (P := P) (args := #[val k]) hl (by rw [hrec]; simp [hps])
      rw [hrec] at hy
      refine ⟨fn, _, assign, body, hy, roundIn_of_wpIn hfn (hassign _ k W _ ⟨_, run_beginRound hl (by rw [hrec]), ?_⟩)⟩
      refine wpIn_mono (hbody _ k _ (hI.put _ hi (by omega) hl rfl) hkN) ?_
      rintro e a3 W3 hp
      cases e with
      | normal =>
        obtain ⟨kf, hi3⟩ := hp
        have hl3 := kf.same _ _ (by omega) (World.putObj_heap_same hlt) rfl
        have hk3 := kf.same _ _ (Nat.le_of_eq hD.symm) ((World.putObj_heap_other (by omega)).trans hk) rfl
        refine ⟨_, _, run_endRound none hl3, rfl, hI.put _ hi3 (by omega) hl3 rfl, ?_, (World.putObj_heap_other (by omega)).trans hk3⟩
        rw [World.putObj_heap_same (Array.getElem?_eq_some_iff.1 hl3).1, hrec]; rfl
      | ret => exact hp.elim
      | exit id => exact hp.elim
      | goto t => exact hp.elim
      | panic ch => exact hp.elim
      | outgrown => exact hp.elim
    · rintro e W2 ⟨⟨v, rfl⟩, hi, hl, hk⟩
      have hE := run_endLoop (P := P) hl (by rw [hrec]; simp)
      have hp : (rec .ready).pending = none := by rw [hrec]
      rw [hp] at hE
      exact ⟨none, _, hE, hdone D _ (Nat.le_of_eq hD.symm) (hI.put _ hi (by omega) hl rfl) ((World.putObj_heap_other (by omega)).trans hk)⟩
end Go.Proofs.YtldnmpiaofppgaaDoor

/-
  What a list and its nodes are in memory: pointers that may be nil; cells set and read.
-/
namespace Go.Proofs.YtldnmpiaofppgaaDoor
open Go.RowKit
set_option linter.unusedVariables false

/-- a pointer to a block, or nil -/
def pt : Option Nat → Value
  | none => .pointer none
  | some b => .pointer (some ⟨b, 0, none⟩)
@[simp] theorem pt_none : pt none = .pointer none := rfl
@[simp] theorem pt_some (b : Nat) : pt (some b) = .pointer (some ⟨b, 0, none⟩) := rfl
theorem cell_set (w : World) (b i c j : Nat) (v : Value) : (w.setCell ⟨b, i, none⟩ v).cell? ⟨c, j, none⟩ = if c = b ∧ j = i then (w.cell? ⟨c, j, none⟩).map (fun _ => v) else w.cell? ⟨c, j, none⟩ := by
  split
  · rename_i h
    obtain ⟨rfl, rfl⟩ := h
    cases hc : w.cell? ⟨c, j, none⟩ with
    | some u => exact World.cell?_setCell_same _ _ _ hc
    | none =>
      rw [Option.map_none, ← hc]
      unfold World.cell? World.setCell at *
      simp only at hc ⊢
      cases ho : w.heap[c]? with
      | none =>
        have : (w.heap.modify c fun x => match x with | .cells cs t z => .cells (cs.setIfInBounds j v) t z | o => o)[c]? = none := by
          simp at ho ⊢; exact ho
        simp_all
      | some o =>
        have hlt := (Array.getElem?_eq_some_iff.1 ho).1
        cases o <;> simp_all [Array.getElem_modify]
  · rename_i h
    exact World.cell?_setCell_other _ _ _ _ (fun e => by cases e; exact h ⟨rfl, rfl⟩)

theorem cell_fresh (w : World) (cs : Array Value) (t : TypeId) (j : Nat) : (w.alloc (.cells cs t)).cell? ⟨w.heap.size, j, none⟩ = cs[j]? := by
  have h := World.alloc_heap_new w (.cells cs t)
  unfold World.cell?
  simp only [h]
  simp
theorem frozen_fresh (w : World) (cs : Array Value) (t : TypeId) (j : Nat) : (w.alloc (.cells cs t)).frozen? ⟨w.heap.size, j, none⟩ = false := by
  have h := World.alloc_heap_new w (.cells cs t)
  unfold World.frozen?
  simp only [h]
  simp

/-- a block of cells, none of them frozen -/
def Blk (w : World) (b : Nat) : Prop := ∃ cs t, w.heap[b]? = some (.cells cs t (0, 0))
section
variable {S : Nat → Prop} {w w' : World} {b : Nat}
theorem Blk.lt (h : Blk w b) : b < w.heap.size := by obtain ⟨cs, t, h⟩ := h; exact (Array.getElem?_eq_some_iff.1 h).1
theorem Blk.fz (h : Blk w b) (j : Nat) : w.frozen? ⟨b, j, none⟩ = false := by
  obtain ⟨cs, t, h⟩ := h
  unfold World.frozen?
  simp only [h]
  simp
theorem Blk.kept (h : Blk w b) (c : Ch S w w') (hn : ¬ S b) : Blk w' b := by
  have hl := h.lt
  obtain ⟨cs, t, h⟩ := h
  exact ⟨cs, t, (c.block b hl hn).trans h⟩
theorem Blk.new (w : World) (cs : Array Value) (t : TypeId) : Blk (w.alloc (.cells cs t)) w.heap.size := ⟨cs, t, World.alloc_heap_new w _⟩
theorem Blk.set (h : Blk w b) (p : Addr) (v : Value) : Blk (w.setCell p v) b := by
  have hl := h.lt
  obtain ⟨cs, t, h⟩ := h
  by_cases e : b = p.block
  · refine ⟨if p.spot.isSome = true then cs else cs.setIfInBounds p.off v, t, ?_⟩
    obtain ⟨hl', h'⟩ := Array.getElem?_eq_some_iff.1 h
    unfold World.setCell
    simp only
    rw [← e, Array.getElem?_eq_getElem (by rw [Array.size_modify]; exact hl), Array.getElem_modify_self, h']
  · exact ⟨cs, t, (Below.heap_setCell w p v b e).trans h⟩
theorem Blk.drew (h : Blk w b) : Blk w.drew b := h
end

theorem run_equalIn_pt {P : Program} {w : World} {t e : TypeId} (d : Nat) (p q : Option Nat) (hp : ∀ b, p = some b → Blk w b) (hq : ∀ b, q = some b → Blk w b) (ht : P.underlying t = some (.pointer e)) (he : ((P.info? e).map (·.size)).any (· != 0) = true) :
    (Op.equalIn (d + 1) t (pt p) (pt q)).run P w = .ok (decide (p = q)) w := by
  obtain ⟨j, hj, hs⟩ : ∃ j, P.info? e = some j ∧ j.size ≠ 0 := by
    cases h : P.info? e with
    | none => simp [h] at he
    | some j => exact ⟨j, rfl, by simpa [h] using he⟩
  cases p with
  | none => cases q <;> simp [Op.equalIn, run_underlying ht]
  | some a =>
    cases q with
    | none => simp [Op.equalIn, run_underlying ht]
    | some b =>
      by_cases h : a = b
      · subst h
        simp [Op.equalIn, run_underlying ht, sizeOf, typeInfo, hj, run_sameAddr_same]
      · obtain ⟨ca, ta, ha⟩ := hp a rfl
        obtain ⟨cb, tb, hb⟩ := hq b rfl
        have := run_sameAddr_other (P := P) w (a := ⟨a, 0, none⟩) (b := ⟨b, 0, none⟩) (fun e => h (by cases e; rfl)) ha hb
        simp [Op.equalIn, run_underlying ht, sizeOf, typeInfo, hj, hs, this, h]
/-- two pointers held against each other -/
theorem run_eql_pt {P : Program} {w : World} {t e : TypeId} (p q : Option Nat) (hp : ∀ b, p = some b → Blk w b) (hq : ∀ b, q = some b → Blk w b) (ht : P.underlying t = some (.pointer e)) (he : ((P.info? e).map (·.size)).any (· != 0) = true) :
    (binOp .eql t (pt p) (pt q)).run P w = .ok (.bool (decide (p = q))) w := by
  have h := run_equalIn_pt (P := P) (w := w) 9999 p q hp hq ht he
  cases p <;> cases q <;> simp only [pt] at h ⊢ <;> simp only [binOp] <;> simp [Op.equal, Op.maxDepth, h]
theorem run_neq_pt {P : Program} {w : World} {t e : TypeId} (p q : Option Nat) (hp : ∀ b, p = some b → Blk w b) (hq : ∀ b, q = some b → Blk w b) (ht : P.underlying t = some (.pointer e)) (he : ((P.info? e).map (·.size)).any (· != 0) = true) :
    (binOp .neq t (pt p) (pt q)).run P w = .ok (.bool (!decide (p = q))) w := by
  have h := run_equalIn_pt (P := P) (w := w) 9999 p q hp hq ht he
  cases p <;> cases q <;> simp only [pt] at h ⊢ <;> simp only [binOp] <;> simp [Op.equal, Op.maxDepth, h]

/-- a list's head: its first node, its last, how many -/
structure IsH (w : World) (lb : Nat) (fi la : Option Nat) (n : Nat) : Prop where
  f : w.cell? ⟨lb, 0, none⟩ = some (pt fi)
  l : w.cell? ⟨lb, 1, none⟩ = some (pt la)
  n : w.cell? ⟨lb, 2, none⟩ = some (.int .i64 n)
  k : Blk w lb
section
variable {S : Nat → Prop} {w w' : World} {lb n : Nat} {fi la : Option Nat}
theorem IsH.lt (h : IsH w lb fi la n) : lb < w.heap.size := lt_of_cell h.f
theorem IsH.kept (h : IsH w lb fi la n) (c : Ch S w w') (hn : ¬ S lb) : IsH w' lb fi la n :=
  ⟨c.keeps h.f hn, c.keeps h.l hn, c.keeps h.n hn, h.k.kept c hn⟩
end
end Go.Proofs.YtldnmpiaofppgaaDoor

/-
  Contracts of package list's functions at *verge/wheel.Entry[verge/api.Task]: nodes, heads; link and cut.
-/
namespace Go.Proofs.YtldnmpiaofppgaaDoor.LT
open Go.RowKit
attribute [local go_sem] Oper.semAt_some
set_option linter.unusedVariables false
set_option linter.unusedSimpArgs false

/-- a node: its value, whose it is, who stands ahead, who behind -/
structure IsN (w : World) (b : Nat) (v : Nat) (lp ah be : Option Nat) : Prop where
  v : w.cell? ⟨b, 0, none⟩ = some (.pointer (some ⟨v, 0, none⟩))
  l : w.cell? ⟨b, 1, none⟩ = some (pt lp)
  a : w.cell? ⟨b, 2, none⟩ = some (pt ah)
  z : w.cell? ⟨b, 3, none⟩ = some (pt be)
  k : Blk w b
section
variable {S : Nat → Prop} {w w' : World} {b : Nat} {v : Nat} {lp ah be : Option Nat}
theorem IsN.lt (h : IsN w b v lp ah be) : b < w.heap.size := lt_of_cell h.v
theorem IsN.kept (h : IsN w b v lp ah be) (c : Ch S w w') (hn : ¬ S b) : IsN w' b v lp ah be :=
  ⟨c.keeps h.v hn, c.keeps h.l hn, c.keeps h.a hn, c.keeps h.z hn, h.k.kept c hn⟩
theorem IsN.set0 (h : IsN w b v lp ah be) (x : Nat) : IsN (w.setCell ⟨b, 0, none⟩ (.pointer (some ⟨x, 0, none⟩))) b x lp ah be :=
  ⟨World.cell?_setCell_same _ _ _ h.v, (cell_ne (by omega) _).trans h.l, (cell_ne (by omega) _).trans h.a, (cell_ne (by omega) _).trans h.z, h.k.set _ _⟩
end

theorem new_any (w : World) :
    Calls Tryd.prog 57 #[] w fun e w' => ∃ lb, e = .returned (.pointer (some ⟨lb, 0, none⟩)) ∧ lb = w.heap.size ∧ IsH w' lb none none 0 ∧ Ch Nil w w' := by
  go_enter Tryd.func57, Tryd.ntmps57
  go_wp2
  go_ret
  refine ⟨_, rfl, rfl, ?_, (Ch.refl _ _).alloc _⟩
  constructor <;> first | exact Blk.new _ _ _ | simp [cell_fresh]

theorem first_of (lb : Nat) (fi : Option Nat) (w : World) (hc : w.cell? ⟨lb, 0, none⟩ = some (pt fi)) :
    Calls Tryd.prog 99 #[.pointer (some ⟨lb, 0, none⟩)] w fun e w' => e = .returned (pt fi) ∧ w = w' := by
  cases fi <;> simp only [pt] at hc ⊢
  all_goals
    go_enter Tryd.func99, Tryd.ntmps99
    go_wp2
    go_ret
    exact ⟨rfl, rfl⟩
theorem first_nil (w : World) :
    Calls Tryd.prog 99 #[.pointer none] w fun e w' => e = .returned (.pointer none) ∧ w = w' := by
  go_enter Tryd.func99, Tryd.ntmps99
  go_wp2
  go_ret
  exact ⟨rfl, rfl⟩
theorem len_of (lb : Nat) (n : Nat) (w : World) (hc : w.cell? ⟨lb, 2, none⟩ = some (.int .i64 n)) :
    Calls Tryd.prog 71 #[.pointer (some ⟨lb, 0, none⟩)] w fun e w' => e = .returned (.int .i64 n) ∧ w = w' := by
  go_enter Tryd.func71, Tryd.ntmps71
  go_wp2
  go_ret
  exact ⟨rfl, rfl⟩
/-- pointers to lists, to nodes, held against each other -/
theorem eqlL {w : World} (p q : Option Nat) (hp : ∀ b, p = some b → Blk w b) (hq : ∀ b, q = some b → Blk w b) : (binOp .eql 121 (pt p) (pt q)).run Tryd.prog w = .ok (.bool (decide (p = q))) w :=
  run_eql_pt p q hp hq Tryd.underlying121 (by kernel_rfl)
theorem neqN {w : World} (p q : Option Nat) (hp : ∀ b, p = some b → Blk w b) (hq : ∀ b, q = some b → Blk w b) : (binOp .neq 128 (pt p) (pt q)).run Tryd.prog w = .ok (.bool (!decide (p = q))) w :=
  run_neq_pt p q hp hq Tryd.underlying128 (by kernel_rfl)
theorem eqlN {w : World} (p q : Option Nat) (hp : ∀ b, p = some b → Blk w b) (hq : ∀ b, q = some b → Blk w b) : (binOp .eql 128 (pt p) (pt q)).run Tryd.prog w = .ok (.bool (decide (p = q))) w :=
  run_eql_pt p q hp hq Tryd.underlying128 (by kernel_rfl)

theorem has_of (lb b : Nat) (lp : Option Nat) (w : World) (hc : w.cell? ⟨b, 1, none⟩ = some (pt lp)) (hk : Blk w lb) (hl : ∀ x, lp = some x → Blk w x) :
    Calls Tryd.prog 106 #[.pointer (some ⟨lb, 0, none⟩), .pointer (some ⟨b, 0, none⟩)] w fun e w' => e = .returned (.bool (decide (lp = some lb))) ∧ w = w' := by
  have hE := eqlL lp (some lb) hl (fun x e => by cases e; exact hk)
  obtain ⟨z, hz⟩ : ∃ z, z = decide (lp = some lb) := ⟨_, rfl⟩
  rw [← hz] at hE ⊢
  clear hz hl hk
  cases lp <;> simp only [pt] at hc hE
  all_goals
    go_enter Tryd.func106, Tryd.ntmps106
    go_wp2
    go_ret
    exact ⟨rfl, rfl⟩

/-- what link makes: the node stands last -/
structure Linked (w w' : World) (lb b : Nat) (fi la : Option Nat) (n : Nat) (v : Nat) : Prop where
  h : IsH w' lb (if la = none then some b else fi) (some b) (n + 1)
  n : IsN w' b v (some lb) la none
  p : ∀ p, la = some p → ∀ u l a, IsN w p u l a none → IsN w' p u l a (some b)
  c : Ch (fun k => k = lb ∨ k = b ∨ la = some k) w w'

set_option maxHeartbeats 800000 in
theorem link_at (lb b : Nat) (fi la : Option Nat) (n : Nat) (v : Nat) (w : World) (h : IsH w lb fi la n) (hb : IsN w b v none none none) (hne : b ≠ lb) (hn : n ≤ 1000000)
    (hp : ∀ p, la = some p → p ≠ lb ∧ p ≠ b ∧ ∃ u l a, IsN w p u l a none) :
    Calls Tryd.prog 95 #[.pointer (some ⟨lb, 0, none⟩), .pointer (some ⟨b, 0, none⟩)] w fun e w' => (∃ r, e = .returned r) ∧ Linked w w' lb b fi la n v := by
  have hne' : lb ≠ b := fun e => hne e.symm
  have g1 := h.k.fz 0; have g2 := h.k.fz 1; have g3 := h.k.fz 2
  have d1 := hb.k.fz 1; have d2 := hb.k.fz 2; have d3 := hb.k.fz 3
  obtain ⟨h1, h2, h3, kh⟩ := h
  obtain ⟨b1, b2, b3, b4, kb⟩ := hb
  have KH := Lib.hid kh
  have KB := Lib.hid kb
  clear kh kb
  cases la with
  | none =>
    simp only [pt] at h2 b2 b3 b4
    clear hp
    go_enter Tryd.func95, Tryd.ntmps95
    go_wp2
    go_end0
    refine ⟨⟨_, rfl⟩, ⟨by (simp [cell_set, cell_drew_own, *]), by (simp [cell_set, cell_drew_own, *]), by (simp [cell_set, cell_drew_own, *]), by ((repeat (first | with_reducible refine Blk.set ?_ _ _ | with_reducible refine Blk.drew ?_)); with_reducible exact KH.out)⟩, ⟨by (simp [cell_set, cell_drew_own, *]), by (simp [cell_set, cell_drew_own, *]), by (simp [cell_set, cell_drew_own, *]), by (simp [cell_set, cell_drew_own, *]), by ((repeat (first | with_reducible refine Blk.set ?_ _ _ | with_reducible refine Blk.drew ?_)); with_reducible exact KB.out)⟩, fun p e => (by cases e), by ((repeat (first | with_reducible refine Ch.drew ?_ | with_reducible refine Ch.set ?_ (fun _ => by simp) _)); with_reducible exact Ch.refl _ _)⟩
  | some p =>
    obtain ⟨p1, p2, u, l, a, hpn⟩ := hp p rfl
    have p1' : lb ≠ p := fun e => p1 e.symm
    have p2' : b ≠ p := fun e => p2 e.symm
    have e1 := hpn.k.fz 3
    have q1 := hpn.z
    clear hp
    have HP := Lib.hid hpn
    clear hpn
    simp only [pt] at h2 b2 b3 b4 q1
    go_enter Tryd.func95, Tryd.ntmps95
    go_wp2
    go_end0
    refine ⟨⟨_, rfl⟩, ⟨by (simp [cell_set, cell_drew_own, *]), by (simp [cell_set, cell_drew_own, *]), by (simp [cell_set, cell_drew_own, *]), by ((repeat (first | with_reducible refine Blk.set ?_ _ _ | with_reducible refine Blk.drew ?_)); with_reducible exact KH.out)⟩, ⟨by (simp [cell_set, cell_drew_own, *]), by (simp [cell_set, cell_drew_own, *]), by (simp [cell_set, cell_drew_own, *]), by (simp [cell_set, cell_drew_own, *]), by ((repeat (first | with_reducible refine Blk.set ?_ _ _ | with_reducible refine Blk.drew ?_)); with_reducible exact KB.out)⟩, fun p' e u l a h' => ?_, by ((repeat (first | with_reducible refine Ch.drew ?_ | with_reducible refine Ch.set ?_ (fun _ => by simp) _)); with_reducible exact Ch.refl _ _)⟩
    cases e
    obtain ⟨r1, r2, r3, r4, kr⟩ := h'
    exact ⟨by (simp [cell_set, cell_drew_own, *]), by (simp [cell_set, cell_drew_own, *]), by (simp [cell_set, cell_drew_own, *]), by (simp [cell_set, cell_drew_own, *]), by ((repeat (first | with_reducible refine Blk.set ?_ _ _ | with_reducible refine Blk.drew ?_)); with_reducible exact kr)⟩

/-- what cut makes: the node is in no list, its neighbours stand side by side -/
structure Cut (w w' : World) (lb b : Nat) (fi la ah be : Option Nat) (n : Nat) (v : Nat) : Prop where
  h : IsH w' lb (if ah = none then be else fi) (if be = none then ah else la) (n - 1)
  n : IsN w' b v none none none
  p : ∀ p, ah = some p → ∀ u l a z, IsN w p u l a z → IsN w' p u l a be
  q : ∀ q, be = some q → ∀ u l a z, IsN w q u l a z → IsN w' q u l ah z
  c : Ch (fun k => k = lb ∨ k = b ∨ ah = some k ∨ be = some k) w w'

set_option maxHeartbeats 1600000 in
theorem cut_at (lb b : Nat) (fi la ah be : Option Nat) (n : Nat) (v : Nat) (w : World) (h : IsH w lb fi la n) (hb : IsN w b v (some lb) ah be) (hne : b ≠ lb) (hn : 1 ≤ n ∧ n ≤ 1000000)
    (hp : ∀ p, ah = some p → p ≠ lb ∧ p ≠ b ∧ be ≠ some p ∧ ∃ u l a z, IsN w p u l a z) (hq : ∀ q, be = some q → q ≠ lb ∧ q ≠ b ∧ ∃ u l a z, IsN w q u l a z) :
    Calls Tryd.prog 84 #[.pointer (some ⟨lb, 0, none⟩), .pointer (some ⟨b, 0, none⟩)] w fun e w' => (∃ r, e = .returned r) ∧ Cut w w' lb b fi la ah be n v := by
  have hne' : lb ≠ b := fun e => hne e.symm
  have g1 := h.k.fz 0; have g2 := h.k.fz 1; have g3 := h.k.fz 2
  have d1 := hb.k.fz 1; have d2 := hb.k.fz 2; have d3 := hb.k.fz 3
  obtain ⟨h1, h2, h3, kh⟩ := h
  obtain ⟨b1, b2, b3, b4, kb⟩ := hb
  have KH := Lib.hid kh
  have KB := Lib.hid kb
  clear kh kb
  obtain ⟨hn1, hn2⟩ := hn
  have hcast : ((n - 1 : Nat) : Int) = (n : Int) - 1 := by omega
  have HC := Lib.hid hcast
  clear hcast
  cases ah with
  | none =>
    cases be with
    | none =>
      clear hp hq
      simp only [pt] at b2 b3 b4
      go_enter Tryd.func84, Tryd.ntmps84
      go_wp2
      go_end0
      refine ⟨⟨_, rfl⟩, ⟨by (simp [cell_set, cell_drew_own, *]), by (simp [cell_set, cell_drew_own, *]), by (rw [HC.out]; simp [cell_set, cell_drew_own, *]), by ((repeat (first | with_reducible refine Blk.set ?_ _ _ | with_reducible refine Blk.drew ?_)); with_reducible exact KH.out)⟩, ⟨by (simp [cell_set, cell_drew_own, *]), by (simp [cell_set, cell_drew_own, *]), by (simp [cell_set, cell_drew_own, *]), by (simp [cell_set, cell_drew_own, *]), by ((repeat (first | with_reducible refine Blk.set ?_ _ _ | with_reducible refine Blk.drew ?_)); with_reducible exact KB.out)⟩, fun p e => (by cases e), fun p e => (by cases e), by ((repeat (first | with_reducible refine Ch.drew ?_ | with_reducible refine Ch.set ?_ (fun _ => by simp) _)); with_reducible exact Ch.refl _ _)⟩
    | some q =>
      obtain ⟨q1, q2, u, l, a, z, hqn⟩ := hq q rfl
      have q1' : lb ≠ q := fun e => q1 e.symm
      have q2' : b ≠ q := fun e => q2 e.symm
      have e1 := hqn.k.fz 2
      have c1 := hqn.a
      clear hp hq hqn
      simp only [pt] at b2 b3 b4
      go_enter Tryd.func84, Tryd.ntmps84
      go_wp2
      go_region
      all_goals go_wp2
      all_goals go_end0
      all_goals refine ⟨⟨_, rfl⟩, ⟨by (simp [cell_set, cell_drew_own, *]), by (simp [cell_set, cell_drew_own, *]), by (rw [HC.out]; simp [cell_set, cell_drew_own, *]), by ((repeat (first | with_reducible refine Blk.set ?_ _ _ | with_reducible refine Blk.drew ?_)); with_reducible exact KH.out)⟩, ⟨by (simp [cell_set, cell_drew_own, *]), by (simp [cell_set, cell_drew_own, *]), by (simp [cell_set, cell_drew_own, *]), by (simp [cell_set, cell_drew_own, *]), by ((repeat (first | with_reducible refine Blk.set ?_ _ _ | with_reducible refine Blk.drew ?_)); with_reducible exact KB.out)⟩, fun p e => (by cases e), fun q' e u l a z h' => ?_, by ((repeat (first | with_reducible refine Ch.drew ?_ | with_reducible refine Ch.set ?_ (fun _ => by simp) _)); with_reducible exact Ch.refl _ _)⟩
      all_goals
        cases e
        obtain ⟨r1, r2, r3, r4, kr⟩ := h'
        exact ⟨by (simp [cell_set, cell_drew_own, *]), by (simp [cell_set, cell_drew_own, *]), by (simp [cell_set, cell_drew_own, *]), by (simp [cell_set, cell_drew_own, *]), by ((repeat (first | with_reducible refine Blk.set ?_ _ _ | with_reducible refine Blk.drew ?_)); with_reducible exact kr)⟩
  | some p =>
    obtain ⟨p1, p2, p3, u, l, a, z, hpn⟩ := hp p rfl
    have p1' : lb ≠ p := fun e => p1 e.symm
    have p2' : b ≠ p := fun e => p2 e.symm
    have e1 := hpn.k.fz 3
    have c1 := hpn.z
    clear hp hpn
    cases be with
    | none =>
      clear hq
      simp only [pt] at b2 b3 b4
      go_enter Tryd.func84, Tryd.ntmps84
      go_wp2
      go_region
      all_goals go_wp2
      all_goals go_end0
      all_goals refine ⟨⟨_, rfl⟩, ⟨by (simp [cell_set, cell_drew_own, *]), by (simp [cell_set, cell_drew_own, *]), by (rw [HC.out]; simp [cell_set, cell_drew_own, *]), by ((repeat (first | with_reducible refine Blk.set ?_ _ _ | with_reducible refine Blk.drew ?_)); with_reducible exact KH.out)⟩, ⟨by (simp [cell_set, cell_drew_own, *]), by (simp [cell_set, cell_drew_own, *]), by (simp [cell_set, cell_drew_own, *]), by (simp [cell_set, cell_drew_own, *]), by ((repeat (first | with_reducible refine Blk.set ?_ _ _ | with_reducible refine Blk.drew ?_)); with_reducible exact KB.out)⟩, fun q' e u l a z h' => ?_, fun p e => (by cases e), by ((repeat (first | with_reducible refine Ch.drew ?_ | with_reducible refine Ch.set ?_ (fun _ => by simp) _)); with_reducible exact Ch.refl _ _)⟩
      all_goals
        cases e
        obtain ⟨r1, r2, r3, r4, kr⟩ := h'
        exact ⟨by (simp [cell_set, cell_drew_own, *]), by (simp [cell_set, cell_drew_own, *]), by (simp [cell_set, cell_drew_own, *]), by (simp [cell_set, cell_drew_own, *]), by ((repeat (first | with_reducible refine Blk.set ?_ _ _ | with_reducible refine Blk.drew ?_)); with_reducible exact kr)⟩
    | some q =>
      obtain ⟨q1, q2, u', l', a', z', hqn⟩ := hq q rfl
      have p3' : q ≠ p := fun e => p3 (by rw [e])
      have p4' : p ≠ q := fun e => p3' e.symm
      have q1' : lb ≠ q := fun e => q1 e.symm
      have q2' : b ≠ q := fun e => q2 e.symm
      have e2 := hqn.k.fz 2
      have c2 := hqn.a
      clear hq hqn p3
      simp only [pt] at b2 b3 b4
      go_enter Tryd.func84, Tryd.ntmps84
      go_wp2
      go_region
      all_goals go_wp2
      all_goals go_region
      all_goals go_wp2
      all_goals go_end0
      all_goals refine ⟨⟨_, rfl⟩, ⟨by (simp [cell_set, cell_drew_own, *]), by (simp [cell_set, cell_drew_own, *]), by (rw [HC.out]; simp [cell_set, cell_drew_own, *]), by ((repeat (first | with_reducible refine Blk.set ?_ _ _ | with_reducible refine Blk.drew ?_)); with_reducible exact KH.out)⟩, ⟨by (simp [cell_set, cell_drew_own, *]), by (simp [cell_set, cell_drew_own, *]), by (simp [cell_set, cell_drew_own, *]), by (simp [cell_set, cell_drew_own, *]), by ((repeat (first | with_reducible refine Blk.set ?_ _ _ | with_reducible refine Blk.drew ?_)); with_reducible exact KB.out)⟩, fun p' e u l a z h' => ?_, fun q' e u l a z h' => ?_, by ((repeat (first | with_reducible refine Ch.drew ?_ | with_reducible refine Ch.set ?_ (fun _ => by simp) _)); with_reducible exact Ch.refl _ _)⟩
      all_goals
        cases e
        obtain ⟨r1, r2, r3, r4, kr⟩ := h'
        exact ⟨by (simp [cell_set, cell_drew_own, *]), by (simp [cell_set, cell_drew_own, *]), by (simp [cell_set, cell_drew_own, *]), by (simp [cell_set, cell_drew_own, *]), by ((repeat (first | with_reducible refine Blk.set ?_ _ _ | with_reducible refine Blk.drew ?_)); with_reducible exact kr)⟩
end Go.Proofs.YtldnmpiaofppgaaDoor.LT

/-
  A ring's ticket as a plain state, and what a step makes of it.
-/
namespace Verge
/-- a ticket: its stage, its status, its position, whether it filled -/
structure TSt where
  st : Int
  su : Int
  pos : Nat
  fl : Bool
/-- a step: the next position behind it, and the ticket -/
def tickStep (n nx fi : Nat) (P : Nat → Bool) (t : TSt) : Nat × TSt :=
  if t.su ≠ 0 then (nx, t)
  else if t.st = 0 then (nx, ⟨1, 0, nx, t.fl⟩)
  else if t.st = 1 then
    if fi + n ≤ t.pos then (nx, ⟨1, 1, t.pos, t.fl⟩)
    else if t.pos < fi ∨ P t.pos = true then (nx, ⟨0, 0, t.pos, t.fl⟩)
    else (nx, ⟨2, 0, t.pos, t.fl⟩)
  else if nx = t.pos then (nx + 1, ⟨2, 2, t.pos, t.fl⟩) else (nx, ⟨0, 0, t.pos, t.fl⟩)
/-- a function that answers otherwise at one place -/
def upd {α : Type} (f : Nat → α) (i : Nat) (x : α) : Nat → α := fun j => if j = i then x else f j
theorem upd_same {α : Type} (f : Nat → α) (i : Nat) (x : α) : upd f i x i = x := by simp [upd]
theorem upd_other {α : Type} (f : Nat → α) (i : Nat) (x : α) (j : Nat) (h : j ≠ i) : upd f i x j = f j := by simp [upd, h]
end Verge

/-
  A list of *verge/wheel.Entry[verge/api.Task]s in memory, and what each call on it makes of it.
-/
namespace Go.Proofs.YtldnmpiaofppgaaDoor.LT
open Go.RowKit Verge
attribute [local go_sem] Oper.semAt_some
set_option linter.unusedVariables false
set_option linter.unusedSimpArgs false

/-- who stands ahead of the i-th -/
def prv (xs : List Nat) (i : Nat) : Option Nat := if i = 0 then none else xs[i - 1]?
/-- a list: its nodes' blocks, in order; what each holds -/
structure IsL (w : World) (lb : Nat) (xs : List Nat) (V : Nat → Nat) : Prop where
  h : IsH w lb xs[0]? xs[xs.length - 1]? xs.length
  n : ∀ (i b : Nat), xs[i]? = some b → IsN w b (V b) (some lb) (prv xs i) xs[i + 1]?
  nd : ∀ (i j b : Nat), xs[i]? = some b → xs[j]? = some b → i = j
  nl : lb ∉ xs
/-- the blocks of a list -/
def LB (lb : Nat) (xs : List Nat) : Nat → Prop := fun k => k = lb ∨ k ∈ xs
section
variable {S : Nat → Prop} {w w' : World} {lb b : Nat} {xs : List Nat} {V : Nat → Nat}
theorem IsL.node (h : IsL w lb xs V) (hm : b ∈ xs) : ∃ i, xs[i]? = some b ∧ IsN w b (V b) (some lb) (prv xs i) xs[i + 1]? := by
  obtain ⟨i, hi⟩ := List.mem_iff_getElem?.1 hm
  exact ⟨i, hi, h.n i b hi⟩
theorem IsL.blk (h : IsL w lb xs V) {k : Nat} (hk : LB lb xs k) : Blk w k := by
  rcases hk with rfl | hk
  · exact h.h.k
  · obtain ⟨i, -, hn⟩ := h.node hk; exact hn.k
theorem IsL.lt (h : IsL w lb xs V) {k : Nat} (hk : LB lb xs k) : k < w.heap.size := (h.blk hk).lt
theorem IsL.kept (h : IsL w lb xs V) (c : Ch S w w') (hn : ∀ k, LB lb xs k → ¬ S k) : IsL w' lb xs V :=
  ⟨h.h.kept c (hn _ (.inl rfl)), fun i b hb => (h.n i b hb).kept c (hn _ (.inr (List.mem_of_getElem? hb))), h.nd, h.nl⟩
theorem IsL.congr (h : IsL w lb xs V) (V' : Nat → Nat) (hV : ∀ b, b ∈ xs → V' b = V b) : IsL w lb xs V' :=
  ⟨h.h, fun i b hb => by rw [hV b (List.mem_of_getElem? hb)]; exact h.n i b hb, h.nd, h.nl⟩
theorem IsL.ne (h : IsL w lb xs V) (hb : b ∈ xs) : b ≠ lb := fun e => h.nl (e ▸ hb)
theorem IsL.new (h : IsH w lb none none 0) : IsL w lb [] V := ⟨h, by simp, by simp, by simp⟩

theorem IsL.linked (h : IsL w lb xs V) (hb : b ∉ xs) (hl : b ≠ lb) (L : Linked w w' lb b xs[0]? xs[xs.length - 1]? xs.length (V b)) : IsL w' lb (xs ++ [b]) V := by
  have last : ∀ k, xs[xs.length - 1]? = some k → k ∈ xs := fun k hk => List.mem_of_getElem? hk
  refine ⟨?_, ?_, ?_, ?_⟩
  · have := L.h
    rw [List.length_append, List.length_singleton, Nat.add_sub_cancel, List.getElem?_append_right (Nat.le_refl _), Nat.sub_self]
    cases xs with
    | nil => simpa using this
    | cons x t => simpa using this
  · intro i c hc
    by_cases hi : i < xs.length
    · rw [List.getElem?_append_left hi] at hc
      have hn := h.n i c hc
      have hp : prv (xs ++ [b]) i = prv xs i := by
        unfold prv; split
        · rfl
        · rw [List.getElem?_append_left (by omega)]
      rw [hp]
      by_cases he : i + 1 = xs.length
      · rw [he, List.getElem?_append_right (Nat.le_refl _), Nat.sub_self]
        rw [List.getElem?_eq_none (by omega)] at hn
        exact L.p c (by rw [← he, Nat.add_sub_cancel]; exact hc) _ _ _ hn
      · rw [List.getElem?_append_left (by omega)]
        refine hn.kept L.c ?_
        rintro (rfl | rfl | hk)
        · exact h.nl (List.mem_of_getElem? hc)
        · exact hb (List.mem_of_getElem? hc)
        · have := h.nd _ _ _ hc hk; omega
    · have hi' : i = xs.length := by
        rcases Nat.lt_or_ge xs.length i with h' | h'
        · rw [List.getElem?_eq_none (by simp; omega)] at hc; cases hc
        · omega
      subst hi'
      rw [List.getElem?_append_right (Nat.le_refl _), Nat.sub_self] at hc
      cases hc
      rw [List.getElem?_eq_none (by simp)]
      have hp : prv (xs ++ [b]) xs.length = xs[xs.length - 1]? := by
        unfold prv; split
        · rename_i e; rw [List.getElem?_eq_none (by omega)]
        · rw [List.getElem?_append_left (by omega)]
      rw [hp]
      exact L.n
  · intro i j c hi hj
    rw [List.getElem?_append] at hi hj
    split at hi <;> split at hj
    · exact h.nd i j c hi hj
    · have := List.mem_of_getElem? hj; simp at this; subst this; exact absurd (List.mem_of_getElem? hi) hb
    · have := List.mem_of_getElem? hi; simp at this; subst this; exact absurd (List.mem_of_getElem? hj) hb
    · have h1 := (List.getElem?_eq_some_iff.1 hi).1; have h2 := (List.getElem?_eq_some_iff.1 hj).1
      simp at h1 h2; omega
  · simp only [List.mem_append, List.mem_singleton, not_or]
    exact ⟨h.nl, fun e => hl e.symm⟩

theorem getElem?_erase (xs : List Nat) (i j : Nat) : (xs.eraseIdx i)[j]? = if j < i then xs[j]? else xs[j + 1]? := List.getElem?_eraseIdx

theorem IsL.cut (h : IsL w lb xs V) {i : Nat} (hi : xs[i]? = some b) (C : Cut w w' lb b xs[0]? xs[xs.length - 1]? (prv xs i) xs[i + 1]? xs.length (V b)) : IsL w' lb (xs.eraseIdx i) V := by
  have hlt := (List.getElem?_eq_some_iff.1 hi).1
  have hlen : (xs.eraseIdx i).length = xs.length - 1 := List.length_eraseIdx_of_lt hlt
  refine ⟨?_, ?_, ?_, ?_⟩
  · have := C.h
    rw [hlen]
    have e1 : (xs.eraseIdx i)[0]? = if prv xs i = none then xs[i + 1]? else xs[0]? := by
      rw [getElem?_erase]
      unfold prv
      by_cases h0 : i = 0
      · subst h0; simp
      · rw [if_pos (by omega), if_neg h0, if_neg]
        rw [List.getElem?_eq_getElem (by omega)]; simp
    have e2 : (xs.eraseIdx i)[xs.length - 1 - 1]? = if xs[i + 1]? = none then prv xs i else xs[xs.length - 1]? := by
      rw [getElem?_erase]
      by_cases hl : i + 1 = xs.length
      · rw [if_pos (List.getElem?_eq_none (by omega))]
        unfold prv
        by_cases h0 : i = 0
        · rw [if_neg (by omega), if_pos h0, List.getElem?_eq_none (by omega)]
        · rw [if_pos (by omega), if_neg h0]; congr 1; omega
      · rw [if_neg (show ¬ (xs.length - 1 - 1 < i) by omega), if_neg (show ¬ xs[i + 1]? = none by rw [List.getElem?_eq_getElem (by omega)]; simp)]; congr 1; omega
    rw [e1, e2]
    exact this
  · intro j c hc
    rw [getElem?_erase] at hc
    rw [getElem?_erase]
    have hp : prv (xs.eraseIdx i) j = if j ≤ i then prv xs j else xs[j]? := by
      unfold prv
      by_cases h0 : j = 0
      · simp [h0]
      · rw [if_neg h0, if_neg h0, getElem?_erase]
        by_cases hj : j ≤ i
        · rw [if_pos (by omega), if_pos hj]
        · rw [if_neg (by omega), if_neg hj]; congr 1; omega
    rw [hp]
    by_cases hj : j < i
    · rw [if_pos hj] at hc
      have hn := h.n j c hc
      rw [if_pos (show j ≤ i by omega)]
      by_cases he : j + 1 = i
      · rw [if_neg (show ¬ (j + 1 < i) by omega)]
        have := C.p c (by unfold prv; rw [if_neg (by omega), ← he]; exact hc) _ _ _ _ hn
        rw [← he] at this
        exact this
      · rw [if_pos (by omega)]
        refine hn.kept C.c ?_
        rintro (rfl | rfl | hk | hk)
        · exact h.nl (List.mem_of_getElem? hc)
        · have := h.nd _ _ _ hc hi; omega
        · unfold prv at hk; rw [if_neg (by omega)] at hk; have := h.nd _ _ _ hc hk; omega
        · have := h.nd _ _ _ hc hk; omega
    · rw [if_neg hj] at hc
      have hn := h.n (j + 1) c hc
      rw [if_neg (show ¬ (j + 1 < i) by omega)]
      by_cases he : j = i
      · subst he
        rw [if_pos (Nat.le_refl _)]
        exact C.q c hc _ _ _ _ hn
      · rw [if_neg (by omega)]
        have hp2 : prv xs (j + 1) = xs[j]? := by unfold prv; rw [if_neg (by omega)]; rfl
        rw [hp2] at hn
        refine hn.kept C.c ?_
        rintro (rfl | rfl | hk | hk)
        · exact h.nl (List.mem_of_getElem? hc)
        · have := h.nd _ _ _ hc hi; omega
        · unfold prv at hk; split at hk
          · cases hk
          · have := h.nd _ _ _ hc hk; omega
        · have := h.nd _ _ _ hc hk; omega
  · intro j k c hj hk
    rw [getElem?_erase] at hj hk
    split at hj <;> split at hk <;> have := h.nd _ _ _ hj hk <;> omega
  · intro hm; exact h.nl (List.mem_of_mem_eraseIdx hm)

theorem IsL.link_of (h : IsL w lb xs V) (hb : IsN w b (V b) none none none) (hx : b ∉ xs) (hl : b ≠ lb) (hs : xs.length ≤ 1000000) :
    Calls Tryd.prog 95 #[.pointer (some ⟨lb, 0, none⟩), .pointer (some ⟨b, 0, none⟩)] w fun e w' => (∃ r, e = .returned r) ∧ IsL w' lb (xs ++ [b]) V ∧ Ch (fun k => LB lb xs k ∨ k = b) w w' := by
  refine (link_at lb b _ _ _ (V b) w h.h hb hl hs ?_).mono fun e w' ⟨he, L⟩ => ⟨he, h.linked hx hl L, L.c.mono ?_⟩
  · intro p hp
    have hm := List.mem_of_getElem? hp
    refine ⟨h.ne hm, fun e => hx (e ▸ hm), ?_⟩
    have := h.n _ p hp
    have h1 := (List.getElem?_eq_some_iff.1 hp).1
    rw [List.getElem?_eq_none (by omega)] at this
    exact ⟨_, _, _, this⟩
  · rintro k - (rfl | rfl | hk)
    · exact .inl (.inl rfl)
    · exact .inr rfl
    · exact .inl (.inr (List.mem_of_getElem? hk))
theorem IsL.cut_of (h : IsL w lb xs V) {i : Nat} (hi : xs[i]? = some b) (hs : xs.length ≤ 1000000) :
    Calls Tryd.prog 84 #[.pointer (some ⟨lb, 0, none⟩), .pointer (some ⟨b, 0, none⟩)] w fun e w' => (∃ r, e = .returned r) ∧ IsL w' lb (xs.eraseIdx i) V ∧ IsN w' b (V b) none none none ∧ Ch (LB lb xs) w w' := by
  have hlt := (List.getElem?_eq_some_iff.1 hi).1
  have hb := List.mem_of_getElem? hi
  refine (cut_at lb b _ _ _ _ _ (V b) w h.h (h.n i b hi) (h.ne hb) ⟨by omega, hs⟩ ?_ ?_).mono fun e w' ⟨he, C⟩ => ⟨he, h.cut hi C, C.n, C.c.mono ?_⟩
  · intro p hp
    unfold prv at hp
    split at hp
    · cases hp
    · refine ⟨h.ne (List.mem_of_getElem? hp), ?_, ?_, _, _, _, _, h.n _ p hp⟩
      · rintro rfl; have := h.nd _ _ _ hp hi; omega
      · intro hq; have := h.nd _ _ _ hp hq; omega
  · intro q hq
    refine ⟨h.ne (List.mem_of_getElem? hq), ?_, _, _, _, _, h.n _ q hq⟩
    rintro rfl; have := h.nd _ _ _ hq hi; omega
  · rintro k - (rfl | rfl | hk | hk)
    · exact .inl rfl
    · exact .inr hb
    · unfold prv at hk; split at hk
      · cases hk
      · exact .inr (List.mem_of_getElem? hk)
    · exact .inr (List.mem_of_getElem? hk)
end
end Go.Proofs.YtldnmpiaofppgaaDoor.LT

/-
  Contracts of package list's calls at *verge/wheel.Entry[verge/api.Task]: Push, Put, Unlink; no list, no node.
-/
namespace Go.Proofs.YtldnmpiaofppgaaDoor.LT
open Go.RowKit Verge
attribute [local go_sem] Oper.semAt_some
set_option linter.unusedVariables false
set_option linter.unusedSimpArgs false

section
variable {S : Nat → Prop} {w w' : World} {lb b : Nat} {xs : List Nat} {V : Nat → Nat}
theorem new_of (w : World) (V : Nat → Nat) :
    Calls Tryd.prog 57 #[] w fun e w' => ∃ lb, e = .returned (.pointer (some ⟨lb, 0, none⟩)) ∧ w.heap.size ≤ lb ∧ IsL w' lb [] V ∧ Ch Nil w w' :=
  (new_any w).mono fun e w' ⟨lb, he, hl, h, c⟩ => ⟨lb, he, by omega, .new h, c⟩

/-- a node made by hand -/
theorem IsN.made (w : World) (v : Nat) (t : TypeId) : IsN (w.alloc (.cells #[.pointer (some ⟨v, 0, none⟩), .pointer none, .pointer none, .pointer none] t)) w.heap.size v none none none := by
  refine ⟨?_, ?_, ?_, ?_, Blk.new _ _ _⟩ <;> simp [cell_fresh]

-- @INT
theorem IsL.put (h : IsL w lb xs V) (hb : IsN w b (V b) none none none) (hx : b ∉ xs) (hl : b ≠ lb) (hs : xs.length ≤ 1000000) :
    Calls Tryd.prog 80 #[.pointer (some ⟨lb, 0, none⟩), .pointer (some ⟨b, 0, none⟩)] w fun e w' => e = .returned (.int .i64 0) ∧ IsL w' lb (xs ++ [b]) V ∧ Ch (fun k => LB lb xs k ∨ k = b) w w' := by
  have H := Lib.hid h
  have HB := Lib.hid hb
  have c1 := hb.l
  simp only [pt] at c1
  clear h hb
  go_enter Tryd.func80, Tryd.ntmps80
  go_wp2_with fail
  refine (H.out.link_of HB.out hx hl hs).mono ?_
  rintro e w' ⟨⟨r, rfl⟩, h3, c3⟩
  have H3 := Lib.hid h3
  have C3 := Lib.hid c3
  clear h3 c3
  go_wp2
  go_ret
  exact ⟨rfl, H3.out, C3.out⟩
theorem put_state (lb b x : Nat) (w : World) (hc : w.cell? ⟨b, 1, none⟩ = some (pt (some x))) :
    Calls Tryd.prog 80 #[.pointer (some ⟨lb, 0, none⟩), .pointer (some ⟨b, 0, none⟩)] w fun e w' => e = .returned (.int .i64 7) ∧ w = w' := by
  simp only [pt] at hc
  go_enter Tryd.func80, Tryd.ntmps80
  go_wp2
  go_ret
  exact ⟨rfl, rfl⟩
theorem put_nonode (lb : Nat) (w : World) :
    Calls Tryd.prog 80 #[.pointer (some ⟨lb, 0, none⟩), .pointer none] w fun e w' => e = .returned (.int .i64 1) ∧ w = w' := by
  go_enter Tryd.func80, Tryd.ntmps80
  go_wp2
  go_ret
  exact ⟨rfl, rfl⟩
theorem put_nil (p : Value) (w : World) :
    Calls Tryd.prog 80 #[.pointer none, p] w fun e w' => e = .returned (.int .i64 6) ∧ w = w' := by
  go_enter Tryd.func80, Tryd.ntmps80
  go_wp2
  go_ret
  exact ⟨rfl, rfl⟩

-- @END
theorem IsL.unlink (h : IsL w lb xs V) {i : Nat} (hi : xs[i]? = some b) (hs : xs.length ≤ 1000000) :
    Calls Tryd.prog 100 #[.pointer (some ⟨lb, 0, none⟩), .pointer (some ⟨b, 0, none⟩)] w fun e w' => e = .returned (.int .i64 0) ∧ IsL w' lb (xs.eraseIdx i) V ∧ IsN w' b (V b) none none none ∧ Ch (LB lb xs) w w' := by
  have hH := has_of lb b (some lb) w (h.n i b hi).l h.h.k (fun x e => by cases e; exact h.h.k)
  rw [decide_eq_true rfl] at hH
  have HH := Lib.hid hH
  have H := Lib.hid h
  have HI := Lib.hid hi
  clear h hH hi
  go_enter Tryd.func100, Tryd.ntmps100
  go_wp2_with fail
  refine HH.out.mono ?_
  rintro e w' ⟨rfl, rfl⟩
  go_wp2_with fail
  refine (H.out.cut_of HI.out hs).mono ?_
  rintro e w' ⟨⟨r, rfl⟩, h3, n3, c3⟩
  have H3 := Lib.hid h3
  have N3 := Lib.hid n3
  have C3 := Lib.hid c3
  clear h3 n3 c3
  go_wp2
  go_ret
  exact ⟨rfl, H3.out, N3.out, C3.out⟩
theorem unlink_none (lb b : Nat) (lp : Option Nat) (w : World) (hc : w.cell? ⟨b, 1, none⟩ = some (pt lp)) (hk : Blk w lb) (hl : ∀ x, lp = some x → Blk w x) (hne : lp ≠ some lb) :
    Calls Tryd.prog 100 #[.pointer (some ⟨lb, 0, none⟩), .pointer (some ⟨b, 0, none⟩)] w fun e w' => e = .returned (.int .i64 6) ∧ w = w' := by
  have hH := has_of lb b lp w hc hk hl
  rw [decide_eq_false hne] at hH
  have HH := Lib.hid hH
  clear hH hc hk hl hne
  go_enter Tryd.func100, Tryd.ntmps100
  go_wp2_with fail
  refine HH.out.mono ?_
  rintro e w' ⟨rfl, rfl⟩
  go_wp2
  go_ret
  exact ⟨rfl, rfl⟩
theorem unlink_nonode (lb : Nat) (w : World) :
    Calls Tryd.prog 100 #[.pointer (some ⟨lb, 0, none⟩), .pointer none] w fun e w' => e = .returned (.int .i64 1) ∧ w = w' := by
  go_enter Tryd.func100, Tryd.ntmps100
  go_wp2
  go_ret
  exact ⟨rfl, rfl⟩
theorem unlink_nil (p : Value) (w : World) :
    Calls Tryd.prog 100 #[.pointer none, p] w fun e w' => e = .returned (.int .i64 6) ∧ w = w' := by
  go_enter Tryd.func100, Tryd.ntmps100
  go_wp2
  go_ret
  exact ⟨rfl, rfl⟩
theorem has_nonode (lb : Nat) (w : World) :
    Calls Tryd.prog 106 #[.pointer (some ⟨lb, 0, none⟩), .pointer none] w fun e w' => e = .returned (.bool false) ∧ w = w' := by
  go_enter Tryd.func106, Tryd.ntmps106
  go_wp2
  go_ret
  exact ⟨rfl, rfl⟩
theorem has_nil (b : Nat) (w : World) :
    Calls Tryd.prog 106 #[.pointer none, .pointer (some ⟨b, 0, none⟩)] w fun e w' => e = .returned (.bool false) ∧ w = w' := by
  go_enter Tryd.func106, Tryd.ntmps106
  go_wp2
  go_ret
  exact ⟨rfl, rfl⟩
theorem len_nil (w : World) :
    Calls Tryd.prog 71 #[.pointer none] w fun e w' => e = .returned (.int .i64 0) ∧ w = w' := by
  go_enter Tryd.func71, Tryd.ntmps71
  go_wp2
  go_ret
  exact ⟨rfl, rfl⟩
end
end Go.Proofs.YtldnmpiaofppgaaDoor.LT
