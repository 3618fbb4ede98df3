/-
  The document's slab (vergeref09): Step, whichever it is; a new one; what holds of it, whatever is done.
-/
import Derived.Test.YtjhmmfdmoalfmaaSlabRef4
import Derived.Test.YtjhmmfdmoalfmaaWordProps
import Derived.Laws.MakeOwn
namespace Verge
set_option linter.unusedVariables false
/-- what holds whatever is done -/
structure AInv (n cnt : Nat) (R : Nat → Rec) (np : Nat) (Q : Nat → Rq) (m : Nat) : Prop where
  le : cnt ≤ n
  ok : ∀ k, k < n → okW (R k).wd = true
  gv : ∀ k, k < n → (R k).gv ≤ m
  q : ∀ j, j < np → RqOk n (Q j) ∧ (Q j).ss ≤ 2
  nm : np ≤ m
section
variable {n cnt np m m' : Nat} {R : Nat → Rec} {Q : Nat → Rq}
theorem AInv.zero (n : Nat) : AInv n 0 zeroR 0 (fun _ => ⟨0, 0, 0, 0, 0, 0⟩) 0 := ⟨Nat.zero_le _, fun _ _ => by show okW 0 = true; decide, fun _ _ => Nat.le_refl _, fun j hj => by omega, Nat.le_refl _⟩
theorem AInv.more (h : AInv n cnt R np Q m) (hm : m ≤ m') : AInv n cnt R np Q m' := ⟨h.le, h.ok, fun k hk => Nat.le_trans (h.gv k hk) hm, h.q, Nat.le_trans h.nm hm⟩
theorem AInv.drop (h : AInv n cnt R np Q m) : AInv n (cnt - 1) R np Q (m + 1) := ⟨by have := h.le; omega, h.ok, (h.more (Nat.le_succ m)).gv, h.q, by have := h.nm; omega⟩
theorem AInv.tried (h : AInv n cnt R np Q m) {k x : Nat} (hx : okW x = true) : AInv n cnt (upR R k ⟨x, (R k).gv, (R k).pd⟩) np Q (m + 1) := by
  refine ⟨h.le, fun i hi => ?_, fun i hi => ?_, h.q, by have := h.nm; omega⟩
  · by_cases e : i = k
    · subst e; rw [upR_same]; exact hx
    · rw [upR_other _ _ e]; exact h.ok i hi
  · have := h.gv i hi
    by_cases e : i = k
    · subst e; rw [upR_same]; show (R i).gv ≤ m + 1; omega
    · rw [upR_other _ _ e]; omega
theorem AInv.grow (h : AInv n cnt R np Q m) (n0 : 0 < n) (pd : Nat) : AInv n cnt R (np + 1) (upQ Q np ⟨pd, 0, 0, 0, 0, 0⟩) (m + 1) := by
  refine ⟨h.le, h.ok, (h.more (Nat.le_succ m)).gv, fun j hj => ?_, by have := h.nm; omega⟩
  by_cases e : j = np
  · subst e; rw [upQ_same]; exact ⟨RqOk.new n pd n0, by show 0 ≤ 2; omega⟩
  · rw [upQ_other _ _ e]; exact h.q j (by omega)
theorem AInv.lt (h : AInv n cnt R np Q m) {k : Nat} (hk : k < n) : (R k).wd < 18446744073709551616 := by have := okW_lt _ (h.ok k hk); omega
theorem AInv.step (h : AInv n cnt R np Q m) {j : Nat} (hj : j < np) (hm : m ≤ 1000) (n1 : n ≤ 64) (n0 : 0 < n) : AInv n (stepM n cnt R (Q j)).1 (stepM n cnt R (Q j)).2.1 np (upQ Q j (stepM n cnt R (Q j)).2.2) (m + 1) := by
  have key : ∀ (c' : Nat) (R' : Nat → Rec) (r' : Rq), c' ≤ n → (∀ k, k < n → okW (R' k).wd = true) → (∀ k, k < n → (R' k).gv ≤ m + 1) → RqOk n r' → r'.ss ≤ 2 → AInv n c' R' np (upQ Q j r') (m + 1) := fun c' R' r' h1 h2 h3 h4 h5 => by
    refine ⟨h1, h2, h3, fun i hi => ?_, by have := h.nm; omega⟩
    by_cases e : i = j
    · subst e; rw [upQ_same]; exact ⟨h4, h5⟩
    · rw [upQ_other _ _ e]; exact h.q i hi
  have hg := (h.more (Nat.le_succ m)).gv
  obtain ⟨k, ks⟩ := h.q j hj
  have hle := h.le
  unfold stepM
  by_cases a0 : (Q j).ss ≠ 0
  · rw [if_pos a0]; exact key _ _ _ h.le h.ok hg k ks
  · rw [if_neg a0]
    by_cases a1 : (Q j).st = 0
    · rw [if_pos a1]
      by_cases a2 : cnt = n
      · rw [if_pos a2]; exact key _ _ _ h.le h.ok hg ⟨k.st, by show cnt ≤ 64; omega, k.slot, fun e => by have e' : (Q j).st = 1 := e; omega, k.id⟩ (by show 1 ≤ 2; omega)
      · rw [if_neg a2]; exact key _ _ _ h.le h.ok hg ⟨by show 1 ≤ 2; omega, by show cnt ≤ 64; omega, k.slot, fun _ => by show cnt < n; omega, k.id⟩ ks
    · rw [if_neg a1]
      by_cases a2 : (Q j).st = 1
      · rw [if_pos a2]
        have lw := k.low a2
        by_cases a3 : cnt = (Q j).seen
        · rw [if_pos a3]; exact key _ _ _ (by show cnt + 1 ≤ n; omega) h.ok hg ⟨by show 2 ≤ 2; omega, k.seen, k.slot, fun e => by have e' : (2 : Nat) = 1 := e; omega, k.id⟩ ks
        · rw [if_neg a3]; exact key _ _ _ h.le h.ok hg ⟨by show 0 ≤ 2; omega, k.seen, k.slot, fun e => by have e' : (0 : Nat) = 1 := e; omega, k.id⟩ ks
      · rw [if_neg a2]
        by_cases a3 : (nxW (R (Q j).slot).wd 1 ((Q j).pd != 0)).2 = 0
        · rw [if_pos a3]
          have hs := k.slot
          have gs := h.gv _ hs
          refine key _ _ _ h.le (fun i hi => ?_) (fun i hi => ?_) ⟨k.st, k.seen, k.slot, k.low, by show ((R (Q j).slot).gv + 1) * 64 + (Q j).slot ≤ 1000000; omega⟩ (by show 2 ≤ 2; omega)
          · dsimp only
            by_cases e : i = (Q j).slot
            · subst e; rw [upR_same]; exact nx_okW _ _ _ (h.ok _ hs)
            · rw [upR_other _ _ e]; exact h.ok i hi
          · dsimp only
            by_cases e : i = (Q j).slot
            · subst e; rw [upR_same]; show (R (Q j).slot).gv + 1 ≤ m + 1; omega
            · rw [upR_other _ _ e]; exact hg i hi
        · rw [if_neg a3]; exact key _ _ _ h.le h.ok hg ⟨k.st, k.seen, Nat.mod_lt _ n0, k.low, k.id⟩ ks
end
end Verge
namespace Go.Proofs.Ytjhmmfdmoalfmaa
open Go.RowKit Verge
attribute [local go_sem] Oper.semAt_some
set_option linter.unusedVariables false
set_option linter.unusedSimpArgs false
theorem refStep_any {vb lb n cnt np : Nat} {R : Nat → Rec} {Q : Nat → Rq} {ar : Option Addr} {cr : Nat} {k m : Nat} {w : World} (h : RfS w vb lb n cnt R np Q ar cr) (i : AInv n cnt R np Q m) (hm : m ≤ 900) (hk : k < np) :
    Calls Try.prog 13 #[.pointer (some ⟨vb, 0, none⟩), .int .i64 k] w fun e w' => e = .returned (.int .i64 ((stepM n cnt R (Q k)).2.2.ss : Nat)) ∧ RfS w' vb lb n (stepM n cnt R (Q k)).1 (stepM n cnt R (Q k)).2.1 np (upQ Q k (stepM n cnt R (Q k)).2.2) ar cr ∧ Ch (VS vb lb ar) w w' := by
  have hnp : np ≤ 1000 := by have := i.nm; omega
  obtain ⟨ok, ss⟩ := i.q k hk
  have hs := ok.slot
  have hw := i.lt hs
  have hg : (R (Q k).slot).gv ≤ 900000 := by have := i.gv _ hs; omega
  have hle := i.le
  have h1 := h.n1
  unfold stepM
  by_cases a0 : (Q k).ss ≠ 0
  · rw [if_pos a0]
    by_cases b1 : (Q k).ss = 1
    · have X := refStep_full0 h hk (by unfold atN; rw [if_pos b1]) hnp
      rw [b1]; exact X
    · have b2 : (Q k).ss = 2 := by omega
      have X := refStep_held0 h hk (by unfold atN; rw [if_neg b1, if_pos b2]) hnp
      rw [b2]; exact X
  · rw [if_neg a0]
    have a0 : (Q k).ss = 0 := by omega
    have hat : atN (Q k) = (Q k).st := by unfold atN; rw [if_neg (by omega), if_neg (by omega)]
    by_cases a1 : (Q k).st = 0
    · rw [if_pos a1]
      by_cases a2 : cnt = n
      · rw [if_pos a2]; have X := refStep_full h hk (hat.trans a1) hnp a0 a2; exact X
      · rw [if_neg a2]
        have X := refStep_look h hk (hat.trans a1) hnp a0 (by omega)
        exact X.mono fun e w' ⟨he, s, c⟩ => ⟨by rw [he]; show _ = Ending.returned (.int .i64 ((Q k).ss : Nat)); rw [a0]; rfl, s, c⟩
    · rw [if_neg a1]
      by_cases a2 : (Q k).st = 1
      · rw [if_pos a2]
        by_cases a3 : cnt = (Q k).seen
        · rw [if_pos a3]
          have X := refStep_claim h hk (hat.trans a2) hnp a0 a3 (by omega)
          exact X.mono fun e w' ⟨he, s, c⟩ => ⟨by rw [he]; show _ = Ending.returned (.int .i64 ((Q k).ss : Nat)); rw [a0]; rfl, s, c⟩
        · rw [if_neg a3]
          have X := refStep_miss h hk (hat.trans a2) hnp a0 a3
          exact X.mono fun e w' ⟨he, s, c⟩ => ⟨by rw [he]; show _ = Ending.returned (.int .i64 ((Q k).ss : Nat)); rw [a0]; rfl, s, c⟩
      · rw [if_neg a2]
        have a4 : (Q k).st = 2 := by have := ok.st; omega
        by_cases a3 : (nxW (R (Q k).slot).wd 1 ((Q k).pd != 0)).2 = 0
        · rw [if_pos a3]; have X := refStep_hold h hk (hat.trans a4) hnp a0 hs hw a3 hg; exact X
        · rw [if_neg a3]
          have X := refStep_busy h hk (hat.trans a4) hnp a0 hs hw a3
          exact X.mono fun e w' ⟨he, s, c⟩ => ⟨by rw [he]; show _ = Ending.returned (.int .i64 ((Q k).ss : Nat)); rw [a0]; rfl, s, c⟩
theorem made_refs (n : Nat) (w : World) (n1 : n ≤ 64) : ∃ M : Array Value, (Instr.makeSlice 37 (.int .i64 (n : Int)) (.int .i64 (n : Int))).run Try.prog w = .ok (.slice (some ⟨w.heap.size, 0, none⟩) n n) (w.alloc (.cells M 48)) ∧
    ∀ i, i < n → M[i * 3]? = some (.int .u64 0) ∧ M[i * 3 + 1]? = some (.int .u64 0) ∧ M[i * 3 + 2]? = some (.int .u64 0) := by
  have h0 : (Try.prog.info? 48).map (fun i => (i.zero, i.size, decide (i.bytes ≤ 1000))) = some (some (.agg #[.int .u64 0, .int .u64 0, .int .u64 0]), 3, true) := by kernel_rfl
  obtain ⟨inf, hi, he⟩ := Option.map_eq_some_iff.1 h0
  simp only [Prod.mk.injEq, decide_eq_true_eq] at he
  obtain ⟨hz, hsz, hby⟩ := he
  clear h0
  have hr := run_make (P := Try.prog) w 37 48 inf _ Try.underlying37 hi hz .i64 .i64 (n : Int) (n : Int) (by omega) (Int.le_refl _) (by
      have h1 : inf.bytes * n ≤ 1000 * 64 := Nat.mul_le_mul hby n1
      have h2 : ((inf.bytes * n : Nat) : Int) ≤ 281474976710656 := by omega
      rwa [Int.natCast_mul] at h2) (by omega)
  refine ⟨_, by simpa using hr, fun i hi' => ?_⟩
  rw [hsz]
  have g : ∀ c, c < 3 → (i * 3 + c) % 3 = c := fun c hc => by omega
  refine ⟨?_, ?_, ?_⟩
  · rw [made_at _ _ _ (by omega)]; show some (_[(i * 3 + 0) % 3]!) = _; rw [g 0 (by omega)]; rfl
  · rw [made_at _ _ _ (by omega)]; show some (_[(i * 3 + 1) % 3]!) = _; rw [g 1 (by omega)]; rfl
  · rw [made_at _ _ _ (by omega)]; show some (_[(i * 3 + 2) % 3]!) = _; rw [g 2 (by omega)]; rfl
set_option maxHeartbeats 4000000 in
theorem refNew_of (n : Nat) (w : World) (n0 : 0 < n) (n1 : n ≤ 64) :
    Calls Try.prog 11 #[.int .i64 n] w fun e w' => ∃ vb lb, e = .returned (.pointer (some ⟨vb, 0, none⟩)) ∧ w.heap.size ≤ vb ∧ w.heap.size ≤ lb ∧ RfS w' vb lb n 0 zeroR 0 (fun _ => ⟨0, 0, 0, 0, 0, 0⟩) none 0 ∧ Ch Nil w w' := by
  obtain ⟨M, hM, hc⟩ := made_refs n w n1
  have HC := Lib.hid hc
  clear hc
  go_enter Try.func11, Try.ntmps11
  go_wp2
  go_ret
  clear hM
  have cA : Ch Nil (w.alloc (Obj.cells M 48)) ((w.alloc (Obj.cells M 48)).alloc (Obj.cells #[.slice (some ⟨w.heap.size, 0, none⟩) n n, .int .i64 0, .slice none 0 0] 39)) := (Ch.refl _ _).alloc _
  have eS : (w.alloc (Obj.cells M 48)).heap.size = w.heap.size + 1 := by simp
  refine ⟨w.heap.size + 1, w.heap.size, by simp, by omega, by omega, ⟨?_, ?_, ?_, ?_, ?_, ?_, Row.nil _ _ _ _, by omega, fun e => by simp [OwnS] at e, fun e => by simp [OwnS] at e, n0, n1⟩, ((Ch.refl _ _).alloc _).alloc _⟩
  · rw [← eS]; simp [go_sem]
  · rw [← eS]; simp [go_sem]
  · rw [← eS]; simp [go_sem]
  · rw [← eS]; simp [go_sem]
  · rw [← eS]; simp [go_sem]
  · intro p hp
    have hs : IsRr (w.alloc (Obj.cells M 48)) w.heap.size (p * 3) (zeroR p) := by
      obtain ⟨a0, a1, a2⟩ := HC.out p hp
      exact ⟨(made_cell _ _ _ _).trans a0, (made_cell _ _ _ _).trans a1, (made_cell _ _ _ _).trans a2, made_frozen _ _ _ _, made_frozen _ _ _ _, made_frozen _ _ _ _⟩
    exact hs.kept cA (fun e => e)
end Go.Proofs.Ytjhmmfdmoalfmaa
