import Derived.Test.YtldnmpiaofppgaaDoorK08
import Derived.Test.YtldnmpiaofppgaaDoorK03
import Derived.Test.YtldnmpiaofppgaaDoorK01
import Derived.IntWalk
/-
  Contracts of package wheel's values, At, Beyond, Len, Now, of verge/api.Tasks.
-/
namespace Go.Proofs.YtldnmpiaofppgaaDoor.LT
open Go.RowKit Verge
attribute [local go_sem] Oper.semAt_some
set_option linter.unusedVariables false
set_option linter.unusedSimpArgs false
section
variable {S : Nat → Prop} {w w' : World} {g : Wh} {now : Nat} {R : Nat → List Ent} {P Q : List Ent} {x : Ent} {ys : List Ent} {a : Option Addr} {cap : Nat}
theorem now_at (wb now : Nat) (w : World) (hn : w.cell? ⟨wb, 0, none⟩ = some (.int .u64 (now : Nat))) :
    Calls Tryd.prog 39 #[.pointer (some ⟨wb, 0, none⟩)] w fun e w' => e = .returned (.int .u64 (now : Nat)) ∧ w = w' := by
  go_enter Tryd.func39, Tryd.ntmps39
  go_wp2
  go_ret
  exact ⟨rfl, rfl⟩
theorem now_nil (w : World) :
    Calls Tryd.prog 39 #[.pointer none] w fun e w' => e = .returned (.int .u64 0) ∧ w = w' := by
  go_enter Tryd.func39, Tryd.ntmps39
  go_wp2
  go_ret
  exact ⟨rfl, rfl⟩

/-- how many the first k levels have, and what lies beyond -/
def lenUpto (R : Nat → List Ent) : Nat → Nat
  | 0 => (R 256).length
  | k + 1 => lenUpto R k + totX (nrow R k)
theorem lenUpto_all : lenUpto (rowsOf Q now) 4 = Q.length := by
  have h : ∀ b, totX (nrow (rowsOf Q now) b) = totUpto (fun s => (rowsOf Q now (64 * b + s)).map (·.e)) 64 := fun b => totUpto_congr 64 fun i hi => by rw [nrow_len hi, List.length_map]
  rw [← tot_all now Q]
  simp only [lenUpto, h]
theorem lenUpto_le (k : Nat) (hk : k ≤ 4) : lenUpto R k ≤ lenUpto R 4 := by
  have : k = 0 ∨ k = 1 ∨ k = 2 ∨ k = 3 ∨ k = 4 := by omega
  rcases this with rfl | rfl | rfl | rfl | rfl <;> simp only [lenUpto] <;> omega

set_option maxHeartbeats 1000000 in
set_option maxRecDepth 100000 in
theorem IsQ.len (H : IsQ w g now Q P) (T : Tab w) (hl : Q.length ≤ 100000) :
    Calls Tryd.prog 40 #[.pointer (some ⟨g.wb, 0, none⟩)] w fun e w' => e = .returned (.int .i64 (Q.length : Nat)) ∧ Ch Nil w w' := by
  have q0 := H.w.p 0 (by omega)
  have q1 := H.w.p 1 (by omega)
  have q2 := H.w.p 2 (by omega)
  have q3 := H.w.p 3 (by omega)
  have q4 := H.w.b
  have LL := Lib.hid (len_of g.lb _ w H.w.l.h.n)
  rw [List.length_map] at LL
  have VL : Hid (∀ h wr, h < 4 → Ch Nil w wr → Calls Tryd.prog 72 #[.pointer (some ⟨g.vb h, 0, none⟩)] wr fun e w' => e = .returned (.int .i64 (totX (nrow (rowsOf Q now) h) : Nat)) ∧ Ch Nil wr w') := Lib.hid fun h wr hh c =>
    vlen_of ((H.w.v h hh).kept c (fun _ _ e => e)) (T.keeps c (fun e => e)) (fun i hi => by rw [nrow_len hi]; have := rowsOf_len (Q := Q) (now := now) (p := 64 * h + i); omega)
  have LE : Hid (∀ k, k ≤ 4 → lenUpto (rowsOf Q now) k ≤ 100000) := Lib.hid fun k hk => by have := lenUpto_le (R := rowsOf Q now) k hk; rw [lenUpto_all] at this; omega
  have ALL := Lib.hid (lenUpto_all (Q := Q) (now := now))
  have ST : Hid (∀ k, lenUpto (rowsOf Q now) (k + 1) = lenUpto (rowsOf Q now) k + totX (nrow (rowsOf Q now) k)) := Lib.hid fun k => rfl
  have L0 : Hid (lenUpto (rowsOf Q now) 0 = (rowsOf Q now 256).length) := Lib.hid rfl
  generalize lenUpto (rowsOf Q now) = f at *
  clear H T
  have ix : ∀ (p0 p1 p2 p3 : Value) (w : World), (Instr.index 124 (.agg #[p0, p1, p2, p3]) (.int .i64 0)).run Tryd.prog w = .ok p0 w ∧ (Instr.index 124 (.agg #[p0, p1, p2, p3]) (.int .i64 1)).run Tryd.prog w = .ok p1 w ∧ (Instr.index 124 (.agg #[p0, p1, p2, p3]) (.int .i64 2)).run Tryd.prog w = .ok p2 w ∧ (Instr.index 124 (.agg #[p0, p1, p2, p3]) (.int .i64 3)).run Tryd.prog w = .ok p3 w := fun _ _ _ _ _ => ⟨by kernel_rfl, by kernel_rfl, by kernel_rfl, by kernel_rfl⟩
  have i0 := fun w => (ix (.pointer (some ⟨g.vb 0, 0, none⟩)) (.pointer (some ⟨g.vb 1, 0, none⟩)) (.pointer (some ⟨g.vb 2, 0, none⟩)) (.pointer (some ⟨g.vb 3, 0, none⟩)) w).1
  have i1 := fun w => (ix (.pointer (some ⟨g.vb 0, 0, none⟩)) (.pointer (some ⟨g.vb 1, 0, none⟩)) (.pointer (some ⟨g.vb 2, 0, none⟩)) (.pointer (some ⟨g.vb 3, 0, none⟩)) w).2.1
  have i2 := fun w => (ix (.pointer (some ⟨g.vb 0, 0, none⟩)) (.pointer (some ⟨g.vb 1, 0, none⟩)) (.pointer (some ⟨g.vb 2, 0, none⟩)) (.pointer (some ⟨g.vb 3, 0, none⟩)) w).2.2.1
  have i3 := fun w => (ix (.pointer (some ⟨g.vb 0, 0, none⟩)) (.pointer (some ⟨g.vb 1, 0, none⟩)) (.pointer (some ⟨g.vb 2, 0, none⟩)) (.pointer (some ⟨g.vb 3, 0, none⟩)) w).2.2.2
  clear ix
  go_enter Tryd.func40, Tryd.ntmps40
  go_wp2_with fail
  refine LL.out.mono ?_
  rintro e w1 ⟨rfl, rfl⟩
  rw [← L0.out]
  go_wp2
  go_loopw [17, 3] (fun i c wr => ∃ k : Nat, k ≤ 4 ∧ i = .int .i64 k ∧ c = .int .i64 (f k : Nat) ∧ Ch Nil w wr) (fun i _ _ => 4 - (intOf i).toNat)
  case atStart => exact ⟨0, by omega, rfl, rfl, Ch.refl _ _⟩
  case round =>
    obtain ⟨k, hk, rfl, rfl, c5⟩ := hrel
    have C5 := Lib.hid c5
    clear c5
    by_cases hlt : k < 4
    · have b1 := LE.out k (by omega)
      have b2 := LE.out (k + 1) (by omega)
      have V := Lib.hid (VL.out k wr hlt C5.out)
      have st := ST.out k
      generalize totX (nrow (rowsOf Q now) k) = m at *
      obtain ⟨p, hp⟩ : ∃ p, p = f k := ⟨_, rfl⟩
      rw [← hp] at b1 st ⊢
      have SUM := Lib.hid st
      have b3 : p + m ≤ 100000 := by omega
      clear st hp b2
      have : k = 0 ∨ k = 1 ∨ k = 2 ∨ k = 3 := by omega
      rcases this with rfl | rfl | rfl | rfl
      all_goals
        go_wp2_with fail
        refine V.out.mono ?_
        rintro e w6 ⟨rfl, c6⟩
        have C6 := Lib.hid (C5.out.trans c6)
        clear c6
        go_wp2
        go_roundw
        case rel => first | exact ⟨0 + 1, by omega, by go_num, by rw [SUM.out]; go_num, C6.out⟩ | exact ⟨1 + 1, by omega, by go_num, by rw [SUM.out]; go_num, C6.out⟩ | exact ⟨2 + 1, by omega, by go_num, by rw [SUM.out]; go_num, C6.out⟩ | exact ⟨3 + 1, by omega, by go_num, by rw [SUM.out]; go_num, C6.out⟩
        case measure => simp [intOf]
    · obtain rfl : k = 4 := by omega
      rw [ALL.out]
      go_wp2
      go_ret
      exact ⟨rfl, C5.out⟩
theorem len_nilw (w : World) :
    Calls Tryd.prog 40 #[.pointer none] w fun e w' => e = .returned (.int .i64 0) ∧ w = w' := by
  go_enter Tryd.func40, Tryd.ntmps40
  go_wp2
  go_ret
  exact ⟨rfl, rfl⟩
end
end Go.Proofs.YtldnmpiaofppgaaDoor.LT

/-
  A wheel, and what was there before it: its calls as the statements use them, of verge/api.Tasks.
-/
namespace Go.Proofs.YtldnmpiaofppgaaDoor.LT
open Go.RowKit Verge
set_option linter.unusedVariables false
/-- a wheel that the call made itself: nothing that was there before has turned -/
structure Drv (w0 w : World) (g : Wh) (now : Nat) (Q P : List Ent) : Prop where
  q : IsQ w g now Q P
  hi : ∀ k, WS g P k → w0.heap.size ≤ k
  c : Ch Nil w0 w
section
variable {S : Nat → Prop} {w0 w w' : World} {g : Wh} {now : Nat} {P Q : List Ent} {x : Ent}
theorem Drv.later (D : Drv w0 w g now Q P) (c : Ch S w w') (hn : ∀ k, WS g P k → ¬ S k) (hs : ∀ k, S k → w0.heap.size ≤ k) : Drv w0 w' g now Q P := ⟨D.q.kept c hn, D.hi, D.c.up c hs⟩
theorem Drv.quiet (D : Drv w0 w g now Q P) (c : Ch Nil w w') : Drv w0 w' g now Q P := D.later c (fun _ _ e => e) (fun _ e => e.elim)
theorem Drv.lt (D : Drv w0 w g now Q P) {k : Nat} (hk : WS g P k) : k < w.heap.size := D.q.lt hk
theorem Drv.base {v : World} (D : Drv w w' g now Q P) (c : Ch Nil v w) : Drv v w' g now Q P := ⟨D.q, fun k hk => Nat.le_trans c.size (D.hi k hk), c.trans D.c⟩
theorem Drv.new (now : Nat) (hn : now < 18446744073709551616) (c : Ch Nil w0 w) :
    Calls Tryd.prog 30 #[.int .u64 (now : Nat)] w fun e w' => ∃ g : Wh, e = .returned (.pointer (some ⟨g.wb, 0, none⟩)) ∧ (∀ k, WS g [] k → w.heap.size ≤ k) ∧ Drv w0 w' g now [] [] ∧ Ch Nil w w' :=
  (neww_of w now hn).mono fun e w' ⟨g, he, h, hi, c'⟩ => ⟨g, he, hi, ⟨.new h, fun k hk => Nat.le_trans c.size (hi k hk), c.trans c'⟩, c'⟩
theorem Drv.insert (D : Drv w0 w g now Q P) (d : Nat) (u : Tk) (hd : now < d) (hd2 : d < 18446744073709551616) (hl : Q.length ≤ 90000) :
    Calls Tryd.prog 32 #[.pointer (some ⟨g.wb, 0, none⟩), .int .u64 (d : Nat), .agg #[.int .u64 (u.i : Nat), .int .i64 u.s, .int .u64 (u.g : Nat), .int .u64 (u.d : Nat), .int .u64 (u.p : Nat)]] w fun e w' => ∃ b, e = .returned (.tuple #[.pointer (some ⟨b, 0, none⟩), .int .i64 0]) ∧ w.heap.size ≤ b ∧ Drv w0 w' g now (Q ++ [⟨b, d, u⟩]) (P ++ [⟨b, d, u⟩]) ∧ Ch (WS g P) w w' := by
  refine (D.q.insert d u hd hd2 hl).mono fun e w' ⟨b, he, hb, hq, c⟩ => ⟨b, he, hb, ⟨hq, fun k hk => ?_, D.c.up c D.hi⟩, c⟩
  have := D.c.size
  rcases WS.more hk with h | h | h
  · exact D.hi k h
  · simp only at h; omega
  · simp only at h; omega
theorem Drv.advance (D : Drv w0 w g now Q P) (hn : now + 1 < 18446744073709551616) (hl : Q.length ≤ 45000) :
    Calls Tryd.prog 35 #[.pointer (some ⟨g.wb, 0, none⟩)] w fun e w' => ∃ a cap, e = .returned (.tuple #[.slice a (dueQ Q (now + 1)).length cap, .int .i64 0]) ∧ RowX w' a (dueQ Q (now + 1)).length cap (dueQ Q (now + 1)) ∧ (∀ k, OwnS a k → w.heap.size ≤ k) ∧ Drv w0 w' g (now + 1) (leftQ Q (now + 1)) P ∧ Ch (WS g P) w w' :=
  (D.q.advance hn hl).mono fun e w' ⟨a, cap, he, r, g1, hq, c⟩ => ⟨a, cap, he, r, g1, ⟨hq, D.hi, D.c.up c D.hi⟩, c⟩
theorem Drv.over (D : Drv w0 w g 18446744073709551615 Q P) :
    Calls Tryd.prog 35 #[.pointer (some ⟨g.wb, 0, none⟩)] w fun e w' => e = .returned (.tuple #[.slice none 0 0, .int .i64 9]) ∧ w = w' := advance_over w g.wb D.q.w.t
theorem Drv.time (D : Drv w0 w g now Q P) :
    Calls Tryd.prog 39 #[.pointer (some ⟨g.wb, 0, none⟩)] w fun e w' => e = .returned (.int .u64 (now : Nat)) ∧ w = w' := now_at g.wb now w D.q.w.t
theorem Drv.len (D : Drv w0 w g now Q P) (T : Tab w0) (hl : Q.length ≤ 100000) :
    Calls Tryd.prog 40 #[.pointer (some ⟨g.wb, 0, none⟩)] w fun e w' => e = .returned (.int .i64 (Q.length : Nat)) ∧ Ch Nil w w' := D.q.len (T.keeps D.c (fun e => e)) hl
end
end Go.Proofs.YtldnmpiaofppgaaDoor.LT

/-
  'for x := range f': a law of our own for a loop that may be left, whose values are told by what holds of them (the iterator itself may make memory between two rounds).
-/
namespace Go.Proofs.YtldnmpiaofppgaaDoor
open Go.RowKit
set_option linter.unusedVariables false

/-- what is asked of the iterator: whatever the caller's words J, Jx of the rounds, as long as J tells I and stands though memory is made -/
def TellsVal (n : Nat) (P : Program) (gf : Nat) (args : Nat → Array Value) (N : Nat) (T : Nat → Value → World → Prop) (I : Nat → World → Prop) : Prop :=
  ∀ (l : Nat) (J Jx : Nat → World → Prop) (W : World), (∀ k W, J k W → I k W) → (∀ k W W', J k W → Ch Nil W W' → J k W') →
    (∀ k v W1, J k W1 → k < N → T k v W1 → YieldAt Fence.wide (n - 1) P l #[v] W1 fun e W' => (e = .returned (.bool true) ∧ J (k + 1) W') ∨ (e = .returned (.bool false) ∧ Jx k W')) → J 0 W →
    CallsIn Fence.wide n P gf (args l) W fun e W' => (∃ v, e = .returned v) ∧ (J N W' ∨ ∃ k, k < N ∧ Jx k W')

theorem range_val {n : Nat} {P : Program} {g : Operand} {ps : Array Tmp} {assign body : Code} {Q : Exit → Act → World → Prop} {a : Act} {w : World} {gf : Nat} {ba : Array Value}
    (hg : a.eval g = .func (.func gf) ba #[]) (eg : ∀ args w, (callFunc gf args).run P w = .ok (.enter gf args) w)
    (N : Nat) (T : Nat → Value → World → Prop) (hps : ps.size = 1) (I : Nat → World → Prop) (Ix : Code → Nat → World → Prop) (hI : Steady w.heap.size I) (hC : ∀ k W W', I k W → Ch Nil W W' → I k W') (hT : ∀ v, Steady w.heap.size (fun k => T k v)) (hIx : ∀ c, Steady w.heap.size (Ix c)) (h0 : I 0 w)
    (hit : TellsVal (n - 1) P gf (fun l => ba ++ #[.func (.yield l) #[] #[]]) N T I) (a₁ : Value → Act)
    (hassign : ∀ (l : Nat) (v : Value) (W : World) (K : Act → World → Prop), K (a₁ v) W →
      assign.wpIn (Fence.wide.inRound l) (n - 1 - 1) P (Exit.then K (fun _ _ _ => False)) { tmps := (ps.zip #[v]).foldl (fun t (p, v) => t.setIfInBounds p v) a.tmps, defers := [] } W)
    (hbody : ∀ (l k : Nat) (v : Value) (W : World), I k W → T k v W → k < N → body.wpIn (Fence.wide.inRound l) (n - 1 - 1) P (somePost w.heap.size I Ix k W) (a₁ v) W)
    (hdone : ∀ (D : Nat) (W : World), w.heap.size ≤ D → I N W → W.heap[D]? = some (.deferred (some [])) → Q .normal { a with defers := { target := .collected D, args := #[] } :: a.defers } W)
    (hstop : ∀ (D : Nat) (c : Code) (k : Nat) (W : World), w.heap.size ≤ D → k < N → Ix c k W → W.heap[D]? = some (.deferred (some [])) → c.wpIn Fence.wide n P Q { a with defers := { target := .collected D, args := #[] } :: a.defers } W) :
    (Code.rangeFunc g ps assign body).wpIn Fence.wide n P Q a w := by
  refine wpIn_rangeFunc ?_
  intro fn hfn
  obtain ⟨D, hD⟩ : ∃ D, D = w.heap.size := ⟨_, rfl⟩
  obtain ⟨rec, hrec⟩ : ∃ rec : LoopState → Option Code → Loop, rec = fun st pe => { state := st, pending := pe, fn, tmps := a.tmps, params := ps, assign, body, defers := D } := ⟨_, rfl⟩
  obtain ⟨W1, hW1⟩ : ∃ W1, W1 = (w.alloc (.deferred (some []))).alloc (.loop (rec .ready none)) := ⟨_, rfl⟩
  have hs1 : (w.alloc (.deferred (some []))).heap.size = D + 1 := by rw [World.size_alloc, hD]
  have hK1 : W1.heap[D]? = some (.deferred (some [])) := by
    rw [hW1, Below.heap_alloc _ _ _ (by omega), hD]; exact World.alloc_heap_new w _
  have hL1 : W1.heap[D + 1]? = some (.loop (rec .ready none)) := by
    rw [hW1, ← hs1]; exact World.alloc_heap_new _ _
  have hI1 : I 0 W1 := by rw [hW1]; exact hI.new _ (hI.new _ h0 (Nat.le_refl _)) (by rw [World.size_alloc]; omega)
  let J : Nat → World → Prop := fun k W => I k W ∧ W.heap[D + 1]? = some (.loop (rec .ready none)) ∧ W.heap[D]? = some (.deferred (some []))
  let Jx : Nat → World → Prop := fun k W => ∃ c, Ix c k W ∧ W.heap[D + 1]? = some (.loop (rec .done (some c))) ∧ W.heap[D]? = some (.deferred (some []))
  refine ⟨D + 1, [{ target := .collected D, args := #[] }], W1, { target := .fn (.func gf) #[], args := ba ++ #[.func (.yield (D + 1)) #[] #[]] }, W1, gf, ba ++ #[.func (.yield (D + 1)) #[] #[]], W1, ?_, ?_, fun _ _ => trivial, ?_, fun h => (by cases h), ?_⟩
  · rw [hW1, hrec, hD]; exact run_enterLoop_outer fn a.tmps ps assign body
  · simp only [resolve, hg]; simp [go_sem]
  · simp [invoke, go_sem, eg]
  · refine (hit (D + 1) J Jx W1 (fun k W h => h.1) (fun k W W' h c => ⟨hC k W W' h.1 c, (c.block _ (Array.getElem?_eq_some_iff.1 h.2.1).1 (fun e => e)).trans h.2.1, (c.block _ (Array.getElem?_eq_some_iff.1 h.2.2).1 (fun e => e)).trans h.2.2⟩) ?_ ⟨hI1, hL1, hK1⟩).mono ?_
    · rintro k v W ⟨hi, hl, hk⟩ hkN hv
      have hlt := (Array.getElem?_eq_some_iff.1 hl).1
      have hy := run_yield (P := P) (args := #[v]) hl (by rw [hrec]; simp [hps])
      rw [hrec] at hy
      refine ⟨fn, _, assign, body, hy, roundIn_of_wpIn hfn (hassign _ v W _ ⟨_, run_beginRound hl (by rw [hrec]), ?_⟩)⟩
      have hl2 : (W.putObj (D + 1) (.loop { rec .ready none with state := .busy })).heap[D + 1]? = some (.loop { rec .ready none with state := .busy }) := World.putObj_heap_same hlt
      have hk2 : (W.putObj (D + 1) (.loop { rec .ready none with state := .busy })).heap[D]? = some (.deferred (some [])) := (World.putObj_heap_other (by omega)).trans hk
      refine wpIn_mono (hbody _ k v _ (hI.put _ hi (by omega) hl rfl) ((hT v).put _ hv (by omega) hl rfl) hkN) ?_
      have fin : ∀ (jump : Option Code) (W3 : World), KeepsFrom w.heap.size (W.putObj (D + 1) (.loop { rec .ready none with state := .busy })) W3 →
          (Instr.endRound (D + 1) jump).run P W3 = .ok (.bool jump.isNone) (W3.putObj (D + 1) (.loop (rec (if jump.isNone then .ready else .done) jump))) ∧
          W3.heap[D + 1]? = some (.loop { rec .ready none with state := .busy }) ∧
          (W3.putObj (D + 1) (.loop (rec (if jump.isNone then .ready else .done) jump))).heap[D + 1]? = some (.loop (rec (if jump.isNone then .ready else .done) jump)) ∧
          (W3.putObj (D + 1) (.loop (rec (if jump.isNone then .ready else .done) jump))).heap[D]? = some (.deferred (some [])) := fun jump W3 kf => by
        have hl3 := kf.same _ _ (by omega) hl2 rfl
        have hk3 := kf.same _ _ (Nat.le_of_eq hD.symm) hk2 rfl
        have hr := run_endRound (P := P) jump hl3
        refine ⟨by rw [hr, hrec], hl3, ?_, (World.putObj_heap_other (by omega)).trans hk3⟩
        rw [World.putObj_heap_same (Array.getElem?_eq_some_iff.1 hl3).1]
      rintro e a3 W3 hp
      cases e with
      | normal =>
        obtain ⟨kf, hi3⟩ := hp
        obtain ⟨hr, hl3, hl4, hk4⟩ := fin none W3 kf
        exact ⟨_, _, hr, .inl ⟨rfl, hI.put _ hi3 (by omega) hl3 rfl, hl4, hk4⟩⟩
      | ret =>
        obtain ⟨kf, hi3⟩ := hp
        obtain ⟨hr, hl3, hl4, hk4⟩ := fin (some .ret) W3 kf
        exact ⟨_, _, hr, .inr ⟨rfl, .ret, (hIx _).put _ hi3 (by omega) hl3 rfl, hl4, hk4⟩⟩
      | exit id =>
        obtain ⟨kf, hi3⟩ := hp
        obtain ⟨hr, hl3, hl4, hk4⟩ := fin (some (.exit id)) W3 kf
        exact ⟨_, _, hr, .inr ⟨rfl, .exit id, (hIx _).put _ hi3 (by omega) hl3 rfl, hl4, hk4⟩⟩
      | goto t => exact hp.elim
      | panic ch => exact hp.elim
      | outgrown => exact hp.elim
    · rintro e W2 ⟨⟨v, rfl⟩, (⟨hi, hl, hk⟩ | ⟨k, hkN, c, hi, hl, hk⟩)⟩
      · have hE := run_endLoop (P := P) hl (by rw [hrec]; simp)
        have hp : (rec .ready none).pending = none := by rw [hrec]
        rw [hp] at hE
        exact ⟨none, _, hE, hdone D _ (Nat.le_of_eq hD.symm) (hI.put _ hi (by omega) hl rfl) ((World.putObj_heap_other (by omega)).trans hk)⟩
      · have hE := run_endLoop (P := P) hl (by rw [hrec]; simp)
        have hp : (rec .done (some c)).pending = some c := by rw [hrec]
        rw [hp] at hE
        exact ⟨some c, _, hE, hstop D c k _ (Nat.le_of_eq hD.symm) hkN ((hIx c).put _ hi (by omega) hl rfl) ((World.putObj_heap_other (by omega)).trans hk)⟩
end Go.Proofs.YtldnmpiaofppgaaDoor

/-
  Next of no wheel, of tasks.
-/
namespace Go.Proofs.YtldnmpiaofppgaaDoor
open Go.RowKit Go.Shelf Verge Go.Proofs.YtldnmpiaofppgaaDoor.LT
attribute [local go_sem] Oper.semAt_some
set_option linter.unusedVariables false
set_option linter.unusedSimpArgs false
set_option maxRecDepth 100000 in
theorem rows_nil (n : Nat) (h1 : 1 ≤ n) (I : Nat → World → Prop) :
    TellsSome n Tryd.prog 69 (fun l => #[.pointer none] ++ #[.func (.yield l) #[] #[]]) 0 (fun k => .pointer none) I := by
  intro l J Jx W hJ hY h0
  have H0 := Lib.hid h0
  clear hJ hY h0
  refine callsIn_of_wp Tryd.func69 rfl trivial ?_ rfl
  simp only [Tryd.ntmps69, List.size_toArray, List.length_cons, List.length_nil, Nat.reduceAdd, Nat.reduceSub, Array.replicate_succ, Array.replicate_zero, List.push_toArray, List.append_toArray, List.nil_append, List.cons_append]
  gi_wp2
  refine bodyPost_ret (results_none rfl _ _ _) rfl ?_
  exact ⟨⟨_, rfl⟩, .inl H0.out⟩
/-- between two rounds of Next of no wheel -/
structure NxIn (w W : World) : Prop where
  a : ∃ x, W.cell? ⟨w.heap.size, 0, none⟩ = some (.int .u64 x)
  b : ∃ x, W.cell? ⟨w.heap.size + 1, 0, none⟩ = some (.int .i64 x)
  ka : Blk W w.heap.size
  kb : Blk W (w.heap.size + 1)
  c : Ch Nil w W
theorem NxIn.steady {w : World} {B : Nat} (hB : w.heap.size + 2 ≤ B) : Steady B (fun _ => NxIn w) := fun k W W' r h c hr nc => by
  obtain ⟨x, hx⟩ := h.a
  obtain ⟨y, hy⟩ := h.b
  exact ⟨⟨x, c.keeps hx (fun e => nc.cell hx e)⟩, ⟨y, c.keeps hy (fun e => nc.cell hy e)⟩, h.ka.kept c (NoCells.blk nc h.ka), h.kb.kept c (NoCells.blk nc h.kb), h.c.later c (by omega)⟩

set_option maxHeartbeats 1000000 in
set_option maxRecDepth 100000 in
theorem next_nil (w : World) :
    Calls Tryd.prog 38 #[.pointer none] w fun e w' => e = .returned (.tuple #[.int .u64 0, .int .i64 6]) ∧ Ch Nil w w' := by
  have hI0 : NxIn w ((w.alloc (.cells #[.int .u64 0] 29)).alloc (.cells #[.int .i64 0] 25)) := by
    have c1 : Ch Nil w (w.alloc (.cells #[.int .u64 0] 29)) := (Ch.refl _ _).alloc _
    have c2 : Ch Nil (w.alloc (.cells #[.int .u64 0] 29)) ((w.alloc (.cells #[.int .u64 0] 29)).alloc (.cells #[.int .i64 0] 25)) := (Ch.refl _ _).alloc _
    have hs : (w.alloc (.cells #[.int .u64 0] 29)).heap.size = w.heap.size + 1 := by simp
    refine ⟨⟨0, c2.keeps (by simp [cell_fresh]) (fun e => e)⟩, ⟨0, ?_⟩, (Blk.new w _ _).kept c2 (fun e => e), ?_, c1.trans c2⟩
    · rw [← hs]; simp [cell_fresh]
    · rw [← hs]; exact Blk.new _ _ _
  have HI0 := Lib.hid hI0
  have hsz : ((w.alloc (.cells #[.int .u64 0] 29)).alloc (.cells #[.int .i64 0] 25)).heap.size = w.heap.size + 2 := by simp
  clear hI0
  refine (callsIn_wide (n := 5)).1 ?_
  refine callsIn_of_wp_marks Tryd.func38 rfl trivial ?_ rfl
  simp only [Tryd.ntmps38, List.size_toArray, List.length_cons, List.length_nil, Nat.reduceAdd, Nat.reduceSub, Array.replicate_succ, Array.replicate_zero, List.push_toArray, List.append_toArray, List.nil_append, List.cons_append]
  gi_wp2
  generalize hW0 : ((w.alloc (.cells #[.int .u64 0] 29)).alloc (.cells #[.int .i64 0] 25)) = W0 at *
  clear hW0
  refine range_some (n := 5) (gf := 69) (ba := #[.pointer none]) rfl (enters_of Tryd.func69 (by kernel_rfl) rfl) 0 (fun k => .pointer none) rfl
    (fun _ => NxIn w) (fun c k W => False) (NxIn.steady (by omega)) (fun c k W W' r h => h.elim) HI0.out (rows_nil 4 (by omega) _) ?act1 ?assign ?body ?done ?stop
  case assign =>
    intro l k W K hK
    gi_wp2
    exact hK
  case body => intro l k W hW hk; omega
  case stop => intro D c k W hD hk; omega
  case done =>
    intro D W hD hW hK
    obtain ⟨x, c1⟩ := hW.a
    obtain ⟨y, c2⟩ := hW.b
    have f1 := hW.ka.fz 0
    have f2 := hW.kb.fz 0
    have HC := Lib.hid hW.c
    clear hW
    have ne1 : w.heap.size ≠ w.heap.size + 1 := by omega
    have ne2 : w.heap.size + 1 ≠ w.heap.size := by omega
    gi_wp2
    have ch1 : Ch (fun k => k = w.heap.size ∨ k = w.heap.size + 1) W ((W.setCell ⟨w.heap.size, 0, none⟩ (.int .u64 0)).setCell ⟨w.heap.size + 1, 0, none⟩ (.int .i64 6)) :=
      ((Ch.refl _ W).set (p := ⟨w.heap.size, 0, none⟩) (fun _ => .inl rfl) _).set (p := ⟨w.heap.size + 1, 0, none⟩) (fun _ => .inr rfl) _
    have hlt := lt_of_cell c1
    have hlt2 := lt_of_cell c2
    have hK2 : ((W.setCell ⟨w.heap.size, 0, none⟩ (.int .u64 0)).setCell ⟨w.heap.size + 1, 0, none⟩ (.int .i64 6)).heap[D]? = some (.deferred (some [])) := (ch1.block D (Array.getElem?_eq_some_iff.1 hK).1 (by intro e; omega)).trans hK
    refine ⟨by simp, .inl ⟨_, _, rfl, run_takeDeferred hK2, ?_⟩⟩
    have q1 : ((W.setCell ⟨w.heap.size, 0, none⟩ (.int .u64 0)).setCell ⟨w.heap.size + 1, 0, none⟩ (.int .i64 6)).cell? ⟨w.heap.size, 0, none⟩ = some (.int .u64 0) := by rw [cell_set, if_neg (by omega)]; exact World.cell?_setCell_same _ _ _ c1
    have q2 : ((W.setCell ⟨w.heap.size, 0, none⟩ (.int .u64 0)).setCell ⟨w.heap.size + 1, 0, none⟩ (.int .i64 6)).cell? ⟨w.heap.size + 1, 0, none⟩ = some (.int .i64 6) := World.cell?_setCell_same _ _ _ (show _ = some (Value.int .i64 y) from by rw [cell_set, if_neg (by omega)]; exact c2)
    have c3 := (Ch.put (W := (W.setCell ⟨w.heap.size, 0, none⟩ (.int .u64 0)).setCell ⟨w.heap.size + 1, 0, none⟩ (.int .i64 6)) D (.deferred none)).keeps q1 (by intro e; simp at e; omega)
    have c4 := (Ch.put (W := (W.setCell ⟨w.heap.size, 0, none⟩ (.int .u64 0)).setCell ⟨w.heap.size + 1, 0, none⟩ (.int .i64 6)) D (.deferred none)).keeps q2 (by intro e; simp at e; omega)
    refine ⟨.tuple #[.int .u64 0, .int .i64 6], by simp [results, Tryd.results38, go_sem, c3, c4], rfl, ?_⟩
    exact (HC.out.up ch1 (by rintro i (rfl | rfl) <;> omega)).later (Ch.put D (.deferred none)) (by omega)
end Go.Proofs.YtldnmpiaofppgaaDoor

/-
  Contracts of package wheel's least, rows and Next, of ints: the least deadline.
-/
namespace Verge
theorem spot_mono {d e now : Nat} (h1 : now < d) (h2 : now < e) (h : spotN d now < spotN e now) : d < e := by
  unfold spotN at h
  split at h
  · split at h
    · omega
    · split at h
      · omega
      · split at h
        · omega
        · split at h <;> omega
  · split at h
    · split at h
      · omega
      · split at h
        · omega
        · split at h
          · omega
          · split at h <;> omega
    · split at h
      · split at h
        · omega
        · split at h
          · omega
          · split at h
            · omega
            · split at h <;> omega
      · split at h
        · split at h
          · omega
          · split at h
            · omega
            · split at h
              · omega
              · split at h <;> omega
        · split at h
          · omega
          · split at h
            · omega
            · split at h
              · omega
              · split at h <;> omega
/-- the least of a row's deadlines -/
def IsMin (ys : List Ent) (m : Nat) : Prop := (∃ x, x ∈ ys ∧ x.d = m) ∧ ∀ x, x ∈ ys → m ≤ x.d
theorem fromN_zero (X : Nat → List Nat) : (fromN (mapX X) 0 = -1 ∧ ∀ s : Nat, s < 64 → X s = []) ∨ ∃ s : Nat, s < 64 ∧ fromN (mapX X) 0 = (s : Int) ∧ X s ≠ [] ∧ ∀ s' : Nat, s' < s → X s' = [] := by
  have test : ∀ i, i < 64 → ((mapX X).testBit i = false ↔ X i = []) := fun i hi => by rw [mapX_test hi]; simp
  unfold fromN
  cases hc : (slots (mapX X)).find? (fun x : Nat => decide ((0 : Int) ≤ (x : Int))) with
  | none =>
    refine .inl ⟨rfl, fun s hs => ?_⟩
    rw [List.find?_eq_none] at hc
    refine (test s hs).1 ?_
    cases ht : (mapX X).testBit s
    · rfl
    · exact absurd (by simp) (hc s ((mem_slots _ _).2 ⟨hs, ht⟩))
  | some s =>
    rw [List.find?_eq_some_iff_getElem] at hc
    obtain ⟨-, i, hi, he, hlt⟩ := hc
    have hm : s ∈ slots (mapX X) := he ▸ List.getElem_mem hi
    have hms := (mem_slots _ _).1 hm
    obtain rfl : i = 0 := by
      cases i with
      | zero => rfl
      | succ n => have := hlt 0 (by omega); simp at this
    refine .inr ⟨s, hms.1, rfl, fun e => ?_, fun s' hs' => ?_⟩
    · have := (test s hms.1).2 e; rw [this] at hms; cases hms.2
    · refine (test s' (by omega)).1 ?_
      cases ht : (mapX X).testBit s'
      · rfl
      · have hm' := (mem_slots _ _).2 ⟨show s' < 64 by omega, ht⟩
        obtain ⟨j, hj, hj'⟩ := List.getElem_of_mem hm'
        cases j with
        | zero => omega
        | succ n =>
          have := List.pairwise_iff_getElem.1 (slots_sorted (mapX X)) 0 (n + 1) hi hj (by omega)
          omega
end Verge
namespace Go.Proofs.YtldnmpiaofppgaaDoor
open Go.RowKit Go.Shelf Verge Go.Proofs.YtldnmpiaofppgaaDoor.LT
attribute [local go_sem] Oper.semAt_some
set_option linter.unusedVariables false
set_option linter.unusedSimpArgs false
section
variable {w0 w w' W : World} {g : Wh} {now : Nat} {P Q ys : List Ent} {x : Ent} {a : Option Addr} {cap : Nat}

set_option maxHeartbeats 1000000 in
theorem least_of (ys : List Ent) (hne : ys ≠ []) (hg : Given w a ys Nil) (he : ∀ x, x ∈ ys → w.cell? ⟨x.e, 6, none⟩ = some (.int .u64 (x.d : Nat))) (hn : ys.length ≤ 100000) :
    Calls Tryd.prog 70 #[.slice a ys.length cap] w fun e w' => ∃ m : Nat, IsMin ys m ∧ e = .returned (.int .u64 (m : Nat)) ∧ w = w' := by
  have hpos : 0 < ys.length := List.length_pos_iff.2 hne
  obtain ⟨ga, rfl, -, hcell⟩ : ∃ b, a = some ⟨b, 0, none⟩ ∧ ¬ Nil b ∧ ∀ i x, ys[i]? = some x → w.cell? ⟨b, i, none⟩ = some (.pointer (some ⟨x.e, 0, none⟩)) := by
    rcases hg with h | h
    · exact absurd h hne
    · exact h
  obtain ⟨x0, hx0⟩ : ∃ x, ys[0]? = some x := ⟨_, List.getElem?_eq_getElem hpos⟩
  have q0 := hcell 0 x0 hx0
  have q1 := he x0 (List.mem_of_getElem? hx0)
  have HC := Lib.hid hcell
  have HE := Lib.hid he
  have HX0 := Lib.hid hx0
  obtain ⟨n, hln⟩ : ∃ n, n = ys.length := ⟨_, rfl⟩
  have LEN := Lib.hid hln
  rw [← hln] at hn hpos ⊢
  have hpz : (0 : Int) < (n : Int) := by omega
  clear hcell he hg hne hln hx0
  go_enter Tryd.func70, Tryd.ntmps70
  go_wp2
  go_loopw [14, 3] (fun i c wr => ∃ (k m : Nat), k ≤ n ∧ i = .int .i64 k ∧ c = .int .u64 (m : Nat) ∧ (∃ x, x ∈ ys ∧ x.d = m) ∧ (∀ j x, j < k → ys[j]? = some x → m ≤ x.d) ∧ wr = w) (fun i _ _ => n - (intOf i).toNat)
  case atStart => exact ⟨0, x0.d, by omega, rfl, rfl, ⟨x0, List.mem_of_getElem? HX0.out, rfl⟩, fun j x hj => by omega, rfl⟩
  case round =>
    obtain ⟨k, m, hk, rfl, rfl, h1, h2, rfl⟩ := hrel
    have H1 := Lib.hid h1
    have H2 := Lib.hid h2
    clear h1 h2
    by_cases hlt : k < n
    · obtain ⟨x, hx⟩ : ∃ x, ys[k]? = some x := ⟨_, List.getElem?_eq_getElem (by rw [← LEN.out]; exact hlt)⟩
      have r1 := HC.out k x hx
      have r2 := HE.out x (List.mem_of_getElem? hx)
      have HX := Lib.hid hx
      have hkz : (k : Int) < (n : Int) := by omega
      have hkz0 : (0 : Int) ≤ (k : Int) := by omega
      obtain ⟨d, hd⟩ : ∃ d, d = x.d := ⟨_, rfl⟩
      rw [← hd] at r2
      have HD := Lib.hid hd
      clear hx hd
      by_cases hdm : d < m
      · have hz : (d : Int) < (m : Int) := by omega
        go_wp2
        go_roundw
        case rel =>
          refine ⟨k + 1, d, by omega, by go_num, rfl, ⟨x, List.mem_of_getElem? HX.out, HD.out.symm⟩, fun j y hj hy => ?_, by first | rfl | trivial⟩
          by_cases e : j = k
          · subst e; rw [HX.out] at hy; cases hy; rw [HD.out]; omega
          · have := H2.out j y (by omega) hy; omega
        case measure => simp [intOf]; omega
      · have hz : (m : Int) ≤ (d : Int) := by omega
        go_wp2
        go_roundw
        case rel =>
          refine ⟨k + 1, m, by omega, by go_num, rfl, H1.out, fun j y hj hy => ?_, by first | rfl | trivial⟩
          by_cases e : j = k
          · subst e; rw [HX.out] at hy; cases hy; rw [← HD.out]; omega
          · exact H2.out j y (by omega) hy
        case measure => simp [intOf]; omega
    · obtain rfl : k = n := by omega
      go_wp2
      go_ret
      refine ⟨m, ⟨H1.out, fun x hx => ?_⟩, rfl, rfl⟩
      obtain ⟨j, hj⟩ := List.mem_iff_getElem?.1 hx
      exact H2.out j x (by rw [LEN.out]; exact (List.getElem?_eq_some_iff.1 hj).1) hj

/-- a row that is told: none, and the level has none; or the first that has any -/
def RowT (Q : List Ent) (now k : Nat) (v : Value) (W : World) : Prop :=
  ∃ a cap ys, v = .slice a ys.length cap ∧ RowX W a ys.length cap ys ∧ ys.length ≤ 100000 ∧ (∀ x, x ∈ ys → x ∈ Q) ∧ ((ys = [] ∧ ∀ x, x ∈ Q → 64 * k ≤ spotN x.d now → 64 * (k + 1) ≤ spotN x.d now) ∨ (ys ≠ [] ∧ ∃ p, (∀ x, x ∈ ys ↔ x ∈ Q ∧ spotN x.d now = p) ∧ ∀ x, x ∈ Q → 64 * k ≤ spotN x.d now → p ≤ spotN x.d now))
theorem RowT.steady {v : Value} {B : Nat} : Steady B (fun k => RowT Q now k v) := fun k W W' r h c hr nc => by
  obtain ⟨a, cap, ys, h1, h2, h3⟩ := h
  exact ⟨a, cap, ys, h1, Row.steady h2 c nc, h3⟩
theorem ix_levels (p0 p1 p2 p3 : Value) (w : World) : (Instr.index 124 (.agg #[p0, p1, p2, p3]) (.int .i64 0)).run Tryd.prog w = .ok p0 w ∧ (Instr.index 124 (.agg #[p0, p1, p2, p3]) (.int .i64 1)).run Tryd.prog w = .ok p1 w ∧ (Instr.index 124 (.agg #[p0, p1, p2, p3]) (.int .i64 2)).run Tryd.prog w = .ok p2 w ∧ (Instr.index 124 (.agg #[p0, p1, p2, p3]) (.int .i64 3)).run Tryd.prog w = .ok p3 w := ⟨by kernel_rfl, by kernel_rfl, by kernel_rfl, by kernel_rfl⟩
/-- a level's first row that has any -/
theorem firstRow_of {h : Nat} (H : IsQ W g now Q P) (hh : h < 4) (s : Int) (hs : s = fromN (mapX (nrow (rowsOf Q now) h)) 0) (hl : Q.length ≤ 100000) :
    Calls Tryd.prog 87 #[.pointer (some ⟨g.vb h, 0, none⟩), .int .i64 s] W fun e w' => ∃ v, e = .returned v ∧ RowT Q now h v w' ∧ Ch Nil W w' := by
  rcases fromN_zero (nrow (rowsOf Q now) h) with ⟨e1, e2⟩ | ⟨t, ht, e1, e2, e3⟩
  · rw [e1] at hs
    subst hs
    refine (vat_range (g.vb h) (-1) (by omega) W).mono ?_
    rintro e w' ⟨rfl, rfl⟩
    refine ⟨_, rfl, ⟨none, 0, [], rfl, Row.nil _ _ _ _, by simp, fun x hx => (by cases hx), .inl ⟨rfl, fun x hx hp => ?_⟩⟩, Ch.refl _ _⟩
    refine Classical.byContradiction fun hn => ?_
    have hr := e2 (spotN x.d now - 64 * h) (by omega)
    rw [nrow_at (by omega), show 64 * h + (spotN x.d now - 64 * h) = spotN x.d now by omega, List.map_eq_nil_iff] at hr
    have : x ∈ rowsOf Q now (spotN x.d now) := mem_rowsOf.2 ⟨hx, rfl⟩
    rw [hr] at this; cases this
  · rw [e1] at hs
    subst hs
    refine (vat_of (H.w.v h hh) ht (by rw [nrow_len ht]; have := rowsOf_len (Q := Q) (now := now) (p := 64 * h + t); omega)).mono ?_
    rintro e w' ⟨a, cap, rfl, r, -, c⟩
    rw [nrow_at ht] at r e2
    rw [nrow_len ht]
    rw [List.length_map] at r
    refine ⟨_, rfl, ⟨a, cap, _, rfl, r, by have := rowsOf_len (Q := Q) (now := now) (p := 64 * h + t); omega, fun x hx => (mem_rowsOf.1 hx).1, .inr ⟨fun e => e2 (by rw [e]; rfl), 64 * h + t, fun x => mem_rowsOf, fun x hx hp => ?_⟩⟩, c⟩
    refine Classical.byContradiction fun hn => ?_
    have hr := e3 (spotN x.d now - 64 * h) (by omega)
    rw [nrow_at (by omega), show 64 * h + (spotN x.d now - 64 * h) = spotN x.d now by omega, List.map_eq_nil_iff] at hr
    have : x ∈ rowsOf Q now (spotN x.d now) := mem_rowsOf.2 ⟨hx, rfl⟩
    rw [hr] at this; cases this
theorem lastRow_of (H : IsQ W g now Q P) (hl : Q.length ≤ 100000) :
    Calls Tryd.prog 90 #[.pointer (some ⟨g.lb, 0, none⟩)] W fun e w' => ∃ v, e = .returned v ∧ RowT Q now 4 v w' ∧ Ch Nil W w' := by
  refine (H.w.l.all (by rw [List.length_map]; have := rowsOf_len (Q := Q) (now := now) (p := 256); omega)).mono ?_
  rintro e w' ⟨a, cap, rfl, r, -, c⟩
  rw [List.length_map] at r ⊢
  refine ⟨_, rfl, ⟨a, cap, _, rfl, r, by have := rowsOf_len (Q := Q) (now := now) (p := 256); omega, fun x hx => (mem_rowsOf.1 hx).1, ?_⟩, c⟩
  by_cases hr : rowsOf Q now 256 = []
  · refine .inl ⟨hr, fun x hx hp => ?_⟩
    have h2 := spotN_le x.d now
    have : x ∈ rowsOf Q now 256 := mem_rowsOf.2 ⟨hx, by omega⟩
    rw [hr] at this; cases this
  · exact .inr ⟨hr, 256, fun x => mem_rowsOf, fun x hx hp => by omega⟩

set_option maxRecDepth 100000 in
set_option maxHeartbeats 2000000 in
theorem rows_tells (n : Nat) (h1 : 1 ≤ n) (hl : Q.length ≤ 100000) (I : Nat → World → Prop) (hQ : ∀ k W, I k W → IsQ W g now Q P) (hT : ∀ k W, I k W → Tab W) :
    TellsVal n Tryd.prog 69 (fun l => #[.pointer (some ⟨g.wb, 0, none⟩)] ++ #[.func (.yield l) #[] #[]]) 5 (RowT Q now) I := by
  intro l J Jx W hJ hC hY h0
  have HQ := Lib.hid fun k W h => hQ k W (hJ k W h)
  have HT := Lib.hid fun k W h => hT k W (hJ k W h)
  have HC := Lib.hid hC
  have HY := Lib.hid hY
  have H0 := Lib.hid h0
  have q0 := (hQ 0 W (hJ 0 W h0)).w.p 0 (by omega)
  have q1 := (hQ 0 W (hJ 0 W h0)).w.p 1 (by omega)
  have q2 := (hQ 0 W (hJ 0 W h0)).w.p 2 (by omega)
  have q3 := (hQ 0 W (hJ 0 W h0)).w.p 3 (by omega)
  have i0 := fun w => (ix_levels (.pointer (some ⟨g.vb 0, 0, none⟩)) (.pointer (some ⟨g.vb 1, 0, none⟩)) (.pointer (some ⟨g.vb 2, 0, none⟩)) (.pointer (some ⟨g.vb 3, 0, none⟩)) w).1
  have i1 := fun w => (ix_levels (.pointer (some ⟨g.vb 0, 0, none⟩)) (.pointer (some ⟨g.vb 1, 0, none⟩)) (.pointer (some ⟨g.vb 2, 0, none⟩)) (.pointer (some ⟨g.vb 3, 0, none⟩)) w).2.1
  have i2 := fun w => (ix_levels (.pointer (some ⟨g.vb 0, 0, none⟩)) (.pointer (some ⟨g.vb 1, 0, none⟩)) (.pointer (some ⟨g.vb 2, 0, none⟩)) (.pointer (some ⟨g.vb 3, 0, none⟩)) w).2.2.1
  have i3 := fun w => (ix_levels (.pointer (some ⟨g.vb 0, 0, none⟩)) (.pointer (some ⟨g.vb 1, 0, none⟩)) (.pointer (some ⟨g.vb 2, 0, none⟩)) (.pointer (some ⟨g.vb 3, 0, none⟩)) w).2.2.2
  clear hQ hT hJ hC hY h0
  refine callsIn_of_wp Tryd.func69 rfl trivial ?_ rfl
  simp only [Tryd.ntmps69, List.size_toArray, List.length_cons, List.length_nil, Nat.reduceAdd, Nat.reduceSub, Array.replicate_succ, Array.replicate_zero, List.push_toArray, List.append_toArray, List.nil_append, List.cons_append]
  gi_wp2
  gi_loopw [12] (fun v wr => ∃ k : Nat, k ≤ 4 ∧ v = .int .i64 k ∧ J k wr) (fun v _ => 4 - (intOf v).toNat)
  case atStart => exact ⟨0, by omega, rfl, H0.out⟩
  case round =>
    obtain ⟨k, hk, rfl, hj⟩ := hrel
    have HJ2 := Lib.hid hj
    clear hj
    by_cases hlt : k < 4
    · have hQ := HQ.out k wr HJ2.out
      have MP := Lib.hid (map_of (hQ.w.v k hlt))
      have FR := Lib.hid (from_any (mapX (nrow (rowsOf Q now) k)) 0 mapX_lt wr (HT.out k wr HJ2.out))
      obtain ⟨s, hs⟩ : ∃ s, s = fromN (mapX (nrow (rowsOf Q now) k)) 0 := ⟨_, rfl⟩
      rw [← hs] at FR
      have HS := Lib.hid hs
      have RW : Hid (∀ W', Ch Nil wr W' → Calls Tryd.prog 87 #[.pointer (some ⟨g.vb k, 0, none⟩), .int .i64 s] W' fun e w' => ∃ v, e = .returned v ∧ RowT Q now k v w' ∧ Ch Nil W' w') := Lib.hid fun W' c => firstRow_of (hQ.kept c (fun _ _ e => e)) hlt s HS.out hl
      clear hQ hs
      generalize mapX (nrow (rowsOf Q now) k) = mm at *
      have : k = 0 ∨ k = 1 ∨ k = 2 ∨ k = 3 := by omega
      rcases this with rfl | rfl | rfl | rfl
      all_goals
        gi_wp2_with (refine ⟨trivial, ?_⟩; first | (gi_at_call 88; refine (callsIn_wide.2 MP.out).mono ?_; rintro e w' ⟨rfl, rfl⟩) | (gi_at_call 89; refine (callsIn_wide.2 FR.out).mono ?_; rintro e w5 ⟨rfl, c5⟩; have C5 := Lib.hid c5; clear c5) | (gi_at_call 87; refine (callsIn_wide.2 (RW.out _ C5.out)).mono ?_; rintro e w6 ⟨v6, rfl, t6, c6⟩; have C6 := Lib.hid (C5.out.trans c6); have T6 := Lib.hid t6; clear c6 t6; have J6 := Lib.hid (HC.out _ _ _ HJ2.out C6.out); obtain ⟨fn, tmps, assign, body, hy, hR⟩ := HY.out _ v6 w6 J6.out (by omega) T6.out; have HR := Lib.hid hR; clear hR))
        refine HR.out.mono ?_
        rintro e W3 (⟨rfl, hJ3⟩ | ⟨rfl, hJx3⟩)
        · have HJ3 := Lib.hid hJ3
          clear hJ3
          gi_wp2
          go_roundw
          case rel => first | exact ⟨1, by omega, by go_num, HJ3.out⟩ | exact ⟨2, by omega, by go_num, HJ3.out⟩ | exact ⟨3, by omega, by go_num, HJ3.out⟩ | exact ⟨4, by omega, by go_num, HJ3.out⟩
          case measure => simp [intOf]
        · have HJ3 := Lib.hid hJx3
          clear hJx3
          gi_wp2
          refine bodyPost_ret (results_none rfl _ _ _) rfl ?_
          exact ⟨⟨_, rfl⟩, .inr ⟨_, by omega, HJ3.out⟩⟩
    · obtain rfl : k = 4 := by omega
      have hQ := HQ.out 4 wr HJ2.out
      have b4 := hQ.w.b
      have LR := Lib.hid (lastRow_of hQ hl)
      clear hQ
      gi_wp2_with (refine ⟨trivial, ?_⟩; gi_at_call 90; refine (callsIn_wide.2 LR.out).mono ?_; rintro e w6 ⟨v6, rfl, t6, c6⟩; have C6 := Lib.hid c6; have T6 := Lib.hid t6; clear c6 t6; have J6 := Lib.hid (HC.out _ _ _ HJ2.out C6.out); obtain ⟨fn, tmps, assign, body, hy, hR⟩ := HY.out 4 v6 w6 J6.out (by omega) T6.out; have HR := Lib.hid hR; clear hR)
      refine HR.out.mono ?_
      rintro e W3 (⟨rfl, hJ3⟩ | ⟨rfl, hJx3⟩)
      · have HJ3 := Lib.hid hJ3
        clear hJ3
        gi_wp2
        go_end0
        exact ⟨⟨_, rfl⟩, .inl HJ3.out⟩
      · have HJ3 := Lib.hid hJx3
        clear hJx3
        gi_wp2
        go_end0
        exact ⟨⟨_, rfl⟩, .inr ⟨4, by omega, HJ3.out⟩⟩
end
end Go.Proofs.YtldnmpiaofppgaaDoor

/-
  Contract of package wheel's Next, of ints.
-/
namespace Go.Proofs.YtldnmpiaofppgaaDoor
open Go.RowKit Go.Shelf Verge Go.Proofs.YtldnmpiaofppgaaDoor.LT
attribute [local go_sem] Oper.semAt_some
set_option linter.unusedVariables false
set_option linter.unusedSimpArgs false
section
variable {w0 w w' W : World} {g : Wh} {now : Nat} {P Q ys : List Ent} {x : Ent}
/-- between two rounds of Next: the levels so far have none -/
structure NqIn (w : World) (g : Wh) (now : Nat) (Q P : List Ent) (k : Nat) (W : World) : Prop where
  q : IsQ W g now Q P
  t : Tab W
  a : ∃ x, W.cell? ⟨w.heap.size, 0, none⟩ = some (.int .u64 x)
  b : ∃ x, W.cell? ⟨w.heap.size + 1, 0, none⟩ = some (.int .i64 x)
  ka : Blk W w.heap.size
  kb : Blk W (w.heap.size + 1)
  c : Ch Nil w W
  m : ∀ x, x ∈ Q → 64 * k ≤ spotN x.d now
structure NqOut (w : World) (Q : List Ent) (W : World) : Prop where
  x : ∃ m : Nat, IsMin Q m ∧ W.cell? ⟨w.heap.size, 0, none⟩ = some (.int .u64 (m : Nat))
  e : W.cell? ⟨w.heap.size + 1, 0, none⟩ = some (.int .i64 0)
  c : Ch Nil w W
theorem IsW.blkAll {R : Nat → List Ent} (H : IsW W g now R P) {k : Nat} (hk : WS g P k) : Blk W k := by
  rcases hk with rfl | ⟨h, hk⟩ | ⟨x, hx, (rfl | rfl)⟩
  · exact H.k
  · rcases hk with ⟨hh, (rfl | ⟨s, hs, rfl⟩)⟩ | ⟨rfl, rfl⟩
    · exact (H.v h hh).k
    · exact ((H.v h hh).l s hs).h.k
    · exact H.l.h.k
  · exact (H.e x hx).k
  · by_cases hf : ∀ p, p ≤ 256 → x ∉ R p
    · exact (H.f x hx hf).k
    · have : ∃ p, p ≤ 256 ∧ x ∈ R p := Classical.byContradiction fun hn => hf fun p hp hm => hn ⟨p, hp, hm⟩
      obtain ⟨p, hp, hm⟩ := this
      by_cases e : p = 256
      · subst e; exact H.l.blk (.inr (List.mem_map_of_mem (f := nd) hm))
      · refine (H.v (p / 64) (by omega)).blk (.inr ⟨p % 64, by omega, .inr ?_⟩)
        rw [nrow_at (by omega), show 64 * (p / 64) + p % 64 = p by omega]
        exact List.mem_map_of_mem (f := nd) hm
theorem NqIn.steady {B : Nat} (hB : w.heap.size + 2 ≤ B) : Steady B (NqIn w g now Q P) := fun k W W' r h c hr nc => by
  obtain ⟨x, hx⟩ := h.a
  obtain ⟨y, hy⟩ := h.b
  exact ⟨h.q.kept c (fun k hk e => NoCells.blk nc (IsW.blkAll h.q.w hk) e), h.t.keeps c (fun e => nc.cell (h.t 0 (by omega)) e), ⟨x, c.keeps hx (fun e => nc.cell hx e)⟩, ⟨y, c.keeps hy (fun e => nc.cell hy e)⟩, h.ka.kept c (NoCells.blk nc h.ka), h.kb.kept c (NoCells.blk nc h.kb), h.c.later c (by omega), h.m⟩
theorem NqIn.quiet {k : Nat} {W' : World} (h : NqIn w g now Q P k W) (c : Ch Nil W W') : NqIn w g now Q P k W' := by
  obtain ⟨x, hx⟩ := h.a
  obtain ⟨y, hy⟩ := h.b
  exact ⟨h.q.kept c (fun _ _ e => e), h.t.keeps c (fun e => e), ⟨x, c.keeps hx (fun e => e)⟩, ⟨y, c.keeps hy (fun e => e)⟩, h.ka.kept c (fun e => e), h.kb.kept c (fun e => e), h.c.trans c, h.m⟩
theorem NqOut.steady {B : Nat} (hB : w.heap.size + 2 ≤ B) : Steady B (fun (_ : Nat) => NqOut w Q) := fun k W W' r h c hr nc => by
  obtain ⟨m, h1, h2⟩ := h.x
  exact ⟨⟨m, h1, c.keeps h2 (fun e => nc.cell h2 e)⟩, c.keeps h.e (fun e => nc.cell h.e e), h.c.later c (by omega)⟩
theorem min_all {m p k : Nat} (h : IsMin ys m) (ha : ∀ x, x ∈ Q → now < x.d) (hp : ∀ x, x ∈ ys ↔ x ∈ Q ∧ spotN x.d now = p) (hm : ∀ x, x ∈ Q → p ≤ spotN x.d now) : IsMin Q m := by
  obtain ⟨⟨x, hx, rfl⟩, h2⟩ := h
  have hx' := (hp x).1 hx
  refine ⟨⟨x, hx'.1, rfl⟩, fun y hy => ?_⟩
  by_cases e : spotN y.d now = p
  · exact h2 y ((hp y).2 ⟨hy, e⟩)
  · have := hm y hy
    have := spot_mono (ha x hx'.1) (ha y hy) (by omega)
    omega

set_option maxRecDepth 100000 in
set_option maxHeartbeats 2000000 in
theorem next_of (H : IsQ w g now Q P) (T : Tab w) (hl : Q.length ≤ 100000) :
    Calls Tryd.prog 38 #[.pointer (some ⟨g.wb, 0, none⟩)] w fun e w' => ((Q = [] ∧ e = .returned (.tuple #[.int .u64 0, .int .i64 6])) ∨ ∃ m : Nat, IsMin Q m ∧ e = .returned (.tuple #[.int .u64 (m : Nat), .int .i64 0])) ∧ Ch Nil w w' := by
  have hI0 : NqIn w g now Q P 0 ((w.alloc (.cells #[.int .u64 0] 29)).alloc (.cells #[.int .i64 0] 25)) := by
    have c1 : Ch Nil w (w.alloc (.cells #[.int .u64 0] 29)) := (Ch.refl _ _).alloc _
    have c2 : Ch Nil (w.alloc (.cells #[.int .u64 0] 29)) ((w.alloc (.cells #[.int .u64 0] 29)).alloc (.cells #[.int .i64 0] 25)) := (Ch.refl _ _).alloc _
    have hs : (w.alloc (.cells #[.int .u64 0] 29)).heap.size = w.heap.size + 1 := by simp
    refine ⟨H.kept (c1.trans c2) (fun _ _ e => e), T.keeps (c1.trans c2) (fun e => e), ⟨0, c2.keeps (by simp [cell_fresh]) (fun e => e)⟩, ⟨0, ?_⟩, (Blk.new w _ _).kept c2 (fun e => e), ?_, c1.trans c2, fun x hx => by omega⟩
    · rw [← hs]; simp [cell_fresh]
    · rw [← hs]; exact Blk.new _ _ _
  have HI0 := Lib.hid hI0
  have HL := Lib.hid hl
  have hsz : ((w.alloc (.cells #[.int .u64 0] 29)).alloc (.cells #[.int .i64 0] 25)).heap.size = w.heap.size + 2 := by simp
  have hws : ∀ k, WS g P k → k < w.heap.size := fun k hk => H.lt hk
  have HWS := Lib.hid hws
  have TL := Lib.hid T.lt
  clear hI0 H T hws
  refine (callsIn_wide (n := 5)).1 ?_
  refine callsIn_of_wp_marks Tryd.func38 rfl trivial ?_ rfl
  simp only [Tryd.ntmps38, List.size_toArray, List.length_cons, List.length_nil, Nat.reduceAdd, Nat.reduceSub, Array.replicate_succ, Array.replicate_zero, List.push_toArray, List.append_toArray, List.nil_append, List.cons_append]
  gi_wp2
  generalize hW0 : ((w.alloc (.cells #[.int .u64 0] 29)).alloc (.cells #[.int .i64 0] 25)) = W0 at *
  clear hW0
  refine range_val (n := 5) (gf := 69) (ba := #[.pointer (some ⟨g.wb, 0, none⟩)]) rfl (enters_of Tryd.func69 (by kernel_rfl) rfl) 5 (RowT Q now) rfl
    (NqIn w g now Q P) (fun c k W => c = .ret ∧ NqOut w Q W) (NqIn.steady (by omega)) (fun k W W' h c => h.quiet c) (fun v => RowT.steady) ?hIx HI0.out (rows_tells 4 (by omega) HL.out _ (fun k W h => h.q) (fun k W h => h.t)) ?act1 ?assign ?body ?done ?stop
  case hIx => exact fun c k W W' r h ch hr nc => ⟨h.1, NqOut.steady (B := W0.heap.size) (by omega) k W W' r h.2 ch hr nc⟩
  case assign =>
    intro l v W K hK
    gi_wp2
    exact hK
  case body =>
    intro l k v W hW hT hk
    obtain ⟨a, cap, ys, rfl, r, hyl, hsub, hcase⟩ := hT
    have HW := Lib.hid hW
    have R := Lib.hid r
    have SUB := Lib.hid hsub
    rcases hcase with ⟨rfl, hm⟩ | ⟨hne, p, hp, hm⟩
    · have HM := Lib.hid hm
      clear hW r hsub hm
      simp only [List.length_nil]
      gi_wp2
      exact ⟨KeepsFrom.refl _ _, HW.out.q, HW.out.t, HW.out.a, HW.out.b, HW.out.ka, HW.out.kb, HW.out.c, fun x hx => HM.out x hx (HW.out.m x hx)⟩
    · have LE := Lib.hid (least_of (cap := cap) ys hne (RowX.given r (fun _ _ e => e)) (fun x hx => (hW.q.w.e x (hW.q.p x (hsub x hx))).c) hyl)
      obtain ⟨x1, c1⟩ := hW.a
      obtain ⟨x2, c2⟩ := hW.b
      have f1 := hW.ka.fz 0
      have f2 := hW.kb.fz 0
      have hlt := lt_of_cell c1
      have hlt2 := lt_of_cell c2
      have MA : Hid (∀ m, IsMin ys m → IsMin Q m) := Lib.hid fun m h => min_all (k := k) h hW.q.a hp (fun x hx => hm x hx (hW.m x hx))
      have hpos : 0 < ys.length := List.length_pos_iff.2 hne
      obtain ⟨n, hn⟩ : ∃ n, n = ys.length := ⟨_, rfl⟩
      rw [← hn] at LE hpos ⊢
      have hz : (0 : Int) < (n : Int) := by omega
      have ne1 : w.heap.size ≠ w.heap.size + 1 := by omega
      have ne2 : w.heap.size + 1 ≠ w.heap.size := by omega
      clear hW r hsub hp hm hne hn
      gi_wp2_with fail
      refine ⟨trivial, ?_⟩
      refine (CallsIn.inRound l (callsIn_wide.2 LE.out)).mono ?_
      rintro e W5 ⟨m, hm, rfl, rfl⟩
      have HMN := Lib.hid (MA.out m hm)
      clear hm LE
      gi_wp2
      have ch1 : Ch (fun k => k = w.heap.size ∨ k = w.heap.size + 1) W ((W.setCell ⟨w.heap.size, 0, none⟩ (.int .u64 (m : Nat))).setCell ⟨w.heap.size + 1, 0, none⟩ (.int .i64 0)) :=
        ((Ch.refl _ W).set (p := ⟨w.heap.size, 0, none⟩) (fun _ => .inl rfl) _).set (p := ⟨w.heap.size + 1, 0, none⟩) (fun _ => .inr rfl) _
      refine ⟨Keeps.of_chl ch1 (fun j hj => by rcases hj with rfl | rfl <;> omega), rfl, ⟨m, HMN.out, ?_⟩, ?_, HW.out.c.up ch1 (by rintro i (rfl | rfl) <;> omega)⟩
      · rw [cell_set, if_neg (by omega)]; exact World.cell?_setCell_same _ _ _ c1
      · exact World.cell?_setCell_same _ _ _ (show _ = some (Value.int .i64 x2) from by rw [cell_set, if_neg (by omega)]; exact c2)
  case done =>
    intro D W hD hW hK
    obtain ⟨x, c1⟩ := hW.a
    obtain ⟨y, c2⟩ := hW.b
    have f1 := hW.ka.fz 0
    have f2 := hW.kb.fz 0
    have HC := Lib.hid hW.c
    have hQ0 : Q = [] := by
      cases Q with
      | nil => rfl
      | cons z t => have := hW.m z (by simp); have := spotN_le z.d now; omega
    have HQ0 := Lib.hid hQ0
    clear hW hQ0
    have ne1 : w.heap.size ≠ w.heap.size + 1 := by omega
    have ne2 : w.heap.size + 1 ≠ w.heap.size := by omega
    gi_wp2
    have ch1 : Ch (fun k => k = w.heap.size ∨ k = w.heap.size + 1) W ((W.setCell ⟨w.heap.size, 0, none⟩ (.int .u64 0)).setCell ⟨w.heap.size + 1, 0, none⟩ (.int .i64 6)) :=
      ((Ch.refl _ W).set (p := ⟨w.heap.size, 0, none⟩) (fun _ => .inl rfl) _).set (p := ⟨w.heap.size + 1, 0, none⟩) (fun _ => .inr rfl) _
    have hlt := lt_of_cell c1
    have hlt2 := lt_of_cell c2
    have hK2 : ((W.setCell ⟨w.heap.size, 0, none⟩ (.int .u64 0)).setCell ⟨w.heap.size + 1, 0, none⟩ (.int .i64 6)).heap[D]? = some (.deferred (some [])) := (ch1.block D (Array.getElem?_eq_some_iff.1 hK).1 (by intro e; omega)).trans hK
    refine ⟨by simp, .inl ⟨_, _, rfl, run_takeDeferred hK2, ?_⟩⟩
    have q1 : ((W.setCell ⟨w.heap.size, 0, none⟩ (.int .u64 0)).setCell ⟨w.heap.size + 1, 0, none⟩ (.int .i64 6)).cell? ⟨w.heap.size, 0, none⟩ = some (.int .u64 0) := by rw [cell_set, if_neg (by omega)]; exact World.cell?_setCell_same _ _ _ c1
    have q2 : ((W.setCell ⟨w.heap.size, 0, none⟩ (.int .u64 0)).setCell ⟨w.heap.size + 1, 0, none⟩ (.int .i64 6)).cell? ⟨w.heap.size + 1, 0, none⟩ = some (.int .i64 6) := World.cell?_setCell_same _ _ _ (show _ = some (Value.int .i64 y) from by rw [cell_set, if_neg (by omega)]; exact c2)
    have c3 := (Ch.put (W := (W.setCell ⟨w.heap.size, 0, none⟩ (.int .u64 0)).setCell ⟨w.heap.size + 1, 0, none⟩ (.int .i64 6)) D (.deferred none)).keeps q1 (by intro e; simp at e; omega)
    have c4 := (Ch.put (W := (W.setCell ⟨w.heap.size, 0, none⟩ (.int .u64 0)).setCell ⟨w.heap.size + 1, 0, none⟩ (.int .i64 6)) D (.deferred none)).keeps q2 (by intro e; simp at e; omega)
    refine ⟨.tuple #[.int .u64 0, .int .i64 6], by simp [results, Tryd.results38, go_sem, c3, c4], .inl ⟨HQ0.out, rfl⟩, ?_⟩
    exact (HC.out.up ch1 (by rintro i (rfl | rfl) <;> omega)).later (Ch.put D (.deferred none)) (by omega)
  case stop =>
    intro D c k W hD hk hW hK
    obtain ⟨rfl, hW⟩ := hW
    obtain ⟨m, hm, c1⟩ := hW.x
    have c2 := hW.e
    have HM := Lib.hid hm
    have HC := Lib.hid hW.c
    clear hW hm
    gi_wp2
    refine ⟨by simp, .inl ⟨_, _, rfl, run_takeDeferred hK, ?_⟩⟩
    have c3 := (Ch.put (W := W) D (.deferred none)).keeps c1 (by intro e; simp at e; omega)
    have c4 := (Ch.put (W := W) D (.deferred none)).keeps c2 (by intro e; simp at e; omega)
    refine ⟨.tuple #[.int .u64 (m : Nat), .int .i64 0], by simp [results, Tryd.results38, go_sem, c3, c4], .inr ⟨m, HM.out, rfl⟩, ?_⟩
    exact HC.out.later (Ch.put D (.deferred none)) (by omega)
end
end Go.Proofs.YtldnmpiaofppgaaDoor

/-
  What a lock is in memory: whose it is, whether it is somebody's, how often it became somebody's, in a cell of layer 3.
-/
namespace Go.Proofs.YtldnmpiaofppgaaDoor
open Go.RowKit
set_option linter.unusedVariables false

/-- a lock's value -/
abbrev hv (o : Int) (t : Bool) (n : Int) : Value := .agg #[.int .i64 o, .bool t, .int .i64 n]
/-- a box of such a value -/
structure IsHb (w : World) (b : Nat) (o : Int) (t : Bool) (n : Int) : Prop where
  o : w.cell? ⟨b, 0, none⟩ = some (.int .i64 o)
  t : w.cell? ⟨b, 1, none⟩ = some (.bool t)
  n : w.cell? ⟨b, 2, none⟩ = some (.int .i64 n)
  f : ∀ i, w.frozen? ⟨b, i, none⟩ = false
/-- a lock -/
structure IsK0 (w : World) (b : Nat) (o : Int) (t : Bool) (n l r u : Int) : Prop where
  o : w.cell? ⟨b, 0, none⟩ = some (.int .i64 o)
  t : w.cell? ⟨b, 1, none⟩ = some (.bool t)
  n : w.cell? ⟨b, 2, none⟩ = some (.int .i64 n)
  l : w.cell? ⟨b, 3, none⟩ = some (.int .i64 l)
  r : w.cell? ⟨b, 4, none⟩ = some (.int .i64 r)
  u : w.cell? ⟨b, 5, none⟩ = some (.int .i64 u)
  f : ∀ i, w.frozen? ⟨b, i, none⟩ = false
section
variable {S : Nat → Prop} {w w' : World} {b : Nat} {o : Int} {t : Bool} {n l r u : Int}
theorem IsHb.lt (h : IsHb w b o t n) : b < w.heap.size := lt_of_cell h.o
theorem IsHb.kept (h : IsHb w b o t n) (c : Ch S w w') (hn : ¬ S b) : IsHb w' b o t n :=
  ⟨c.keeps h.o hn, c.keeps h.t hn, c.keeps h.n hn, fun i => (c.frozen (p := ⟨b, i, none⟩) h.lt hn).trans (h.f i)⟩
theorem IsK0.lt (h : IsK0 w b o t n l r u) : b < w.heap.size := lt_of_cell h.o
theorem IsK0.kept (h : IsK0 w b o t n l r u) (c : Ch S w w') (hn : ¬ S b) : IsK0 w' b o t n l r u :=
  ⟨c.keeps h.o hn, c.keeps h.t hn, c.keeps h.n hn, c.keeps h.l hn, c.keeps h.r hn, c.keeps h.u hn, fun i => (c.frozen (p := ⟨b, i, none⟩) h.lt hn).trans (h.f i)⟩
theorem IsK0.alloc (h : IsK0 w b o t n l r u) (x : Obj) : IsK0 (w.alloc x) b o t n l r u := h.kept (S := Nil) ((Ch.refl _ _).alloc _) (fun e => e)
theorem IsK0.setO (h : IsK0 w b o t n l r u) (x : Int) : IsK0 (w.setCell ⟨b, 0, none⟩ (.int .i64 x)) b x t n l r u :=
  ⟨World.cell?_setCell_same _ _ _ h.o, (cell_ne (by omega) _).trans h.t, (cell_ne (by omega) _).trans h.n, (cell_ne (by omega) _).trans h.l, (cell_ne (by omega) _).trans h.r, (cell_ne (by omega) _).trans h.u, fun i => (World.frozen?_setCell _ _ _ _).trans (h.f i)⟩
theorem IsK0.setT (h : IsK0 w b o t n l r u) (x : Bool) : IsK0 (w.setCell ⟨b, 1, none⟩ (.bool x)) b o x n l r u :=
  ⟨(cell_ne (by omega) _).trans h.o, World.cell?_setCell_same _ _ _ h.t, (cell_ne (by omega) _).trans h.n, (cell_ne (by omega) _).trans h.l, (cell_ne (by omega) _).trans h.r, (cell_ne (by omega) _).trans h.u, fun i => (World.frozen?_setCell _ _ _ _).trans (h.f i)⟩
theorem IsK0.setN (h : IsK0 w b o t n l r u) (x : Int) : IsK0 (w.setCell ⟨b, 2, none⟩ (.int .i64 x)) b o t x l r u :=
  ⟨(cell_ne (by omega) _).trans h.o, (cell_ne (by omega) _).trans h.t, World.cell?_setCell_same _ _ _ h.n, (cell_ne (by omega) _).trans h.l, (cell_ne (by omega) _).trans h.r, (cell_ne (by omega) _).trans h.u, fun i => (World.frozen?_setCell _ _ _ _).trans (h.f i)⟩
theorem IsK0.setL (h : IsK0 w b o t n l r u) (x : Int) : IsK0 (w.setCell ⟨b, 3, none⟩ (.int .i64 x)) b o t n x r u :=
  ⟨(cell_ne (by omega) _).trans h.o, (cell_ne (by omega) _).trans h.t, (cell_ne (by omega) _).trans h.n, World.cell?_setCell_same _ _ _ h.l, (cell_ne (by omega) _).trans h.r, (cell_ne (by omega) _).trans h.u, fun i => (World.frozen?_setCell _ _ _ _).trans (h.f i)⟩
theorem IsK0.setR (h : IsK0 w b o t n l r u) (x : Int) : IsK0 (w.setCell ⟨b, 4, none⟩ (.int .i64 x)) b o t n l x u :=
  ⟨(cell_ne (by omega) _).trans h.o, (cell_ne (by omega) _).trans h.t, (cell_ne (by omega) _).trans h.n, (cell_ne (by omega) _).trans h.l, World.cell?_setCell_same _ _ _ h.r, (cell_ne (by omega) _).trans h.u, fun i => (World.frozen?_setCell _ _ _ _).trans (h.f i)⟩
theorem IsK0.setU (h : IsK0 w b o t n l r u) (x : Int) : IsK0 (w.setCell ⟨b, 5, none⟩ (.int .i64 x)) b o t n l r x :=
  ⟨(cell_ne (by omega) _).trans h.o, (cell_ne (by omega) _).trans h.t, (cell_ne (by omega) _).trans h.n, (cell_ne (by omega) _).trans h.l, (cell_ne (by omega) _).trans h.r, World.cell?_setCell_same _ _ _ h.u, fun i => (World.frozen?_setCell _ _ _ _).trans (h.f i)⟩
/-- a lock, however often its cell was loaded, tried, turned -/
def IsK (w : World) (b : Nat) (o : Int) (t : Bool) (n : Int) : Prop := ∃ l r u, IsK0 w b o t n l r u
theorem IsK.lt (h : IsK w b o t n) : b < w.heap.size := by obtain ⟨l, r, u, h⟩ := h; exact h.lt
theorem IsK.kept (h : IsK w b o t n) (c : Ch S w w') (hn : ¬ S b) : IsK w' b o t n := by obtain ⟨l, r, u, h⟩ := h; exact ⟨l, r, u, h.kept c hn⟩
end
end Go.Proofs.YtldnmpiaofppgaaDoor
