import Derived.Test.YtldnmpiaofppgaaDoorK09
import Derived.Test.YtldnmpiaofppgaaDoorK10
import Derived.Test.YtldnmpiaofppgaaDoorK13
import Derived.Test.YtldnmpiaofppgaaDoorK07
import Derived.Test.YtldnmpiaofppgaaDoorK03
/-
  A shard in memory: its ring, its lock, its wheel; the small functions of package shard, and those of no shard.
-/
namespace Go.Proofs.YtldnmpiaofppgaaDoor
open Go.RowKit Verge Go.Proofs.YtldnmpiaofppgaaDoor.LT
attribute [local go_sem] Oper.semAt_some
set_option linter.unusedVariables false
set_option linter.unusedSimpArgs false

/-- a shard in block s: where its ring, its lock, its wheel lie -/
structure IsSh (w : World) (s r l v : Nat) : Prop where
  r : w.cell? ⟨s, 0, none⟩ = some (.pointer (some ⟨r, 0, none⟩))
  l : w.cell? ⟨s, 1, none⟩ = some (.pointer (some ⟨l, 0, none⟩))
  v : w.cell? ⟨s, 2, none⟩ = some (.pointer (some ⟨v, 0, none⟩))
theorem fld_sh0 (a b c : Value) (w : World) : (Instr.field 74 (.agg #[a, b, c]) 0).run Tryd.prog w = .ok a w := by kernel_rfl
theorem fld_sh1 (a b c : Value) (w : World) : (Instr.field 74 (.agg #[a, b, c]) 1).run Tryd.prog w = .ok b w := by kernel_rfl
theorem fld_sh2 (a b c : Value) (w : World) : (Instr.field 74 (.agg #[a, b, c]) 2).run Tryd.prog w = .ok c w := by kernel_rfl
section
variable {S : Nat → Prop} {w w' : World} {s r l v : Nat}
theorem IsSh.lt (h : IsSh w s r l v) : s < w.heap.size := lt_of_cell h.r
theorem IsSh.kept (h : IsSh w s r l v) (c : Ch S w w') (hn : ¬ S s) : IsSh w' s r l v := ⟨c.keeps h.r hn, c.keeps h.l hn, c.keeps h.v hn⟩

/-- the box of the result: cells that may be set -/
theorem sh_box (w : World) : ∀ W, W = w.alloc (Obj.cells #[.pointer none, .pointer none, .pointer none] 74) → Ch Nil w W ∧ (∀ i, i < 3 → ∃ x, W.cell? ⟨w.heap.size, i, none⟩ = some (.pointer x)) ∧ Blk W w.heap.size := by
  rintro W rfl
  refine ⟨(Ch.refl _ _).alloc _, fun i hi => ?_, Blk.new _ _ _⟩
  rw [cell_fresh]
  have : i = 0 ∨ i = 1 ∨ i = 2 := by omega
  rcases this with rfl | rfl | rfl <;> exact ⟨none, rfl⟩
theorem sh_end {w W : World} {B : Nat} {a b c : Value} (h : Ch Nil w W) (hB : w.heap.size = B) : Ch Nil w (((W.setCell ⟨B, 0, none⟩ a).setCell ⟨B, 1, none⟩ b).setCell ⟨B, 2, none⟩ c) :=
  h.up ((((Ch.refl (One B) _).setB 0 _).setB 1 _).setB 2 _) (fun i e => Nat.le_of_eq (hB.trans (show B = i from e.symm)))
theorem sh_cells {W : World} {B : Nat} {x0 x1 x2 a b c : Value} (h0 : W.cell? ⟨B, 0, none⟩ = some x0) (h1 : W.cell? ⟨B, 1, none⟩ = some x1) (h2 : W.cell? ⟨B, 2, none⟩ = some x2) :
    (((W.setCell ⟨B, 0, none⟩ a).setCell ⟨B, 1, none⟩ b).setCell ⟨B, 2, none⟩ c).cell? ⟨B, 0, none⟩ = some a ∧ (((W.setCell ⟨B, 0, none⟩ a).setCell ⟨B, 1, none⟩ b).setCell ⟨B, 2, none⟩ c).cell? ⟨B, 1, none⟩ = some b ∧ (((W.setCell ⟨B, 0, none⟩ a).setCell ⟨B, 1, none⟩ b).setCell ⟨B, 2, none⟩ c).cell? ⟨B, 2, none⟩ = some c := by
  refine ⟨?_, ?_, ?_⟩
  · rw [cell_ne (by omega), cell_ne (by omega)]; exact World.cell?_setCell_same _ _ _ h0
  · rw [cell_ne (by omega)]; exact World.cell?_setCell_same _ _ _ ((cell_ne (by omega) _).trans h1)
  · exact World.cell?_setCell_same _ _ _ ((cell_ne (by omega) _).trans ((cell_ne (by omega) _).trans h2))
set_option maxHeartbeats 1000000 in
theorem whole_nil (w : World) :
    Calls Tryd.prog 34 #[.pointer none] w fun e w' => e = .returned (.agg #[.pointer none, .pointer none, .pointer none]) ∧ Ch Nil w w' := by
  obtain ⟨cA, xs, bk⟩ := sh_box w _ rfl
  obtain ⟨x0, c0⟩ := xs 0 (by omega)
  obtain ⟨x1, c1⟩ := xs 1 (by omega)
  obtain ⟨x2, c2⟩ := xs 2 (by omega)
  have f0 := bk.fz 0
  have f1 := bk.fz 1
  have f2 := bk.fz 2
  have CA := Lib.hid cA
  clear xs bk cA
  go_enter Tryd.func34, Tryd.ntmps34
  go_upto_region 1 with (fail)
  generalize w.alloc (Obj.cells #[.pointer none, .pointer none, .pointer none] 74) = W at CA c0 c1 c2 f0 f1 f2 ⊢
  obtain ⟨B, hB⟩ : ∃ B, B = w.heap.size := ⟨_, rfl⟩
  rw [← hB] at c0 c1 c2 f0 f1 f2 ⊢
  have HB := Lib.hid hB
  clear hB
  go_wp2
  have hc := sh_end (a := .pointer none) (b := .pointer none) (c := .pointer none) CA.out HB.out.symm
  have hr := sh_cells (a := .pointer none) (b := .pointer none) (c := .pointer none) c0 c1 c2
  (try simp only [Exit.inBlock, Exit.then])
  refine bodyPost_ret (v := .agg #[.pointer none, .pointer none, .pointer none]) ?hr rfl ⟨rfl, hc⟩
  case hr =>
    generalize ((W.setCell ⟨B, 0, none⟩ (.pointer none)).setCell ⟨B, 1, none⟩ (.pointer none)).setCell ⟨B, 2, none⟩ (.pointer none) = W5 at hr ⊢
    obtain ⟨d0, d1, d2⟩ := hr
    simp [results, Tryd.results34, go_sem, d0, d1, d2]
set_option maxHeartbeats 1000000 in
theorem whole_of (h : IsSh w s r l v) :
    Calls Tryd.prog 34 #[.pointer (some ⟨s, 0, none⟩)] w fun e w' => e = .returned (.agg #[.pointer (some ⟨r, 0, none⟩), .pointer (some ⟨l, 0, none⟩), .pointer (some ⟨v, 0, none⟩)]) ∧ Ch Nil w w' := by
  obtain ⟨cA, xs, bk⟩ := sh_box w _ rfl
  obtain ⟨x0, c0⟩ := xs 0 (by omega)
  obtain ⟨x1, c1⟩ := xs 1 (by omega)
  obtain ⟨x2, c2⟩ := xs 2 (by omega)
  have f0 := bk.fz 0
  have f1 := bk.fz 1
  have f2 := bk.fz 2
  have CA := Lib.hid cA
  obtain ⟨h0, h1, h2⟩ := h.kept cA (fun e => e)
  clear xs bk cA h
  go_enter Tryd.func34, Tryd.ntmps34
  go_upto_region 1 with (fail)
  generalize w.alloc (Obj.cells #[.pointer none, .pointer none, .pointer none] 74) = W at CA c0 c1 c2 f0 f1 f2 h0 h1 h2 ⊢
  obtain ⟨B, hB⟩ : ∃ B, B = w.heap.size := ⟨_, rfl⟩
  rw [← hB] at c0 c1 c2 f0 f1 f2 ⊢
  have HB := Lib.hid hB
  clear hB
  go_wp2
  have hc := sh_end (a := .pointer (some ⟨r, 0, none⟩)) (b := .pointer (some ⟨l, 0, none⟩)) (c := .pointer (some ⟨v, 0, none⟩)) CA.out HB.out.symm
  have hr := sh_cells (a := .pointer (some ⟨r, 0, none⟩)) (b := .pointer (some ⟨l, 0, none⟩)) (c := .pointer (some ⟨v, 0, none⟩)) c0 c1 c2
  (try simp only [Exit.inBlock, Exit.then])
  refine bodyPost_ret (v := .agg #[.pointer (some ⟨r, 0, none⟩), .pointer (some ⟨l, 0, none⟩), .pointer (some ⟨v, 0, none⟩)]) ?hr rfl ⟨rfl, hc⟩
  case hr =>
    generalize ((W.setCell ⟨B, 0, none⟩ (.pointer (some ⟨r, 0, none⟩))).setCell ⟨B, 1, none⟩ (.pointer (some ⟨l, 0, none⟩))).setCell ⟨B, 2, none⟩ (.pointer (some ⟨v, 0, none⟩)) = W5 at hr ⊢
    obtain ⟨d0, d1, d2⟩ := hr
    simp [results, Tryd.results34, go_sem, d0, d1, d2]

-- the small functions, of no shard
theorem sNow_nil (w : World) :
    Calls Tryd.prog 17 #[.pointer none] w fun e w' => e = .returned (.int .u64 0) ∧ Ch Nil w w' := by
  have hfld := fld_sh2
  go_enter Tryd.func17, Tryd.ntmps17
  go_wp2_with fail
  refine (whole_nil _).mono ?_
  rintro e w1 ⟨rfl, c1⟩
  have C1 := Lib.hid c1
  clear c1
  go_wp2_with fail
  refine (now_nil _).mono ?_
  rintro e w2 ⟨rfl, rfl⟩
  go_wp2
  go_ret
  exact ⟨rfl, C1.out⟩
theorem sArmed_nil (w : World) :
    Calls Tryd.prog 18 #[.pointer none] w fun e w' => e = .returned (.int .i64 0) ∧ Ch Nil w w' := by
  have hfld := fld_sh2
  go_enter Tryd.func18, Tryd.ntmps18
  go_wp2_with fail
  refine (whole_nil _).mono ?_
  rintro e w1 ⟨rfl, c1⟩
  have C1 := Lib.hid c1
  clear c1
  go_wp2_with fail
  refine (len_nilw _).mono ?_
  rintro e w2 ⟨rfl, rfl⟩
  go_wp2
  go_ret
  exact ⟨rfl, C1.out⟩
theorem sNext_nil (w : World) :
    Calls Tryd.prog 15 #[.pointer none] w fun e w' => e = .returned (.tuple #[.int .u64 0, .int .i64 6]) ∧ Ch Nil w w' := by
  have hfld := fld_sh2
  go_enter Tryd.func15, Tryd.ntmps15
  go_wp2_with fail
  refine (whole_nil _).mono ?_
  rintro e w1 ⟨rfl, c1⟩
  have C1 := Lib.hid c1
  clear c1
  go_wp2_with fail
  refine (next_nil _).mono ?_
  rintro e w2 ⟨rfl, c2⟩
  have C2 := Lib.hid (C1.out.trans c2)
  clear c2
  go_wp2
  go_ret2
  exact ⟨rfl, C2.out⟩
theorem sWaiting_nil (w : World) :
    Calls Tryd.prog 24 #[.pointer none] w fun e w' => e = .returned (.int .i64 0) ∧ Ch Nil w w' := by
  have hfld := fld_sh0
  go_enter Tryd.func24, Tryd.ntmps24
  go_wp2_with fail
  refine (whole_nil _).mono ?_
  rintro e w1 ⟨rfl, c1⟩
  have C1 := Lib.hid c1
  clear c1
  go_wp2_with fail
  refine (RT.len_nil _).mono ?_
  rintro e w2 ⟨rfl, rfl⟩
  go_wp2
  go_ret
  exact ⟨rfl, C1.out⟩
theorem sBegin_nil (w : World) :
    Calls Tryd.prog 20 #[.pointer none] w fun e w' => e = .returned (.pointer none) ∧ Ch Nil w w' := by
  have hfld := fld_sh0
  go_enter Tryd.func20, Tryd.ntmps20
  go_wp2_with fail
  refine (whole_nil _).mono ?_
  rintro e w1 ⟨rfl, c1⟩
  have C1 := Lib.hid c1
  clear c1
  go_wp2_with fail
  refine (RT.begin_nil _).mono ?_
  rintro e w2 ⟨rfl, rfl⟩
  go_wp2
  go_ret
  exact ⟨rfl, C1.out⟩
theorem sReady_nil (w : World) :
    Calls Tryd.prog 22 #[.pointer none] w fun e w' => e = .returned (.bool false) ∧ Ch Nil w w' := by
  have hfld := fld_sh0
  go_enter Tryd.func22, Tryd.ntmps22
  go_wp2_with fail
  refine (whole_nil _).mono ?_
  rintro e w1 ⟨rfl, c1⟩
  have C1 := Lib.hid c1
  clear c1
  go_wp2_with fail
  refine (RT.ready_nil _).mono ?_
  rintro e w2 ⟨rfl, rfl⟩
  go_wp2
  go_ret
  exact ⟨rfl, C1.out⟩
theorem sLock_nil (w : World) :
    Calls Tryd.prog 19 #[.pointer none] w fun e w' => e = .returned (.pointer none) ∧ Ch Nil w w' := by
  have hfld := fld_sh1
  go_enter Tryd.func19, Tryd.ntmps19
  go_wp2_with fail
  refine (whole_nil _).mono ?_
  rintro e w1 ⟨rfl, c1⟩
  have C1 := Lib.hid c1
  clear c1
  go_wp2
  go_ret
  exact ⟨rfl, C1.out⟩
theorem sLock_of (h : IsSh w s r l v) :
    Calls Tryd.prog 19 #[.pointer (some ⟨s, 0, none⟩)] w fun e w' => e = .returned (.pointer (some ⟨l, 0, none⟩)) ∧ Ch Nil w w' := by
  have hfld := fld_sh1
  have H := Lib.hid h
  clear h
  go_enter Tryd.func19, Tryd.ntmps19
  go_wp2_with fail
  refine (whole_of H.out).mono ?_
  rintro e w1 ⟨rfl, c1⟩
  have C1 := Lib.hid c1
  clear c1
  go_wp2
  go_ret
  exact ⟨rfl, C1.out⟩
theorem sNow_of (h : IsSh w s r l v) (now : Nat) (hn : w.cell? ⟨v, 0, none⟩ = some (.int .u64 (now : Nat))) :
    Calls Tryd.prog 17 #[.pointer (some ⟨s, 0, none⟩)] w fun e w' => e = .returned (.int .u64 (now : Nat)) ∧ Ch Nil w w' := by
  have hfld := fld_sh2
  have H := Lib.hid h
  clear h
  have HN := Lib.hid hn
  clear hn
  go_enter Tryd.func17, Tryd.ntmps17
  go_wp2_with fail
  refine (whole_of H.out).mono ?_
  rintro e w1 ⟨rfl, c1⟩
  have C1 := Lib.hid c1
  clear c1
  go_wp2_with fail
  refine (now_at v now _ (C1.out.keeps HN.out (fun e => e))).mono ?_
  rintro e w2 ⟨rfl, rfl⟩
  go_wp2
  go_ret
  exact ⟨rfl, C1.out⟩
theorem sArmed_of {g : Wh} {now : Nat} {P Q : List Ent} (h : IsSh w s r l g.wb) (hq : IsQ w g now Q P) (T : Tab w) (hl : Q.length ≤ 100000) :
    Calls Tryd.prog 18 #[.pointer (some ⟨s, 0, none⟩)] w fun e w' => e = .returned (.int .i64 (Q.length : Nat)) ∧ Ch Nil w w' := by
  have hfld := fld_sh2
  have H := Lib.hid h
  have HQ := Lib.hid hq
  have HT := Lib.hid T
  have HL := Lib.hid hl
  clear h hq T hl
  go_enter Tryd.func18, Tryd.ntmps18
  go_wp2_with fail
  refine (whole_of H.out).mono ?_
  rintro e w1 ⟨rfl, c1⟩
  have C1 := Lib.hid c1
  clear c1
  go_wp2_with fail
  refine ((HQ.out.kept C1.out (fun _ _ e => e)).len (HT.out.keeps C1.out (fun e => e)) HL.out).mono ?_
  rintro e w2 ⟨rfl, c2⟩
  have C2 := Lib.hid (C1.out.trans c2)
  clear c2
  go_wp2
  go_ret
  exact ⟨rfl, C2.out⟩
theorem sNext_of {g : Wh} {now : Nat} {P Q : List Ent} (h : IsSh w s r l g.wb) (hq : IsQ w g now Q P) (T : Tab w) (hl : Q.length ≤ 100000) :
    Calls Tryd.prog 15 #[.pointer (some ⟨s, 0, none⟩)] w fun e w' => ((Q = [] ∧ e = .returned (.tuple #[.int .u64 0, .int .i64 6])) ∨ ∃ m : Nat, IsMin Q m ∧ e = .returned (.tuple #[.int .u64 (m : Nat), .int .i64 0])) ∧ Ch Nil w w' := by
  have hfld := fld_sh2
  have H := Lib.hid h
  have HQ := Lib.hid hq
  have HT := Lib.hid T
  have HL := Lib.hid hl
  clear h hq T hl
  go_enter Tryd.func15, Tryd.ntmps15
  go_wp2_with fail
  refine (whole_of H.out).mono ?_
  rintro e w1 ⟨rfl, c1⟩
  have C1 := Lib.hid c1
  clear c1
  go_wp2_with fail
  refine (next_of (HQ.out.kept C1.out (fun _ _ e => e)) (HT.out.keeps C1.out (fun e => e)) HL.out).mono ?_
  rintro e w2 ⟨(⟨hQ, rfl⟩ | ⟨m, hm, rfl⟩), c2⟩
  · have C2 := Lib.hid (C1.out.trans c2)
    have HQ0 := Lib.hid hQ
    clear c2 hQ
    go_wp2
    go_ret2
    exact ⟨.inl ⟨HQ0.out, rfl⟩, C2.out⟩
  · have C2 := Lib.hid (C1.out.trans c2)
    have HM := Lib.hid hm
    clear c2 hm
    go_wp2
    go_ret2
    exact ⟨.inr ⟨m, HM.out, rfl⟩, C2.out⟩
end
end Go.Proofs.YtldnmpiaofppgaaDoor

/-
  Contracts of package shard's New and Arm; its ring's, through the shard.
-/
namespace Go.Proofs.YtldnmpiaofppgaaDoor
open Go.RowKit Verge Go.Proofs.YtldnmpiaofppgaaDoor.LT
attribute [local go_sem] Oper.semAt_some
set_option linter.unusedVariables false
set_option linter.unusedSimpArgs false
/-- a task with another deadline -/
def reD (u : Tk) (d : Nat) : Tk := ⟨u.i, u.s, u.g, d, u.p⟩
section
variable {S : Nat → Prop} {w0 w w' : World} {s r l : Nat} {g : Wh} {now : Nat} {P Q : List Ent}

set_option maxHeartbeats 2000000 in
theorem sArm_nil (u : Tk) (w : World) :
    Calls Tryd.prog 10 #[.pointer none, .agg #[.int .u64 (u.i : Nat), .int .i64 u.s, .int .u64 (u.g : Nat), .int .u64 (u.d : Nat), .int .u64 (u.p : Nat)]] w fun e w' => e = .returned (.tuple #[.int .u64 0, .int .i64 6]) ∧ Ch Nil w w' := by
  go_enter Tryd.func10, Tryd.ntmps10
  go_wp2
  go_ret2
  exact ⟨rfl, (Ch.refl _ _).alloc _⟩
set_option maxHeartbeats 2000000 in
theorem sArm_bad (u : Tk) (w : World) (s : Nat) (hs : u.s < 0) :
    Calls Tryd.prog 10 #[.pointer (some ⟨s, 0, none⟩), .agg #[.int .u64 (u.i : Nat), .int .i64 u.s, .int .u64 (u.g : Nat), .int .u64 (u.d : Nat), .int .u64 (u.p : Nat)]] w fun e w' => e = .returned (.tuple #[.int .u64 0, .int .i64 1]) ∧ Ch Nil w w' := by
  have d1 : decide (u.s < 0) = true := by simpa using hs
  have cA : Ch Nil w (w.alloc (Obj.cells #[.int .u64 (u.i : Nat), .int .i64 u.s, .int .u64 (u.g : Nat), .int .u64 (u.d : Nat), .int .u64 (u.p : Nat)] 37)) := (Ch.refl _ _).alloc _
  have BX := IsTk.new w 37 u
  have CA := Lib.hid cA
  clear cA
  go_enter Tryd.func10, Tryd.ntmps10
  go_upto_region 1 with (fail)
  generalize w.alloc (Obj.cells #[.int .u64 (u.i : Nat), .int .i64 u.s, .int .u64 (u.g : Nat), .int .u64 (u.d : Nat), .int .u64 (u.p : Nat)] 37) = wa at BX CA ⊢
  generalize w.heap.size = B at BX ⊢
  obtain ⟨x0, x1, x2, x3, x4⟩ := BX.cells0
  go_wp2
  go_ret2
  exact ⟨rfl, CA.out⟩

set_option maxHeartbeats 4000000 in
set_option maxRecDepth 100000 in
theorem sArm_ok (h : IsSh w s r l g.wb) (D : Drv w0 w g now Q P) (hs : ¬ WS g P s) (u : Tk) (h0 : 0 ≤ u.s) (hd : u.d < 18446744073709551616) (hn : now < 18446744073709551615) (hl : Q.length ≤ 80000) (d : Nat) (hdd : Hid (d = max u.d (now + 1))) :
    Calls Tryd.prog 10 #[.pointer (some ⟨s, 0, none⟩), .agg #[.int .u64 (u.i : Nat), .int .i64 u.s, .int .u64 (u.g : Nat), .int .u64 (u.d : Nat), .int .u64 (u.p : Nat)]] w fun e w' => ∃ b, e = .returned (.tuple #[.int .u64 (d : Nat), .int .i64 0]) ∧ w.heap.size ≤ b ∧ Drv w0 w' g now (Q ++ [⟨b, d, reD u d⟩]) (P ++ [⟨b, d, reD u d⟩]) ∧ Ch (WS g P) w w' := by
  have d1 : decide (u.s < 0) = false := by simpa using h0
  have cA : Ch Nil w (w.alloc (Obj.cells #[.int .u64 (u.i : Nat), .int .i64 u.s, .int .u64 (u.g : Nat), .int .u64 (u.d : Nat), .int .u64 (u.p : Nat)] 37)) := (Ch.refl _ _).alloc _
  have BX := IsTk.new w 37 u
  have BK := Blk.new w #[.int .u64 (u.i : Nat), .int .i64 u.s, .int .u64 (u.g : Nat), .int .u64 (u.d : Nat), .int .u64 (u.p : Nat)] 37
  have HS := Lib.hid (h.kept cA (fun e => e))
  have DD := Lib.hid (D.quiet cA)
  have nB : Hid (¬ WS g P w.heap.size) := Lib.hid fun e => by have := D.lt e; omega
  have hBs : w.heap.size ≠ s := by have := h.lt; omega
  have CA := Lib.hid cA
  have szA := cA.size
  have HLB : Hid (w.heap.size ≤ w.heap.size) := Lib.hid (Nat.le_refl _)
  have LT := Lib.hid (later_ok (u.d : Int) (now : Int) (by omega) (by omega) (by omega) (by omega))
  have hmx : max (u.d : Int) ((now : Int) + 1) = (d : Int) := by have := hdd.out; omega
  rw [hmx] at LT
  have w0lt := D.c.size
  have hdn : now < d := by have := hdd.out; omega
  have hd2 : d < 18446744073709551616 := by have := hdd.out; omega
  clear cA h D hmx
  go_enter Tryd.func10, Tryd.ntmps10
  go_upto_region 1 with (fail)
  generalize w.alloc (Obj.cells #[.int .u64 (u.i : Nat), .int .i64 u.s, .int .u64 (u.g : Nat), .int .u64 (u.d : Nat), .int .u64 (u.p : Nat)] 37) = wa at BX BK CA HS DD szA ⊢
  obtain ⟨B, hB⟩ : ∃ B, B = w.heap.size := ⟨_, rfl⟩
  have HB := Lib.hid hB
  rw [← hB] at BX BK nB hBs ⊢
  clear hB HLB
  obtain ⟨x0, x1, x2, x3, x4⟩ := BX.cells0
  go_upto_region 5 with (fail)
  have HSd : Hid (IsSh wa.drew s r l g.wb) := Lib.hid (HS.out.kept (S := Nil) (Ch.refl _ _).drew (fun e => e))
  have DDd : Hid (Drv w0 wa.drew g now Q P) := Lib.hid (DD.out.quiet (Ch.refl _ _).drew)
  have BXd : Hid (IsTk wa.drew B 0 u) := Lib.hid (BX.kept (S := Nil) (Ch.refl _ _).drew (fun e => e))
  have BKd : Hid (Blk wa.drew B) := Lib.hid (BK.kept (S := Nil) (Ch.refl _ _).drew (fun e => e))
  have CAd : Hid (Ch Nil w wa.drew) := Lib.hid CA.out.drew
  have szd : w.heap.size ≤ wa.drew.heap.size := szA
  clear HS DD BX BK CA szA x0 x1 x2 x3 x4
  refine wp_region_held_drew (S := fun w' => w'.cell? ⟨B, 3, none⟩ = some (.int .u64 (u.d : Nat))) (by kernel_rfl) BXd.out.cells0.2.2.2.1 (fun hHeld => ?_)
  generalize wa.drew = W at *
  refine take_at (v := ?_) 0 (some 18) rfl (by kernel_rfl) (by kernel_rfl) (by kernel_rfl) (by kernel_rfl) (fun _ _ _ h => h) (Or.inl ⟨by rfl, ?_⟩) (by assumption) ?_
  rotate_left
  · intro w hSw; (try dsimp only at hSw); go_simp; try (with_reducible rfl)
  (try simp only [Act.put, List.setIfInBounds_toArray, List.set_cons_zero, List.set_cons_succ])
  refine take_at (v := ?_) 1 (some 19) rfl (by kernel_rfl) (by kernel_rfl) (by kernel_rfl) (by kernel_rfl) (fun _ _ _ h => h) (Or.inl ⟨by rfl, ?_⟩) (by assumption) ?_
  rotate_left
  · intro w hSw; (try dsimp only at hSw); go_simp; try (with_reducible rfl)
  (try simp only [Act.put, List.setIfInBounds_toArray, List.set_cons_zero, List.set_cons_succ])
  refine take_at (v := ?_) 2 (some 20) rfl (by kernel_rfl) (by kernel_rfl) (by kernel_rfl) (by kernel_rfl) (fun _ _ _ h => h) (Or.inl ⟨by rfl, ?_⟩) (by assumption) ?_
  rotate_left
  · intro w hSw; (try dsimp only at hSw); go_simp; try (with_reducible rfl)
  (try simp only [Act.put, List.setIfInBounds_toArray, List.set_cons_zero, List.set_cons_succ])
  refine wpAnyH_ready (rs := [3]) (by kernel_rfl) (by simp) ?_
  refine AllReadyH.cons rfl (fun K hK => ?_) AllReadyH.nil
  go_simp
  refine (sNow_of HSd.out now DDd.out.q.w.t).mono ?_
  rintro e w5 ⟨rfl, c5⟩
  have HS5 := Lib.hid (HSd.out.kept c5 (fun e => e))
  have D5 := Lib.hid (DDd.out.quiet c5)
  have B5 := Lib.hid (BXd.out.kept c5 (fun e => e))
  have K5 := Lib.hid (BKd.out.kept c5 (fun e => e))
  have C5 := Lib.hid (CAd.out.trans c5)
  have sz5 : w.heap.size ≤ w5.heap.size := by have := c5.size; omega
  clear c5 HSd DDd BXd BKd CAd szd
  refine hK.out _ _ B5.out.cells0.2.2.2.1 (fun hHeld => ?_)
  clear hK K
  (try simp only [Act.put, List.setIfInBounds_toArray, List.set_cons_zero, List.set_cons_succ])
  refine wpAnyH_ready (rs := [4]) (by kernel_rfl) (by simp) ?_
  refine AllReadyH.cons rfl (fun K hK => ?_) AllReadyH.nil
  go_simp
  refine (LT.out _).mono ?_
  rintro e w6 ⟨rfl, rfl⟩
  refine hK.out _ _ B5.out.cells0.2.2.2.1 (fun hHeld => ?_)
  clear hK K LT
  (try simp only [Act.put, List.setIfInBounds_toArray, List.set_cons_zero, List.set_cons_succ])
  refine take_at (v := ?_) 5 (some 17) rfl (by kernel_rfl) (by kernel_rfl) (by kernel_rfl) (by kernel_rfl) (fun _ _ _ h => h) (Or.inl ⟨by rfl, ?_⟩) (by assumption) ?_
  rotate_left
  · intro w hSw; (try dsimp only at hSw); go_simp; try (with_reducible rfl)
  (try simp only [Act.put, List.setIfInBounds_toArray, List.set_cons_zero, List.set_cons_succ])
  refine take_at (v := ?_) 6 (some 23) rfl (by kernel_rfl) (by kernel_rfl) (by kernel_rfl) (by kernel_rfl) (fun _ _ _ h => h) (Or.inl ⟨by rfl, ?_⟩) (by assumption) ?_
  rotate_left
  · intro w hSw; (try dsimp only at hSw); go_simp; try (with_reducible rfl)
  (try simp only [Act.put, List.setIfInBounds_toArray, List.set_cons_zero, List.set_cons_succ])
  refine take_at (v := ?_) 7 (some 24) rfl (by kernel_rfl) (by kernel_rfl) (by kernel_rfl) (by kernel_rfl) (fun _ _ _ h => h) (Or.inl ⟨by rfl, ?_⟩) (by assumption) ?_
  rotate_left
  · intro w hSw; (try dsimp only at hSw); go_simp; try (with_reducible rfl)
  (try simp only [Act.put, List.setIfInBounds_toArray, List.set_cons_zero, List.set_cons_succ])
  refine take_at (v := ?_) 8 (some 6) rfl (by kernel_rfl) (by kernel_rfl) (by kernel_rfl) (by kernel_rfl) (fun _ _ _ h => h) (Or.inl ⟨by rfl, ?_⟩) (by assumption) ?_
  rotate_left
  · intro w hSw; (try dsimp only at hSw); go_simp; try (with_reducible rfl)
  (try simp only [Act.put, List.setIfInBounds_toArray, List.set_cons_zero, List.set_cons_succ])
  refine take_at (v := ?_) 9 (some 7) rfl (by kernel_rfl) (by kernel_rfl) (by kernel_rfl) (by kernel_rfl) (fun _ _ _ h => h) (Or.inl ⟨by rfl, ?_⟩) (by assumption) ?_
  rotate_left
  · intro w hSw; (try dsimp only at hSw); go_simp; try (with_reducible rfl)
  (try simp only [Act.put, List.setIfInBounds_toArray, List.set_cons_zero, List.set_cons_succ])
  refine wpAnyH_done (by kernel_rfl) ?_ _
  clear hHeld
  have x3 := B5.out.cells0.2.2.2.1
  have g3 := K5.out.fz 3
  go_upto_region 9 with (fail)
  have ct : Tch B 3 1 w5 (w5.setCell ⟨B, 3, none⟩ (.int .u64 (d : Nat))) := (Tch.refl _ _ _ _).set _ (by omega) _
  have b6 : IsTk (w5.setCell ⟨B, 3, none⟩ (.int .u64 (d : Nat))) B 0 (reD u d) := by
    obtain ⟨y0, y1, y2, y3, y4⟩ := B5.out.cells0
    refine IsTk.of ⟨(ct.cell _ (by omega)).trans y0, (ct.cell _ (by omega)).trans y1, (ct.cell _ (by omega)).trans y2, World.cell?_setCell_same _ _ _ y3, (ct.cell _ (by omega)).trans y4⟩
  have cB : Ch (One B) w5 (w5.setCell ⟨B, 3, none⟩ (.int .u64 (d : Nat))) := ct.ch
  have H6 := Lib.hid (HS5.out.kept cB (fun e => hBs e.symm))
  have D6 := Lib.hid (D5.out.later cB (fun k hk e => nB.out (by have e' : k = B := e; exact e' ▸ hk)) (fun k e => by have e' : k = B := e; have := HB.out; have := D5.out.c.size; have := w0lt; omega))
  have C6 := Lib.hid (C5.out.up cB (fun k e => by have e' : k = B := e; have := HB.out; omega))
  have B6 := Lib.hid b6
  have sz6 : w.heap.size ≤ (w5.setCell ⟨B, 3, none⟩ (.int .u64 (d : Nat))).heap.size := by have := cB.size; omega
  clear x3 g3 ct b6 cB HS5 D5 B5 K5 C5 sz5
  generalize w5.setCell ⟨B, 3, none⟩ (.int .u64 (d : Nat)) = w6 at *
  have HSd : Hid (IsSh w6.drew s r l g.wb) := Lib.hid (H6.out.kept (S := Nil) (Ch.refl _ _).drew (fun e => e))
  have DDd : Hid (Drv w0 w6.drew g now Q P) := Lib.hid (D6.out.quiet (Ch.refl _ _).drew)
  have BXd : Hid (IsTk w6.drew B 0 (reD u d)) := Lib.hid (B6.out.kept (S := Nil) (Ch.refl _ _).drew (fun e => e))
  have CAd : Hid (Ch Nil w w6.drew) := Lib.hid C6.out.drew
  have szd : w.heap.size ≤ w6.drew.heap.size := sz6
  clear H6 D6 B6 C6 sz6
  refine wp_region_held_drew (S := fun w' => (w'.cell? ⟨s, 2, none⟩ = some (.pointer (some ⟨g.wb, 0, none⟩))) ∧ (w'.cell? ⟨B, 0, none⟩ = some (.int .u64 (u.i : Nat)) ∧ w'.cell? ⟨B, 1, none⟩ = some (.int .i64 u.s) ∧ w'.cell? ⟨B, 2, none⟩ = some (.int .u64 (u.g : Nat)) ∧ w'.cell? ⟨B, 3, none⟩ = some (.int .u64 (d : Nat)) ∧ w'.cell? ⟨B, 4, none⟩ = some (.int .u64 (u.p : Nat)))) (by kernel_rfl) ⟨HSd.out.v, BXd.out.cells0⟩ (fun hHeld => ?_)
  generalize w6.drew = W at *
  refine take_at (v := ?_) 0 (some 31) rfl (by kernel_rfl) (by kernel_rfl) (by kernel_rfl) (by kernel_rfl) (fun _ _ _ h => h) (Or.inl ⟨by rfl, ?_⟩) (by assumption) ?_
  rotate_left
  · intro w hSw; (try dsimp only at hSw); go_simp; try (with_reducible rfl)
  (try simp only [Act.put, List.setIfInBounds_toArray, List.set_cons_zero, List.set_cons_succ])
  refine take_at (v := ?_) 1 (some 32) rfl (by kernel_rfl) (by kernel_rfl) (by kernel_rfl) (by kernel_rfl) (fun _ _ _ h => h) (Or.inl ⟨by rfl, ?_⟩) (by assumption) ?_
  rotate_left
  · intro w hSw; (try dsimp only at hSw); go_simp; try (with_reducible rfl)
  (try simp only [Act.put, List.setIfInBounds_toArray, List.set_cons_zero, List.set_cons_succ])
  refine take_at (v := ?_) 2 (some 33) rfl (by kernel_rfl) (by kernel_rfl) (by kernel_rfl) (by kernel_rfl) (fun _ _ _ h => h) (Or.inl ⟨by rfl, ?_⟩) (by assumption) ?_
  rotate_left
  · intro w hSw; (try dsimp only at hSw); go_simp; try (with_reducible rfl)
  (try simp only [Act.put, List.setIfInBounds_toArray, List.set_cons_zero, List.set_cons_succ])
  refine take_at (v := ?_) 3 (some 34) rfl (by kernel_rfl) (by kernel_rfl) (by kernel_rfl) (by kernel_rfl) (fun _ _ _ h => h) (Or.inl ⟨by rfl, ?_⟩) (by assumption) ?_
  rotate_left
  · intro w hSw; (try dsimp only at hSw); go_simp; try (with_reducible rfl)
  (try simp only [Act.put, List.setIfInBounds_toArray, List.set_cons_zero, List.set_cons_succ])
  refine take_at (v := ?_) 4 (some 35) rfl (by kernel_rfl) (by kernel_rfl) (by kernel_rfl) (by kernel_rfl) (fun _ _ _ h => h) (Or.inl ⟨by rfl, ?_⟩) (by assumption) ?_
  rotate_left
  · intro w hSw; (try dsimp only at hSw); go_simp; try (with_reducible rfl)
  (try simp only [Act.put, List.setIfInBounds_toArray, List.set_cons_zero, List.set_cons_succ])
  refine take_at (v := ?_) 5 (some 36) rfl (by kernel_rfl) (by kernel_rfl) (by kernel_rfl) (by kernel_rfl) (fun _ _ _ h => h) (Or.inl ⟨by rfl, ?_⟩) (by assumption) ?_
  rotate_left
  · intro w hSw; (try dsimp only at hSw); go_simp; try (with_reducible rfl)
  (try simp only [Act.put, List.setIfInBounds_toArray, List.set_cons_zero, List.set_cons_succ])
  refine wpAnyH_ready (rs := [6]) (by kernel_rfl) (by simp) ?_
  refine AllReadyH.cons rfl (fun K hK => ?_) AllReadyH.nil
  go_simp
  refine (DDd.out.insert d (reD u d) hdn hd2 (by omega)).mono ?_
  rintro e w7 ⟨b, rfl, hb, d7, c7⟩
  have D7 := Lib.hid d7
  have C7 := Lib.hid ((CAd.out.mono (fun _ _ e => e.elim)).trans c7)
  have sz7 : w.heap.size ≤ b := by omega
  have v7 := c7.keeps HSd.out.v hs
  have b7 := (BXd.out.kept c7 nB.out).cells0
  clear d7 c7 HSd DDd BXd CAd szd hb
  refine hK.out _ _ ⟨v7, b7⟩ (fun hHeld => ?_)
  clear hK K v7 b7
  (try simp only [Act.put, List.setIfInBounds_toArray, List.set_cons_zero, List.set_cons_succ])
  refine take_at (v := ?_) 7 (some 30) rfl (by kernel_rfl) (by kernel_rfl) (by kernel_rfl) (by kernel_rfl) (fun _ _ _ h => h) (Or.inl ⟨by rfl, ?_⟩) (by assumption) ?_
  rotate_left
  · intro w hSw; (try dsimp only at hSw); go_simp; try (with_reducible rfl)
  (try simp only [Act.put, List.setIfInBounds_toArray, List.set_cons_zero, List.set_cons_succ])
  refine take_at (v := ?_) 8 (some 38) rfl (by kernel_rfl) (by kernel_rfl) (by kernel_rfl) (by kernel_rfl) (fun _ _ _ h => h) (Or.inl ⟨by rfl, ?_⟩) (by assumption) ?_
  rotate_left
  · intro w hSw; (try dsimp only at hSw); go_simp; try (with_reducible rfl)
  (try simp only [Act.put, List.setIfInBounds_toArray, List.set_cons_zero, List.set_cons_succ])
  refine take_at (v := ?_) 9 (some 39) rfl (by kernel_rfl) (by kernel_rfl) (by kernel_rfl) (by kernel_rfl) (fun _ _ _ h => h) (Or.inl ⟨by rfl, ?_⟩) (by assumption) ?_
  rotate_left
  · intro w hSw; (try dsimp only at hSw); go_simp; try (with_reducible rfl)
  (try simp only [Act.put, List.setIfInBounds_toArray, List.set_cons_zero, List.set_cons_succ])
  refine take_at (v := ?_) 10 (some 8) rfl (by kernel_rfl) (by kernel_rfl) (by kernel_rfl) (by kernel_rfl) (fun _ _ _ h => h) (Or.inl ⟨by rfl, ?_⟩) (by assumption) ?_
  rotate_left
  · intro w hSw; (try dsimp only at hSw); go_simp; try (with_reducible rfl)
  (try simp only [Act.put, List.setIfInBounds_toArray, List.set_cons_zero, List.set_cons_succ])
  refine take_at (v := ?_) 11 (some 9) rfl (by kernel_rfl) (by kernel_rfl) (by kernel_rfl) (by kernel_rfl) (fun _ _ _ h => h) (Or.inl ⟨by rfl, ?_⟩) (by assumption) ?_
  rotate_left
  · intro w hSw; (try dsimp only at hSw); go_simp; try (with_reducible rfl)
  (try simp only [Act.put, List.setIfInBounds_toArray, List.set_cons_zero, List.set_cons_succ])
  refine wpAnyH_done (by kernel_rfl) ?_ _
  clear hHeld
  go_wp2
  go_ret2
  exact ⟨b, rfl, sz7, D7.out, C7.out⟩
end
end Go.Proofs.YtldnmpiaofppgaaDoor

/-
  'for x := range f', f a closure that has captured variables, and x in a block of its own (its parts are asked for): as RangeVal.
-/
namespace Go.Proofs.YtldnmpiaofppgaaDoor
open Go.RowKit
set_option linter.unusedVariables false

theorem range_box {n : Nat} {P : Program} {g : Operand} {ps : Array Tmp} {assign body : Code} {Q : Exit → Act → World → Prop} {a : Act} {w : World} {gf : Nat} {cp : Array Value}
    (hg : a.eval g = .func (.func gf) #[] cp) (eg : ∀ args w, (callFunc gf args).run P w = .ok (.enter gf args) w)
    (N : Nat) (T : Nat → Value → World → Prop) (hps : ps.size = 1) (I : Nat → World → Prop) (Ix : Code → Nat → World → Prop) (hI : Steady w.heap.size I) (hC : ∀ k W W', I k W → Ch Nil W W' → I k W') (hT : ∀ v, Steady w.heap.size (fun k => T k v)) (hTC : ∀ k v W W', T k v W → Ch Nil W W' → T k v W') (hIx : ∀ c, Steady w.heap.size (Ix c)) (h0 : I 0 w)
    (hit : TellsVal (n - 1) P gf (fun l => #[.func (.yield l) #[] #[]] ++ cp) N T I) (o : Value → Obj) (a₁ : Value → Nat → Act)
    (hassign : ∀ (l k : Nat) (v : Value) (W : World) (K : Act → World → Prop), T k v W → K (a₁ v W.heap.size) (W.alloc (o v)) →
      assign.wpIn (Fence.wide.inRound l) (n - 1 - 1) P (Exit.then K (fun _ _ _ => False)) { tmps := (ps.zip #[v]).foldl (fun t (p, v) => t.setIfInBounds p v) a.tmps, defers := [] } W)
    (hbody : ∀ (l k : Nat) (v : Value) (B : Nat) (W : World), I k W → T k v W → w.heap.size ≤ B → W.heap[B]? = some (o v) → k < N → body.wpIn (Fence.wide.inRound l) (n - 1 - 1) P (somePost w.heap.size I Ix k W) (a₁ v B) W)
    (hdone : ∀ (D : Nat) (W : World), w.heap.size ≤ D → I N W → W.heap[D]? = some (.deferred (some [])) → Q .normal { a with defers := { target := .collected D, args := #[] } :: a.defers } W)
    (hstop : ∀ (D : Nat) (c : Code) (k : Nat) (W : World), w.heap.size ≤ D → k < N → Ix c k W → W.heap[D]? = some (.deferred (some [])) → c.wpIn Fence.wide n P Q { a with defers := { target := .collected D, args := #[] } :: a.defers } W) :
    (Code.rangeFunc g ps assign body).wpIn Fence.wide n P Q a w := by
  refine wpIn_rangeFunc ?_
  intro fn hfn
  obtain ⟨D, hD⟩ : ∃ D, D = w.heap.size := ⟨_, rfl⟩
  obtain ⟨rec, hrec⟩ : ∃ rec : LoopState → Option Code → Loop, rec = fun st pe => { state := st, pending := pe, fn, tmps := a.tmps, params := ps, assign, body, defers := D } := ⟨_, rfl⟩
  obtain ⟨W1, hW1⟩ : ∃ W1, W1 = (w.alloc (.deferred (some []))).alloc (.loop (rec .ready none)) := ⟨_, rfl⟩
  have hs1 : (w.alloc (.deferred (some []))).heap.size = D + 1 := by rw [World.size_alloc, hD]
  have hK1 : W1.heap[D]? = some (.deferred (some [])) := by
    rw [hW1, Below.heap_alloc _ _ _ (by omega), hD]; exact World.alloc_heap_new w _
  have hL1 : W1.heap[D + 1]? = some (.loop (rec .ready none)) := by
    rw [hW1, ← hs1]; exact World.alloc_heap_new _ _
  have hI1 : I 0 W1 := by rw [hW1]; exact hI.new _ (hI.new _ h0 (Nat.le_refl _)) (by rw [World.size_alloc]; omega)
  let J : Nat → World → Prop := fun k W => I k W ∧ W.heap[D + 1]? = some (.loop (rec .ready none)) ∧ W.heap[D]? = some (.deferred (some []))
  let Jx : Nat → World → Prop := fun k W => ∃ c, Ix c k W ∧ W.heap[D + 1]? = some (.loop (rec .done (some c))) ∧ W.heap[D]? = some (.deferred (some []))
  refine ⟨D + 1, [{ target := .collected D, args := #[] }], W1, { target := .fn (.func gf) cp, args := #[.func (.yield (D + 1)) #[] #[]] }, W1, gf, #[.func (.yield (D + 1)) #[] #[]] ++ cp, W1, ?_, ?_, fun _ _ => trivial, ?_, fun h => (by cases h), ?_⟩
  · rw [hW1, hrec, hD]; exact run_enterLoop_outer fn a.tmps ps assign body
  · simp only [resolve, hg]; simp [go_sem]
  · simp [invoke, go_sem, eg]
  · refine (hit (D + 1) J Jx W1 (fun k W h => h.1) (fun k W W' h c => ⟨hC k W W' h.1 c, (c.block _ (Array.getElem?_eq_some_iff.1 h.2.1).1 (fun e => e)).trans h.2.1, (c.block _ (Array.getElem?_eq_some_iff.1 h.2.2).1 (fun e => e)).trans h.2.2⟩) ?_ ⟨hI1, hL1, hK1⟩).mono ?_
    · rintro k v W' ⟨hi', hl', hk'⟩ hkN hv'
      have hlt' := (Array.getElem?_eq_some_iff.1 hl').1
      have hy := run_yield (P := P) (args := #[v]) hl' (by rw [hrec]; simp [hps])
      rw [hrec] at hy
      obtain ⟨W, hWe⟩ : ∃ W, W = W'.alloc (o v) := ⟨_, rfl⟩
      have cA : Ch Nil W' W := hWe ▸ (Ch.refl _ _).alloc _
      have hi := hC k W' W hi' cA
      have hl := (cA.block _ hlt' (fun e => e)).trans hl'
      have hk := (cA.block _ (Array.getElem?_eq_some_iff.1 hk').1 (fun e => e)).trans hk'
      have hv := hTC k v W' W hv' cA
      have hnew : W.heap[W'.heap.size]? = some (o v) := by rw [hWe]; exact World.alloc_heap_new _ _
      have hlt := (Array.getElem?_eq_some_iff.1 hl).1
      refine ⟨fn, _, assign, body, hy, roundIn_of_wpIn hfn (hassign _ k v W' _ hv' ?_)⟩
      rw [← hWe]
      refine ⟨_, run_beginRound hl (by rw [hrec]), ?_⟩
      have hl2 : (W.putObj (D + 1) (.loop { rec .ready none with state := .busy })).heap[D + 1]? = some (.loop { rec .ready none with state := .busy }) := World.putObj_heap_same hlt
      have hk2 : (W.putObj (D + 1) (.loop { rec .ready none with state := .busy })).heap[D]? = some (.deferred (some [])) := (World.putObj_heap_other (by omega)).trans hk
      refine wpIn_mono (hbody _ k v W'.heap.size _ (hI.put _ hi (by omega) hl rfl) ((hT v).put _ hv (by omega) hl rfl) (by omega) ((World.putObj_heap_other (by omega)).trans hnew) hkN) ?_
      have fin : ∀ (jump : Option Code) (W3 : World), KeepsFrom w.heap.size (W.putObj (D + 1) (.loop { rec .ready none with state := .busy })) W3 →
          (Instr.endRound (D + 1) jump).run P W3 = .ok (.bool jump.isNone) (W3.putObj (D + 1) (.loop (rec (if jump.isNone then .ready else .done) jump))) ∧
          W3.heap[D + 1]? = some (.loop { rec .ready none with state := .busy }) ∧
          (W3.putObj (D + 1) (.loop (rec (if jump.isNone then .ready else .done) jump))).heap[D + 1]? = some (.loop (rec (if jump.isNone then .ready else .done) jump)) ∧
          (W3.putObj (D + 1) (.loop (rec (if jump.isNone then .ready else .done) jump))).heap[D]? = some (.deferred (some [])) := fun jump W3 kf => by
        have hl3 := kf.same _ _ (by omega) hl2 rfl
        have hk3 := kf.same _ _ (Nat.le_of_eq hD.symm) hk2 rfl
        have hr := run_endRound (P := P) jump hl3
        refine ⟨by rw [hr, hrec], hl3, ?_, (World.putObj_heap_other (by omega)).trans hk3⟩
        rw [World.putObj_heap_same (Array.getElem?_eq_some_iff.1 hl3).1]
      rintro e a3 W3 hp
      cases e with
      | normal =>
        obtain ⟨kf, hi3⟩ := hp
        obtain ⟨hr, hl3, hl4, hk4⟩ := fin none W3 kf
        exact ⟨_, _, hr, .inl ⟨rfl, hI.put _ hi3 (by omega) hl3 rfl, hl4, hk4⟩⟩
      | ret =>
        obtain ⟨kf, hi3⟩ := hp
        obtain ⟨hr, hl3, hl4, hk4⟩ := fin (some .ret) W3 kf
        exact ⟨_, _, hr, .inr ⟨rfl, .ret, (hIx _).put _ hi3 (by omega) hl3 rfl, hl4, hk4⟩⟩
      | exit id =>
        obtain ⟨kf, hi3⟩ := hp
        obtain ⟨hr, hl3, hl4, hk4⟩ := fin (some (.exit id)) W3 kf
        exact ⟨_, _, hr, .inr ⟨rfl, .exit id, (hIx _).put _ hi3 (by omega) hl3 rfl, hl4, hk4⟩⟩
      | goto t => exact hp.elim
      | panic ch => exact hp.elim
      | outgrown => exact hp.elim
    · rintro e W2 ⟨⟨v, rfl⟩, (⟨hi, hl, hk⟩ | ⟨k, hkN, c, hi, hl, hk⟩)⟩
      · have hE := run_endLoop (P := P) hl (by rw [hrec]; simp)
        have hp : (rec .ready none).pending = none := by rw [hrec]
        rw [hp] at hE
        exact ⟨none, _, hE, hdone D _ (Nat.le_of_eq hD.symm) (hI.put _ hi (by omega) hl rfl) ((World.putObj_heap_other (by omega)).trans hk)⟩
      · have hE := run_endLoop (P := P) hl (by rw [hrec]; simp)
        have hp : (rec .done (some c)).pending = some c := by rw [hrec]
        rw [hp] at hE
        exact ⟨some c, _, hE, hstop D c k _ (Nat.le_of_eq hD.symm) hkN ((hIx c).put _ hi (by omega) hl rfl) ((World.putObj_heap_other (by omega)).trans hk)⟩
end Go.Proofs.YtldnmpiaofppgaaDoor

/-
  Contracts of package shard's tasks and Turn.
-/
namespace Go.Proofs.YtldnmpiaofppgaaDoor
open Go.RowKit Go.Shelf Verge Go.Proofs.YtldnmpiaofppgaaDoor.LT
attribute [local go_sem] Oper.semAt_some
set_option linter.unusedVariables false
set_option linter.unusedSimpArgs false

theorem IsTk.cells1 {w : World} {b : Nat} {u : Tk} (h : IsTk w b 1 u) : w.cell? ⟨b, 1, none⟩ = some (.int .u64 (u.i : Nat)) ∧ w.cell? ⟨b, 2, none⟩ = some (.int .i64 u.s) ∧ w.cell? ⟨b, 3, none⟩ = some (.int .u64 (u.g : Nat)) ∧ w.cell? ⟨b, 4, none⟩ = some (.int .u64 (u.d : Nat)) ∧ w.cell? ⟨b, 5, none⟩ = some (.int .u64 (u.p : Nat)) := h.cells
/-- the k-th task that is told -/
def TkT (Q : List Tk) (k : Nat) (v : Value) (W : World) : Prop := ∃ f, Q[k]? = some f ∧ v = tkA f
theorem TkT.steady {Q : List Tk} {v : Value} {B : Nat} : Steady B (fun k => TkT Q k v) := fun k W W' r h c hr nc => h
theorem tasks_any (a : Option Addr) (n cap : Nat) (w : World) : Calls Tryd.prog 36 #[.slice a n cap] w fun e w' => e = .returned (.func (.func 66) #[] #[.pointer (some ⟨w.heap.size, 0, none⟩)]) ∧ w'.cell? ⟨w.heap.size, 0, none⟩ = some (.slice a n cap) ∧ Ch Nil w w' ∧ w'.heap.size = w.heap.size + 1 := by
  go_enter Tryd.func36, Tryd.ntmps36
  go_wp2
  go_ret
  exact ⟨rfl, by simp [cell_fresh], (Ch.refl _ _).alloc _, by simp⟩
section
variable {S : Nat → Prop} {w0 w w' W : World} {s r l : Nat} {g : Wh} {now : Nat} {P Q ys : List Ent} {a : Option Addr} {cap : Nat}

set_option maxRecDepth 100000 in
set_option maxHeartbeats 2000000 in
theorem tasks_tells (n : Nat) (h1 : 1 ≤ n) (B : Nat) (a : Option Addr) (cap : Nat) (ys : List Ent) (hl : ys.length ≤ 100000) (I : Nat → World → Prop)
    (hI : ∀ k W, I k W → W.cell? ⟨B, 0, none⟩ = some (.slice a ys.length cap) ∧ RowX W a ys.length cap ys ∧ ∀ x, x ∈ ys → IsTk W x.e 1 x.u) :
    TellsVal n Tryd.prog 66 (fun l => #[.func (.yield l) #[] #[]] ++ #[.pointer (some ⟨B, 0, none⟩)]) ys.length (TkT (ys.map (·.u))) I := by
  intro l J Jx W hJ hC hY h0
  have HI := Lib.hid fun k W h => hI k W (hJ k W h)
  have HC := Lib.hid hC
  have HY := Lib.hid hY
  have H0 := Lib.hid h0
  have c1 := (hI 0 W (hJ 0 W h0)).1
  clear hI hJ hC hY h0
  obtain ⟨m, hm⟩ : ∃ m, m = ys.length := ⟨_, rfl⟩
  rw [← hm] at c1 hl
  have HM := Lib.hid hm
  refine callsIn_of_wp Tryd.func66 rfl trivial ?_ rfl
  simp only [Tryd.ntmps66, List.size_toArray, List.length_cons, List.length_nil, Nat.reduceAdd, Nat.reduceSub, Array.replicate_succ, Array.replicate_zero, List.push_toArray, List.append_toArray, List.nil_append, List.cons_append]
  gi_wp2
  rw [← hm]
  clear hm
  gi_loopw [7] (fun v wr => ∃ k : Nat, k ≤ m ∧ v = .int .i64 k ∧ J k wr) (fun v _ => m - (intOf v).toNat)
  case atStart => exact ⟨0, by omega, rfl, H0.out⟩
  case round =>
    obtain ⟨k, hk, rfl, hj⟩ := hrel
    have HJ2 := Lib.hid hj
    clear hj
    by_cases hlt : k < m
    · obtain ⟨-, d2, d3⟩ := HI.out k wr HJ2.out
      obtain ⟨x, hx⟩ : ∃ x, ys[k]? = some x := ⟨_, List.getElem?_eq_getElem (by rw [← HM.out]; exact hlt)⟩
      obtain ⟨ga, rfl, -⟩ := Row.form d2 (by rw [← HM.out]; omega)
      have q1 := RowX.cell d2 (i := k) (by rw [← HM.out]; exact hlt) hx
      obtain ⟨z0, z1, z2, z3, z4⟩ := (d3 x (List.mem_of_getElem? hx)).cells1
      obtain ⟨fn, tmps, assign, body, hy, hR⟩ := HY.out k (tkA x.u) wr HJ2.out (by rw [← HM.out]; exact hlt) ⟨x.u, by rw [List.getElem?_map, hx]; rfl, rfl⟩
      unfold tkA at hy
      have HR := Lib.hid hR
      have hkz : (k : Int) < (m : Int) := by omega
      have hkz0 : (0 : Int) ≤ (k : Int) := by omega
      clear d2 d3 hx hR
      gi_wp2_with fail
      refine HR.out.mono ?_
      rintro e W3 (⟨rfl, hJ3⟩ | ⟨rfl, hJx3⟩)
      · have HJ3 := Lib.hid hJ3
        clear hJ3
        gi_wp2
        go_roundw
        case rel => exact ⟨k + 1, by omega, by go_num, HJ3.out⟩
        case measure => simp [intOf]; omega
      · have HJ3 := Lib.hid hJx3
        clear hJx3
        gi_wp2
        refine bodyPost_ret (results_none rfl _ _ _) rfl ?_
        exact ⟨⟨_, rfl⟩, .inr ⟨k, by rw [← HM.out]; exact hlt, HJ3.out⟩⟩
    · obtain rfl : k = m := by omega
      gi_wp2
      go_end0
      exact ⟨⟨_, rfl⟩, .inl (by rw [← HM.out]; exact HJ2.out)⟩

/-- between two rounds of Turn: the box of the list, that of the iterator -/
structure TurnIn (w : World) (fv : Value) (Q : List Tk) (k : Nat) (W : World) : Prop where
  c : Ch Nil w W
  b1 : W.cell? ⟨w.heap.size + 1, 0, none⟩ = some fv
  row : ∃ a cap, W.cell? ⟨w.heap.size, 0, none⟩ = some (.slice a (Q.take k).length cap) ∧ TRow W a cap (Q.take k) ∧ ∀ g, OwnS a g → w.heap.size + 1 < g
  b : Blk W w.heap.size
theorem TurnIn.steady {fv : Value} {Q : List Tk} {B : Nat} (hB : w.heap.size ≤ B) : Steady B (TurnIn w fv Q) := fun k W W' r h c hr nc => by
  obtain ⟨a, cap, h1, h2, h3⟩ := h.row
  exact ⟨h.c.later c (by omega), c.keeps h.b1 (fun e => nc.cell h.b1 e), ⟨a, cap, c.keeps h1 (fun e => nc.cell h1 e), Row.steady h2 c nc, h3⟩, h.b.kept c (NoCells.blk nc h.b)⟩
theorem TurnIn.quiet {fv : Value} {Q : List Tk} {k : Nat} (h : TurnIn w fv Q k W) (c : Ch Nil W w') : TurnIn w fv Q k w' := by
  obtain ⟨a, cap, h1, h2, h3⟩ := h.row
  exact ⟨h.c.trans c, c.keeps h.b1 (fun e => e), ⟨a, cap, c.keeps h1 (fun e => e), h2.kept c (fun _ _ e => e), h3⟩, h.b.kept c (fun e => e)⟩

set_option maxRecDepth 100000 in
set_option maxHeartbeats 4000000 in
theorem sTurn_ok (h : IsSh w s r l g.wb) (D : Drv w0 w g now Q P) (hn : now + 1 < 18446744073709551616) (hl : Q.length ≤ 45000) :
    Calls Tryd.prog 12 #[.pointer (some ⟨s, 0, none⟩)] w fun e w' => ∃ a cap, e = .returned (.tuple #[.slice a ((dueQ Q (now + 1)).map (·.u)).length cap, .int .i64 0]) ∧ TRow w' a cap ((dueQ Q (now + 1)).map (·.u)) ∧ (∀ k, OwnS a k → w.heap.size ≤ k) ∧ Drv w0 w' g (now + 1) (leftQ Q (now + 1)) P ∧ Ch (WS g P) w w' := by
  have hfld := fld_sh2
  have HS := Lib.hid h
  have HD := Lib.hid D
  have HN := Lib.hid hn
  have HL := Lib.hid hl
  have HP : Hid (∀ x, x ∈ dueQ Q (now + 1) → x ∈ P) := Lib.hid fun x hx => D.q.p x (List.mem_filter.1 hx).1
  have hyl : (dueQ Q (now + 1)).length ≤ 45000 := by have : (dueQ Q (now + 1)).length ≤ Q.length := List.length_filter_le _ _; omega
  have HYL := Lib.hid hyl
  clear h D hn hl
  refine (callsIn_wide (n := 5)).1 ?_
  refine callsIn_of_wp_marks Tryd.func12 rfl trivial ?_ rfl
  simp only [Tryd.ntmps12, List.size_toArray, List.length_cons, List.length_nil, Nat.reduceAdd, Nat.reduceSub, Array.replicate_succ, Array.replicate_zero, List.push_toArray, List.append_toArray, List.nil_append, List.cons_append]
  gi_wp2_with fail
  refine ⟨trivial, ?_⟩
  refine (callsIn_wide.2 (whole_of HS.out)).mono ?_
  rintro e w1 ⟨rfl, c1⟩
  have C1 := Lib.hid c1
  have D1 := Lib.hid (HD.out.quiet c1)
  clear c1
  gi_wp2_with fail
  refine ⟨trivial, ?_⟩
  refine (callsIn_wide.2 (D1.out.advance HN.out (by have := HL.out; omega))).mono ?_
  rintro e w2 ⟨a2, cap2, rfl, r2, g2, d2, c2⟩
  generalize hY : dueQ Q (now + 1) = ys at *
  have R2 := Lib.hid r2
  have D2 := Lib.hid d2
  have C2 := Lib.hid ((C1.out.mono (fun _ _ e => e.elim)).trans c2)
  have E2 : Hid (∀ x, x ∈ ys → IsTk w2 x.e 1 x.u) := Lib.hid fun x hx => (d2.q.w.e x (HP.out x hx)).u
  have sz2 : w.heap.size ≤ w2.heap.size := by have := C2.out.size; exact this
  obtain ⟨m, hm⟩ : ∃ m, m = ys.length := ⟨_, rfl⟩
  have HM := Lib.hid hm
  rw [← hm]
  have hTH := Lib.hid (tasks_any a2 m cap2 (w2.alloc (.cells #[.slice none 0 0] 33)))
  have HY := Lib.hid hY
  clear r2 g2 d2 c2 C1 D1 hm hY
  gi_wp2_with fail
  refine ⟨trivial, ?_⟩
  refine (callsIn_wide.2 hTH.out).mono ?_
  rintro e W0 ⟨rfl, q1, c0, z0⟩
  have hI0 : TurnIn w2 (.slice a2 m cap2) (ys.map (·.u)) 0 W0 := by
    have c2 : Ch Nil w2 (w2.alloc (.cells #[.slice none 0 0] 33)) := (Ch.refl _ _).alloc _
    simp only [World.size_alloc] at q1
    exact ⟨c2.trans c0, q1, ⟨none, 0, c0.keeps (by simp [cell_fresh]) (fun e => e), Row.nil _ _ _ _, fun g hg => by simp [OwnS] at hg⟩, (Blk.new _ _ _).kept c0 (fun e => e)⟩
  have HI0 := Lib.hid hI0
  have hz : W0.heap.size = w2.heap.size + 2 := by rw [z0, World.size_alloc]
  clear hI0 q1 c0 z0 hTH
  gi_wp2_with fail
  refine range_box (n := 5) (gf := 66) (cp := #[.pointer (some ⟨w2.heap.size + 1, 0, none⟩)]) (by simp [go_sem]) (enters_of Tryd.func66 (by kernel_rfl) rfl) ys.length (TkT (ys.map (·.u))) rfl
    (TurnIn w2 (.slice a2 m cap2) (ys.map (·.u))) (fun c k W => False) (TurnIn.steady (by omega)) (fun k W W' h c => h.quiet c) (fun v => TkT.steady) (fun k v W W' h c => h) ?hIx HI0.out
    (tasks_tells 4 (by omega) _ a2 cap2 ys (by omega) _ (fun k W h => ⟨by rw [← HM.out]; exact h.b1, R2.out.kept h.c (fun _ _ e => e), fun x hx => (E2.out x hx).kept h.c (fun e => e)⟩)) (fun v => .cells v.cells 37) (fun v B => { tmps := #[.pointer (some ⟨s, 0, none⟩), undef, .slice none 0 0, .int .i64 0, .slice a2 m cap2, .int .i64 0, .pointer (some ⟨w2.heap.size, 0, none⟩), .pointer (some ⟨B, 0, none⟩), .tuple #[.slice a2 m cap2, .int .i64 0], .pointer (some ⟨s, 0, none⟩), .agg #[.pointer (some ⟨r, 0, none⟩), .pointer (some ⟨l, 0, none⟩), .pointer (some ⟨g.wb, 0, none⟩)], .pointer (some ⟨g.wb, 0, none⟩), .tuple #[.slice a2 m cap2, .int .i64 0], .slice a2 m cap2, .int .i64 0, .slice a2 m cap2, .func (.func 66) #[] #[.pointer (some ⟨w2.heap.size + 1, 0, none⟩)], v, undef, undef, undef, undef, undef, undef], defers := [] }) ?assign ?body ?done ?stop
  case hIx => exact fun c k W W' r h ch hr nc => h
  case assign =>
    intro l k v W K hT hK
    obtain ⟨f, hf, rfl⟩ := hT
    unfold tkA at hK ⊢
    clear hf
    gi_wp2
    exact hK
  case body =>
    intro l k v B W hW hT hB hb hk
    obtain ⟨f, hf, rfl⟩ := hT
    obtain ⟨a1, cap1, c1, r1, g1⟩ := hW.row
    have f1 := hW.b.fz 0
    have hWc := hW.c.size
    have hWb := hW.b.lt
    have HW := Lib.hid hW
    have G1 := Lib.hid g1
    have B1 := Lib.hid r1
    have hml : (ys.map (·.u)).length ≤ 45000 := by rw [List.length_map]; exact HYL.out
    have hkl : ((ys.map (·.u)).take k).length ≤ 1000000 := by rw [List.length_take]; omega
    have HKL := Lib.hid hkl
    have HX := Lib.hid (show (ys.map (·.u)).take (k + 1) = (ys.map (·.u)).take k ++ [f] by rw [List.take_add_one, hf]; rfl)
    have q0 : W.cell? ⟨B, 0, none⟩ = some (.int .u64 (f.i : Nat)) := by simp [World.cell?, hb, tkA, Value.cells]
    have q1 : W.cell? ⟨B, 1, none⟩ = some (.int .i64 f.s) := by simp [World.cell?, hb, tkA, Value.cells]
    have q2 : W.cell? ⟨B, 2, none⟩ = some (.int .u64 (f.g : Nat)) := by simp [World.cell?, hb, tkA, Value.cells]
    have q3 : W.cell? ⟨B, 3, none⟩ = some (.int .u64 (f.d : Nat)) := by simp [World.cell?, hb, tkA, Value.cells]
    have q4 : W.cell? ⟨B, 4, none⟩ = some (.int .u64 (f.p : Nat)) := by simp [World.cell?, hb, tkA, Value.cells]
    have hXc : Ch Nil W (W.alloc (.cells #[.int .u64 (f.i : Nat), .int .i64 f.s, .int .u64 (f.g : Nat), .int .u64 (f.d : Nat), .int .u64 (f.p : Nat)] 37)) := (Ch.refl _ _).alloc _
    have HR2 := Lib.hid (show TRow (W.alloc (.cells #[.int .u64 (f.i : Nat), .int .i64 f.s, .int .u64 (f.g : Nat), .int .u64 (f.d : Nat), .int .u64 (f.p : Nat)] 37)) a1 cap1 ((ys.map (·.u)).take k) from r1.kept hXc (fun _ _ e => e))
    have d1 := hXc.keeps c1 (fun e => e)
    have e1 := (hXc.frozen (p := ⟨w2.heap.size, 0, none⟩) hWb (fun e => e)).trans f1
    have HX2 := Lib.hid hXc
    obtain ⟨m2, hm2⟩ : ∃ m2, m2 = ((ys.map (·.u)).take k).length := ⟨_, rfl⟩
    rw [← hm2] at c1 d1
    have HM2 := Lib.hid hm2
    unfold tkA
    clear hW r1 g1 hf hb hkl hXc hm2 hml
    refine wpIn_block ?_
    refine wpIn_region_lit (list_round (by rintro ⟨a, w, h⟩; exact h) _ (noDefer_list (by kernel_rfl)) _ _ ?_)
    go_wp2_with (at_builtin; refine append_tk _ rfl _ _ _ rfl Tryd.underlying33 (by kernel_rfl) rfl HM2.out HR2.out HKL.out W.heap.size 1 f 37 rfl (heap_alloc_new W _) _ rfl ?_)
    intro g2 cap2' w3 row ch at_ lt
    have ROW := Lib.hid row
    have CH := Lib.hid ch
    have AT := Lib.hid at_
    have hbox : ¬ OwnS a1 w2.heap.size := fun e => by have := G1.out _ e; omega
    have d2 := ch.keeps d1 hbox
    have e2 := (ch.frozen (p := ⟨w2.heap.size, 0, none⟩) (by simp; omega) hbox).trans e1
    clear row ch at_
    go_wp2
    have T0 : Ch (OwnS a1) W w3 := (HX2.out.mono (fun _ _ e => e.elim)).trans CH.out
    have T : Ch (fun k => OwnS a1 k ∨ k = w2.heap.size) W (w3.setCell ⟨w2.heap.size, 0, none⟩ (.slice (some ⟨g2, 0, none⟩) (m2 + 1) cap2')) :=
      Ch.set (p := ⟨w2.heap.size, 0, none⟩) (T0.mono fun _ _ e => .inl e) (fun _ => .inr rfl) _
    have gt : w2.heap.size + 1 < g2 := by
      rcases AT.out with h | h
      · exact G1.out g2 h
      · rw [h]; have := lt_of_cell HW.out.b1; simp at this ⊢; omega
    have nS : ∀ i, i < w2.heap.size + 2 → i ≠ w2.heap.size → ¬ (OwnS a1 i ∨ i = w2.heap.size) := fun i hi hne e => by
      rcases e with e | e
      · have := G1.out i e; omega
      · exact hne e
    refine ⟨Keeps.of_ch' T fun j hj => ?_, HW.out.c.up T ?_, T.keeps HW.out.b1 (nS _ (by simp) (by simp)), ⟨some ⟨g2, 0, none⟩, cap2', ?_, ?_, ?_⟩, (HW.out.b.kept T0 hbox).set _ _⟩
    · rcases hj with hj | rfl
      · exact .inr (Row.blk B1.out hj)
      · exact .inl (by omega)
    · rintro i (e | e)
      · have := G1.out i e; omega
      · omega
    · rw [HX.out, List.length_append, ← HM2.out]; exact World.cell?_setCell_same _ _ _ d2
    · rw [HX.out]; exact ROW.out.kept (S := One w2.heap.size) ((Ch.refl _ _).setB 0 _) (fun k e h => by cases e; simp at h; omega)
    · intro g' e; cases e; exact gt
  case done =>
    intro D W hD hW hK
    have hput := (TurnIn.steady (w := w2) (fv := .slice a2 m cap2) (Q := ys.map (·.u)) (B := w2.heap.size) (Nat.le_refl _)).put (.deferred none) hW (by omega) hK rfl
    obtain ⟨a1, cap1, c1, r1, g1⟩ := hW.row
    rw [List.take_of_length_le (by rw [List.length_map]; exact Nat.le_refl _)] at c1 r1
    have R1 := Lib.hid (Row.steady r1 (Ch.put D (.deferred none)) (.of_loop hK rfl))
    have G1 := Lib.hid g1
    have HP2 := Lib.hid hput
    clear hW hput r1 g1
    gi_wp2
    refine ⟨by simp, .inl ⟨_, _, rfl, run_takeDeferred hK, ?_⟩⟩
    have dd := D2.out.quiet HP2.out.c
    have cc := C2.out.then HP2.out.c (fun _ _ e => e.elim)
    refine ⟨_, results_tmp2 rfl _ _ _, a1, cap1, by rw [HY.out, List.length_map]; rfl, by rw [HY.out]; exact R1.out, fun g hg => by have := G1.out g hg; omega, dd, cc⟩
  case stop => intro D c k W hD hk hW hK; exact hW.elim

set_option maxRecDepth 100000 in
set_option maxHeartbeats 4000000 in
theorem sTurn_nil (w : World) :
    Calls Tryd.prog 12 #[.pointer none] w fun e w' => ∃ a cap, e = .returned (.tuple #[.slice a 0 cap, .int .i64 6]) ∧ Ch Nil w w' := by
  have hfld := fld_sh2
  refine (callsIn_wide (n := 5)).1 ?_
  refine callsIn_of_wp_marks Tryd.func12 rfl trivial ?_ rfl
  simp only [Tryd.ntmps12, List.size_toArray, List.length_cons, List.length_nil, Nat.reduceAdd, Nat.reduceSub, Array.replicate_succ, Array.replicate_zero, List.push_toArray, List.append_toArray, List.nil_append, List.cons_append]
  gi_wp2_with fail
  refine ⟨trivial, ?_⟩
  refine (callsIn_wide.2 (whole_nil _)).mono ?_
  rintro e w1 ⟨rfl, c1⟩
  have C2 := Lib.hid c1
  clear c1
  gi_wp2_with fail
  refine ⟨trivial, ?_⟩
  refine (callsIn_wide.2 (advance_nil _)).mono ?_
  rintro e w2 ⟨rfl, rfl⟩
  have sz2 : w.heap.size ≤ w1.heap.size := C2.out.size
  have hTH := Lib.hid (tasks_any none 0 0 (w1.alloc (.cells #[.slice none 0 0] 33)))
  gi_wp2_with fail
  refine ⟨trivial, ?_⟩
  refine (callsIn_wide.2 hTH.out).mono ?_
  rintro e W0 ⟨rfl, q1, c0, z0⟩
  have hI0 : TurnIn w1 (.slice none 0 0) (([] : List Ent).map (·.u)) 0 W0 := by
    have c2 : Ch Nil w1 (w1.alloc (.cells #[.slice none 0 0] 33)) := (Ch.refl _ _).alloc _
    simp only [World.size_alloc] at q1
    exact ⟨c2.trans c0, q1, ⟨none, 0, c0.keeps (by simp [cell_fresh]) (fun e => e), Row.nil _ _ _ _, fun g hg => by simp [OwnS] at hg⟩, (Blk.new _ _ _).kept c0 (fun e => e)⟩
  have HI0 := Lib.hid hI0
  have hz : W0.heap.size = w1.heap.size + 2 := by rw [z0, World.size_alloc]
  clear hI0 q1 c0 z0 hTH
  gi_wp2_with fail
  refine range_box (n := 5) (gf := 66) (cp := #[.pointer (some ⟨w1.heap.size + 1, 0, none⟩)]) (by simp [go_sem]) (enters_of Tryd.func66 (by kernel_rfl) rfl) ([] : List Ent).length (TkT (([] : List Ent).map (·.u))) rfl
    (TurnIn w1 (.slice none 0 0) (([] : List Ent).map (·.u))) (fun c k W => False) (TurnIn.steady (by omega)) (fun k W W' h c => h.quiet c) (fun v => TkT.steady) (fun k v W W' h c => h) ?hIx HI0.out
    (tasks_tells 4 (by omega) _ none 0 [] (by simp) _ (fun k W h => ⟨h.b1, Row.nil _ _ _ _, fun x hx => by cases hx⟩)) (fun v => .cells v.cells 37) (fun v B => { tmps := #[.pointer none, undef, .slice none 0 0, .int .i64 0, .slice none 0 0, .int .i64 6, .pointer (some ⟨w1.heap.size, 0, none⟩), .pointer (some ⟨B, 0, none⟩), .tuple #[.slice none 0 0, .int .i64 6], .pointer none, .agg #[.pointer none, .pointer none, .pointer none], .pointer none, .tuple #[.slice none 0 0, .int .i64 6], .slice none 0 0, .int .i64 6, .slice none 0 0, .func (.func 66) #[] #[.pointer (some ⟨w1.heap.size + 1, 0, none⟩)], v, undef, undef, undef, undef, undef, undef], defers := [] }) ?assign ?body ?done ?stop
  case hIx => exact fun c k W W' r h ch hr nc => h
  case assign =>
    intro l k v W K hT hK
    obtain ⟨f, hf, rfl⟩ := hT
    unfold tkA at hK ⊢
    clear hf
    gi_wp2
    exact hK
  case body => intro l k v B W hW hT hB hb hk; simp at hk
  case done =>
    intro D W hD hW hK
    have hput := (TurnIn.steady (w := w1) (fv := .slice none 0 0) (Q := ([] : List Ent).map (·.u)) (B := w1.heap.size) (Nat.le_refl _)).put (.deferred none) hW (by omega) hK rfl
    obtain ⟨a1, cap1, c1, r1, g1⟩ := hW.row
    have HP2 := Lib.hid hput
    clear hW hput r1 g1
    simp only [List.map_nil, List.take_nil, List.length_nil] at c1
    gi_wp2
    refine ⟨by simp, .inl ⟨_, _, rfl, run_takeDeferred hK, ?_⟩⟩
    exact ⟨_, results_tmp2 rfl _ _ _, a1, cap1, rfl, C2.out.trans HP2.out.c⟩
  case stop => intro D c k W hD hk hW hK; exact hW.elim
end
end Go.Proofs.YtldnmpiaofppgaaDoor
