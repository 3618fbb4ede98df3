import Derived.Test.YtnbdafmjcmmfpaaGreatK01
import Derived.Test.YtnbdafmjcmmfpaaGreatK05
import Derived.Test.YtnbdafmjcmmfpaaGreatK03
import Derived.RegionTactic
import Derived.Deep.Cut
import Derived.Deep.CutRange
import Derived.Deep.CutBlock
import Derived.IntWalk
import Derived.Test.YtnbdafmjcmmfpaaGreatK02
import Derived.Defers
import Derived.Recover
import Derived.BigQuiet
import Derived.Deep.QuietTactic
import Derived.Lib.Hide
/-
  What a ring's steps come to where positions are published in order.
-/
namespace Verge
/-- all positions below nx are published -/
def pubTo (nx : Nat) : Nat → Bool := fun p => decide (p < nx)
theorem pubTo_fill (nx : Nat) : upd (pubTo nx) nx true = pubTo (nx + 1) := by
  funext p
  unfold upd pubTo
  by_cases h : p = nx
  · simp [h]
  · simp [h]; omega
theorem pubTo_yes {p nx : Nat} (h : p < nx) : pubTo nx p = true := by simp [pubTo, h]
theorem pubTo_no {p nx : Nat} (h : nx ≤ p) : pubTo nx p = false := by simp [pubTo]; omega
theorem pubTo_zero : pubTo 0 = fun _ => false := by funext p; simp [pubTo]
theorem tick_choose (n nx fi : Nat) (P : Nat → Bool) (p : Nat) : tickStep n nx fi P ⟨0, 0, p, false⟩ = (nx, ⟨1, 0, nx, false⟩) := by simp [tickStep]
theorem tick_full (n nx fi : Nat) (P : Nat → Bool) (h : fi + n ≤ nx) : tickStep n nx fi P ⟨1, 0, nx, false⟩ = (nx, ⟨1, 1, nx, false⟩) := by simp [tickStep, h]
theorem tick_go (n nx fi : Nat) (P : Nat → Bool) (h1 : ¬ fi + n ≤ nx) (h2 : ¬ nx < fi) (h3 : P nx = false) : tickStep n nx fi P ⟨1, 0, nx, false⟩ = (nx, ⟨2, 0, nx, false⟩) := by simp [tickStep, h1, h2, h3]
theorem tick_take (n nx fi : Nat) (P : Nat → Bool) : tickStep n nx fi P ⟨2, 0, nx, false⟩ = (nx + 1, ⟨2, 2, nx, false⟩) := by simp [tickStep]
theorem tick_held (n nx fi : Nat) (P : Nat → Bool) (st : Int) (p : Nat) (fl : Bool) : tickStep n nx fi P ⟨st, 2, p, fl⟩ = (nx, ⟨st, 2, p, fl⟩) := by simp [tickStep]
theorem tick_still (n nx fi : Nat) (P : Nat → Bool) (st : Int) (p : Nat) (fl : Bool) : tickStep n nx fi P ⟨st, 1, p, fl⟩ = (nx, ⟨st, 1, p, fl⟩) := by simp [tickStep]
end Verge

/-
  Contracts of package ring's functions at verge/api.Task, as the statements use them.
-/
namespace Go.Proofs.YtnbdafmjcmmfpaaGreat.RT
open Go.RowKit Verge
set_option linter.unusedVariables false

theorem new_of (n : Nat) (w : World) (n0 : 0 < n) (n1 : n ≤ 64) :
    Calls Tryz.prog 57 #[.int .i64 n] w fun e w' => ∃ b sb, e = .returned (.tuple #[.pointer (some ⟨b, 0, none⟩), .int .i64 0]) ∧ w.heap.size ≤ b ∧ w.heap.size ≤ sb ∧ IsRing w' b sb n 0 0 (fun _ => false) (fun _ => tk0) ∧ Ch Nil w w' :=
  (new_in n w n0 n1).mono fun e w' ⟨he, h, c⟩ => ⟨_, _, he, by omega, by omega, h, c⟩
theorem begin_of {w : World} {b sb n nx fi : Nat} {P : Nat → Bool} {V : Nat → Tk} (h : IsRing w b sb n nx fi P V) :
    Calls Tryz.prog 117 #[.pointer (some ⟨b, 0, none⟩)] w fun e w' => ∃ t, e = .returned (.pointer (some ⟨t, 0, none⟩)) ∧ w.heap.size ≤ t ∧ t ≠ b ∧ t ≠ sb ∧ IsT w' t b 0 0 0 false ∧ IsRing w' b sb n nx fi P V ∧ Ch Nil w w' :=
  (begin_at b sb n w h.seats h.n0).mono fun e w' ⟨he, k, c, _⟩ => ⟨_, he, Nat.le_refl _, by have := h.lt; omega, by have := h.lt2; omega, k, h.kept c (fun e => e) (fun e => e), c⟩
theorem step_to {t b sb n nx fi : Nat} {P : Nat → Bool} {V : Nat → Tk} (s s' : TSt) (nx' : Nat) {w : World} (h : IsRing w b sb n nx fi P V) (k : IsT w t b s.st s.su s.pos s.fl) (hb : t ≠ b) (hs : t ≠ sb) (hx : s.pos ≤ 1000000)
    (hst : s.st = 0 ∨ s.st = 1 ∨ s.st = 2) (he : tickStep n nx fi P s = (nx', s')) :
    Calls Tryz.prog 118 #[.pointer (some ⟨t, 0, none⟩)] w fun e w' => e = .returned (.int .i64 s'.su) ∧ IsRing w' b sb n nx' fi P V ∧ IsT w' t b s'.st s'.su s'.pos s'.fl ∧ Ch (Tri t b sb) w w' := by
  have := step_any t b sb n nx fi P V s w h k hb hs hx hst
  rw [he] at this
  exact this
theorem len_of {b sb n nx fi : Nat} {P : Nat → Bool} {V : Nat → Tk} {w : World} (h : IsRing w b sb n nx fi P V) (d : Nat) (hd : Hid (nx = fi + d)) (hx : nx ≤ 1000000) :
    Calls Tryz.prog 52 #[.pointer (some ⟨b, 0, none⟩)] w fun e w' => e = .returned (.int .i64 (d : Nat)) ∧ IsRing w' b sb n nx fi P V ∧ Ch (Two b sb) w w' := by
  have := len_at b sb n nx fi P V w h (by have := hd.out; omega) hx
  rw [show nx - fi = d by have := hd.out; omega] at this
  exact this
theorem Tri.up {t b sb B i : Nat} (h : Tri t b sb i) (h1 : B ≤ t) (h2 : B ≤ b) (h3 : B ≤ sb) : B ≤ i := by rcases h with rfl | rfl | rfl <;> assumption
theorem Two.up {b sb B i : Nat} (h : Two b sb i) (h2 : B ≤ b) (h3 : B ≤ sb) : B ≤ i := by rcases h with rfl | rfl <;> assumption
theorem Ch_upTri {t b sb : Nat} {w w1 w2 : World} (c0 : Ch Nil w w1) (c : Ch (Tri t b sb) w1 w2) (h1 : w.heap.size ≤ t) (h2 : w.heap.size ≤ b) (h3 : w.heap.size ≤ sb) : Ch Nil w w2 :=
  c0.then c fun i hi e => by have := Tri.up e h1 h2 h3; omega
theorem Ch_upTwo {b sb : Nat} {w w1 w2 : World} (c0 : Ch Nil w w1) (c : Ch (Two b sb) w1 w2) (h2 : w.heap.size ≤ b) (h3 : w.heap.size ≤ sb) : Ch Nil w w2 :=
  c0.then c fun i hi e => by have := Two.up e h2 h3; omega
end Go.Proofs.YtnbdafmjcmmfpaaGreat.RT

/-
  A shard, by where its ring lies: Begin, Waiting, Ready, Pop through it.
-/
namespace Go.Proofs.YtnbdafmjcmmfpaaGreat
open Go.RowKit Verge
attribute [local go_sem] Oper.semAt_some
set_option linter.unusedVariables false
set_option linter.unusedSimpArgs false

theorem Ch.up {S : Nat → Prop} {a b c : World} (h : Ch Nil a b) (k : Ch S b c) (hs : ∀ i, S i → a.heap.size ≤ i) : Ch Nil a c :=
  h.then k fun i hi e => by have := hs i e; omega
/-- a shard in block s: where its ring, its lock, its wheel lie -/
structure IsSh (w : World) (s r l : Nat) (v : Option Addr) : Prop where
  r : w.cell? ⟨s, 0, none⟩ = some (.pointer (some ⟨r, 0, none⟩))
  l : w.cell? ⟨s, 1, none⟩ = some (.pointer (some ⟨l, 0, none⟩))
  v : w.cell? ⟨s, 2, none⟩ = some (.pointer v)
theorem fld_sh0 (a b c : Value) (w : World) : (Instr.field 111 (.agg #[a, b, c]) 0).run Tryz.prog w = .ok a w := by kernel_rfl
theorem fld_sh1 (a b c : Value) (w : World) : (Instr.field 111 (.agg #[a, b, c]) 1).run Tryz.prog w = .ok b w := by kernel_rfl
theorem fld_sh2 (a b c : Value) (w : World) : (Instr.field 111 (.agg #[a, b, c]) 2).run Tryz.prog w = .ok c w := by kernel_rfl
section
variable {S : Nat → Prop} {w w' : World} {s r l : Nat} {v : Option Addr}
theorem IsSh.lt (h : IsSh w s r l v) : s < w.heap.size := lt_of_cell h.r
theorem IsSh.kept (h : IsSh w s r l v) (c : Ch S w w') (hn : ¬ S s) : IsSh w' s r l v := ⟨c.keeps h.r hn, c.keeps h.l hn, c.keeps h.v hn⟩

/-- the box of the result: cells that may be set -/
theorem sh_box (w : World) : ∀ W, W = w.alloc (Obj.cells #[.pointer none, .pointer none, .pointer none] 111) → Ch Nil w W ∧ (∀ i, i < 3 → ∃ x, W.cell? ⟨w.heap.size, i, none⟩ = some (.pointer x)) ∧ Blk W w.heap.size := by
  rintro W rfl
  refine ⟨(Ch.refl _ _).alloc _, fun i hi => ?_, Blk.new _ _ _⟩
  rw [cell_fresh]
  have : i = 0 ∨ i = 1 ∨ i = 2 := by omega
  rcases this with rfl | rfl | rfl <;> exact ⟨none, rfl⟩
theorem sh_end {w W : World} {B : Nat} {a b c : Value} (h : Ch Nil w W) (hB : w.heap.size = B) : Ch Nil w (((W.setCell ⟨B, 0, none⟩ a).setCell ⟨B, 1, none⟩ b).setCell ⟨B, 2, none⟩ c) :=
  h.up ((((Ch.refl (One B) _).setB 0 _).setB 1 _).setB 2 _) (fun i e => Nat.le_of_eq (hB.trans (show B = i from e.symm)))
theorem sh_cells {W : World} {B : Nat} {x0 x1 x2 a b c : Value} (h0 : W.cell? ⟨B, 0, none⟩ = some x0) (h1 : W.cell? ⟨B, 1, none⟩ = some x1) (h2 : W.cell? ⟨B, 2, none⟩ = some x2) :
    (((W.setCell ⟨B, 0, none⟩ a).setCell ⟨B, 1, none⟩ b).setCell ⟨B, 2, none⟩ c).cell? ⟨B, 0, none⟩ = some a ∧ (((W.setCell ⟨B, 0, none⟩ a).setCell ⟨B, 1, none⟩ b).setCell ⟨B, 2, none⟩ c).cell? ⟨B, 1, none⟩ = some b ∧ (((W.setCell ⟨B, 0, none⟩ a).setCell ⟨B, 1, none⟩ b).setCell ⟨B, 2, none⟩ c).cell? ⟨B, 2, none⟩ = some c := by
  refine ⟨?_, ?_, ?_⟩
  · rw [cell_ne (by omega), cell_ne (by omega)]; exact World.cell?_setCell_same _ _ _ h0
  · rw [cell_ne (by omega)]; exact World.cell?_setCell_same _ _ _ ((cell_ne (by omega) _).trans h1)
  · exact World.cell?_setCell_same _ _ _ ((cell_ne (by omega) _).trans ((cell_ne (by omega) _).trans h2))
set_option maxHeartbeats 1000000 in
theorem shWhole_of (h : IsSh w s r l v) :
    Calls Tryz.prog 44 #[.pointer (some ⟨s, 0, none⟩)] w fun e w' => e = .returned (.agg #[.pointer (some ⟨r, 0, none⟩), .pointer (some ⟨l, 0, none⟩), .pointer v]) ∧ Ch Nil w w' := by
  obtain ⟨cA, xs, bk⟩ := sh_box w _ rfl
  obtain ⟨x0, c0⟩ := xs 0 (by omega)
  obtain ⟨x1, c1⟩ := xs 1 (by omega)
  obtain ⟨x2, c2⟩ := xs 2 (by omega)
  have f0 := bk.fz 0
  have f1 := bk.fz 1
  have f2 := bk.fz 2
  have CA := Lib.hid cA
  obtain ⟨h0, h1, h2⟩ := h.kept cA (fun e => e)
  clear xs bk cA h
  go_enter Tryz.func44, Tryz.ntmps44
  go_upto_region 1 with (fail)
  generalize w.alloc (Obj.cells #[.pointer none, .pointer none, .pointer none] 111) = W at CA c0 c1 c2 f0 f1 f2 h0 h1 h2 ⊢
  obtain ⟨B, hB⟩ : ∃ B, B = w.heap.size := ⟨_, rfl⟩
  rw [← hB] at c0 c1 c2 f0 f1 f2 ⊢
  have HB := Lib.hid hB
  clear hB
  go_wp2
  have hc := sh_end (a := .pointer (some ⟨r, 0, none⟩)) (b := .pointer (some ⟨l, 0, none⟩)) (c := .pointer v) CA.out HB.out.symm
  have hr := sh_cells (a := .pointer (some ⟨r, 0, none⟩)) (b := .pointer (some ⟨l, 0, none⟩)) (c := .pointer v) c0 c1 c2
  (try simp only [Exit.inBlock, Exit.then])
  refine bodyPost_ret (v := .agg #[.pointer (some ⟨r, 0, none⟩), .pointer (some ⟨l, 0, none⟩), .pointer v]) ?hr rfl ⟨rfl, hc⟩
  case hr =>
    generalize ((W.setCell ⟨B, 0, none⟩ (.pointer (some ⟨r, 0, none⟩))).setCell ⟨B, 1, none⟩ (.pointer (some ⟨l, 0, none⟩))).setCell ⟨B, 2, none⟩ (.pointer v) = W5 at hr ⊢
    obtain ⟨d0, d1, d2⟩ := hr
    simp [results, Tryz.results44, go_sem, d0, d1, d2]

end
section
variable {S : Nat → Prop} {w0 w w' : World} {s r rs l n nx fi : Nat} {v : Option Addr} {V : Nat → Tk} {Pb : Nat → Bool}
theorem sBegin_of (h : IsSh w s r l v) (k : RT.IsRing w r rs n nx fi Pb V) :
    Calls Tryz.prog 103 #[.pointer (some ⟨s, 0, none⟩)] w fun e w' => ∃ t, e = .returned (.pointer (some ⟨t, 0, none⟩)) ∧ w.heap.size ≤ t ∧ t ≠ r ∧ t ≠ rs ∧ RT.IsT w' t r 0 0 0 false ∧ RT.IsRing w' r rs n nx fi Pb V ∧ Ch Nil w w' := by
  have hfld := fld_sh0
  have H := Lib.hid h
  have K := Lib.hid k
  clear h k
  go_enter Tryz.func103, Tryz.ntmps103
  go_wp2_with fail
  refine (shWhole_of H.out).mono ?_
  rintro e w1 ⟨rfl, c1⟩
  have C1 := Lib.hid c1
  have sz := c1.size
  clear c1
  go_wp2_with fail
  refine (RT.begin_of (K.out.kept C1.out (fun e => e) (fun e => e))).mono ?_
  rintro e w2 ⟨t, rfl, ht, h1, h2, k2, r2, c2⟩
  have C2 := Lib.hid (C1.out.trans c2)
  have K2 := Lib.hid k2
  have R2 := Lib.hid r2
  clear c2 k2 r2
  go_wp2
  go_ret
  exact ⟨t, rfl, by omega, h1, h2, K2.out, R2.out, C2.out⟩
theorem sWaiting_of (h : IsSh w s r l v) (k : RT.IsRing w r rs n nx fi Pb V) (hle : fi ≤ nx) (hx : nx ≤ 1000000) (d : Nat) (hd : Hid (nx - fi = d)) :
    Calls Tryz.prog 23 #[.pointer (some ⟨s, 0, none⟩)] w fun e w' => e = .returned (.int .i64 (d : Nat)) ∧ RT.IsRing w' r rs n nx fi Pb V ∧ Ch (RT.Two r rs) w w' := by
  have hfld := fld_sh0
  have H := Lib.hid h
  have K := Lib.hid k
  clear h k
  go_enter Tryz.func23, Tryz.ntmps23
  go_wp2_with fail
  refine (shWhole_of H.out).mono ?_
  rintro e w1 ⟨rfl, c1⟩
  have C1 := Lib.hid c1
  clear c1
  go_wp2_with fail
  refine (RT.len_at r rs n nx fi Pb V _ (K.out.kept C1.out (fun e => e) (fun e => e)) hle hx).mono ?_
  rw [hd.out]
  rintro e w2 ⟨rfl, r2, c2⟩
  have C2 := Lib.hid ((C1.out.mono (fun _ _ e => e.elim)).trans c2)
  have R2 := Lib.hid r2
  clear c2 r2
  go_wp2
  go_ret
  exact ⟨rfl, R2.out, C2.out⟩
/-- the box of Pop's result -/
theorem popBox (w : World) : ∀ W, W = w.alloc (Obj.cells #[.int .u64 0, .int .i64 0, .int .u64 0, .int .u64 0, .int .u64 0] 40) → Ch Nil w W ∧ IsTk W w.heap.size 0 tk0 ∧ Blk W w.heap.size := by
  rintro W rfl
  exact ⟨(Ch.refl _ _).alloc _, IsTk.new w 40 tk0, Blk.new _ _ _⟩
set_option maxHeartbeats 2000000 in
theorem sPop_ok (h : IsSh w s r l v) (k : RT.IsRing w r rs n nx fi Pb V) (hx : fi ≤ 900000) (hP : Hid (Pb fi = true)) (hN : Hid (Pb (fi + n) = false)) (u : Tk) (hv : Hid (V fi = u)) :
    Calls Tryz.prog 14 #[.pointer (some ⟨s, 0, none⟩)] w fun e w' => e = .returned (.tuple #[tkA u, .int .i64 0]) ∧ RT.IsRing w' r rs n nx (fi + 1) Pb V ∧ Ch (RT.Two r rs) w w' := by
  have hfld := fld_sh0
  obtain ⟨cA, r0, k0⟩ := popBox w _ rfl
  have H := Lib.hid (h.kept cA (fun e => e))
  have K := Lib.hid (k.kept cA (fun e => e) (fun e => e))
  have hBr : w.heap.size ≠ r := by have := k.lt; omega
  have hBs : w.heap.size ≠ rs := by have := k.lt2; omega
  have CA := Lib.hid cA
  clear cA h k
  go_enter Tryz.func14, Tryz.ntmps14
  go_upto_region 1 with (fail)
  generalize w.alloc (Obj.cells #[.int .u64 0, .int .i64 0, .int .u64 0, .int .u64 0, .int .u64 0] 40) = W at CA r0 k0 H K ⊢
  obtain ⟨B, hB⟩ : ∃ B, B = w.heap.size := ⟨_, rfl⟩
  rw [← hB] at r0 k0 hBr hBs ⊢
  have HB := Lib.hid hB
  have R0 := Lib.hid r0
  have K0 := Lib.hid k0
  clear hB r0 k0
  go_wp2_with fail
  refine (shWhole_of H.out).mono ?_
  rintro e w1 ⟨rfl, c1⟩
  have C1 := Lib.hid c1
  clear c1
  go_wp2_with fail
  refine (RT.pop_ok r rs n nx fi Pb V _ (K.out.kept C1.out (fun e => e) (fun e => e)) hx hP hN u hv).mono ?_
  unfold tkA
  rintro e w2 ⟨rfl, k2, c2⟩
  have C2 := Lib.hid ((C1.out.mono (fun _ _ e => e.elim)).trans c2)
  have K2 := Lib.hid k2
  have nB : ¬ RT.Two r rs B := fun e => by rcases e with e | e <;> contradiction
  have r2 := R0.out.kept C2.out nB
  have b2 := K0.out.kept C2.out nB
  obtain ⟨x0, x1, x2, x3, x4⟩ := r2.cells0
  have g0 := b2.fz 0
  have g1 := b2.fz 1
  have g2 := b2.fz 2
  have g3 := b2.fz 3
  have g4 := b2.fz 4
  clear c2 k2
  go_wp2
  have hr := setTk_is (u := u) r2
  have ct := (setTk_tch w2 B 0 u).ch
  have hk := K2.out.kept ct (fun e => hBr e.symm) (fun e => hBs e.symm)
  have hc : Ch (RT.Two r rs) w (setTk w2 B 0 u) := ((CA.out.mono (fun _ _ e => e.elim)).trans C2.out).then ct (fun i hi e => by have := HB.out; have e' : i = B := e; omega)
  (try simp only [Exit.inBlock, Exit.then])
  refine bodyPost_ret (v := .tuple #[tkA u, .int .i64 0]) ?hr rfl ⟨rfl, hk, hc⟩
  case hr =>
    change (results _ _).run _ (setTk w2 B 0 u) = .ok _ (setTk w2 B 0 u)
    generalize setTk w2 B 0 u = W5 at hr ⊢
    obtain ⟨c0, c1, c2, c3, c4⟩ := hr.cells0
    simp [results, Tryz.results14, go_sem, c0, c1, c2, c3, c4]
set_option maxHeartbeats 2000000 in
theorem sPop_none (h : IsSh w s r l v) (k : RT.IsRing w r rs n nx fi Pb V) (hx : fi ≤ 900000) (hP : Hid (Pb fi = false)) :
    Calls Tryz.prog 14 #[.pointer (some ⟨s, 0, none⟩)] w fun e w' => e = .returned (.tuple #[tkA tk0, .int .i64 6]) ∧ RT.IsRing w' r rs n nx fi Pb V ∧ Ch (RT.Two r rs) w w' := by
  have hfld := fld_sh0
  obtain ⟨cA, r0, k0⟩ := popBox w _ rfl
  have H := Lib.hid (h.kept cA (fun e => e))
  have K := Lib.hid (k.kept cA (fun e => e) (fun e => e))
  have hBr : w.heap.size ≠ r := by have := k.lt; omega
  have hBs : w.heap.size ≠ rs := by have := k.lt2; omega
  have CA := Lib.hid cA
  clear cA h k
  go_enter Tryz.func14, Tryz.ntmps14
  go_upto_region 1 with (fail)
  generalize w.alloc (Obj.cells #[.int .u64 0, .int .i64 0, .int .u64 0, .int .u64 0, .int .u64 0] 40) = W at CA r0 k0 H K ⊢
  obtain ⟨B, hB⟩ : ∃ B, B = w.heap.size := ⟨_, rfl⟩
  rw [← hB] at r0 k0 hBr hBs ⊢
  have HB := Lib.hid hB
  have R0 := Lib.hid r0
  have K0 := Lib.hid k0
  clear hB r0 k0
  go_wp2_with fail
  refine (shWhole_of H.out).mono ?_
  rintro e w1 ⟨rfl, c1⟩
  have C1 := Lib.hid c1
  clear c1
  go_wp2_with fail
  refine (RT.pop_none r rs n nx fi Pb V _ (K.out.kept C1.out (fun e => e) (fun e => e)) (by omega) hP).mono ?_
  unfold tkA tk0
  rintro e w2 ⟨rfl, k2, c2⟩
  have C2 := Lib.hid ((C1.out.mono (fun _ _ e => e.elim)).trans c2)
  have K2 := Lib.hid k2
  have nB : ¬ RT.Two r rs B := fun e => by rcases e with e | e <;> contradiction
  have r2 := R0.out.kept C2.out nB
  have b2 := K0.out.kept C2.out nB
  obtain ⟨x0, x1, x2, x3, x4⟩ := r2.cells0
  have g0 := b2.fz 0
  have g1 := b2.fz 1
  have g2 := b2.fz 2
  have g3 := b2.fz 3
  have g4 := b2.fz 4
  clear c2 k2
  go_wp2
  have hr := setTk_is (u := tk0) r2
  have ct := (setTk_tch w2 B 0 tk0).ch
  have hk := K2.out.kept ct (fun e => hBr e.symm) (fun e => hBs e.symm)
  have hc : Ch (RT.Two r rs) w (setTk w2 B 0 tk0) := ((CA.out.mono (fun _ _ e => e.elim)).trans C2.out).then ct (fun i hi e => by have := HB.out; have e' : i = B := e; omega)
  (try simp only [Exit.inBlock, Exit.then])
  refine bodyPost_ret (v := .tuple #[tkA tk0, .int .i64 6]) ?hr rfl ⟨rfl, hk, hc⟩
  case hr =>
    change (results _ _).run _ (setTk w2 B 0 tk0) = .ok _ (setTk w2 B 0 tk0)
    generalize setTk w2 B 0 tk0 = W5 at hr ⊢
    obtain ⟨c0, c1, c2, c3, c4⟩ := hr.cells0
    simp [results, Tryz.results14, go_sem, c0, c1, c2, c3, c4]
end
end Go.Proofs.YtnbdafmjcmmfpaaGreat

/-
  Cells stored one behind the other in a block.
-/
namespace Go.Proofs.YtnbdafmjcmmfpaaGreat
open Go.RowKit
set_option linter.unusedVariables false
/-- values stored from a place on -/
def setVs (w : World) (b : Nat) : Nat → List Value → World
  | _, [] => w
  | o, v :: vs => setVs (w.setCell ⟨b, o, none⟩ v) b (o + 1) vs
theorem setVs_tch (b : Nat) (vs : List Value) : ∀ (w : World) (o : Nat), Tch b o vs.length w (setVs w b o vs) := by
  induction vs with
  | nil => exact fun w o => Tch.refl _ _ _ _
  | cons v vs ih => exact fun w o => (((Tch.refl b o 1 w).set o (by omega) v).wide (by omega) (by simp only [List.length_cons]; omega)).trans ((ih _ _).wide (by omega) (by simp only [List.length_cons]; omega))
theorem setVs_get (b : Nat) (vs : List Value) : ∀ (w : World) (o : Nat), (∀ j, j < vs.length → ∃ x, w.cell? ⟨b, o + j, none⟩ = some x) → ∀ j v, vs[j]? = some v → (setVs w b o vs).cell? ⟨b, o + j, none⟩ = some v := by
  induction vs with
  | nil => intro w o h j v hj; simp at hj
  | cons u vs ih =>
    intro w o h j v hj
    have h' : ∀ i, i < vs.length → ∃ x, (w.setCell ⟨b, o, none⟩ u).cell? ⟨b, o + 1 + i, none⟩ = some x := fun i hi => by
      rw [cell_ne (by omega), show o + 1 + i = o + (i + 1) by omega]
      exact h (i + 1) (by simp; omega)
    cases j with
    | zero =>
      simp at hj
      subst hj
      obtain ⟨x, hx⟩ := h 0 (by simp)
      have := (setVs_tch b vs (w.setCell ⟨b, o, none⟩ u) (o + 1)).cell o (by omega)
      exact this.trans (World.cell?_setCell_same _ _ _ hx)
    | succ j =>
      have := ih (w.setCell ⟨b, o, none⟩ u) (o + 1) h' j v (by simpa using hj)
      rwa [show o + 1 + j = o + (j + 1) by omega] at this
/-- cells that lie in a block from place 0 on, none frozen -/
structure IsVs (w : World) (b : Nat) (vs : List Value) : Prop where
  c : ∀ j v, vs[j]? = some v → w.cell? ⟨b, j, none⟩ = some v
  b : Blk w b
section
variable {S : Nat → Prop} {w w' : World} {b : Nat} {vs us : List Value}
theorem IsVs.lt (h : IsVs w b vs) : b < w.heap.size := h.b.lt
theorem IsVs.kept (h : IsVs w b vs) (c : Ch S w w') (hn : ¬ S b) : IsVs w' b vs := ⟨fun j v hj => c.keeps (h.c j v hj) hn, h.b.kept c hn⟩
theorem IsVs.new (w : World) (vs : List Value) (T : TypeId) : IsVs (w.alloc (.cells vs.toArray T)) w.heap.size vs :=
  ⟨fun j v hj => by rw [cell_fresh]; simpa using hj, Blk.new _ _ _⟩
theorem Blk.setVs (vs : List Value) : ∀ (w : World) (o : Nat), Blk w b → Blk (setVs w b o vs) b := by
  induction vs with
  | nil => exact fun w o h => h
  | cons v vs ih => exact fun w o h => ih _ _ (h.set _ _)
theorem IsVs.set (h : IsVs w b us) (hl : us.length = vs.length) : IsVs (setVs w b 0 vs) b vs :=
  ⟨fun j v hj => by
    have := setVs_get b vs w 0 (fun j hj => ⟨us[j]'(by omega), by rw [Nat.zero_add]; exact h.c j _ (List.getElem?_eq_getElem (by omega))⟩) j v hj
    rwa [Nat.zero_add] at this, Blk.setVs vs w 0 h.b⟩
theorem setVs_nil (b : Nat) (vs : List Value) (h : Ch Nil w w') (hb : w.heap.size ≤ b) : Ch Nil w (setVs w' b 0 vs) :=
  h.then (setVs_tch b vs w' 0).ch (fun i hi e => by have e' : i = b := e; omega)
end
end Go.Proofs.YtnbdafmjcmmfpaaGreat

/-
  Contracts of package cell's functions at integers: what each answers, and what becomes of the cell; nothing else turns.
-/
namespace Go.Proofs.YtnbdafmjcmmfpaaGreat
open Go.RowKit
attribute [local go_sem] Oper.semAt_some
set_option linter.unusedVariables false

theorem results_tmp3 {fn : Func} {t u v : Tmp} (h : fn.results = #[.tmp t, .tmp u, .tmp v]) (tmps : Array Value) (P : Program) (w : World) :
    (results fn tmps).run P w = .ok (.tuple #[tmps.getD t undef, tmps.getD u undef, tmps.getD v undef]) w := by
  simp [results, h]

theorem catch_idle (w : World) :
    CallsD Tryz.prog 164 #[] .returning w fun e u' w' => e = .returned (.tuple #[]) ∧ u' = .returning ∧ w = w' := by
  refine callsD_of_wpS Tryz.func164 rfl fun c₀ cs hu => ?_
  apply wpS_region
  cases c₀
  simp_all [wpOpsS, go_sem, recoverD, Tryz.ntmps164, bodyPostS, results, Tryz.results164]

theorem same_any (a b : Int) (w : World) :
    Calls Tryz.prog 158 #[.int .i64 a, .int .i64 b] w fun e w' => e = .returned (.bool (a == b)) ∧ w = w' := by
  have hmf : ∀ (fn : Fn) (first cap : Array Value) (w : World), (Instr.makeFunc fn first cap).run Tryz.prog w = .ok (.func fn first cap) w := fun _ _ _ _ => rfl
  go_enter_defers Tryz.func158, Tryz.ntmps158
  go_wp2
  refine leaves_cons (f := 164) (args := #[]) (by simp) (by simp [go_sem]) ?_
  refine (catch_idle _).mono ?_
  rintro e u' w'' ⟨rfl, rfl, rfl⟩
  simp [Leaves, settle, results, Tryz.results158, go_sem]

theorem change_no (b o : Nat) (v x : Value) (l t u : Int) (w : World) (h : IsC w b o v l t u) :
    Calls Tryz.prog 114 #[.pointer (some ⟨b, o, none⟩), x, .bool false] w fun e w' => e = .returned (.bool false) ∧ w.setCell ⟨b, o + 2, none⟩ (.int .i64 (wrap64 (t + 1))) = w' := by
  obtain ⟨hv, hl, ht, hu, fv, fl, ft, fu⟩ := h
  go_enter Tryz.func114, Tryz.ntmps114
  go_wp2
  go_ret
  exact ⟨rfl, rfl⟩

theorem change_yes (b o : Nat) (v : Value) (x l t u : Int) (w : World) (h : IsC w b o v l t u) :
    Calls Tryz.prog 114 #[.pointer (some ⟨b, o, none⟩), .int .i64 x, .bool true] w fun e w' => e = .returned (.bool true) ∧
      ((w.setCell ⟨b, o + 2, none⟩ (.int .i64 (wrap64 (t + 1)))).setCell ⟨b, o, none⟩ (.int .i64 x)).setCell ⟨b, o + 3, none⟩ (.int .i64 (wrap64 (u + 1))) = w' := by
  obtain ⟨hv, hl, ht, hu, fv, fl, ft, fu⟩ := h
  go_enter Tryz.func114, Tryz.ntmps114
  go_wp2
  go_ret
  exact ⟨rfl, rfl⟩

theorem swap_no (b o : Nat) (v old x l t u : Int) (w : World) (h : IsC w b o (.int .i64 v) l t u) (hne : (v == old) = false) :
    Calls Tryz.prog 147 #[.pointer (some ⟨b, o, none⟩), .int .i64 old, .int .i64 x] w fun e w' => e = .returned (.bool false) ∧ w.setCell ⟨b, o + 2, none⟩ (.int .i64 (wrap64 (t + 1))) = w' := by
  have H := Lib.hid h
  have hv := h.v
  clear h
  go_enter Tryz.func147, Tryz.ntmps147
  go_wp2_with fail
  refine (same_any _ _ _).mono ?_
  rintro e w1 ⟨rfl, rfl⟩
  rw [hne]
  go_wp2_with fail
  refine (change_no b o _ _ l t u _ H.out).mono ?_
  rintro e w1 ⟨rfl, rfl⟩
  go_wp2
  go_ret
  exact ⟨rfl, rfl⟩

theorem swap_yes (b o : Nat) (v x l t u : Int) (w : World) (h : IsC w b o (.int .i64 v) l t u) :
    Calls Tryz.prog 147 #[.pointer (some ⟨b, o, none⟩), .int .i64 v, .int .i64 x] w fun e w' => e = .returned (.bool true) ∧
      ((w.setCell ⟨b, o + 2, none⟩ (.int .i64 (wrap64 (t + 1)))).setCell ⟨b, o, none⟩ (.int .i64 x)).setCell ⟨b, o + 3, none⟩ (.int .i64 (wrap64 (u + 1))) = w' := by
  have H := Lib.hid h
  have hv := h.v
  clear h
  go_enter Tryz.func147, Tryz.ntmps147
  go_wp2_with fail
  refine (same_any _ _ _).mono ?_
  rintro e w1 ⟨rfl, rfl⟩
  rw [beq_self_eq_true]
  go_wp2_with fail
  refine (change_yes b o _ _ l t u _ H.out).mono ?_
  rintro e w1 ⟨rfl, rfl⟩
  go_wp2
  go_ret
  exact ⟨rfl, rfl⟩

theorem load_at (b o : Nat) (v l t u : Int) (w : World) (h : IsC w b o (.int .i64 v) l t u) :
    Calls Tryz.prog 48 #[.pointer (some ⟨b, o, none⟩)] w fun e w' => e = .returned (.int .i64 v) ∧ w.setCell ⟨b, o + 1, none⟩ (.int .i64 (wrap64 (l + 1))) = w' := by
  obtain ⟨hv, hl, ht, hu, fv, fl, ft, fu⟩ := h
  go_enter Tryz.func48, Tryz.ntmps48
  go_wp2
  go_ret
  exact ⟨rfl, rfl⟩

theorem of_any (v : Int) (w : World) :
    Calls Tryz.prog 33 #[.int .i64 v] w fun e w' => e = .returned (.pointer (some ⟨w.heap.size, 0, none⟩)) ∧ w.alloc (.cells #[.int .i64 v, .int .i64 0, .int .i64 0, .int .i64 0] 115) = w' := by
  go_enter Tryz.func33, Tryz.ntmps33
  go_wp2
  go_ret
  exact ⟨rfl, rfl⟩
end Go.Proofs.YtnbdafmjcmmfpaaGreat

/-
  A floor's own cells, as values and in memory; what a floor's methods see of it (whole), and its config.
-/
namespace Verge
/-- a config's six numbers -/
structure Cf where
  s : Int
  c : Int
  r : Int
  m : Int
  k : Int
  l : Int
  deriving DecidableEq
/-- where a floor and its parts lie: slab, row of shards (how many, its room), pipe, log, cells -/
structure Fb where
  c : Cf
  f : Nat
  sb : Nat
  g : Nat
  n : Nat
  gc : Nat
  pb : Nat
  lb : Nat
  cl : Nat
  ins : Nat
  bz : Nat
  nw : Nat
  srb : Nat
  cb : Nat
  sh : Nat → Nat
  lk : Nat → Nat
end Verge
namespace Go.Proofs.YtnbdafmjcmmfpaaGreat
open Go.RowKit Verge
attribute [local go_sem] Oper.semAt_some
set_option linter.unusedVariables false
set_option linter.unusedSimpArgs false

def cfV (c : Cf) : List Value := [.int .i64 c.s, .int .i64 c.c, .int .i64 c.r, .int .i64 c.m, .int .i64 c.k, .int .i64 c.l]
def flV (F : Fb) (tr : Option Addr) (tl tc : Nat) : List Value := [.int .i64 F.c.s, .int .i64 F.c.c, .int .i64 F.c.r, .int .i64 F.c.m, .int .i64 F.c.k, .int .i64 F.c.l, .pointer (some ⟨F.sb, 0, none⟩), .slice (some ⟨F.g, 0, none⟩) F.n F.gc, .pointer (some ⟨F.pb, 0, none⟩), .pointer (some ⟨F.lb, 0, none⟩), .pointer (some ⟨F.cl, 0, none⟩), .pointer (some ⟨F.ins, 0, none⟩), .pointer (some ⟨F.bz, 0, none⟩), .pointer (some ⟨F.nw, 0, none⟩), .slice tr tl tc]
/-- a floor's cells -/
abbrev IsF (w : World) (F : Fb) (tr : Option Addr) (tl tc : Nat) : Prop := IsVs w F.f (flV F tr tl tc)
section
variable {S : Nat → Prop} {w w' : World} {F : Fb} {tr : Option Addr} {tl tc : Nat}
theorem IsVs.cells15 {b : Nat} {v0 v1 v2 v3 v4 v5 v6 v7 v8 v9 v10 v11 v12 v13 v14 : Value} (h : IsVs w b [v0, v1, v2, v3, v4, v5, v6, v7, v8, v9, v10, v11, v12, v13, v14]) :
    w.cell? ⟨b, 0, none⟩ = some v0 ∧ w.cell? ⟨b, 1, none⟩ = some v1 ∧ w.cell? ⟨b, 2, none⟩ = some v2 ∧ w.cell? ⟨b, 3, none⟩ = some v3 ∧ w.cell? ⟨b, 4, none⟩ = some v4 ∧ w.cell? ⟨b, 5, none⟩ = some v5 ∧ w.cell? ⟨b, 6, none⟩ = some v6 ∧ w.cell? ⟨b, 7, none⟩ = some v7 ∧ w.cell? ⟨b, 8, none⟩ = some v8 ∧ w.cell? ⟨b, 9, none⟩ = some v9 ∧ w.cell? ⟨b, 10, none⟩ = some v10 ∧ w.cell? ⟨b, 11, none⟩ = some v11 ∧ w.cell? ⟨b, 12, none⟩ = some v12 ∧ w.cell? ⟨b, 13, none⟩ = some v13 ∧ w.cell? ⟨b, 14, none⟩ = some v14 :=
  ⟨h.c 0 _ rfl, h.c 1 _ rfl, h.c 2 _ rfl, h.c 3 _ rfl, h.c 4 _ rfl, h.c 5 _ rfl, h.c 6 _ rfl, h.c 7 _ rfl, h.c 8 _ rfl, h.c 9 _ rfl, h.c 10 _ rfl, h.c 11 _ rfl, h.c 12 _ rfl, h.c 13 _ rfl, h.c 14 _ rfl⟩
theorem IsVs.cells6 {b : Nat} {v0 v1 v2 v3 v4 v5 : Value} (h : IsVs w b [v0, v1, v2, v3, v4, v5]) :
    w.cell? ⟨b, 0, none⟩ = some v0 ∧ w.cell? ⟨b, 1, none⟩ = some v1 ∧ w.cell? ⟨b, 2, none⟩ = some v2 ∧ w.cell? ⟨b, 3, none⟩ = some v3 ∧ w.cell? ⟨b, 4, none⟩ = some v4 ∧ w.cell? ⟨b, 5, none⟩ = some v5 :=
  ⟨h.c 0 _ rfl, h.c 1 _ rfl, h.c 2 _ rfl, h.c 3 _ rfl, h.c 4 _ rfl, h.c 5 _ rfl⟩
theorem fld0 (v0 v1 v2 v3 v4 v5 v6 v7 v8 v9 v10 v11 v12 v13 v14 : Value) (w : World) : (Instr.field 87 (.agg #[v0, v1, v2, v3, v4, v5, v6, v7, v8, v9, v10, v11, v12, v13, v14]) 0).run Tryz.prog w = .ok (.agg #[v0, v1, v2, v3, v4, v5]) w := by kernel_rfl
theorem fld1 (v0 v1 v2 v3 v4 v5 v6 v7 v8 v9 v10 v11 v12 v13 v14 : Value) (w : World) : (Instr.field 87 (.agg #[v0, v1, v2, v3, v4, v5, v6, v7, v8, v9, v10, v11, v12, v13, v14]) 1).run Tryz.prog w = .ok v6 w := by kernel_rfl
theorem fld2 (v0 v1 v2 v3 v4 v5 v6 v7 v8 v9 v10 v11 v12 v13 v14 : Value) (w : World) : (Instr.field 87 (.agg #[v0, v1, v2, v3, v4, v5, v6, v7, v8, v9, v10, v11, v12, v13, v14]) 2).run Tryz.prog w = .ok v7 w := by kernel_rfl
theorem fld3 (v0 v1 v2 v3 v4 v5 v6 v7 v8 v9 v10 v11 v12 v13 v14 : Value) (w : World) : (Instr.field 87 (.agg #[v0, v1, v2, v3, v4, v5, v6, v7, v8, v9, v10, v11, v12, v13, v14]) 3).run Tryz.prog w = .ok v8 w := by kernel_rfl
theorem fld4 (v0 v1 v2 v3 v4 v5 v6 v7 v8 v9 v10 v11 v12 v13 v14 : Value) (w : World) : (Instr.field 87 (.agg #[v0, v1, v2, v3, v4, v5, v6, v7, v8, v9, v10, v11, v12, v13, v14]) 4).run Tryz.prog w = .ok v9 w := by kernel_rfl
theorem fld5 (v0 v1 v2 v3 v4 v5 v6 v7 v8 v9 v10 v11 v12 v13 v14 : Value) (w : World) : (Instr.field 87 (.agg #[v0, v1, v2, v3, v4, v5, v6, v7, v8, v9, v10, v11, v12, v13, v14]) 5).run Tryz.prog w = .ok v10 w := by kernel_rfl
theorem fld6 (v0 v1 v2 v3 v4 v5 v6 v7 v8 v9 v10 v11 v12 v13 v14 : Value) (w : World) : (Instr.field 87 (.agg #[v0, v1, v2, v3, v4, v5, v6, v7, v8, v9, v10, v11, v12, v13, v14]) 6).run Tryz.prog w = .ok v11 w := by kernel_rfl
theorem fld7 (v0 v1 v2 v3 v4 v5 v6 v7 v8 v9 v10 v11 v12 v13 v14 : Value) (w : World) : (Instr.field 87 (.agg #[v0, v1, v2, v3, v4, v5, v6, v7, v8, v9, v10, v11, v12, v13, v14]) 7).run Tryz.prog w = .ok v12 w := by kernel_rfl
theorem fld8 (v0 v1 v2 v3 v4 v5 v6 v7 v8 v9 v10 v11 v12 v13 v14 : Value) (w : World) : (Instr.field 87 (.agg #[v0, v1, v2, v3, v4, v5, v6, v7, v8, v9, v10, v11, v12, v13, v14]) 8).run Tryz.prog w = .ok v13 w := by kernel_rfl
theorem fld9 (v0 v1 v2 v3 v4 v5 v6 v7 v8 v9 v10 v11 v12 v13 v14 : Value) (w : World) : (Instr.field 87 (.agg #[v0, v1, v2, v3, v4, v5, v6, v7, v8, v9, v10, v11, v12, v13, v14]) 9).run Tryz.prog w = .ok v14 w := by kernel_rfl
theorem cfld0 (v0 v1 v2 v3 v4 v5 : Value) (w : World) : (Instr.field 30 (.agg #[v0, v1, v2, v3, v4, v5]) 0).run Tryz.prog w = .ok v0 w := by kernel_rfl
theorem IsVs.cells10 {b : Nat} {v0 v1 v2 v3 v4 v5 v6 v7 v8 v9 : Value} (h : IsVs w b [v0, v1, v2, v3, v4, v5, v6, v7, v8, v9]) :
    w.cell? ⟨b, 0, none⟩ = some v0 ∧ w.cell? ⟨b, 1, none⟩ = some v1 ∧ w.cell? ⟨b, 2, none⟩ = some v2 ∧ w.cell? ⟨b, 3, none⟩ = some v3 ∧ w.cell? ⟨b, 4, none⟩ = some v4 ∧ w.cell? ⟨b, 5, none⟩ = some v5 ∧ w.cell? ⟨b, 6, none⟩ = some v6 ∧ w.cell? ⟨b, 7, none⟩ = some v7 ∧ w.cell? ⟨b, 8, none⟩ = some v8 ∧ w.cell? ⟨b, 9, none⟩ = some v9 :=
  ⟨h.c 0 _ rfl, h.c 1 _ rfl, h.c 2 _ rfl, h.c 3 _ rfl, h.c 4 _ rfl, h.c 5 _ rfl, h.c 6 _ rfl, h.c 7 _ rfl, h.c 8 _ rfl, h.c 9 _ rfl⟩
def flZ : List Value := [.int .i64 0, .int .i64 0, .int .i64 0, .int .i64 0, .int .i64 0, .int .i64 0, .pointer none, .slice none 0 0, .pointer none, .pointer none, .pointer none, .pointer none, .pointer none, .pointer none, .slice none 0 0]
def cfZ : List Value := [.int .i64 0, .int .i64 0, .int .i64 0, .int .i64 0, .int .i64 0, .int .i64 0]
set_option maxHeartbeats 4000000 in
set_option maxRecDepth 100000 in
theorem whole_nil (w : World) :
    Calls Tryz.prog 46 #[.pointer none] w fun e w' => e = .returned (.agg #[.int .i64 0, .int .i64 0, .int .i64 0, .int .i64 0, .int .i64 0, .int .i64 0, .pointer none, .slice none 0 0, .pointer none, .pointer none, .pointer none, .pointer none, .pointer none, .pointer none, .slice none 0 0]) ∧ Ch Nil w w' := by
  have cA : Ch Nil w (w.alloc (Obj.cells #[.int .i64 0, .int .i64 0, .int .i64 0, .int .i64 0, .int .i64 0, .int .i64 0, .pointer none, .slice none 0 0, .pointer none, .pointer none, .pointer none, .pointer none, .pointer none, .pointer none, .slice none 0 0] 87)) := (Ch.refl _ _).alloc _
  have bx : IsVs (w.alloc (Obj.cells #[.int .i64 0, .int .i64 0, .int .i64 0, .int .i64 0, .int .i64 0, .int .i64 0, .pointer none, .slice none 0 0, .pointer none, .pointer none, .pointer none, .pointer none, .pointer none, .pointer none, .slice none 0 0] 87)) w.heap.size flZ := IsVs.new w flZ 87
  have CA := Lib.hid cA
  clear cA
  go_enter Tryz.func46, Tryz.ntmps46
  go_upto_region 1 with (fail)
  generalize w.alloc (Obj.cells #[.int .i64 0, .int .i64 0, .int .i64 0, .int .i64 0, .int .i64 0, .int .i64 0, .pointer none, .slice none 0 0, .pointer none, .pointer none, .pointer none, .pointer none, .pointer none, .pointer none, .slice none 0 0] 87) = W at CA bx ⊢
  obtain ⟨B, hB⟩ : ∃ B, B = w.heap.size := ⟨_, rfl⟩
  rw [← hB] at bx ⊢
  have HB := Lib.hid hB
  clear hB
  have BX := Lib.hid bx
  obtain ⟨c0, c1, c2, c3, c4, c5, c6, c7, c8, c9, c10, c11, c12, c13, c14⟩ := bx.cells15
  have f0 := bx.b.fz 0
  have f1 := bx.b.fz 1
  have f2 := bx.b.fz 2
  have f3 := bx.b.fz 3
  have f4 := bx.b.fz 4
  have f5 := bx.b.fz 5
  have f6 := bx.b.fz 6
  have f7 := bx.b.fz 7
  have f8 := bx.b.fz 8
  have f9 := bx.b.fz 9
  have f10 := bx.b.fz 10
  have f11 := bx.b.fz 11
  have f12 := bx.b.fz 12
  have f13 := bx.b.fz 13
  have f14 := bx.b.fz 14
  clear bx
  go_wp2
  have hr : IsVs (setVs W B 0 flZ) B flZ := BX.out.set rfl
  have hc : Ch Nil w (setVs W B 0 flZ) := setVs_nil B _ CA.out (Nat.le_of_eq HB.out.symm)
  (try simp only [Exit.inBlock, Exit.then])
  refine bodyPost_ret (v := .agg #[.int .i64 0, .int .i64 0, .int .i64 0, .int .i64 0, .int .i64 0, .int .i64 0, .pointer none, .slice none 0 0, .pointer none, .pointer none, .pointer none, .pointer none, .pointer none, .pointer none, .slice none 0 0]) ?hr rfl ⟨rfl, hc⟩
  case hr =>
    change (results _ _).run _ (setVs W B 0 flZ) = .ok _ (setVs W B 0 flZ)
    generalize setVs W B 0 flZ = W5 at hr ⊢
    obtain ⟨d0, d1, d2, d3, d4, d5, d6, d7, d8, d9, d10, d11, d12, d13, d14⟩ := hr.cells15
    simp [results, Tryz.results46, go_sem, d0, d1, d2, d3, d4, d5, d6, d7, d8, d9, d10, d11, d12, d13, d14]
set_option maxHeartbeats 4000000 in
set_option maxRecDepth 100000 in
theorem whole_of (h : IsF w F tr tl tc) :
    Calls Tryz.prog 46 #[.pointer (some ⟨F.f, 0, none⟩)] w fun e w' => e = .returned (.agg #[.int .i64 F.c.s, .int .i64 F.c.c, .int .i64 F.c.r, .int .i64 F.c.m, .int .i64 F.c.k, .int .i64 F.c.l, .pointer (some ⟨F.sb, 0, none⟩), .slice (some ⟨F.g, 0, none⟩) F.n F.gc, .pointer (some ⟨F.pb, 0, none⟩), .pointer (some ⟨F.lb, 0, none⟩), .pointer (some ⟨F.cl, 0, none⟩), .pointer (some ⟨F.ins, 0, none⟩), .pointer (some ⟨F.bz, 0, none⟩), .pointer (some ⟨F.nw, 0, none⟩), .slice tr tl tc]) ∧ Ch Nil w w' := by
  have cA : Ch Nil w (w.alloc (Obj.cells #[.int .i64 0, .int .i64 0, .int .i64 0, .int .i64 0, .int .i64 0, .int .i64 0, .pointer none, .slice none 0 0, .pointer none, .pointer none, .pointer none, .pointer none, .pointer none, .pointer none, .slice none 0 0] 87)) := (Ch.refl _ _).alloc _
  have bx : IsVs (w.alloc (Obj.cells #[.int .i64 0, .int .i64 0, .int .i64 0, .int .i64 0, .int .i64 0, .int .i64 0, .pointer none, .slice none 0 0, .pointer none, .pointer none, .pointer none, .pointer none, .pointer none, .pointer none, .slice none 0 0] 87)) w.heap.size flZ := IsVs.new w flZ 87
  have h1 := h.kept cA (fun e => e)
  clear h
  have CA := Lib.hid cA
  clear cA
  go_enter Tryz.func46, Tryz.ntmps46
  go_upto_region 1 with (fail)
  generalize w.alloc (Obj.cells #[.int .i64 0, .int .i64 0, .int .i64 0, .int .i64 0, .int .i64 0, .int .i64 0, .pointer none, .slice none 0 0, .pointer none, .pointer none, .pointer none, .pointer none, .pointer none, .pointer none, .slice none 0 0] 87) = W at CA bx h1 ⊢
  obtain ⟨B, hB⟩ : ∃ B, B = w.heap.size := ⟨_, rfl⟩
  rw [← hB] at bx ⊢
  have HB := Lib.hid hB
  clear hB
  have BX := Lib.hid bx
  obtain ⟨c0, c1, c2, c3, c4, c5, c6, c7, c8, c9, c10, c11, c12, c13, c14⟩ := bx.cells15
  obtain ⟨g0, g1, g2, g3, g4, g5, g6, g7, g8, g9, g10, g11, g12, g13, g14⟩ := h1.cells15
  clear h1
  have f0 := bx.b.fz 0
  have f1 := bx.b.fz 1
  have f2 := bx.b.fz 2
  have f3 := bx.b.fz 3
  have f4 := bx.b.fz 4
  have f5 := bx.b.fz 5
  have f6 := bx.b.fz 6
  have f7 := bx.b.fz 7
  have f8 := bx.b.fz 8
  have f9 := bx.b.fz 9
  have f10 := bx.b.fz 10
  have f11 := bx.b.fz 11
  have f12 := bx.b.fz 12
  have f13 := bx.b.fz 13
  have f14 := bx.b.fz 14
  clear bx
  go_wp2
  have hr : IsVs (setVs W B 0 (flV F tr tl tc)) B (flV F tr tl tc) := BX.out.set rfl
  have hc : Ch Nil w (setVs W B 0 (flV F tr tl tc)) := setVs_nil B _ CA.out (Nat.le_of_eq HB.out.symm)
  (try simp only [Exit.inBlock, Exit.then])
  refine bodyPost_ret (v := .agg #[.int .i64 F.c.s, .int .i64 F.c.c, .int .i64 F.c.r, .int .i64 F.c.m, .int .i64 F.c.k, .int .i64 F.c.l, .pointer (some ⟨F.sb, 0, none⟩), .slice (some ⟨F.g, 0, none⟩) F.n F.gc, .pointer (some ⟨F.pb, 0, none⟩), .pointer (some ⟨F.lb, 0, none⟩), .pointer (some ⟨F.cl, 0, none⟩), .pointer (some ⟨F.ins, 0, none⟩), .pointer (some ⟨F.bz, 0, none⟩), .pointer (some ⟨F.nw, 0, none⟩), .slice tr tl tc]) ?hr rfl ⟨rfl, hc⟩
  case hr =>
    change (results _ _).run _ (setVs W B 0 (flV F tr tl tc)) = .ok _ (setVs W B 0 (flV F tr tl tc))
    generalize setVs W B 0 (flV F tr tl tc) = W5 at hr ⊢
    obtain ⟨d0, d1, d2, d3, d4, d5, d6, d7, d8, d9, d10, d11, d12, d13, d14⟩ := hr.cells15
    simp [results, Tryz.results46, go_sem, d0, d1, d2, d3, d4, d5, d6, d7, d8, d9, d10, d11, d12, d13, d14]
end
end Go.Proofs.YtnbdafmjcmmfpaaGreat

/-
  Contracts of package floor's Check and of the document's: a config may be just if each of its six numbers is from 1 to its limit.
-/
namespace Verge
/-- a config's i-th number, its limit -/
def numC (c : Cf) : Nat → Int | 0 => c.s | 1 => c.c | 2 => c.r | 3 => c.m | 4 => c.k | _ => c.l
def limC : Nat → Int | 0 => 4 | 1 => 64 | 2 => 64 | 3 => 16 | 4 => 4 | _ => 8
def cfOk (c : Cf) : Prop := ∀ i, i < 6 → 1 ≤ numC c i ∧ numC c i ≤ limC i
instance (c : Cf) : Decidable (cfOk c) := inferInstanceAs (Decidable (∀ i, i < 6 → _))
theorem lt6 {j : Nat} (h : j < 6) : j = 0 ∨ j = 1 ∨ j = 2 ∨ j = 3 ∨ j = 4 ∨ j = 5 := by omega
theorem limC_le (i : Nat) : 4 ≤ limC i ∧ limC i ≤ 64 := by
  unfold limC; split <;> omega
end Verge
namespace Go.Proofs.YtnbdafmjcmmfpaaGreat
open Go.RowKit Verge
attribute [local go_sem] Oper.semAt_some
set_option linter.unusedVariables false
set_option linter.unusedSimpArgs false

/-- the pairs of a number and its limit -/
structure IsPr (w : World) (b : Nat) (c : Cf) : Prop where
  n : ∀ i, i < 6 → w.cell? ⟨b, i * 2, none⟩ = some (.int .i64 (numC c i))
  l : ∀ i, i < 6 → w.cell? ⟨b, i * 2 + 1, none⟩ = some (.int .i64 (limC i))
theorem IsPr.of {w : World} {b : Nat} {c : Cf} (h : IsVs w b [.int .i64 c.s, .int .i64 4, .int .i64 c.c, .int .i64 64, .int .i64 c.r, .int .i64 64, .int .i64 c.m, .int .i64 16, .int .i64 c.k, .int .i64 4, .int .i64 c.l, .int .i64 8]) : IsPr w b c := by
  refine ⟨fun i hi => ?_, fun i hi => ?_⟩ <;> rcases lt6 hi with rfl | rfl | rfl | rfl | rfl | rfl
  · exact h.c 0 _ rfl
  · exact h.c 2 _ rfl
  · exact h.c 4 _ rfl
  · exact h.c 6 _ rfl
  · exact h.c 8 _ rfl
  · exact h.c 10 _ rfl
  · exact h.c 1 _ rfl
  · exact h.c 3 _ rfl
  · exact h.c 5 _ rfl
  · exact h.c 7 _ rfl
  · exact h.c 9 _ rfl
  · exact h.c 11 _ rfl
theorem IsPr.kept {S : Nat → Prop} {w w' : World} {b : Nat} {c : Cf} (h : IsPr w b c) (k : Ch S w w') (hn : ¬ S b) : IsPr w' b c :=
  ⟨fun i hi => k.keeps (h.n i hi) hn, fun i hi => k.keeps (h.l i hi) hn⟩
set_option maxHeartbeats 4000000 in
set_option maxRecDepth 100000 in
theorem check_of (c : Cf) (r : Int) (hr : Hid (r = if cfOk c then 0 else 8)) (w : World) :
    Calls Tryz.prog 30 #[.agg #[.int .i64 c.s, .int .i64 c.c, .int .i64 c.r, .int .i64 c.m, .int .i64 c.k, .int .i64 c.l]] w fun e w' => e = .returned (.int .i64 r) ∧ Ch Nil w w' := by
  have cA : Ch Nil w (w.alloc (Obj.cells #[.int .i64 c.s, .int .i64 c.c, .int .i64 c.r, .int .i64 c.m, .int .i64 c.k, .int .i64 c.l] 30)) := (Ch.refl _ _).alloc _
  have bx : IsVs (w.alloc (Obj.cells #[.int .i64 c.s, .int .i64 c.c, .int .i64 c.r, .int .i64 c.m, .int .i64 c.k, .int .i64 c.l] 30)) w.heap.size (cfV c) := IsVs.new w (cfV c) 30
  have CA := Lib.hid cA
  clear cA
  go_enter Tryz.func30, Tryz.ntmps30
  go_upto_region 1 with (fail)
  generalize w.alloc (Obj.cells #[.int .i64 c.s, .int .i64 c.c, .int .i64 c.r, .int .i64 c.m, .int .i64 c.k, .int .i64 c.l] 30) = W at CA bx ⊢
  obtain ⟨B, hB⟩ : ∃ B, B = w.heap.size := ⟨_, rfl⟩
  rw [← hB] at bx ⊢
  have HB := Lib.hid hB
  clear hB
  obtain ⟨c0, c1, c2, c3, c4, c5⟩ := bx.cells6
  clear bx
  go_wp2
  clear c0 c1 c2 c3 c4 c5
  have pr : IsPr (W.alloc (Obj.cells #[.int .i64 c.s, .int .i64 4, .int .i64 c.c, .int .i64 64, .int .i64 c.r, .int .i64 64, .int .i64 c.m, .int .i64 16, .int .i64 c.k, .int .i64 4, .int .i64 c.l, .int .i64 8] 128)) W.heap.size c := IsPr.of (IsVs.new W [.int .i64 c.s, .int .i64 4, .int .i64 c.c, .int .i64 64, .int .i64 c.r, .int .i64 64, .int .i64 c.m, .int .i64 16, .int .i64 c.k, .int .i64 4, .int .i64 c.l, .int .i64 8] _)
  have c1 := CA.out.alloc (Obj.cells #[.int .i64 c.s, .int .i64 4, .int .i64 c.c, .int .i64 64, .int .i64 c.r, .int .i64 64, .int .i64 c.m, .int .i64 16, .int .i64 c.k, .int .i64 4, .int .i64 c.l, .int .i64 8] 128)
  generalize W.alloc (Obj.cells #[.int .i64 c.s, .int .i64 4, .int .i64 c.c, .int .i64 64, .int .i64 c.r, .int .i64 64, .int .i64 c.m, .int .i64 16, .int .i64 c.k, .int .i64 4, .int .i64 c.l, .int .i64 8] 128) = W1 at pr c1 ⊢
  generalize W.heap.size = D at pr ⊢
  have C1 := Lib.hid c1
  have PR := Lib.hid pr
  clear c1 pr
  go_loopw [25] (fun i wr => ∃ k : Nat, k ≤ 6 ∧ i = .int .i64 k ∧ (∀ j, j < k → 1 ≤ numC c j ∧ numC c j ≤ limC j) ∧ IsPr wr D c ∧ Ch Nil w wr) (fun i _ => 6 - (intOf i).toNat)
  case atStart => exact ⟨0, by omega, rfl, fun j hj => by omega, PR.out, C1.out⟩
  case round =>
    obtain ⟨k, hk, rfl, hT, hp, hc⟩ := hrel
    have HT := Lib.hid hT
    have HP := Lib.hid hp
    have HC := Lib.hid hc
    clear hT hc
    by_cases hlt : k < 6
    · have hkz : (k : Int) < 6 := by omega
      have hkz0 : (0 : Int) ≤ (k : Int) := by omega
      have p0 := hp.n k hlt
      have p1 := hp.l k hlt
      obtain ⟨x, hx⟩ : ∃ x, x = numC c k := ⟨_, rfl⟩
      obtain ⟨y, hy⟩ : ∃ y, y = limC k := ⟨_, rfl⟩
      rw [← hx] at p0
      rw [← hy] at p1
      have HX := Lib.hid hx
      have HY := Lib.hid hy
      clear hp hx hy
      by_cases h1 : x < 1
      · have d1 : decide (x < 1) = true := decide_eq_true h1
        have E : r = 8 := by
          rw [hr.out, if_neg]
          intro h
          have := h k hlt
          rw [← HX.out] at this; omega
        have HE := Lib.hid E
        clear E h1
        go_wp2
        go_ret
        exact ⟨by rw [HE.out]; first | done | rfl, HC.out.alloc _⟩
      · by_cases h2 : y < x
        · have d1 : decide (x < 1) = false := decide_eq_false h1
          have d2 : decide (y < x) = true := decide_eq_true h2
          have E : r = 8 := by
            rw [hr.out, if_neg]
            intro h
            have := h k hlt
            rw [← HX.out, ← HY.out] at this; omega
          have HE := Lib.hid E
          clear E h1 h2
          go_wp2
          go_ret
          exact ⟨by rw [HE.out]; first | done | rfl, HC.out.alloc _⟩
        · have d1 : decide (x < 1) = false := decide_eq_false h1
          have d2 : decide (y < x) = false := decide_eq_false h2
          have NX : Hid (1 ≤ x ∧ x ≤ y) := Lib.hid (by omega)
          clear h1 h2
          go_wp2
          go_roundw
          case rel =>
            refine ⟨k + 1, by omega, by go_num, fun j hj => ?_, HP.out.kept (S := Nil) ((Ch.refl _ _).alloc _) (fun e => e), HC.out.alloc _⟩
            by_cases e : j = k
            · subst e; rw [← HX.out, ← HY.out]; exact NX.out
            · exact HT.out j (by omega)
          case measure => simp [intOf]; omega
    · obtain rfl : k = 6 := by omega
      have E : r = 0 := by rw [hr.out, if_pos]; exact HT.out
      have HE := Lib.hid E
      clear E hp
      go_wp2
      go_ret
      exact ⟨by rw [HE.out]; first | done | rfl, HC.out⟩
/-- the document's -/
structure IsPr2 (w : World) (b : Nat) (c : Cf) : Prop where
  n : ∀ i, i < 6 → w.cell? ⟨b, 2 * i, none⟩ = some (.int .i64 (numC c i))
  l : ∀ i, i < 6 → w.cell? ⟨b, 2 * i + 1, none⟩ = some (.int .i64 (limC i))
end Go.Proofs.YtnbdafmjcmmfpaaGreat

/-
  What a lock is in memory: whose it is, whether it is somebody's, how often it became somebody's, in a cell of layer 3.
-/
namespace Go.Proofs.YtnbdafmjcmmfpaaGreat
open Go.RowKit
set_option linter.unusedVariables false

/-- a lock's value -/
abbrev hv (o : Int) (t : Bool) (n : Int) : Value := .agg #[.int .i64 o, .bool t, .int .i64 n]
/-- a box of such a value -/
structure IsHb (w : World) (b : Nat) (o : Int) (t : Bool) (n : Int) : Prop where
  o : w.cell? ⟨b, 0, none⟩ = some (.int .i64 o)
  t : w.cell? ⟨b, 1, none⟩ = some (.bool t)
  n : w.cell? ⟨b, 2, none⟩ = some (.int .i64 n)
  f : ∀ i, w.frozen? ⟨b, i, none⟩ = false
/-- a lock -/
structure IsK0 (w : World) (b : Nat) (o : Int) (t : Bool) (n l r u : Int) : Prop where
  o : w.cell? ⟨b, 0, none⟩ = some (.int .i64 o)
  t : w.cell? ⟨b, 1, none⟩ = some (.bool t)
  n : w.cell? ⟨b, 2, none⟩ = some (.int .i64 n)
  l : w.cell? ⟨b, 3, none⟩ = some (.int .i64 l)
  r : w.cell? ⟨b, 4, none⟩ = some (.int .i64 r)
  u : w.cell? ⟨b, 5, none⟩ = some (.int .i64 u)
  f : ∀ i, w.frozen? ⟨b, i, none⟩ = false
section
variable {S : Nat → Prop} {w w' : World} {b : Nat} {o : Int} {t : Bool} {n l r u : Int}
theorem IsHb.lt (h : IsHb w b o t n) : b < w.heap.size := lt_of_cell h.o
theorem IsHb.kept (h : IsHb w b o t n) (c : Ch S w w') (hn : ¬ S b) : IsHb w' b o t n :=
  ⟨c.keeps h.o hn, c.keeps h.t hn, c.keeps h.n hn, fun i => (c.frozen (p := ⟨b, i, none⟩) h.lt hn).trans (h.f i)⟩
theorem IsK0.lt (h : IsK0 w b o t n l r u) : b < w.heap.size := lt_of_cell h.o
theorem IsK0.kept (h : IsK0 w b o t n l r u) (c : Ch S w w') (hn : ¬ S b) : IsK0 w' b o t n l r u :=
  ⟨c.keeps h.o hn, c.keeps h.t hn, c.keeps h.n hn, c.keeps h.l hn, c.keeps h.r hn, c.keeps h.u hn, fun i => (c.frozen (p := ⟨b, i, none⟩) h.lt hn).trans (h.f i)⟩
theorem IsK0.alloc (h : IsK0 w b o t n l r u) (x : Obj) : IsK0 (w.alloc x) b o t n l r u := h.kept (S := Nil) ((Ch.refl _ _).alloc _) (fun e => e)
theorem IsK0.setO (h : IsK0 w b o t n l r u) (x : Int) : IsK0 (w.setCell ⟨b, 0, none⟩ (.int .i64 x)) b x t n l r u :=
  ⟨World.cell?_setCell_same _ _ _ h.o, (cell_ne (by omega) _).trans h.t, (cell_ne (by omega) _).trans h.n, (cell_ne (by omega) _).trans h.l, (cell_ne (by omega) _).trans h.r, (cell_ne (by omega) _).trans h.u, fun i => (World.frozen?_setCell _ _ _ _).trans (h.f i)⟩
theorem IsK0.setT (h : IsK0 w b o t n l r u) (x : Bool) : IsK0 (w.setCell ⟨b, 1, none⟩ (.bool x)) b o x n l r u :=
  ⟨(cell_ne (by omega) _).trans h.o, World.cell?_setCell_same _ _ _ h.t, (cell_ne (by omega) _).trans h.n, (cell_ne (by omega) _).trans h.l, (cell_ne (by omega) _).trans h.r, (cell_ne (by omega) _).trans h.u, fun i => (World.frozen?_setCell _ _ _ _).trans (h.f i)⟩
theorem IsK0.setN (h : IsK0 w b o t n l r u) (x : Int) : IsK0 (w.setCell ⟨b, 2, none⟩ (.int .i64 x)) b o t x l r u :=
  ⟨(cell_ne (by omega) _).trans h.o, (cell_ne (by omega) _).trans h.t, World.cell?_setCell_same _ _ _ h.n, (cell_ne (by omega) _).trans h.l, (cell_ne (by omega) _).trans h.r, (cell_ne (by omega) _).trans h.u, fun i => (World.frozen?_setCell _ _ _ _).trans (h.f i)⟩
theorem IsK0.setL (h : IsK0 w b o t n l r u) (x : Int) : IsK0 (w.setCell ⟨b, 3, none⟩ (.int .i64 x)) b o t n x r u :=
  ⟨(cell_ne (by omega) _).trans h.o, (cell_ne (by omega) _).trans h.t, (cell_ne (by omega) _).trans h.n, World.cell?_setCell_same _ _ _ h.l, (cell_ne (by omega) _).trans h.r, (cell_ne (by omega) _).trans h.u, fun i => (World.frozen?_setCell _ _ _ _).trans (h.f i)⟩
theorem IsK0.setR (h : IsK0 w b o t n l r u) (x : Int) : IsK0 (w.setCell ⟨b, 4, none⟩ (.int .i64 x)) b o t n l x u :=
  ⟨(cell_ne (by omega) _).trans h.o, (cell_ne (by omega) _).trans h.t, (cell_ne (by omega) _).trans h.n, (cell_ne (by omega) _).trans h.l, World.cell?_setCell_same _ _ _ h.r, (cell_ne (by omega) _).trans h.u, fun i => (World.frozen?_setCell _ _ _ _).trans (h.f i)⟩
theorem IsK0.setU (h : IsK0 w b o t n l r u) (x : Int) : IsK0 (w.setCell ⟨b, 5, none⟩ (.int .i64 x)) b o t n l r x :=
  ⟨(cell_ne (by omega) _).trans h.o, (cell_ne (by omega) _).trans h.t, (cell_ne (by omega) _).trans h.n, (cell_ne (by omega) _).trans h.l, (cell_ne (by omega) _).trans h.r, World.cell?_setCell_same _ _ _ h.u, fun i => (World.frozen?_setCell _ _ _ _).trans (h.f i)⟩
/-- a lock, however often its cell was loaded, tried, turned -/
def IsK (w : World) (b : Nat) (o : Int) (t : Bool) (n : Int) : Prop := ∃ l r u, IsK0 w b o t n l r u
theorem IsK.lt (h : IsK w b o t n) : b < w.heap.size := by obtain ⟨l, r, u, h⟩ := h; exact h.lt
theorem IsK.kept (h : IsK w b o t n) (c : Ch S w w') (hn : ¬ S b) : IsK w' b o t n := by obtain ⟨l, r, u, h⟩ := h; exact ⟨l, r, u, h.kept c hn⟩
end
end Go.Proofs.YtnbdafmjcmmfpaaGreat
