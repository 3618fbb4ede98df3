/-
  The document's slab (vergeref09) in memory, and its small functions: New, Slot, Drop, Try.
-/
import Derived.Test.YtjhmmfdmoalfmaaSlabAlive
import Derived.Test.YtjhmmfdmoalfmaaSlabPlain3
import Derived.Test.YtjhmmfdmoalfmaaOwnRow
import Derived.Test.YtjhmmfdmoalfmaaWordWalks7
namespace Go.Proofs.Ytjhmmfdmoalfmaa
open Go.RowKit Verge
attribute [local go_sem] Oper.semAt_some
set_option linter.unusedVariables false
set_option linter.unusedSimpArgs false

structure IsRr (w : World) (lb o : Nat) (x : Rec) : Prop where
  v : w.cell? ⟨lb, o, none⟩ = some (.int .u64 (x.wd : Nat))
  g : w.cell? ⟨lb, o + 1, none⟩ = some (.int .u64 (x.gv : Nat))
  p : w.cell? ⟨lb, o + 2, none⟩ = some (.int .u64 (x.pd : Nat))
  fv : w.frozen? ⟨lb, o, none⟩ = false
  fg : w.frozen? ⟨lb, o + 1, none⟩ = false
  fp : w.frozen? ⟨lb, o + 2, none⟩ = false
theorem IsRr.kept {S : Nat → Prop} {w w' : World} {b o : Nat} {x : Rec} (h : IsRr w b o x) (c : Ch S w w') (hn : ¬ S b) : IsRr w' b o x := by
  have hl : b < w.heap.size := lt_of_cell h.v
  exact ⟨c.keeps h.v hn, c.keeps h.g hn, c.keeps h.p hn, (c.frozen (p := ⟨b, _, none⟩) hl hn).trans h.fv, (c.frozen (p := ⟨b, _, none⟩) hl hn).trans h.fg, (c.frozen (p := ⟨b, _, none⟩) hl hn).trans h.fp⟩
theorem IsRr.far {w w' : World} {b o o' k : Nat} {x : Rec} (h : IsRr w b o x) (c : Tch b o' k w w') (hn : o + 3 ≤ o' ∨ o' + k ≤ o) : IsRr w' b o x :=
  ⟨(c.cell _ (by omega)).trans h.v, (c.cell _ (by omega)).trans h.g, (c.cell _ (by omega)).trans h.p, (c.fz _).trans h.fv, (c.fz _).trans h.fg, (c.fz _).trans h.fp⟩
theorem IsRr.setV {w : World} {b o : Nat} {x : Rec} (h : IsRr w b o x) (v : Nat) : IsRr (w.setCell ⟨b, o, none⟩ (.int .u64 (v : Nat))) b o ⟨v, x.gv, x.pd⟩ :=
  ⟨World.cell?_setCell_same _ _ _ h.v, (cell_ne (by omega) _).trans h.g, (cell_ne (by omega) _).trans h.p, (World.frozen?_setCell _ _ _ _).trans h.fv, (World.frozen?_setCell _ _ _ _).trans h.fg, (World.frozen?_setCell _ _ _ _).trans h.fp⟩
theorem IsRr.setG {w : World} {b o : Nat} {x : Rec} (h : IsRr w b o x) (v : Nat) : IsRr (w.setCell ⟨b, o + 1, none⟩ (.int .u64 (v : Nat))) b o ⟨x.wd, v, x.pd⟩ :=
  ⟨(cell_ne (by omega) _).trans h.v, World.cell?_setCell_same _ _ _ h.g, (cell_ne (by omega) _).trans h.p, (World.frozen?_setCell _ _ _ _).trans h.fv, (World.frozen?_setCell _ _ _ _).trans h.fg, (World.frozen?_setCell _ _ _ _).trans h.fp⟩
theorem IsRr.setP {w : World} {b o : Nat} {x : Rec} (h : IsRr w b o x) (v : Nat) : IsRr (w.setCell ⟨b, o + 2, none⟩ (.int .u64 (v : Nat))) b o ⟨x.wd, x.gv, v⟩ :=
  ⟨(cell_ne (by omega) _).trans h.v, (cell_ne (by omega) _).trans h.g, World.cell?_setCell_same _ _ _ h.p, (World.frozen?_setCell _ _ _ _).trans h.fv, (World.frozen?_setCell _ _ _ _).trans h.fg, (World.frozen?_setCell _ _ _ _).trans h.fp⟩

/-- how far the document says that a request is -/
def atN (r : Rq) : Nat := if r.ss = 1 then 3 else if r.ss = 2 then 4 else r.st
def rqCell (r : Rq) (j : Nat) : Value := if j = 0 then .int .i64 (atN r : Nat) else if j = 1 then .int .i64 (r.seen : Nat) else if j = 2 then .int .i64 (r.slot : Nat) else if j = 3 then .int .u64 (r.id : Nat) else .int .u64 (r.pd : Nat)
def rqV (Q : Nat → Rq) (i : Nat) : Value := rqCell (Q (i / 5)) (i % 5)
/-- the document's slab -/
structure RfS (w : World) (vb lb n cnt : Nat) (R : Nat → Rec) (np : Nat) (Q : Nat → Rq) (ar : Option Addr) (cr : Nat) : Prop where
  l : w.cell? ⟨vb, 0, none⟩ = some (.slice (some ⟨lb, 0, none⟩) n n)
  c : w.cell? ⟨vb, 1, none⟩ = some (.int .i64 (cnt : Nat))
  r : w.cell? ⟨vb, 2, none⟩ = some (.slice ar np cr)
  fc : w.frozen? ⟨vb, 1, none⟩ = false
  fr : w.frozen? ⟨vb, 2, none⟩ = false
  rc : ∀ k, k < n → IsRr w lb (k * 3) (R k)
  q : Row w 41 5 ar np cr (rqV Q)
  ne : vb ≠ lb
  nv : ¬ OwnS ar vb
  nl : ¬ OwnS ar lb
  n0 : 0 < n
  n1 : n ≤ 64
def VS (vb lb : Nat) (ar : Option Addr) : Nat → Prop := fun k => k = vb ∨ k = lb ∨ OwnS ar k
section
variable {S : Nat → Prop} {w w' : World} {vb lb n cnt np : Nat} {R : Nat → Rec} {Q : Nat → Rq} {ar : Option Addr} {cr : Nat}
theorem RfS.kept (h : RfS w vb lb n cnt R np Q ar cr) (c : Ch S w w') (hn : ∀ k, VS vb lb ar k → ¬ S k) : RfS w' vb lb n cnt R np Q ar cr := by
  have hl : vb < w.heap.size := lt_of_cell h.l
  have nv := hn vb (.inl rfl)
  have nl := hn lb (.inr (.inl rfl))
  exact ⟨c.keeps h.l nv, c.keeps h.c nv, c.keeps h.r nv, (c.frozen (p := ⟨vb, _, none⟩) hl nv).trans h.fc, (c.frozen (p := ⟨vb, _, none⟩) hl nv).trans h.fr, fun k hk => (h.rc k hk).kept c nl, h.q.kept c (fun k hk => hn k (.inr (.inr hk))), h.ne, h.nv, h.nl, h.n0, h.n1⟩
theorem RfS.quiet (h : RfS w vb lb n cnt R np Q ar cr) (c : Ch Nil w w') : RfS w' vb lb n cnt R np Q ar cr := h.kept c (fun _ _ e => e)
theorem RfS.lt (h : RfS w vb lb n cnt R np Q ar cr) {k : Nat} (hk : VS vb lb ar k) : k < w.heap.size := by
  rcases hk with rfl | rfl | hk
  · exact lt_of_cell (p := ⟨_, 0, none⟩) h.l
  · exact lt_of_cell (p := ⟨_, _, none⟩) (h.rc 0 h.n0).v
  · exact h.q.lt k hk
/-- the count -/
theorem RfS.setC (h : RfS w vb lb n cnt R np Q ar cr) (v : Nat) : RfS (w.setCell ⟨vb, 1, none⟩ (.int .i64 (v : Nat))) vb lb n v R np Q ar cr := by
  have c : Ch (One vb) w (w.setCell ⟨vb, 1, none⟩ (.int .i64 (v : Nat))) := (Ch.refl _ _).setB _ _
  exact ⟨(cell_ne (by omega) _).trans h.l, World.cell?_setCell_same _ _ _ h.c, (cell_ne (by omega) _).trans h.r, (World.frozen?_setCell _ _ _ _).trans h.fc, (World.frozen?_setCell _ _ _ _).trans h.fr, fun k hk => (h.rc k hk).kept c (fun e => h.ne e.symm), h.q.kept c (fun k hk e => h.nv (by rw [← e]; exact hk)), h.ne, h.nv, h.nl, h.n0, h.n1⟩
/-- a record -/
theorem RfS.turn {k : Nat} {x : Rec} (h : RfS w vb lb n cnt R np Q ar cr) (hk : k < n) (c : Tch lb (k * 3) 3 w w') (hx : IsRr w' lb (k * 3) x) : RfS w' vb lb n cnt (upR R k x) np Q ar cr := by
  have hl : vb < w.heap.size := lt_of_cell h.l
  have nv : ¬ vb = lb := h.ne
  refine ⟨c.ch.keeps h.l nv, c.ch.keeps h.c nv, c.ch.keeps h.r nv, (c.ch.frozen (p := ⟨vb, _, none⟩) hl nv).trans h.fc, (c.ch.frozen (p := ⟨vb, _, none⟩) hl nv).trans h.fr, fun i hi => ?_, h.q.kept c.ch (fun k hk e => h.nl (by rw [← e]; exact hk)), h.ne, h.nv, h.nl, h.n0, h.n1⟩
  by_cases e : i = k
  · subst e; rw [upR_same]; exact hx
  · rw [upR_other _ _ e]; exact (h.rc i hi).far c (by omega)
end
theorem refSlot_yes {vb lb n cnt np : Nat} {R : Nat → Rec} {Q : Nat → Rq} {ar : Option Addr} {cr : Nat} (id : Nat) {w : World} (hid : id < 18446744073709551616) (h : RfS w vb lb n cnt R np Q ar cr) (hg : givenId n R id) :
    Calls Try.prog 38 #[.pointer (some ⟨vb, 0, none⟩), .int .u64 id] w fun e w' => e = .returned (.int .i64 (id % 64 : Nat)) ∧ w = w' := by
  have hl := h.l
  have n1 := h.n1
  obtain ⟨g0, g1, g2⟩ := hg
  have hgc := (h.rc _ g0).g
  obtain ⟨k, hk⟩ : ∃ k, k = id % 64 := ⟨_, rfl⟩
  obtain ⟨t, ht⟩ : ∃ t, t = id / 64 := ⟨_, rfl⟩
  rw [← hk] at g0 g2 hgc ⊢
  rw [← ht] at g1 g2
  obtain ⟨g, hgg⟩ : ∃ g, g = (R k).gv := ⟨_, rfl⟩
  rw [← hgg] at g2 hgc
  have e1 : (id : Int) % 64 = (k : Int) := by omega
  have e2 : (id : Int) / 64 = (t : Int) := by omega
  have e3 : ((id : Int)).tmod 64 = (k : Int) := by rw [show (64 : Int) = ((64 : Nat) : Int) from rfl, ← Int.ofNat_tmod, ← hk]
  have e4 : ((id : Int)).tdiv 64 = (t : Int) := by rw [show (64 : Int) = ((64 : Nat) : Int) from rfl, ← Int.ofNat_tdiv, ← ht]
  have z1 : ¬ (n : Int) ≤ (k : Int) := by omega
  have z2 : ¬ (t : Int) < 1 := by omega
  have z3 : ¬ (g : Int) < (t : Int) := by omega
  have e0 : ((k : Int)).toNat = k := by omega
  have hkb : (k : Int) < 64 := by omega
  clear h hk ht hgg
  go_enter Try.func38, Try.ntmps38
  go_wp2
  go_ret
  exact ⟨rfl, rfl⟩
theorem refSlot_no {vb lb n cnt np : Nat} {R : Nat → Rec} {Q : Nat → Rq} {ar : Option Addr} {cr : Nat} (id : Nat) {w : World} (hid : id < 18446744073709551616) (h : RfS w vb lb n cnt R np Q ar cr) (hg : ¬ givenId n R id) :
    Calls Try.prog 38 #[.pointer (some ⟨vb, 0, none⟩), .int .u64 id] w fun e w' => e = .returned (.int .i64 (-1)) ∧ w = w' := by
  have hl := h.l
  have n1 := h.n1
  obtain ⟨k, hk⟩ : ∃ k, k = id % 64 := ⟨_, rfl⟩
  obtain ⟨t, ht⟩ : ∃ t, t = id / 64 := ⟨_, rfl⟩
  unfold givenId at hg
  rw [← hk, ← ht] at hg
  have e1 : (id : Int) % 64 = (k : Int) := by omega
  have e2 : (id : Int) / 64 = (t : Int) := by omega
  have e3 : ((id : Int)).tmod 64 = (k : Int) := by rw [show (64 : Int) = ((64 : Nat) : Int) from rfl, ← Int.ofNat_tmod, ← hk]
  have e4 : ((id : Int)).tdiv 64 = (t : Int) := by rw [show (64 : Int) = ((64 : Nat) : Int) from rfl, ← Int.ofNat_tdiv, ← ht]
  have e0 : ((k : Int)).toNat = k := by omega
  have hkb : (k : Int) < 64 := by omega
  by_cases h1 : n ≤ k
  · have z1 : (n : Int) ≤ (k : Int) := by omega
    clear h hk ht hg
    go_enter Try.func38, Try.ntmps38
    go_wp2
    go_ret
    exact ⟨rfl, rfl⟩
  · have z1 : ¬ (n : Int) ≤ (k : Int) := by omega
    by_cases h2 : t < 1
    · have z2 : (t : Int) < 1 := by omega
      clear h hk ht hg
      go_enter Try.func38, Try.ntmps38
      go_wp2
      go_ret
      exact ⟨rfl, rfl⟩
    · have z2 : ¬ (t : Int) < 1 := by omega
      have hgc := (h.rc k (by omega)).g
      obtain ⟨g, hgg⟩ : ∃ g, g = (R k).gv := ⟨_, rfl⟩
      rw [← hgg] at hg hgc
      have z3 : (g : Int) < (t : Int) := by omega
      clear h hk ht hg hgg
      go_enter Try.func38, Try.ntmps38
      go_wp2
      go_ret
      exact ⟨rfl, rfl⟩
theorem refDrop_of {vb lb n cnt np : Nat} {R : Nat → Rec} {Q : Nat → Rq} {ar : Option Addr} {cr : Nat} {w : World} (h : RfS w vb lb n cnt R np Q ar cr) (hc : cnt ≤ 1000000) :
    Calls Try.prog 19 #[.pointer (some ⟨vb, 0, none⟩)] w fun e w' => e = .returned (.bool (decide (0 < cnt))) ∧ RfS w' vb lb n (cnt - 1) R np Q ar cr ∧ Ch (One vb) w w' := by
  have hcc := h.c
  have fc := h.fc
  have H := Lib.hid h
  clear h
  by_cases h0 : 0 < cnt
  · rw [decide_eq_true h0]
    have z1 : ((cnt : Int) == 0) = false := by rw [beq_eq_false_iff_ne]; omega
    have z2 : (cnt : Int) - 1 = ((cnt - 1 : Nat) : Int) := by omega
    have NX := Lib.hid (H.out.setC (cnt - 1))
    rw [← z2] at NX
    have Z2 := Lib.hid z2
    clear z2
    go_enter Try.func19, Try.ntmps19
    go_wp2
    go_ret
    exact ⟨rfl, NX.out, (Ch.refl _ _).setB _ _⟩
  · rw [decide_eq_false h0]
    obtain rfl : cnt = 0 := by omega
    replace hcc : w.cell? ⟨vb, 1, none⟩ = some (.int .i64 0) := hcc
    go_enter Try.func19, Try.ntmps19
    go_wp2
    go_ret
    exact ⟨rfl, H.out, Ch.refl _ _⟩
theorem refTry_out {vb lb n cnt np : Nat} {R : Nat → Rec} {Q : Nat → Rq} {ar : Option Addr} {cr : Nat} (k : Int) (old : Nat) (ev : Int) {w : World} (h : RfS w vb lb n cnt R np Q ar cr) (hk : ¬ (0 ≤ k ∧ k < n)) :
    Calls Try.prog 17 #[.pointer (some ⟨vb, 0, none⟩), .int .i64 k, .int .u64 (old : Nat), .int .i64 ev] w fun e w' => e = .returned (.tuple #[.int .u64 0, .int .i64 4]) ∧ w = w' := by
  have hl := h.l
  clear h
  by_cases h0 : k < 0
  · clear hk
    go_enter Try.func17, Try.ntmps17
    go_wp2
    go_ret2
    exact ⟨rfl, rfl⟩
  · have z1 : (n : Int) ≤ k := by omega
    clear hk
    go_enter Try.func17, Try.ntmps17
    go_wp2
    go_ret2
    exact ⟨rfl, rfl⟩
set_option maxHeartbeats 1600000 in
theorem refTry_err {vb lb n cnt np : Nat} {R : Nat → Rec} {Q : Nat → Rq} {ar : Option Addr} {cr : Nat} (k : Nat) (old : Nat) (ev : Int) {w : World} (h : RfS w vb lb n cnt R np Q ar cr) (hk : k < n) (ho : old < 18446744073709551616) (hx : (nxZ old ev ((R k).pd != 0)).2 ≠ 0) :
    Calls Try.prog 17 #[.pointer (some ⟨vb, 0, none⟩), .int .i64 k, .int .u64 (old : Nat), .int .i64 ev] w fun e w' => e = .returned (.tuple #[.int .u64 ((R k).wd : Nat), .int .i64 ((nxZ old ev ((R k).pd != 0)).2 : Nat)]) ∧ RfS w' vb lb n cnt R np Q ar cr ∧ Ch (One lb) w w' := by
  have hl := h.l
  have n1 := h.n1
  have hp := (h.rc k hk).p
  have H := Lib.hid h
  obtain ⟨p, hpp⟩ : ∃ p, p = (R k).pd := ⟨_, rfl⟩
  rw [← hpp] at hp
  have HP := Lib.hid hpp
  obtain ⟨per, hper⟩ : ∃ per, per = (p != 0) := ⟨_, rfl⟩
  have e1 : Hid (decide (0 < p) = per) := Lib.hid (by rw [hper, Bool.eq_iff_iff, decide_eq_true_iff, bne_iff_ne]; omega)
  rw [← hpp, ← hper] at hx
  have PE := Lib.hid hper
  obtain ⟨x, hxx⟩ : ∃ x, nxZ old ev per = x := ⟨_, rfl⟩
  have XX := Lib.hid hxx
  rw [hxx] at hx
  have HX := Lib.hid hx
  have z1 : ¬ (k : Int) < 0 := by omega
  have z2 : ¬ (n : Int) ≤ (k : Int) := by omega
  have z3 : (k : Int) < (n : Int) := by omega
  have e0 : ((k : Int)).toNat = k := by omega
  clear h hpp hper hxx hx
  go_enter Try.func17, Try.ntmps17
  go_wp2_with fail
  rw [e1.out]
  refine (refNext_any old ev per ho _).mono ?_
  rintro e w1 ⟨rfl, b1⟩
  rw [XX.out]
  have H1 := Lib.hid (H.out.quiet (Ch.of_below b1))
  have C1 : Hid (Ch (One lb) w w1) := Lib.hid (Ch.of_below b1)
  clear b1 hl hp
  have hl := H1.out.l
  have hv := (H1.out.rc k hk).v
  have fv := (H1.out.rc k hk).fv
  obtain ⟨y, hy⟩ : ∃ y, y = x.2 := ⟨_, rfl⟩
  have y1 : ((y : Int) != 0) = true := by rw [bne_iff_ne]; have := HX.out; omega
  have HY := Lib.hid hy
  rw [← hy]
  clear hy
  go_wp2
  go_ret2
  refine ⟨?_, H1.out, C1.out⟩
  rw [← HP.out, ← PE.out, XX.out, HY.out]
  rfl
set_option maxHeartbeats 1600000 in
theorem refTry_busy {vb lb n cnt np : Nat} {R : Nat → Rec} {Q : Nat → Rq} {ar : Option Addr} {cr : Nat} (k : Nat) (old : Nat) (ev : Int) {w : World} (h : RfS w vb lb n cnt R np Q ar cr) (hk : k < n) (ho : old < 18446744073709551616) (hx : (nxZ old ev ((R k).pd != 0)).2 = 0) (hvv : (R k).wd ≠ old) :
    Calls Try.prog 17 #[.pointer (some ⟨vb, 0, none⟩), .int .i64 k, .int .u64 (old : Nat), .int .i64 ev] w fun e w' => e = .returned (.tuple #[.int .u64 ((R k).wd : Nat), .int .i64 10]) ∧ RfS w' vb lb n cnt R np Q ar cr ∧ Ch (One lb) w w' := by
  have hl := h.l
  have n1 := h.n1
  have hp := (h.rc k hk).p
  have H := Lib.hid h
  obtain ⟨p, hpp⟩ : ∃ p, p = (R k).pd := ⟨_, rfl⟩
  rw [← hpp] at hp
  have HP := Lib.hid hpp
  obtain ⟨per, hper⟩ : ∃ per, per = (p != 0) := ⟨_, rfl⟩
  have e1 : Hid (decide (0 < p) = per) := Lib.hid (by rw [hper, Bool.eq_iff_iff, decide_eq_true_iff, bne_iff_ne]; omega)
  rw [← hpp, ← hper] at hx
  have PE := Lib.hid hper
  obtain ⟨x, hxx⟩ : ∃ x, nxZ old ev per = x := ⟨_, rfl⟩
  have XX := Lib.hid hxx
  rw [hxx] at hx
  have HX := Lib.hid hx
  have HV : Hid ((((R k).wd : Int) != (old : Int)) = true) := Lib.hid (by rw [bne_iff_ne]; omega)
  clear hvv
  have z1 : ¬ (k : Int) < 0 := by omega
  have z2 : ¬ (n : Int) ≤ (k : Int) := by omega
  have z3 : (k : Int) < (n : Int) := by omega
  have e0 : ((k : Int)).toNat = k := by omega
  clear h hpp hper hxx hx
  go_enter Try.func17, Try.ntmps17
  go_wp2_with fail
  rw [e1.out]
  refine (refNext_any old ev per ho _).mono ?_
  rintro e w1 ⟨rfl, b1⟩
  rw [XX.out]
  have H1 := Lib.hid (H.out.quiet (Ch.of_below b1))
  have C1 : Hid (Ch (One lb) w w1) := Lib.hid (Ch.of_below b1)
  clear b1 hl hp
  have hl := H1.out.l
  have hv := (H1.out.rc k hk).v
  have fv := (H1.out.rc k hk).fv
  have y0 : ((x.2 : Nat) : Int) = 0 := by rw [HX.out]; rfl
  rw [y0]
  have vv := HV.out
  go_wp2
  go_ret2
  exact ⟨rfl, H1.out, C1.out⟩
set_option maxHeartbeats 1600000 in
theorem refTry_go {vb lb n cnt np : Nat} {R : Nat → Rec} {Q : Nat → Rq} {ar : Option Addr} {cr : Nat} (k : Nat) (old : Nat) (ev : Int) {w : World} (h : RfS w vb lb n cnt R np Q ar cr) (hk : k < n) (ho : old < 18446744073709551616) (hx : (nxZ old ev ((R k).pd != 0)).2 = 0) (hvv : (R k).wd = old) :
    Calls Try.prog 17 #[.pointer (some ⟨vb, 0, none⟩), .int .i64 k, .int .u64 (old : Nat), .int .i64 ev] w fun e w' => e = .returned (.tuple #[.int .u64 ((nxZ old ev ((R k).pd != 0)).1 : Nat), .int .i64 0]) ∧ RfS w' vb lb n cnt (upR R k ⟨(nxZ old ev ((R k).pd != 0)).1, (R k).gv, (R k).pd⟩) np Q ar cr ∧ Ch (One lb) w w' := by
  have hl := h.l
  have n1 := h.n1
  have hp := (h.rc k hk).p
  have H := Lib.hid h
  obtain ⟨p, hpp⟩ : ∃ p, p = (R k).pd := ⟨_, rfl⟩
  rw [← hpp] at hp
  have HP := Lib.hid hpp
  obtain ⟨per, hper⟩ : ∃ per, per = (p != 0) := ⟨_, rfl⟩
  have e1 : Hid (decide (0 < p) = per) := Lib.hid (by rw [hper, Bool.eq_iff_iff, decide_eq_true_iff, bne_iff_ne]; omega)
  rw [← hpp, ← hper] at hx
  have PE := Lib.hid hper
  obtain ⟨x, hxx⟩ : ∃ x, nxZ old ev per = x := ⟨_, rfl⟩
  have XX := Lib.hid hxx
  rw [hxx] at hx
  have HX := Lib.hid hx
  have HV : Hid ((((R k).wd : Int) != (old : Int)) = false) := Lib.hid (by rw [bne_eq_false_iff_eq]; omega)
  clear hvv
  have z1 : ¬ (k : Int) < 0 := by omega
  have z2 : ¬ (n : Int) ≤ (k : Int) := by omega
  have z3 : (k : Int) < (n : Int) := by omega
  have e0 : ((k : Int)).toNat = k := by omega
  clear h hpp hper hxx hx
  go_enter Try.func17, Try.ntmps17
  go_wp2_with fail
  rw [e1.out]
  refine (refNext_any old ev per ho _).mono ?_
  rintro e w1 ⟨rfl, b1⟩
  rw [XX.out]
  have H1 := Lib.hid (H.out.quiet (Ch.of_below b1))
  have C1 : Hid (Ch (One lb) w w1) := Lib.hid (Ch.of_below b1)
  clear b1 hl hp
  have hl := H1.out.l
  have hv := (H1.out.rc k hk).v
  have fv := (H1.out.rc k hk).fv
  have y0 : ((x.2 : Nat) : Int) = 0 := by rw [HX.out]; rfl
  rw [y0]
  have vv := HV.out
  have tS : Tch lb (k * 3) 3 w1 (w1.setCell ⟨lb, k * 3, none⟩ (.int .u64 (x.1 : Nat))) := (Tch.refl _ _ _ _).set _ (by omega) _
  have NX := Lib.hid (H1.out.turn hk tS ((H1.out.rc k hk).setV x.1))
  have CS := Lib.hid (C1.out.trans tS.ch)
  clear tS
  go_wp2
  go_ret2
  rw [← HP.out, ← PE.out, XX.out]
  have F := NX.out
  rw [← HP.out] at F
  exact ⟨rfl, F, CS.out⟩
end Go.Proofs.Ytjhmmfdmoalfmaa
