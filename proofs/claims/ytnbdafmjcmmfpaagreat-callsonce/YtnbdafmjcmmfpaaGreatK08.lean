import Derived.Test.YtnbdafmjcmmfpaaGreatK07
import Derived.Test.YtnbdafmjcmmfpaaGreatK06
import Derived.Test.YtnbdafmjcmmfpaaGreatK01
/-
  A floor, whole: what New makes (NewF), step by step (Prt0, NewL), and what its later calls keep (Fl).
-/
namespace Verge
/-- an event's ten numbers -/
structure Ev where
  k : Int
  t : Int
  c : Int
  h : Int
  i : Int
  g : Int
  d : Int
  p : Int
  q : Int
  e : Int
  deriving DecidableEq
def upd14 (f : Nat → Nat) (k v : Nat) : Nat → Nat := fun i => if i = k then v else f i
end Verge
namespace Go.Proofs.YtnbdafmjcmmfpaaGreat
open Go.RowKit Verge
attribute [local go_sem] Oper.semAt_some
set_option linter.unusedVariables false
set_option linter.unusedSimpArgs false

theorem upd14_same (f : Nat → Nat) (k v : Nat) : upd14 f k v k = v := if_pos rfl
theorem upd14_other (f : Nat → Nat) {k i : Nat} (v : Nat) (h : i ≠ k) : upd14 f k v i = f i := if_neg h
theorem IsVs.setAt {w : World} {b : Nat} {vs : List Value} (h : IsVs w b vs) (i : Nat) (v : Value) : IsVs (w.setCell ⟨b, i, none⟩ v) b (vs.set i v) := by
  refine ⟨fun j u hj => ?_, h.b.set _ _⟩
  by_cases e : j = i
  · subst e
    have hl : j < vs.length := by have := (List.getElem?_eq_some_iff.1 hj).1; simpa using this
    rw [List.getElem?_set_self hl] at hj
    cases hj
    exact World.cell?_setCell_same _ _ _ (h.c j _ (List.getElem?_eq_getElem hl))
  · rw [List.getElem?_set_ne (fun e' => e e'.symm)] at hj
    exact (cell_ne (fun e' => e e'.symm) _).trans (h.c j u hj)
/-- a floor's cells and log, that New makes first -/
structure Prt0 (w0 W : World) (B lb cl ins bz nw f : Nat) : Prop where
  pl : IsVs W lb [.slice none 0 0]
  pc : IsB W cl false
  pi : IsJ W ins 0 0
  pb : IsJ W bz 0 0
  pn : IsU W nw 0 0
  o0 : w0.heap.size ≤ B
  o1 : B < lb
  o2 : lb < cl
  o3 : cl < ins
  o4 : ins < bz
  o5 : bz < nw
  o6 : nw < f
  flt : f < W.heap.size
  c : Ch Nil w0 W
section
variable {S : Nat → Prop} {w0 w w' W W' : World} {B lb cl ins bz nw f : Nat}
theorem Prt0.up (h : Prt0 w0 W B lb cl ins bz nw f) (c : Ch S W W') (hS : ∀ k, S k → f ≤ k) : Prt0 w0 W' B lb cl ins bz nw f := by
  obtain ⟨a1, a2, a3, a4, a5, o0, o1, o2, o3, o4, o5, o6, fl, c0⟩ := h
  exact ⟨a1.kept c (fun e => by have := hS _ e; omega), a2.kept c (fun e => by have := hS _ e; omega), a3.kept c (fun e => by have := hS _ e; omega), a4.kept c (fun e => by have := hS _ e; omega), a5.kept c (fun e => by have := hS _ e; omega), o0, o1, o2, o3, o4, o5, o6, by have := c.size; omega, c0.then c fun i hi e => by have := hS _ e; omega⟩
theorem Prt0.kept (h : Prt0 w0 W B lb cl ins bz nw f) (c : Ch Nil W W') : Prt0 w0 W' B lb cl ins bz nw f := h.up c fun k e => e.elim
theorem Prt0.turn {x : Nat} (h : Prt0 w0 W B lb cl ins bz nw f) (c : Ch (One x) W W') (hx : f ≤ x) : Prt0 w0 W' B lb cl ins bz nw f := h.up c fun k e => by have e' : k = x := e; omega
end
/-- in what order a floor's blocks lie -/
structure Ord (lo : Nat) (F : Fb) : Prop where
  o1 : lo ≤ F.lb
  o2 : F.lb < F.cl
  o3 : F.cl < F.ins
  o4 : F.ins < F.bz
  o5 : F.bz < F.nw
  o6 : F.nw < F.f
  o7 : F.f < F.srb
  o8 : F.srb < F.sb
  o9 : F.sb < F.cb
  oa : F.cb < F.pb
  og : F.pb < F.g
  os : ∀ i, i < F.n → F.pb < F.lk i ∧ F.lk i < F.sh i ∧ (F.g < F.lk i ∨ F.sh i < F.g)
  od : ∀ i j, i < j → j < F.n → F.sh i < F.lk j
theorem Ord.ne {lo : Nat} {F : Fb} (h : Ord lo F) {i j : Nat} (hi : i < F.n) (hj : j < F.n) : F.sh i = F.sh j ↔ i = j := by
  constructor
  · intro e
    rcases Nat.lt_trichotomy i j with hl | hl | hl
    · have := h.od i j hl hj; have := h.os j hj; omega
    · exact hl
    · have := h.od j i hl hi; have := h.os i hi; omega
  · rintro rfl; rfl
def shV (F : Fb) (i : Nat) : Value := .pointer (some ⟨F.sh i, 0, none⟩)
/-- a floor's cells while New puts its shards in: the slice of shards a, k, gc -/
def flW (F : Fb) (a : Option Addr) (k gc : Nat) : List Value := [.int .i64 F.c.s, .int .i64 F.c.c, .int .i64 F.c.r, .int .i64 F.c.m, .int .i64 F.c.k, .int .i64 F.c.l, .pointer (some ⟨F.sb, 0, none⟩), .slice a k gc, .pointer (some ⟨F.pb, 0, none⟩), .pointer (some ⟨F.lb, 0, none⟩), .pointer (some ⟨F.cl, 0, none⟩), .pointer (some ⟨F.ins, 0, none⟩), .pointer (some ⟨F.bz, 0, none⟩), .pointer (some ⟨F.nw, 0, none⟩), .slice none 0 0]
structure NewL (w0 : World) (B : Nat) (F : Fb) (cp rm k : Nat) (a : Option Addr) (gc : Nat) (W : World) : Prop where
  p : Prt0 w0 W B F.lb F.cl F.ins F.bz F.nw F.f
  bx : IsVs W B (cfV F.c)
  s : IsS W F.sb F.srb cp 0 zeroR
  q : IsP W F.pb F.cb rm #[]
  fl : IsVs W F.f (flW F a k gc)
  r : Row W 42 1 a k gc (shV F)
  sd : ∀ i, i < k → IsSd W F.c.r.toNat (F.sh i) (F.lk i)
  o7 : F.f < F.srb
  o8 : F.srb < F.sb
  o9 : F.sb < F.cb
  oa : F.cb < F.pb
  os : ∀ i, i < k → F.pb < F.lk i ∧ F.lk i < F.sh i
  od : ∀ i j, i < j → j < k → F.sh i < F.lk j
  og : ∀ g, OwnS a g → F.pb < g ∧ ∀ i, i < k → g < F.lk i ∨ F.sh i < g
/-- what a new floor is -/
structure NewF (w w' : World) (F : Fb) (cp rm : Nat) : Prop where
  fl : IsF w' F none 0 0
  r : Row w' 42 1 (some ⟨F.g, 0, none⟩) F.n F.gc (shV F)
  sd : ∀ i, i < F.n → IsSd w' F.c.r.toNat (F.sh i) (F.lk i)
  s : IsS w' F.sb F.srb cp 0 zeroR
  q : IsP w' F.pb F.cb rm #[]
  pl : IsVs w' F.lb [.slice none 0 0]
  pc : IsB w' F.cl false
  pi : IsJ w' F.ins 0 0
  pb : IsJ w' F.bz 0 0
  pn : IsU w' F.nw 0 0
  o : Ord w.heap.size F
  c : Ch Nil w w'
section
variable {S : Nat → Prop} {w0 w w' W W' : World} {B cp rm k gc : Nat} {F : Fb} {a : Option Addr}
theorem NewL.kept (h : NewL w0 B F cp rm k a gc W) (c : Ch Nil W W') : NewL w0 B F cp rm k a gc W' :=
  ⟨h.p.kept c, h.bx.kept c (fun e => e), h.s.quiet c, h.q.kept c (fun e => e) (fun e => e), h.fl.kept c (fun e => e), h.r.kept c (fun _ _ e => e), fun i hi => (h.sd i hi).kept c (fun _ _ _ e => e), h.o7, h.o8, h.o9, h.oa, h.os, h.od, h.og⟩
/-- a shard more -/
theorem NewL.more {s l g gc' : Nat} {W1 W2 : World} (h : NewL w0 B F cp rm k a gc W) (c1 : Ch Nil W W1) (hl : W.heap.size ≤ l) (hs : l < s) (sd : IsSd W1 F.c.r.toNat s l) (lt : s < W1.heap.size) (r : Row W2 42 1 (some ⟨g, 0, none⟩) (k + 1) gc' (shV { F with sh := upd14 F.sh k s, lk := upd14 F.lk k l }))
    (c2 : Ch (OwnS a) W1 W2) (at_ : OwnS a g ∨ W1.heap.size ≤ g) : NewL w0 B { F with sh := upd14 F.sh k s, lk := upd14 F.lk k l } cp rm (k + 1) (some ⟨g, 0, none⟩) gc' (W2.setCell ⟨F.f, 7, none⟩ (.slice (some ⟨g, 0, none⟩) (k + 1) gc')) := by
  have h1 := h.kept c1
  have ha : ∀ x, OwnS a x → F.f < x := fun x e => by have := (h.og x e).1; have := h.o7; have := h.o8; have := h.o9; have := h.oa; omega
  have na : ∀ {x}, x ≤ F.pb → ¬ OwnS a x := fun {x} hx e => by have := (h.og x e).1; omega
  have hsz := c1.size
  have hpl : F.pb < W.heap.size := h.q.v.lt
  have ho := h.o7; have ho2 := h.o8; have ho3 := h.o9; have ho4 := h.oa
  obtain ⟨-, -, -, -, -, p0, p1, p2, p3, p4, p5, p6, pf, -⟩ := h.p
  have c3 : Ch (fun x => OwnS a x ∨ x = F.f) W1 (W2.setCell ⟨F.f, 7, none⟩ (.slice (some ⟨g, 0, none⟩) (k + 1) gc')) :=
    (c2.mono fun _ _ e => .inl e).then ((Ch.refl (One F.f) _).setB 7 _) fun i _ e => .inr e
  have sdlt : ∀ i, i < k → F.sh i < W.heap.size := fun i hi => (h.sd i hi).bk.lt
  have nn : ∀ {x}, x ≤ F.pb → x ≠ F.f → ¬ (OwnS a x ∨ x = F.f) := fun {x} hx hne e => by
    rcases e with e | e
    · exact na hx e
    · exact hne e
  have gb : F.pb < g ∧ (g < l ∨ s < g) ∧ ∀ i, i < k → g < F.lk i ∨ F.sh i < g := by
    rcases at_ with e | e
    · have := h.og g e
      have hg : g < W.heap.size := h.r.lt g e
      exact ⟨this.1, by omega, this.2⟩
    · exact ⟨by omega, by omega, fun i hi => by have := sdlt i hi; omega⟩
  refine ⟨h1.p.up c3 ?_, h1.bx.kept c3 (nn (by omega) (by omega)), h1.s.kept c3 (nn (by omega) (by omega)) (nn (by omega) (by omega)), h1.q.kept c3 (nn (by omega) (by omega)) (nn (by omega) (by omega)), ?_, ?_, ?_, h.o7, h.o8, h.o9, h.oa, ?_, ?_, ?_⟩
  · rintro x (e | e)
    · exact Nat.le_of_lt (ha x e)
    · omega
  · have := (h1.fl.kept c2 (na (by omega))).setAt 7 (.slice (some ⟨g, 0, none⟩) (k + 1) gc')
    exact this
  · exact r.kept ((Ch.refl (One F.f) _).setB 7 _) (by
      intro x e e'
      have e1 : g = x := Option.some.inj e
      have e2 : x = F.f := e'
      omega)
  · intro i hi
    by_cases e : i = k
    · subst e
      show IsSd _ _ (upd14 F.sh i s i) (upd14 F.lk i l i)
      rw [upd14_same, upd14_same]
      refine sd.kept c3 (fun j j1 j2 e => ?_)
      rcases e with e | e
      · have := h.r.lt _ e; omega
      · omega
    · show IsSd _ _ (upd14 F.sh k s i) (upd14 F.lk k l i)
      rw [upd14_other _ _ e, upd14_other _ _ e]
      refine (h1.sd i (by omega)).kept c3 (fun j j1 j2 e' => ?_)
      have := h.os i (by omega)
      rcases e' with e' | e'
      · have := (h.og _ e').2 i (by omega); omega
      · omega
  · intro i hi
    by_cases e : i = k
    · subst e
      show F.pb < upd14 F.lk i l i ∧ upd14 F.lk i l i < upd14 F.sh i s i
      rw [upd14_same, upd14_same]; omega
    · show F.pb < upd14 F.lk k l i ∧ upd14 F.lk k l i < upd14 F.sh k s i
      rw [upd14_other _ _ e, upd14_other _ _ e]; exact h.os i (by omega)
  · intro i j hij hj
    show upd14 F.sh k s i < upd14 F.lk k l j
    rw [upd14_other _ _ (by omega)]
    by_cases e : j = k
    · subst e; rw [upd14_same]; have := sdlt i hij; omega
    · rw [upd14_other _ _ e]; exact h.od i j hij (by omega)
  · intro x hx
    obtain rfl : g = x := Option.some.inj hx
    refine ⟨gb.1, fun i hi => ?_⟩
    show g < upd14 F.lk k l i ∨ upd14 F.sh k s i < g
    by_cases e : i = k
    · subst e; rw [upd14_same, upd14_same]; exact gb.2.1
    · rw [upd14_other _ _ e, upd14_other _ _ e]; exact gb.2.2 i (by omega)
theorem NewL.setG (h : NewL w0 B F cp rm k a gc W) (g gc' : Nat) : NewL w0 B { F with g := g, gc := gc' } cp rm k a gc W :=
  ⟨h.p, h.bx, h.s, h.q, h.fl, h.r, h.sd, h.o7, h.o8, h.o9, h.oa, h.os, h.od, h.og⟩
theorem NewL.made {g : Nat} (h : NewL w0 B F cp rm k (some ⟨g, 0, none⟩) gc W) (hg : F.g = g) (hn : F.n = k) (hc : F.gc = gc) : NewF w0 W F cp rm := by
  subst hg hn hc
  have hG := h.og F.g rfl
  exact ⟨h.fl, h.r, h.sd, h.s, h.q, h.p.pl, h.p.pc, h.p.pi, h.p.pb, h.p.pn, ⟨by have := h.p.o0; have := h.p.o1; omega, h.p.o2, h.p.o3, h.p.o4, h.p.o5, h.p.o6, h.o7, h.o8, h.o9, h.oa, hG.1, fun i hi => ⟨(h.os i hi).1, (h.os i hi).2, hG.2 i hi⟩, h.od⟩, h.p.c⟩
end
end Go.Proofs.YtnbdafmjcmmfpaaGreat

/-
  Contracts of package cell's functions at numbers and at words, as a slab uses them.
-/
namespace Go.Proofs.YtnbdafmjcmmfpaaGreat
open Go.RowKit Verge
attribute [local go_sem] Oper.semAt_some
set_option linter.unusedVariables false
set_option linter.unusedSimpArgs false

theorem retB {k : IntKind} {a b : Int} {x y : Bool} (h : a = b) (h' : x = y) : Ending.returned (.tuple #[.int k a, .bool x]) = .returned (.tuple #[.int k b, .bool y]) := by rw [h, h']
theorem loadJ_at (b o : Nat) (v : Int) (w : World) (h : IsJ w b o v) :
    Calls Tryz.prog 48 #[.pointer (some ⟨b, o, none⟩)] w fun e w' => e = .returned (.int .i64 v) ∧ IsJ w' b o v ∧ Tch b o 4 w w' := by
  obtain ⟨l, t, u, h⟩ := h
  refine (load_at b o v l t u w h).mono fun e w' ⟨he, hw⟩ => ?_
  subst hw
  exact ⟨he, ⟨_, _, _, h.setL _⟩, (Tch.refl _ _ _ _).set _ (by omega) _⟩
theorem swapJ_yes (b o : Nat) (v x : Int) (w : World) (h : IsJ w b o v) :
    Calls Tryz.prog 147 #[.pointer (some ⟨b, o, none⟩), .int .i64 v, .int .i64 x] w fun e w' => e = .returned (.bool true) ∧ IsJ w' b o x ∧ Tch b o 4 w w' := by
  obtain ⟨l, t, u, h⟩ := h
  refine (swap_yes b o v x l t u w h).mono fun e w' ⟨he, hw⟩ => ?_
  subst hw
  exact ⟨he, ⟨_, _, _, ((h.setT _).setV _).setU _⟩, (((Tch.refl _ _ _ _).set _ (by omega) _).set _ (by omega) _).set _ (by omega) _⟩
theorem swapJ_no (b o : Nat) (v old x : Int) (w : World) (h : IsJ w b o v) (hne : (v == old) = false) :
    Calls Tryz.prog 147 #[.pointer (some ⟨b, o, none⟩), .int .i64 old, .int .i64 x] w fun e w' => e = .returned (.bool false) ∧ IsJ w' b o v ∧ Tch b o 4 w w' := by
  obtain ⟨l, t, u, h⟩ := h
  refine (swap_no b o v old x l t u w h hne).mono fun e w' ⟨he, hw⟩ => ?_
  subst hw
  exact ⟨he, ⟨_, _, _, h.setT _⟩, (Tch.refl _ _ _ _).set _ (by omega) _⟩
theorem changeJ_yes (b o : Nat) (v x : Int) (w : World) (h : IsJ w b o v) :
    Calls Tryz.prog 114 #[.pointer (some ⟨b, o, none⟩), .int .i64 x, .bool true] w fun e w' => e = .returned (.bool true) ∧ IsJ w' b o x ∧ Tch b o 4 w w' := by
  obtain ⟨l, t, u, h⟩ := h
  refine (change_yes b o _ x l t u w h).mono fun e w' ⟨he, hw⟩ => ?_
  subst hw
  exact ⟨he, ⟨_, _, _, ((h.setT _).setV _).setU _⟩, (((Tch.refl _ _ _ _).set _ (by omega) _).set _ (by omega) _).set _ (by omega) _⟩

theorem drop1_any (v : Int) (w : World) :
    Calls Tryz.prog 157 #[.int .i64 v] w fun e w' => e = .returned (.tuple #[.int .i64 (wrap64 (v - 1)), .bool (decide (0 < v))]) ∧ w = w' := by
  go_enter Tryz.func157, Tryz.ntmps157
  go_wp2
  go_ret2
  exact ⟨rfl, rfl⟩

theorem fn_nilJ (f : Fn) (a c : Array Value) (w : World) : (binOp .eql 204 (.func f a c) .nilFunc).run Tryz.prog w = .ok (.bool false) w := run_eql_fn _ w _ f a c _ Tryz.underlying204 rfl
theorem fn_nilW (f : Fn) (a c : Array Value) (w : World) : (binOp .eql 251 (.func f a c) .nilFunc).run Tryz.prog w = .ok (.bool false) w := run_eql_fn _ w _ f a c _ Tryz.underlying251 rfl

theorem turn_drop (b : Nat) (v : Nat) (w : World) (h : IsJ w b 0 (v : Nat)) (hv : v ≤ 1000000) :
    Calls Tryz.prog 99 #[.pointer (some ⟨b, 0, none⟩), .func (.func 157) #[] #[]] w fun e w' => e = .returned (.tuple #[.int .i64 (v : Nat), .bool (decide (0 < v))]) ∧ IsJ w' b 0 ((v - 1 : Nat) : Nat) ∧ Tch b 0 4 w w' := by
  have H := Lib.hid h
  have hfn := fn_nilJ
  clear h
  by_cases h0 : 0 < v
  · have L : Hid (decide ((0 : Int) < (v : Nat)) = true) := Lib.hid (decide_eq_true (by omega))
    rw [decide_eq_true h0]
    go_enter Tryz.func99, Tryz.ntmps99
    go_wp2_with fail
    refine (loadJ_at b 0 _ _ H.out).mono ?_
    rintro e w1 ⟨rfl, hi, c1⟩
    have H1 := Lib.hid hi
    clear hi
    go_wp2_with fail
    refine (drop1_any _ _).mono ?_
    rintro e w2 ⟨rfl, rfl⟩
    rw [L.out]
    go_wp2_with fail
    refine (changeJ_yes b 0 _ _ _ H1.out).mono ?_
    rintro e w3 ⟨rfl, hi, c3⟩
    have H3 := Lib.hid hi
    clear hi
    go_wp2
    go_ret2
    have e1 : wrap64 ((v : Nat) - 1 : Int) = ((v - 1 : Nat) : Int) := by unfold wrap64; omega
    exact ⟨rfl, by rw [← e1]; exact H3.out, c1.trans c3⟩
  · have L : Hid (decide ((0 : Int) < (v : Nat)) = false) := Lib.hid (decide_eq_false (by omega))
    rw [decide_eq_false h0]
    go_enter Tryz.func99, Tryz.ntmps99
    go_wp2_with fail
    refine (loadJ_at b 0 _ _ H.out).mono ?_
    rintro e w1 ⟨rfl, hi, c1⟩
    have H1 := Lib.hid hi
    clear hi
    go_wp2_with fail
    refine (drop1_any _ _).mono ?_
    rintro e w2 ⟨rfl, rfl⟩
    rw [L.out]
    go_wp2
    go_ret2
    exact ⟨rfl, by rw [show v - 1 = v by omega]; exact H1.out, c1⟩

theorem loadW_at (b o : Nat) (v : Int) (w : World) (h : IsU w b o v) :
    Calls Tryz.prog 51 #[.pointer (some ⟨b, o, none⟩)] w fun e w' => e = .returned (.int .u64 v) ∧ IsU w' b o v ∧ Tch b o 4 w w' := by
  obtain ⟨l, t, u, h⟩ := h
  have H := Lib.hid h
  obtain ⟨hv, hl, ht, hu, fv, fl, ft, fu⟩ := h
  go_enter Tryz.func51, Tryz.ntmps51
  go_wp2
  go_ret
  exact ⟨rfl, ⟨_, _, _, H.out.setL _⟩, (Tch.refl _ _ _ _).set _ (by omega) _⟩
theorem changeW_yes (b o : Nat) (v x : Int) (w : World) (h : IsU w b o v) :
    Calls Tryz.prog 156 #[.pointer (some ⟨b, o, none⟩), .int .u64 x, .bool true] w fun e w' => e = .returned (.bool true) ∧ IsU w' b o x ∧ Tch b o 4 w w' := by
  obtain ⟨l, t, u, h⟩ := h
  have H := Lib.hid h
  obtain ⟨hv, hl, ht, hu, fv, fl, ft, fu⟩ := h
  go_enter Tryz.func156, Tryz.ntmps156
  go_wp2
  go_ret
  exact ⟨rfl, ⟨_, _, _, ((H.out.setT _).setV _).setU _⟩, (((Tch.refl _ _ _ _).set _ (by omega) _).set _ (by omega) _).set _ (by omega) _⟩

/-- the function of Try: the next word, whether the word is the old one -/
theorem try1_any (v x old : Int) (B1 B2 : Nat) (w : World) (h1 : w.cell? ⟨B1, 0, none⟩ = some (.int .u64 x)) (h2 : w.cell? ⟨B2, 0, none⟩ = some (.int .u64 old)) :
    Calls Tryz.prog 145 #[.int .u64 v, .pointer (some ⟨B1, 0, none⟩), .pointer (some ⟨B2, 0, none⟩)] w fun e w' => e = .returned (.tuple #[.int .u64 x, .bool (v == old)]) ∧ ∃ n, w' = w.drewN n := by
  go_enter Tryz.func145, Tryz.ntmps145
  go_wp2
  go_quiet (fail)
  go_wp2
  go_ret2
  exact ⟨rfl, _, rfl⟩
theorem turn_try (b o : Nat) (v x old : Int) (B1 B2 : Nat) (w : World) (h : IsU w b o v) (h1 : w.cell? ⟨B1, 0, none⟩ = some (.int .u64 x)) (h2 : w.cell? ⟨B2, 0, none⟩ = some (.int .u64 old)) (n1 : B1 ≠ b) (n2 : B2 ≠ b) :
    Calls Tryz.prog 144 #[.pointer (some ⟨b, o, none⟩), .func (.func 145) #[] #[.pointer (some ⟨B1, 0, none⟩), .pointer (some ⟨B2, 0, none⟩)]] w fun e w' =>
      e = .returned (.tuple #[.int .u64 v, .bool (v == old)]) ∧ IsU w' b o (if (v == old) = true then x else v) ∧ Tch b o 4 w w' := by
  have H := Lib.hid h
  have K1 := Lib.hid h1
  have K2 := Lib.hid h2
  have hfn := fn_nilW
  clear h h1 h2
  obtain ⟨so, hso⟩ : ∃ so, (v == old) = so := ⟨_, rfl⟩
  have L := Lib.hid hso
  rw [hso]
  clear hso
  cases so
  · rw [if_neg (by simp)]
    go_enter Tryz.func144, Tryz.ntmps144
    go_wp2_with fail
    refine (loadW_at b o _ _ H.out).mono ?_
    rintro e w1 ⟨rfl, hi, c1⟩
    have H1 := Lib.hid hi
    clear hi
    go_wp2_with fail
    refine (try1_any _ x old B1 B2 _ (c1.ch.keeps K1.out n1) (c1.ch.keeps K2.out n2)).mono ?_
    rintro e w2 ⟨rfl, n, rfl⟩
    rw [L.out]
    go_wp2
    go_ret2
    exact ⟨rfl, by obtain ⟨l, t, u, h⟩ := H1.out; exact ⟨l, t, u, h.drewN n⟩, c1.drewN n⟩
  · rw [if_pos rfl]
    go_enter Tryz.func144, Tryz.ntmps144
    go_wp2_with fail
    refine (loadW_at b o _ _ H.out).mono ?_
    rintro e w1 ⟨rfl, hi, c1⟩
    have H1 := Lib.hid hi
    clear hi
    go_wp2_with fail
    refine (try1_any _ x old B1 B2 _ (c1.ch.keeps K1.out n1) (c1.ch.keeps K2.out n2)).mono ?_
    rintro e w2 ⟨rfl, n, rfl⟩
    rw [L.out]
    go_wp2_with fail
    refine (changeW_yes b o v _ _ (by obtain ⟨l, t, u, h⟩ := H1.out; exact ⟨l, t, u, h.drewN n⟩)).mono ?_
    rintro e w3 ⟨rfl, hi, c3⟩
    have H3 := Lib.hid hi
    clear hi
    go_wp2
    go_ret2
    exact ⟨rfl, H3.out, (c1.drewN n).trans c3⟩

/-- the function of a request's look at a slot -/
theorem look1_any (v : Nat) (B q pd : Nat) (w : World) (hv : v < 18446744073709551616) (h1 : w.cell? ⟨B, 0, none⟩ = some (.pointer (some ⟨q, 0, none⟩))) (h2 : w.cell? ⟨q, 1, none⟩ = some (.int .u64 (pd : Nat))) :
    Calls Tryz.prog 148 #[.int .u64 v, .pointer (some ⟨B, 0, none⟩)] w fun e w' => e = .returned (.tuple #[.int .u64 ((nxZ v 1 (pd != 0)).1 : Nat), .bool (decide ((nxZ v 1 (pd != 0)).2 = 0))]) ∧ w = w' := by
  have e1 : ((pd : Int) != 0) = (pd != 0) := by rw [Bool.eq_iff_iff, bne_iff_ne, bne_iff_ne]; omega
  go_enter Tryz.func148, Tryz.ntmps148
  go_wp2_with fail
  (try rw [e1])
  refine (next_any v 1 _ hv _).mono ?_
  rintro e w1 ⟨rfl, rfl⟩
  go_wp2
  go_ret2
  refine ⟨retB rfl ?_, rfl⟩
  rw [Bool.eq_iff_iff, beq_iff_eq, decide_eq_true_iff]
  omega
end Go.Proofs.YtnbdafmjcmmfpaaGreat
