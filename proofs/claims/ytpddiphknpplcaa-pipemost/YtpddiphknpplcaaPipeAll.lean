/-
  Contract of package pipe's All at int: all things in the order in which they will be taken, in memory of one's own.
-/
import Derived.Test.YtpddiphknpplcaaPipeThings
import Derived.Test.YtpddiphknpplcaaRoundList
namespace Go.Proofs.Ytpddiphknpplcaa.PI
open Go.RowKit Go.Conc Go.Shelf Verge
attribute [local go_sem] Oper.semAt_some
set_option linter.unusedVariables false
set_option linter.unusedSimpArgs false

/-- the thing at place i, as a value -/
def thingV (ch : List Int) (xs : List Nat) (V : Nat → Int) (i : Nat) : Value := .int .i64 (thingAt ch xs V i)
/-- between two rounds of All: the box in block w.heap.size -/
structure AlP (w : World) (pb cb : Nat) (X : Oth) (ch : List Int) (xs : List Nat) (V : Nat → Int) (k : Nat) (c : Obj) (W : World) : Prop where
  l : IsL X W pb xs V
  q : W.heap[cb]? = some c
  row : ∃ a cap, W.cell? ⟨w.heap.size, 0, none⟩ = some (.slice a k cap) ∧ Row W 3 1 a k cap (thingV ch xs V) ∧ ∀ g, OwnS a g → w.heap.size < g
  b : Blk W w.heap.size
  c : Ch (One cb) w W
/-- what is not the caller's -/
def FrP (B : Nat) (W : World) (t : Nat) : Prop := t ≠ B ∧ ∃ a n cap, W.cell? ⟨B, 0, none⟩ = some (.slice a n cap) ∧ ¬ OwnS a t
section
variable {w : World} {pb cb : Nat} {X : Oth} {ch : List Int} {xs : List Nat} {V : Nat → Int}
theorem AlP.steady {B : Nat} (hcb : cb < w.heap.size) (hB : w.heap.size ≤ B) (c : Obj) : Steady B (fun k => AlP w pb cb X ch xs V k c) := fun k W W' r h ch' hr nc => by
  obtain ⟨a, cap, h1, h2, h3⟩ := h.row
  exact ⟨h.l.steady ch' nc, (ch'.block cb (Array.getElem?_eq_some_iff.1 h.q).1 (fun e => by have : cb = r := e; omega)).trans h.q, ⟨a, cap, ch'.keeps h1 (fun e => nc.cell h1 e), Row.steady h2 ch' nc, h3⟩, h.b.kept ch' (NoCells.blk nc h.b), Ch.late h.c ch' (by omega)⟩
theorem FrP.steady {B B0 t : Nat} : Steady B (fun _ W => FrP B0 W t) := fun k W W' r h c hr nc => by
  obtain ⟨h0, a, n, cap, h1, h2⟩ := h
  exact ⟨h0, a, n, cap, c.keeps h1 (fun e => nc.cell h1 e), h2⟩
theorem AlP.turned (hcb : cb < w.heap.size) (k : Nat) (c c' : Obj) (W W' : World) (hl : ∀ j, LB pb xs j → j ≠ cb) (h : AlP w pb cb X ch xs V k c W) (ch' : Ch (One cb) W W') (hc : W'.heap[cb]? = some c') : AlP w pb cb X ch xs V k c' W' := by
  obtain ⟨a, cap, h1, h2, h3⟩ := h.row
  exact ⟨h.l.kept ch' (fun j hj e => hl j hj e), hc, ⟨a, cap, ch'.keeps h1 (fun e => by have : w.heap.size = cb := e; omega), h2.kept ch' (fun g hg e => by have : g = cb := e; have := h3 g hg; omega), h3⟩, h.b.kept ch' (fun e => by have : w.heap.size = cb := e; omega), h.c.trans ch'⟩

set_option maxRecDepth 100000 in
set_option maxHeartbeats 1000000 in
theorem IsPb.all {cap m : Nat} {sh : Bool} (h : IsPb w pb cb cap ch xs V m sh) (hcap : ch.length ≤ cap) (hl : ch.length ≤ 1000) (hx : xs.length ≤ 100000) :
    Calls Try.prog 20 #[.pointer (some ⟨pb, 0, none⟩)] w fun e w' => ∃ a cp, e = .returned (.slice a (ch.length + xs.length) cp) ∧ Row w' 3 1 a (ch.length + xs.length) cp (thingV ch xs V) ∧ (∀ g, OwnS a g → w.heap.size ≤ g) ∧ IsPb w' pb cb cap ch xs V m sh ∧ Ch (One cb) w w' := by
  obtain ⟨s0, r0, hq⟩ := h.c
  have hcb := h.clt
  have chA : Ch Nil w (w.alloc (.cells #[.slice none 0 0] 29)) := (Ch.refl _ _).alloc _
  have hI0 : AlP w pb cb ⟨.chan (some cb), .int .i64 m, .bool sh⟩ ch xs V 0 (.chan cap (cbuf ch) false s0 r0 false) (w.alloc (.cells #[.slice none 0 0] 29)) :=
    ⟨h.l.kept chA (fun _ _ e => e), (chA.block cb hcb (fun e => e)).trans hq, ⟨none, 0, by simp [cell_fresh], Row.nil _ _ _ _, fun g hg => by cases hg⟩, Blk.new _ _ _, chA.mono (fun _ _ e => e.elim)⟩
  have hlt : ∀ k, LB pb xs k → k < w.heap.size := fun k hk => h.l.lt hk
  have hne : ∀ k, LB pb xs k → k ≠ cb := fun k hk => h.ne hk
  have HI0 := Lib.hid hI0
  have HL := Lib.hid hlt
  have HN := Lib.hid hne
  have hsz : (w.alloc (.cells #[.slice none 0 0] 29)).heap.size = w.heap.size + 1 := by simp
  clear hI0 hlt hne h chA hq
  refine (callsIn_wide (n := 5)).1 ?_
  refine callsIn_of_wp_marks Try.func20 rfl trivial ?_ rfl
  simp only [Try.ntmps20, List.size_toArray, List.length_cons, List.length_nil, Nat.reduceAdd, Nat.reduceSub, Array.replicate_succ, Array.replicate_zero, List.push_toArray, List.append_toArray, List.nil_append, List.cons_append]
  gi_wp2
  generalize hW0 : (w.alloc (.cells #[.slice none 0 0] 29)) = W0 at *
  clear hW0
  refine range_rot (n := 5) (gf := 31) (ba := #[.pointer (some ⟨pb, 0, none⟩)]) rfl (enters_of Try.func31 (by kernel_rfl) rfl) (ch.length + xs.length) (fun k => .int .i64 (thingAt ch xs V k)) rfl
    cb (by omega) (AlP w pb cb ⟨.chan (some cb), .int .i64 m, .bool sh⟩ ch xs V) (FrP w.heap.size) _ _ (fun c => AlP.steady hcb (by omega) c) (fun t => FrP.steady) (fun k c c' W W' h1 h2 h3 => AlP.turned hcb k c c' W W' HN.out h1 h2 h3) ?hA HI0.out
    (things_tells 4 (by omega) pb cb cap ch xs V m sh hcap hl hx s0 r0 _ (fun k c W h => ⟨h.l, h.q⟩)) ?act1 ?assign ?body ?done
  case hA =>
    intro k c W W' t hW hch ht
    obtain ⟨a, cp, h1, h2, h3⟩ := hW.row
    have := hW.b.lt
    refine ⟨by omega, a, k, cp, hch.keeps h1 (fun e => e), fun e => ?_⟩
    have := h2.lt t e
    omega
  case assign =>
    intro l k W K hK
    gi_wp2
    exact hK
  case body =>
    intro l k c W hW hk
    obtain ⟨a, cp, c1, r1, g1⟩ := hW.row
    have f1 := hW.b.fz 0
    have hWc := hW.c.size
    have hWb := hW.b.lt
    have HW := Lib.hid hW
    have R1 := Lib.hid r1
    have G1 := Lib.hid g1
    have hv : thingV ch xs V k = .int .i64 (thingAt ch xs V k) := rfl
    have HV := Lib.hid hv
    clear hW r1 g1 hv
    refine wpIn_block ?_
    refine wpIn_region_lit (list_round (by rintro ⟨a, w, h⟩; exact h) _ (noDefer_list (by kernel_rfl)) _ _ ?_)
    have hXc : Ch Nil W (W.alloc (.cells #[.int .i64 (thingAt ch xs V k)] 3)) := (Ch.refl _ _).alloc _
    have R2 : Row (W.alloc (.cells #[.int .i64 (thingAt ch xs V k)] 3)) 3 1 a k cp (thingV ch xs V) := R1.out.kept hXc (fun _ _ e => e)
    have d1 := hXc.keeps c1 (fun e => e)
    have e1 := (hXc.frozen (p := ⟨w.heap.size, 0, none⟩) hWb (fun e => e)).trans f1
    have HX := Lib.hid hXc
    have HR2 := Lib.hid R2
    clear hXc R2
    go_wp2_with (at_builtin; refine append_row _ rfl _ _ _ rfl 3 (.int .i64 0) 1 8 Try.underlying29 (by kernel_rfl) rfl (by omega) (by omega) rfl HR2.out (by omega) W.heap.size 1 [.int .i64 (thingAt ch xs V k)] 3 rfl rfl (heap_alloc_new W _) (by simp [Value.oneCell']) (thingV ch xs V) (fun _ _ => rfl) (by intro j u hu; obtain rfl : j = 0 := (by cases j; rfl; simp at hu); simp at hu; subst hu; simpa using HV.out) _ rfl ?_)
    intro g cap' w' row ch' at_ lt
    have ROW := Lib.hid row
    have CH := Lib.hid ch'
    have AT := Lib.hid at_
    have hbox : ¬ OwnS a w.heap.size := fun e => by have := G1.out _ e; omega
    have d2 := ch'.keeps d1 hbox
    have e2 := (ch'.frozen (p := ⟨w.heap.size, 0, none⟩) (by simp; omega) hbox).trans e1
    clear row ch' at_
    go_wp2
    have T0 : Ch (OwnS a) W w' := (HX.out.mono (fun _ _ e => e.elim)).trans CH.out
    have T : Ch (fun k => OwnS a k ∨ k = w.heap.size) W (w'.setCell ⟨w.heap.size, 0, none⟩ (.slice (some ⟨g, 0, none⟩) (k + 1) cap')) :=
      Ch.set (p := ⟨w.heap.size, 0, none⟩) (T0.mono fun _ _ e => .inl e) (fun _ => .inr rfl) _
    have gt : w.heap.size < g := by
      rcases AT.out with h | h
      · exact G1.out g h
      · omega
    have nocb : ¬ (OwnS a cb ∨ cb = w.heap.size) := by
      rintro (e | e)
      · have := G1.out _ e; omega
      · omega
    have hlq := (Array.getElem?_eq_some_iff.1 HW.out.q).1
    refine ⟨Keeps.of_ch' T fun j hj => ?_, ⟨HW.out.l.kept T fun j hj e => ?_, (T.block cb hlq nocb).trans HW.out.q, ⟨_, cap', World.cell?_setCell_same _ _ _ d2, ?_, ?_⟩, (HW.out.b.kept T0 hbox).set _ _, HW.out.c.then T fun i hi e => ?_⟩, fun t ht hfr => ?_⟩
    · rcases hj with hj | rfl
      · exact .inr (Row.blk R1.out hj)
      · exact .inl (by omega)
    · have := HL.out j hj
      rcases e with e | e
      · have := G1.out j e; omega
      · omega
    · exact ROW.out.kept (S := One w.heap.size) ((Ch.refl _ _).setB 0 _) (fun k e h => by cases e; simp at h; omega)
    · intro g' e; cases e; exact gt
    · rcases e with e | e
      · have := G1.out i e; omega
      · omega
    · obtain ⟨f0, a', n', cp', f1, f2⟩ := hfr
      rw [c1] at f1
      cases f1
      refine ⟨T.block t ht (by rintro (e | e); exact f2 e; exact f0 e), f0, _, _, _, World.cell?_setCell_same _ _ _ d2, fun e => ?_⟩
      have e' : g = t := by simpa [OwnS] using e
      rcases AT.out with h | h
      · exact f2 (e' ▸ h)
      · exact absurd ht (by rw [← e', h]; simp)
  case done =>
    intro D c W hD hend hW hK
    obtain ⟨s1, r1', rfl⟩ := hend
    have hput := (AlP.steady (B := w.heap.size) hcb (Nat.le_refl _) _).put (.deferred none) hW (by omega) hK rfl
    obtain ⟨a, cp, c1, r1, g1⟩ := hW.row
    have R1 := Lib.hid (Row.steady r1 (Ch.put D (.deferred none)) (.of_loop hK rfl))
    have G1 := Lib.hid g1
    have HP := Lib.hid hput
    clear hW hput r1 g1
    gi_wp2
    refine ⟨by simp, .inl ⟨_, _, rfl, run_takeDeferred hK, ?_⟩⟩
    exact ⟨_, results_tmp rfl _ _ _, a, cp, rfl, R1.out, fun g hg => Nat.le_of_lt (G1.out g hg), ⟨HP.out.l, _, _, HP.out.q⟩, HP.out.c⟩

theorem things_nil (n : Nat) (h1 : 1 ≤ n) (I : Nat → World → Prop) :
    TellsAll n Try.prog 31 (fun l => #[.pointer none] ++ #[.func (.yield l) #[] #[]]) 0 (fun k => .pointer none) I := by
  intro l J W hJ hY h0
  have H0 := Lib.hid h0
  clear hJ hY h0
  refine callsIn_of_wp Try.func31 rfl trivial ?_ rfl
  simp only [Try.ntmps31, List.size_toArray, List.length_cons, List.length_nil, Nat.reduceAdd, Nat.reduceSub, Array.replicate_succ, Array.replicate_zero, List.push_toArray, List.append_toArray, List.nil_append, List.cons_append]
  gi_wp2
  refine bodyPost_ret (results_none rfl _ _ _) rfl ?_
  exact ⟨⟨_, rfl⟩, H0.out⟩

set_option maxRecDepth 100000 in
set_option maxHeartbeats 1000000 in
theorem all_nil' (w : World) :
    Calls Try.prog 20 #[.pointer none] w fun e w' => e = .returned (.slice none 0 0) ∧ Ch Nil w w' := by
  have hI0 : (w.alloc (.cells #[.slice none 0 0] 29)).cell? ⟨w.heap.size, 0, none⟩ = some (.slice none 0 0) ∧ Ch Nil w (w.alloc (.cells #[.slice none 0 0] 29)) := ⟨by simp [cell_fresh], (Ch.refl _ _).alloc _⟩
  have HI0 := Lib.hid hI0
  clear hI0
  have hsz : (w.alloc (.cells #[.slice none 0 0] 29)).heap.size = w.heap.size + 1 := by simp
  refine (callsIn_wide (n := 5)).1 ?_
  refine callsIn_of_wp_marks Try.func20 rfl trivial ?_ rfl
  simp only [Try.ntmps20, List.size_toArray, List.length_cons, List.length_nil, Nat.reduceAdd, Nat.reduceSub, Array.replicate_succ, Array.replicate_zero, List.push_toArray, List.append_toArray, List.nil_append, List.cons_append]
  gi_wp2
  generalize hW0 : (w.alloc (.cells #[.slice none 0 0] 29)) = W0 at *
  clear hW0
  refine range_all (n := 5) (gf := 31) (ba := #[.pointer none]) rfl (enters_of Try.func31 (by kernel_rfl) rfl) 0 (fun k => .pointer none) rfl
    (fun k W => W.cell? ⟨w.heap.size, 0, none⟩ = some (.slice none 0 0) ∧ Ch Nil w W) ?hI HI0.out (things_nil 4 (by omega) _) ?act1 ?assign ?body ?done
  case hI => intro k W W' r h c hr nc; exact ⟨c.keeps h.1 (fun e => nc.cell h.1 e), Ch.late h.2 c (by omega)⟩
  case assign =>
    intro l k W K hK
    gi_wp2
    exact hK
  case body => intro l k W hW hk; omega
  case done =>
    intro D W hD hW hK
    have HC := Lib.hid (Ch.late hW.2 (Ch.put D (.deferred none)) (by omega))
    have c1 := hW.1
    clear hW
    gi_wp2
    refine ⟨by simp, .inl ⟨_, _, rfl, run_takeDeferred hK, ?_⟩⟩
    exact ⟨_, results_tmp rfl _ _ _, rfl, HC.out⟩
end
end Go.Proofs.Ytpddiphknpplcaa.PI
