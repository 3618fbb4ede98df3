/-
  Contracts of package list's All and Drain at int: the values, in order.
-/
import Derived.Test.YtpddiphknpplcaaPListI5
import Derived.Test.YtpddiphknpplcaaListRound
import Derived.Test.YtpddiphknpplcaaOwnRow
namespace Go.Proofs.Ytpddiphknpplcaa.PI
open Go.RowKit Go.Shelf Verge
attribute [local go_sem] Oper.semAt_some
set_option linter.unusedVariables false
set_option linter.unusedSimpArgs false
variable {X : Oth}

/-- the value of the i-th node -/
def valAt (xs : List Nat) (V : Nat → Int) (i : Nat) : Value := .int .i64 (V (xs.getD i 0))
/-- a row of values of one's own -/
abbrev RowE (w : World) (a : Option Addr) (n cap : Nat) (f : Nat → Value) : Prop := Row w 3 1 a n cap f
section
variable {S : Nat → Prop} {w w' : World} {lb ob b : Nat} {xs ys : List Nat} {V : Nat → Int}
theorem Row.blk {e : TypeId} {size : Nat} {a : Option Addr} {n cap : Nat} {f : Nat → Value} (h : Row w e size a n cap f) {g : Nat} (hg : OwnS a g) : ∃ cs t z, w.heap[g]? = some (.cells cs t z) := by
  rcases h.2 with ⟨hv, -⟩ | ⟨g', cap', cur, hv, hb, hgg, -⟩
  · simp only [Value.slice.injEq] at hv; rw [OwnS, hv.1] at hg; cases hg
  · simp only [Value.slice.injEq] at hv
    rw [OwnS, hv.1] at hg
    cases hg
    exact ⟨_, _, _, hgg⟩
theorem Row.steady {e : TypeId} {size : Nat} {a : Option Addr} {n cap : Nat} {f : Nat → Value} (h : Row w e size a n cap f) {r : Nat} (c : Ch (One r) w w') (hr : NoCells w r) : Row w' e size a n cap f :=
  h.kept c fun k hk => by obtain ⟨cs, t, z, hb⟩ := Row.blk h hk; exact hr.row hb

theorem Keeps.of_ch' {B : Nat} (c : Ch S w w') (hS : ∀ k, S k → k < B ∨ ∃ cs t z, w.heap[k]? = some (.cells cs t z)) : KeepsFrom B w w' :=
  ⟨c.size, fun k o hB hk ho => (c.block k (Array.getElem?_eq_some_iff.1 hk).1 fun hs => by
    rcases hS k hs with h | ⟨cs, t, z, h⟩
    · omega
    · rw [h] at hk; cases hk; cases ho).trans hk⟩

/-- between two rounds of All -/
structure AlIn (X : Oth) (w : World) (lb : Nat) (xs : List Nat) (V : Nat → Int) (k : Nat) (W : World) : Prop where
  l : IsL X W lb xs V
  row : ∃ a cap, W.cell? ⟨w.heap.size, 0, none⟩ = some (.slice a k cap) ∧ RowE W a k cap (valAt xs V) ∧ ∀ g, OwnS a g → w.heap.size < g
  b : Blk W w.heap.size
  c : Ch Nil w W
theorem AlIn.steady {B : Nat} (hB : w.heap.size ≤ B) : Steady B (AlIn X w lb xs V) := fun k W W' r h c hr nc => by
  obtain ⟨a, cap, h1, h2, h3⟩ := h.row
  exact ⟨h.l.steady c nc, ⟨a, cap, c.keeps h1 (fun e => nc.cell h1 e), Row.steady h2 c nc, h3⟩, h.b.kept c (NoCells.blk nc h.b), Ch.late h.c c (by omega)⟩

set_option maxRecDepth 100000 in
set_option maxHeartbeats 1000000 in
theorem IsL.all (h : IsL X w lb xs V) (hs : xs.length ≤ 100000) :
    Calls Try.prog 41 #[.pointer (some ⟨lb, 1, none⟩)] w fun e w' => ∃ a cap, e = .returned (.slice a xs.length cap) ∧ RowE w' a xs.length cap (valAt xs V) ∧ (∀ g, OwnS a g → w.heap.size ≤ g) ∧ Ch Nil w w' := by
  have hI0 : AlIn X w lb xs V 0 (w.alloc (.cells #[.slice none 0 0] 29)) :=
    ⟨h.kept (S := Nil) ((Ch.refl _ _).alloc _) (fun _ _ e => e), ⟨none, 0, by simp [cell_fresh], Row.nil _ _ _ _, fun g hg => by cases hg⟩, Blk.new _ _ _, (Ch.refl _ _).alloc _⟩
  have hlt : ∀ k, LB lb xs k → k < w.heap.size := fun k hk => h.lt hk
  have HI0 := Lib.hid hI0
  have HL := Lib.hid hlt
  have ND := Lib.hid h.nd
  have hsz : (w.alloc (.cells #[.slice none 0 0] 29)).heap.size = w.heap.size + 1 := by simp
  clear hI0 hlt h
  refine (callsIn_wide (n := 5)).1 ?_
  refine callsIn_of_wp_marks Try.func41 rfl trivial ?_ rfl
  simp only [Try.ntmps41, List.size_toArray, List.length_cons, List.length_nil, Nat.reduceAdd, Nat.reduceSub, Array.replicate_succ, Array.replicate_zero, List.push_toArray, List.append_toArray, List.nil_append, List.cons_append]
  gi_wp2
  generalize hW0 : (w.alloc (.cells #[.slice none 0 0] 29)) = W0 at *
  clear hW0
  refine range_all (n := 5) (gf := 47) (ba := #[.pointer (some ⟨lb, 1, none⟩)]) rfl (enters_of Try.func47 (by kernel_rfl) rfl) xs.length (fun k => pt xs[k]?) rfl
    (AlIn X w lb xs V) (AlIn.steady (by omega)) HI0.out (nodes_tells 4 (by omega) lb xs ND.out _ ?hF ?hN) ?act1 ?assign ?body ?done
  case hF => intro W hW; exact hW.l.h.f
  case hN => intro k W b hW hk; exact (hW.l.n k b hk).z
  case assign =>
    intro l k W K hK
    gi_wp2
    exact hK
  case body =>
    intro l k W hW hk
    obtain ⟨b, hb⟩ : ∃ b, xs[k]? = some b := ⟨_, List.getElem?_eq_getElem hk⟩
    rw [hb, pt_some]
    obtain ⟨a, cap, c1, r1, g1⟩ := hW.row
    have c2 := (hW.l.n k b hb).v
    have hv : valAt xs V k = .int .i64 (V b) := by unfold valAt; rw [List.getD_eq_getElem?_getD, hb]; rfl
    have f1 := hW.b.fz 0
    have hWc := hW.c.size
    have hWb := hW.b.lt
    have HW := Lib.hid hW
    have R1 := Lib.hid r1
    have G1 := Lib.hid g1
    have HV := Lib.hid hv
    clear hW hb r1 g1 hv
    gi_wp2
    refine wpIn_region_any (by kernel_rfl) (any_round (by rintro ⟨a, w, h⟩; exact h) (noDefer_spec (by kernel_rfl)) _ _ _ _ ?_)
    change wpAny _ _ _ _ _ _ _ (World.drew _)
    have c1' : W.drew.cell? ⟨w.heap.size, 0, none⟩ = some (.slice a k cap) := c1
    have c2' : W.drew.cell? ⟨b, 0, none⟩ = some (.int .i64 (V b)) := c2
    have f1' : W.drew.frozen? ⟨w.heap.size, 0, none⟩ = false := f1
    have hC : Ch Nil W W.drew := (Ch.refl _ _).drew
    have HC := Lib.hid hC
    have hXs : w.heap.size < W.drew.heap.size := hWb
    clear c1 c2 f1 hC
    generalize W.drew = X at *
    refine wpAny_take (i := 1) (v := ?_) rfl (by kernel_rfl) (by kernel_rfl) (by kernel_rfl) (fun _ _ _ h => h) (Or.inl ⟨by rfl, ?_⟩) ?_
    rotate_left
    · intro w; go_simp; try (with_reducible rfl)
    refine wpAny_take (i := 2) (v := ?_) rfl (by kernel_rfl) (by kernel_rfl) (by kernel_rfl) (fun _ _ _ h => h) (Or.inl ⟨by rfl, ?_⟩) ?_
    rotate_left
    · intro w; go_simp; try (with_reducible rfl)
    refine wpAny_take (i := 3) (v := ?_) rfl (by kernel_rfl) (by kernel_rfl) (by kernel_rfl) (fun _ _ _ h => h) (Or.inl ⟨by rfl, ?_⟩) ?_
    rotate_left
    · intro w; go_simp; try (with_reducible rfl)
    refine wpAny_ready (rs := [0, 4]) (by kernel_rfl) (by simp) ?_
    refine AllReady.cons rfl (fun K hK => ?_) ?_
    go_simp
    refine hK _ _ ?_
    clear hK K
    refine wpAny_ready (rs := [4]) (by kernel_rfl) (by simp) ?_
    refine AllReady.cons rfl (fun K hK => ?_) AllReady.nil
    go_simp
    refine hK _ _ ?_
    clear hK K
    refine wpAny_ready (rs := [5]) (by kernel_rfl) (by simp) ?_
    refine AllReady.cons rfl (fun K hK => ?_) AllReady.nil
    go_simp
    refine hK _ _ ?_
    clear hK K
    refine ?tail
    rotate_left
    refine AllReady.cons rfl (fun K hK => ?_) AllReady.nil
    go_simp
    refine hK _ _ ?_
    clear hK K
    refine wpAny_ready (rs := [0, 5]) (by kernel_rfl) (by simp) ?_
    refine AllReady.cons rfl (fun K hK => ?_) ?_
    go_simp
    refine hK _ _ ?_
    clear hK K
    refine wpAny_ready (rs := [5]) (by kernel_rfl) (by simp) ?_
    refine AllReady.cons rfl (fun K hK => ?_) AllReady.nil
    go_simp
    refine hK _ _ ?_
    clear hK K
    exact ?tail
    refine AllReady.cons rfl (fun K hK => ?_) AllReady.nil
    go_simp
    refine hK _ _ ?_
    clear hK K
    refine wpAny_ready (rs := [0]) (by kernel_rfl) (by simp) ?_
    refine AllReady.cons rfl (fun K hK => ?_) AllReady.nil
    go_simp
    refine hK _ _ ?_
    clear hK K
    exact ?tail
    have R2 : Row (X.alloc (.cells #[.int .i64 (V b)] 3)) 3 1 a k cap (valAt xs V) := (R1.out.kept HC.out (fun _ _ e => e)).kept (S := Nil) ((Ch.refl _ _).alloc _) (fun _ _ e => e)
    have hXc : Ch Nil X (X.alloc (.cells #[.int .i64 (V b)] 3)) := (Ch.refl _ _).alloc _
    have d1 := hXc.keeps c1' (fun e => e)
    have e1 := (hXc.frozen (p := ⟨w.heap.size, 0, none⟩) hXs (fun e => e)).trans f1'
    refine wpAny_ready (rs := [6]) (by kernel_rfl) (by simp) ?_
    refine AllReady.cons rfl (fun K hK => ?_) AllReady.nil
    refine step_row rfl _ _ _ rfl 3 (.int .i64 0) 1 8 Try.underlying29 (by kernel_rfl) rfl (by omega) (by omega) rfl R2 (by omega) X.heap.size 1 [.int .i64 (V b)] 3 rfl rfl (heap_alloc_new X _) (by simp [Value.oneCell']) (valAt xs V) (fun _ _ => rfl) (by intro j u hu; obtain rfl : j = 0 := (by cases j; rfl; simp at hu); simp at hu; subst hu; simpa using HV.out) _ rfl ?_
    intro g cap' w' row ch at_ lt
    have ROW := Lib.hid row
    have CH := Lib.hid ch
    have AT := Lib.hid at_
    have hbox : ¬ OwnS a w.heap.size := fun e => by have := G1.out _ e; omega
    have d2 := ch.keeps d1 hbox
    have e2 := (ch.frozen (p := ⟨w.heap.size, 0, none⟩) (by simp; omega) hbox).trans e1
    clear row ch at_ R2
    refine hK _ _ ?_
    clear hK K
    refine wpAny_ready (rs := [7]) (by kernel_rfl) (by simp) ?_
    refine AllReady.cons rfl (fun K hK => ?_) AllReady.nil
    go_simp
    refine hK _ _ ?_
    clear hK K
    refine wpAny_done (by kernel_rfl) ?_ _
    have T0 : Ch (OwnS a) W w' := ((HC.out.then (S' := Nil) hXc (fun _ _ e => e)).mono (fun _ _ e => e.elim)).trans CH.out
    have T : Ch (fun k => OwnS a k ∨ k = w.heap.size) W (w'.setCell ⟨w.heap.size, 0, none⟩ (.slice (some ⟨g, 0, none⟩) (k + 1) cap')) :=
      Ch.set (p := ⟨w.heap.size, 0, none⟩) (T0.mono fun _ _ e => .inl e) (fun _ => .inr rfl) _
    have gt : w.heap.size < g := by
      rcases AT.out with h | h
      · exact G1.out g h
      · rw [h, World.size_alloc]; omega
    refine ⟨Keeps.of_ch' T fun j hj => ?_, HW.out.l.kept T fun j hj e => ?_, ⟨_, cap', World.cell?_setCell_same _ _ _ d2, ?_, ?_⟩, (HW.out.b.kept T0 hbox).set _ _, HW.out.c.then T fun i hi e => ?_⟩
    · rcases hj with hj | rfl
      · exact .inr (Row.blk R1.out hj)
      · exact .inl (by omega)
    · have := HL.out j hj
      rcases e with e | e
      · have := G1.out j e; omega
      · omega
    · exact ROW.out.kept (S := One w.heap.size) ((Ch.refl _ _).setB 0 _) (fun k e h => by cases e; simp at h; omega)
    · intro g' e; cases e; exact gt
    · rcases e with e | e
      · have := G1.out i e; omega
      · omega
  case done =>
    intro D W hD hW hK
    have hput := (AlIn.steady (B := w.heap.size) (Nat.le_refl _)).put (.deferred none) hW (by omega) hK rfl
    obtain ⟨a, cap, c1, r1, g1⟩ := hW.row
    have R1 := Lib.hid (Row.steady r1 (Ch.put D (.deferred none)) (.of_loop hK rfl))
    have G1 := Lib.hid g1
    have HP := Lib.hid hput
    clear hW hput r1 g1
    gi_wp2
    refine ⟨by simp, .inl ⟨_, _, rfl, run_takeDeferred hK, ?_⟩⟩
    exact ⟨_, results_tmp rfl _ _ _, a, cap, rfl, R1.out, fun g hg => Nat.le_of_lt (G1.out g hg), HP.out.c⟩

set_option maxRecDepth 100000 in
set_option maxHeartbeats 1000000 in
theorem all_nil (w : World) :
    Calls Try.prog 41 #[.pointer none] w fun e w' => e = .returned (.slice none 0 0) ∧ Ch Nil w w' := by
  have hI0 : (w.alloc (.cells #[.slice none 0 0] 29)).cell? ⟨w.heap.size, 0, none⟩ = some (.slice none 0 0) ∧ Ch Nil w (w.alloc (.cells #[.slice none 0 0] 29)) := ⟨by simp [cell_fresh], (Ch.refl _ _).alloc _⟩
  have HI0 := Lib.hid hI0
  clear hI0
  have hsz : (w.alloc (.cells #[.slice none 0 0] 29)).heap.size = w.heap.size + 1 := by simp
  refine (callsIn_wide (n := 5)).1 ?_
  refine callsIn_of_wp_marks Try.func41 rfl trivial ?_ rfl
  simp only [Try.ntmps41, List.size_toArray, List.length_cons, List.length_nil, Nat.reduceAdd, Nat.reduceSub, Array.replicate_succ, Array.replicate_zero, List.push_toArray, List.append_toArray, List.nil_append, List.cons_append]
  gi_wp2
  generalize hW0 : (w.alloc (.cells #[.slice none 0 0] 29)) = W0 at *
  clear hW0
  refine range_all (n := 5) (gf := 47) (ba := #[.pointer none]) rfl (enters_of Try.func47 (by kernel_rfl) rfl) 0 (fun k => .pointer none) rfl
    (fun k W => W.cell? ⟨w.heap.size, 0, none⟩ = some (.slice none 0 0) ∧ Ch Nil w W) ?hI HI0.out (nodes_nil 4 (by omega) _) ?act1 ?assign ?body ?done
  case hI => intro k W W' r h c hr nc; exact ⟨c.keeps h.1 (fun e => nc.cell h.1 e), Ch.late h.2 c (by omega)⟩
  case assign =>
    intro l k W K hK
    gi_wp2
    exact hK
  case body => intro l k W hW hk; omega
  case done =>
    intro D W hD hW hK
    have HC := Lib.hid (Ch.late hW.2 (Ch.put D (.deferred none)) (by omega))
    have c1 := hW.1
    clear hW
    gi_wp2
    refine ⟨by simp, .inl ⟨_, _, rfl, run_takeDeferred hK, ?_⟩⟩
    exact ⟨_, results_tmp rfl _ _ _, rfl, HC.out⟩
end
end Go.Proofs.Ytpddiphknpplcaa.PI
