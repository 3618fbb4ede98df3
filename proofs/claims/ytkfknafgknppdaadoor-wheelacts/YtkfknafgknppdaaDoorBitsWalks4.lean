/-
  Contract of package bits' All: the slots in order, in memory of one's own.
-/
import Derived.Test.YtkfknafgknppdaaDoorBitsWalks3
import Derived.Test.YtkfknafgknppdaaDoorRoundList
import Derived.Test.YtkfknafgknppdaaDoorOwnRow
namespace Go.Proofs.YtkfknafgknppdaaDoor
open Go.RowKit Go.Shelf Verge
attribute [local go_sem] Oper.semAt_some
set_option linter.unusedVariables false
set_option linter.unusedSimpArgs false

/-- the slot at place i, as a value -/
def slotV (m i : Nat) : Value := .int .i64 (slotAt m i : Nat)
theorem Row.blk {w : World} {e : TypeId} {size : Nat} {a : Option Addr} {n cap : Nat} {f : Nat → Value} (h : Row w e size a n cap f) {g : Nat} (hg : OwnS a g) : ∃ cs t z, w.heap[g]? = some (.cells cs t z) := by
  rcases h.2 with ⟨hv, -⟩ | ⟨g', cap', cur, hv, hb, hgg, -⟩
  · simp only [Value.slice.injEq] at hv; rw [OwnS, hv.1] at hg; cases hg
  · simp only [Value.slice.injEq] at hv
    rw [OwnS, hv.1] at hg
    cases hg
    exact ⟨_, _, _, hgg⟩
theorem Row.steady {w w' : World} {e : TypeId} {size : Nat} {a : Option Addr} {n cap : Nat} {f : Nat → Value} (h : Row w e size a n cap f) {r : Nat} (c : Ch (One r) w w') (hr : NoCells w r) : Row w' e size a n cap f :=
  h.kept c fun k hk => by obtain ⟨cs, t, z, hb⟩ := Row.blk h hk; exact hr.row hb
theorem Keeps.of_ch' {S : Nat → Prop} {w w' : World} {B : Nat} (c : Ch S w w') (hS : ∀ k, S k → k < B ∨ ∃ cs t z, w.heap[k]? = some (.cells cs t z)) : KeepsFrom B w w' :=
  ⟨c.size, fun k o hB hk ho => (c.block k (Array.getElem?_eq_some_iff.1 hk).1 fun hs => by
    rcases hS k hs with h | ⟨cs, t, z, h⟩
    · omega
    · rw [h] at hk; cases hk; cases ho).trans hk⟩
theorem NoCells.blkb {w : World} {r b : Nat} (h : NoCells w r) (hb : Blk w b) : b ≠ r := by
  obtain ⟨cs, t, hb⟩ := hb
  exact h.row hb

/-- between two rounds of All: the box in block B -/
structure AlIn (w : World) (B m k : Nat) (W : World) : Prop where
  t : Tab W
  row : ∃ a cap, W.cell? ⟨B, 0, none⟩ = some (.slice a k cap) ∧ Row W 3 1 a k cap (slotV m) ∧ ∀ g, OwnS a g → w.heap.size ≤ g ∧ g ≠ B
  b : Blk W B
  c : Ch Nil w W
theorem AlIn.steady {w : World} {B0 m B : Nat} (hB : w.heap.size ≤ B) : Steady B (AlIn w B0 m) := fun k W W' r h c hr nc => by
  obtain ⟨a, cap, h1, h2, h3⟩ := h.row
  exact ⟨h.t.keeps c (fun e => nc.cell (h.t 0 (by omega)) e), ⟨a, cap, c.keeps h1 (fun e => nc.cell h1 e), Row.steady h2 c nc, h3⟩, h.b.kept c (nc.blkb h.b), h.c.later c (by omega)⟩

theorem make_ints (w : World) (n : Nat) (hn : n ≤ 1000000) : ∃ w1, (Instr.makeSlice 47 (.int .i64 0) (.int .i64 (n : Int))).run Tryd.prog w = .ok (.slice (some ⟨w.heap.size, 0, none⟩) 0 n) w1 ∧
    (∀ f, Row w1 3 1 (some ⟨w.heap.size, 0, none⟩) 0 n f) ∧ Ch Nil w w1 ∧ w.heap.size < w1.heap.size := by
  obtain ⟨i, hi, hz0, hz1, hz2⟩ := info_parts (show (Tryd.prog.info? 3).map (fun i => (i.zero, i.size, i.bytes)) = some (some (.int .i64 0), 1, 8) by kernel_rfl)
  obtain ⟨w1, h1, h2, h3⟩ := run_make_own (P := Tryd.prog) w 0 47 3 i (.int .i64 0) 1 Tryd.underlying47 hi hz0 hz1 .i64 .i64 n (by rw [hz2]; omega) (by simp only [maxLen]; omega) (Nat.zero_le _)
  refine ⟨w1, h1, fun f => by unfold Row; simpa using h2, (Ch.of_grown h3).mono (fun _ _ e => by cases e), ?_⟩
  exact (World.ownsRow.lt h2 _ rfl).2

set_option maxRecDepth 100000 in
set_option maxHeartbeats 1000000 in
theorem all_any (m : Nat) (hm : m < 18446744073709551616) (w : World) (T : Tab w) :
    Calls Tryd.prog 62 #[.int .u64 m] w fun e w' => ∃ a cap, e = .returned (.slice a (slots m).length cap) ∧ Row w' 3 1 a (slots m).length cap (slotV m) ∧ (∀ g, OwnS a g → w.heap.size ≤ g) ∧ Ch Nil w w' := by
  have hl := slots_le m
  obtain ⟨w1, hrun, hrow, hch, hlt⟩ := make_ints w (slots m).length (by omega)
  have hI0 : AlIn w w1.heap.size m 0 (w1.alloc (.cells #[.slice (some ⟨w.heap.size, 0, none⟩) 0 (slots m).length] 47)) := by
    have c2 : Ch Nil w1 (w1.alloc (.cells #[.slice (some ⟨w.heap.size, 0, none⟩) 0 (slots m).length] 47)) := (Ch.refl _ _).alloc _
    refine ⟨T.keeps (hch.trans c2) (fun e => e), ⟨_, _, by simp [cell_fresh], (hrow _).kept c2 (fun _ _ e => e), fun g hg => ?_⟩, Blk.new _ _ _, hch.trans c2⟩
    have hg' : w.heap.size = g := by simpa [OwnS] using hg
    omega
  have HI0 := Lib.hid hI0
  have HLn := Lib.hid (len_any m hm)
  have HT := Lib.hid T.lt
  have hsz : (w1.alloc (.cells #[.slice (some ⟨w.heap.size, 0, none⟩) 0 (slots m).length] 47)).heap.size = w1.heap.size + 1 := by simp
  clear hI0 T hrow hch
  refine (callsIn_wide (n := 5)).1 ?_
  refine callsIn_of_wp_marks Tryd.func62 rfl trivial ?_ rfl
  simp only [Tryd.ntmps62, List.size_toArray, List.length_cons, List.length_nil, Nat.reduceAdd, Nat.reduceSub, Array.replicate_succ, Array.replicate_zero, List.push_toArray, List.append_toArray, List.nil_append, List.cons_append]
  gi_wp2_with (refine ⟨trivial, ?_⟩; gi_at_call 65; refine (callsIn_wide.2 (HLn.out _)).mono ?_; rintro e w' ⟨rfl, rfl⟩)
  generalize hW0 : (w1.alloc (.cells #[.slice (some ⟨w.heap.size, 0, none⟩) 0 (slots m).length] 47)) = W0 at *
  clear hW0 hrun
  generalize w1.heap.size = B at *
  refine range_some (n := 5) (gf := 64) (ba := #[.int .u64 m]) rfl (enters_of Tryd.func64 (by kernel_rfl) rfl) (slots m).length (fun k => .int .i64 (slotAt m k : Nat)) rfl
    (AlIn w B m) (fun c k W => False) (AlIn.steady (by omega)) ?hIx HI0.out (slots_tells 4 (by omega) m hm _ (fun k W h => h.t)) ?act1 ?assign ?body ?done ?stop
  case hIx => exact fun c k W W' r h ch hr nc => h
  case assign =>
    intro l k W K hK
    gi_wp2
    exact hK
  case body =>
    intro l k W hW hk
    obtain ⟨a, cap, c1, r1, g1⟩ := hW.row
    have f1 := hW.b.fz 0
    have hWc := hW.c.size
    have hWb := hW.b.lt
    have HW := Lib.hid hW
    have R1 := Lib.hid r1
    have G1 := Lib.hid g1
    have hv : slotV m k = .int .i64 (slotAt m k : Nat) := rfl
    have HV := Lib.hid hv
    clear hW r1 g1 hv
    refine wpIn_block ?_
    refine wpIn_region_lit (list_round (by rintro ⟨a, w, h⟩; exact h) _ (noDefer_list (by kernel_rfl)) _ _ ?_)
    have hXc : Ch Nil W (W.alloc (.cells #[.int .i64 (slotAt m k : Nat)] 3)) := (Ch.refl _ _).alloc _
    have R2 : Row (W.alloc (.cells #[.int .i64 (slotAt m k : Nat)] 3)) 3 1 a k cap (slotV m) := R1.out.kept hXc (fun _ _ e => e)
    have d1 := hXc.keeps c1 (fun e => e)
    have e1 := (hXc.frozen (p := ⟨B, 0, none⟩) hWb (fun e => e)).trans f1
    have HX := Lib.hid hXc
    have HR2 := Lib.hid R2
    clear hXc R2
    go_wp2_with (at_builtin; refine append_row _ rfl _ _ _ rfl 3 (.int .i64 0) 1 8 Tryd.underlying47 (by kernel_rfl) rfl (by omega) (by omega) rfl HR2.out (by omega) W.heap.size 1 [.int .i64 (slotAt m k : Nat)] 3 rfl rfl (heap_alloc_new W _) (by simp [Value.oneCell']) (slotV m) (fun _ _ => rfl) (by intro j u hu; obtain rfl : j = 0 := (by cases j; rfl; simp at hu); simp at hu; subst hu; simpa using HV.out) _ rfl ?_)
    intro g cap' w' row ch at_ lt
    have ROW := Lib.hid row
    have CH := Lib.hid ch
    have AT := Lib.hid at_
    have hbox : ¬ OwnS a B := fun e => (G1.out _ e).2 rfl
    have d2 := ch.keeps d1 hbox
    have e2 := (ch.frozen (p := ⟨B, 0, none⟩) (by simp; omega) hbox).trans e1
    clear row ch at_
    go_wp2
    have T0 : Ch (OwnS a) W w' := (HX.out.mono (fun _ _ e => e.elim)).trans CH.out
    have T : Ch (fun k => OwnS a k ∨ k = B) W (w'.setCell ⟨B, 0, none⟩ (.slice (some ⟨g, 0, none⟩) (k + 1) cap')) :=
      Ch.set (p := ⟨B, 0, none⟩) (T0.mono fun _ _ e => .inl e) (fun _ => .inr rfl) _
    have gt : w.heap.size ≤ g ∧ g ≠ B := by
      rcases AT.out with h | h
      · exact G1.out g h
      · omega
    refine ⟨Keeps.of_ch' T fun j hj => ?_, HW.out.t.keeps T ?_, ⟨_, cap', World.cell?_setCell_same _ _ _ d2, ?_, ?_⟩, (HW.out.b.kept T0 hbox).set _ _, HW.out.c.then T fun i hi e => ?_⟩
    · rcases hj with hj | rfl
      · exact .inr (Row.blk R1.out hj)
      · exact .inl (by omega)
    · rintro (e | e)
      · have := (G1.out _ e).1; have := HT.out; omega
      · omega
    · exact ROW.out.kept (S := One B) ((Ch.refl _ _).setB 0 _) (fun k e h => by cases e; simp at h; omega)
    · intro g' e; cases e; exact gt
    · rcases e with e | e
      · have := (G1.out i e).1; omega
      · omega
  case done =>
    intro D W hD hW hK
    have hput := (AlIn.steady (B := w.heap.size) (Nat.le_refl _)).put (.deferred none) hW (by omega) hK rfl
    obtain ⟨a, cap, c1, r1, g1⟩ := hW.row
    have R1 := Lib.hid (Row.steady r1 (Ch.put D (.deferred none)) (.of_loop hK rfl))
    have G1 := Lib.hid g1
    have HP := Lib.hid hput
    clear hW hput r1 g1
    gi_wp2
    refine ⟨by simp, .inl ⟨_, _, rfl, run_takeDeferred hK, ?_⟩⟩
    exact ⟨_, results_tmp rfl _ _ _, a, cap, rfl, R1.out, fun g hg => (G1.out g hg).1, HP.out.c⟩
  case stop => intro D c k W hD hk hW hK; exact hW.elim
end Go.Proofs.YtkfknafgknppdaaDoor
