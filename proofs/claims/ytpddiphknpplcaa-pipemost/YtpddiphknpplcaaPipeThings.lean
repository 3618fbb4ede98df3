/-
  A pipe's things, told one by one, at int: the iterator. Each thing of the channel is received and sent again.
-/
import Derived.Test.YtpddiphknpplcaaPipeMore
import Derived.Test.YtpddiphknpplcaaPListI6
import Derived.Test.YtpddiphknpplcaaRangeRot
import Derived.Sort.CutIn
namespace Go.Proofs.Ytpddiphknpplcaa.PI
open Go.RowKit Go.Conc Go.Shelf Verge
attribute [local go_sem] Oper.semAt_some
set_option linter.unusedVariables false
set_option linter.unusedSimpArgs false

/-- all things, in the order in which they will be taken -/
def thingAt (ch : List Int) (xs : List Nat) (V : Nat → Int) (i : Nat) : Int := (ch ++ xs.map V).getD i 0
/-- the channel when the first k have been received and sent again -/
def rotK (ch : List Int) (k : Nat) : List Int := ch.drop k ++ ch.take k
theorem rotK_zero (ch : List Int) : rotK ch 0 = ch := by simp [rotK]
theorem rotK_all (ch : List Int) : rotK ch ch.length = ch := by simp [rotK]
theorem rotK_at {ch : List Int} {k : Nat} (h : k < ch.length) : rotK ch k = ch[k] :: (ch.drop (k + 1) ++ ch.take k) := by
  unfold rotK; rw [List.drop_eq_getElem_cons h]; rfl
theorem rotK_next {ch : List Int} {k : Nat} (h : k < ch.length) : (ch.drop (k + 1) ++ ch.take k) ++ [ch[k]] = rotK ch (k + 1) := by
  unfold rotK; rw [List.append_assoc, List.take_append_getElem h]
theorem rotK_len (ch : List Int) (k : Nat) : (rotK ch k).length = ch.length := by simp [rotK]; omega
theorem thing_ch {ch : List Int} {xs : List Nat} {V : Nat → Int} {k : Nat} (h : k < ch.length) : thingAt ch xs V k = ch[k] := by
  unfold thingAt
  rw [List.getD_eq_getElem?_getD, List.getElem?_append_left h, List.getElem?_eq_getElem h]; rfl
theorem thing_xs {ch : List Int} {xs : List Nat} {V : Nat → Int} {k : Nat} (h : k < xs.length) : (.int .i64 (thingAt ch xs V (ch.length + k)) : Value) = valAt xs V k := by
  unfold thingAt valAt
  rw [List.getD_eq_getElem?_getD, List.getElem?_append_right (by omega), Nat.add_sub_cancel_left, List.getElem?_map, List.getD_eq_getElem?_getD, List.getElem?_eq_getElem h]; rfl

theorem Row.sameB {w w' : World} {e : TypeId} {size : Nat} {a : Option Addr} {n cap : Nat} {f : Nat → Value} (h : Row w e size a n cap f) (hb : ∀ g, OwnS a g → w'.heap[g]? = w.heap[g]?) : Row w' e size a n cap f := by
  refine ⟨h.1, ?_⟩
  rcases h.2 with hn' | ⟨g, cap', cur, hv, hb', hgg, rest⟩
  · exact .inl hn'
  · refine .inr ⟨g, cap', cur, hv, hb', ?_, rest⟩
    simp only [Value.slice.injEq] at hv
    exact (hb g (by rw [OwnS, hv.1]; rfl)).trans hgg
/-- a measure: how many are left -/
def upTo (N : Nat) : Value → Nat
  | .int _ z => N - z.toNat
  | _ => 0

set_option maxRecDepth 100000 in
set_option maxHeartbeats 2000000 in
theorem things_tells (n : Nat) (h1 : 1 ≤ n) (pb cb cap : Nat) (ch : List Int) (xs : List Nat) (V : Nat → Int) (m : Nat) (sh : Bool) (hcap : ch.length ≤ cap) (hl : ch.length ≤ 1000) (hx : xs.length ≤ 100000) (s0 r0 : Nat)
    (I : Nat → Obj → World → Prop) (hP : ∀ k c W, I k c W → IsL ⟨.chan (some cb), .int .i64 m, .bool sh⟩ W pb xs V ∧ W.heap[cb]? = some c) :
    TellsRot n Try.prog 31 (fun l => #[.pointer (some ⟨pb, 0, none⟩)] ++ #[.func (.yield l) #[] #[]]) (ch.length + xs.length) (fun k => .int .i64 (thingAt ch xs V k)) cb I
      (.chan cap (cbuf ch) false s0 r0 false) (fun c => ∃ s r, c = .chan cap (cbuf ch) false s r false) := by
  intro l J F W hJ hT hA hY h0
  obtain ⟨l0, q0⟩ := hP _ _ _ (hJ _ _ _ h0)
  have c0 := l0.h.c
  dsimp only at c0
  have hln := fun ty => len_chan ty cb cap s0 r0 (cbuf ch) false W q0
  rw [size_cbuf] at hln
  have HP := Lib.hid hP
  have HJ := Lib.hid hJ
  have HT := Lib.hid hT
  have HA := Lib.hid hA
  have HY := Lib.hid hY
  have H0 := Lib.hid h0
  clear hP hJ hT hA hY h0 l0 q0
  refine callsIn_of_wp Try.func31 rfl trivial ?_ rfl
  simp only [Try.ntmps31, List.size_toArray, List.length_cons, List.length_nil, Nat.reduceAdd, Nat.reduceSub, Array.replicate_succ, Array.replicate_zero, List.push_toArray, List.append_toArray, List.nil_append, List.cons_append]
  gi_wp2_with fail
  clear c0 hln
  gi_loopw [4, 15] (fun mo i wr => ∃ k : Nat, k ≤ ch.length ∧ i = .int .i64 k ∧ mo = .bool true ∧ ∃ s r, J k (.chan cap (cbuf (rotK ch k)) false s r false) wr) (fun _ i _ => upTo ch.length i)
  case atStart => exact ⟨0, by omega, rfl, rfl, s0, r0, by rw [rotK_zero]; exact H0.out⟩
  case round =>
    obtain ⟨k, hk, rfl, rfl, s, r, hj⟩ := hrel
    have HJ2 := Lib.hid hj
    clear hj
    by_cases hlt : k < ch.length
    · obtain ⟨x, hx0⟩ : ∃ x, x = ch[k] := ⟨_, rfl⟩
      obtain ⟨l1, q1⟩ := HP.out _ _ _ (HJ.out _ _ _ HJ2.out)
      rw [rotK_at hlt, ← hx0] at q1
      have hcb : cb ≠ pb := by
        rintro rfl
        obtain ⟨cs, t, hb⟩ := l1.h.k
        rw [hb] at q1; cases q1
      have hcb' : pb ≠ cb := fun e => hcb e.symm
      have c0 := l1.h.c
      dsimp only at c0
      have hb1 := q1
      have hq2 := heap_setChan wr cb cap (cbuf (ch.drop (k + 1) ++ ch.take k)) false s (r + 1) false (Array.getElem?_eq_some_iff.1 q1).1
      have c1 : (wr.setChan cb cap (cbuf (ch.drop (k + 1) ++ ch.take k)) false s (r + 1) false).cell? ⟨pb, 0, none⟩ = some (.chan (some cb)) := (chan_cell _ _ _ _ _ _ _ _ _ hcb').trans c0
      have ch1 : Ch (One cb) wr (wr.setChan cb cap (cbuf (ch.drop (k + 1) ++ ch.take k)) false s (r + 1) false) := (Ch.refl (One cb) wr).chan (fun _ => rfl) _ _ _ _ _ _
      have hJ1 := HT.out k _ _ _ _ HJ2.out ch1 hq2
      have hlen : (cbuf (ch.drop (k + 1) ++ ch.take k)).size < cap := by rw [size_cbuf]; simp; omega
      have hd0 := cbuf_head x (ch.drop (k + 1) ++ ch.take k)
      have hd1 := cbuf_tail x (ch.drop (k + 1) ++ ch.take k)
      have hsz0 : 0 < (cbuf (x :: (ch.drop (k + 1) ++ ch.take k))).size := by rw [size_cbuf]; simp
      have HJ3 := Lib.hid hJ1
      have D0 := Lib.hid hd0
      have D1 := Lib.hid hd1
      have HX0 := Lib.hid hx0
      have nx := rotK_next hlt
      rw [← hx0] at nx
      have NX := Lib.hid nx
      clear l1 q1 hJ1 hd0 hd1 hx0 ch1 hcb nx
      gi_upto_region 4 with (fail)
      refine wpIn_wide.2 ?_
      refine OpsTo.region ?_
      refine OpsTo.value rfl rfl (by go_simp; exact ⟨rfl, rfl⟩) ?_
      refine OpsTo.value rfl rfl (by go_simp; exact ⟨rfl, rfl⟩) ?_
      refine OpsTo.value rfl rfl (by go_simp; exact ⟨rfl, rfl⟩) ?_
      refine OpsTo.value rfl rfl (by go_simp; exact ⟨rfl, rfl⟩) ?_
      refine OpsTo.recv (c := cb) (z := .int .i64 0) rfl rfl (by simp [go_sem, execOp, rcase, Act.eval]) hb1 hsz0 ?_
      rw [D0.out, D1.out]
      clear hb1 c0
      generalize wr.setChan cb cap (cbuf (ch.drop (k + 1) ++ ch.take k)) false s (r + 1) false = W1 at *
      refine OpsTo.value rfl rfl (by go_simp; exact ⟨rfl, rfl⟩) ?_
      refine OpsTo.done ?_
      gi_upto_region 5 with (fail)
      refine wpIn_wide.2 ?_
      refine OpsTo.region ?_
      refine OpsTo.value rfl rfl (by go_simp; exact ⟨rfl, rfl⟩) ?_
      refine OpsTo.value rfl rfl (by go_simp; exact ⟨rfl, rfl⟩) ?_
      refine OpsTo.value rfl rfl (by go_simp; exact ⟨rfl, rfl⟩) ?_
      refine OpsTo.value rfl rfl (by go_simp; exact ⟨rfl, rfl⟩) ?_
      refine OpsTo.value rfl rfl (by go_simp; exact ⟨rfl, rfl⟩) ?_
      have hq3 := heap_setChan W1 cb cap (cbuf (rotK ch (k + 1))) false (s + 1) (r + 1) false (Array.getElem?_eq_some_iff.1 hq2).1
      have ch2 : Ch (One cb) W1 (W1.setChan cb cap (cbuf (rotK ch (k + 1))) false (s + 1) (r + 1) false) := (Ch.refl (One cb) W1).chan (fun _ => rfl) _ _ _ _ _ _
      have HJ4 := Lib.hid (HT.out k _ _ _ _ HJ3.out ch2 hq3)
      refine OpsTo.send (c := cb) (v := .int .i64 x) (z := .tuple #[]) rfl rfl (by simp [go_sem, execOp, scase, Act.eval]) hq2 hlen ?_
      rw [cbuf_push, NX.out]
      clear hq3 ch2 hq2 c1 hlen HJ3
      generalize W1.setChan cb cap (cbuf (rotK ch (k + 1))) false (s + 1) (r + 1) false = W2 at *
      refine OpsTo.done ?_
      obtain ⟨fn, tmps, assign, body, hy, hR⟩ := HY.out k _ W2 HJ4.out (by omega)
      simp only [thing_ch hlt, ← HX0.out] at hy
      have HR := Lib.hid hR
      clear hR
      gi_wp2
      refine HR.out.mono ?_
      rintro e W3 ⟨rfl, hJ5, -⟩
      have HJ5 := Lib.hid hJ5
      clear hJ5
      gi_wp2
      go_roundw
      case rel => exact ⟨k + 1, by omega, rfl, rfl, _, _, HJ5.out⟩
      case measure => simp [upTo]; omega
    · obtain rfl : k = ch.length := by omega
      have hj := HJ2.out
      rw [rotK_all] at hj
      have HJ3 := Lib.hid hj
      clear hj HJ2
      have L0 := Lib.hid (HP.out _ _ _ (HJ.out _ _ _ HJ3.out)).1
      gi_wp2_with (refine ⟨trivial, ?_⟩; gi_at_call 41; refine (callsIn_wide.2 (L0.out.all hx)).mono ?_; rintro e W1 ⟨a, cp, rfl, r1, g1, ch1⟩; have HR1 := Lib.hid r1; have HG1 := Lib.hid g1; have HC1 := Lib.hid ch1; clear r1 g1 ch1)
      have q0 := (HP.out _ _ _ (HJ.out _ _ _ HJ3.out)).2
      have hlt0 := (Array.getElem?_eq_some_iff.1 q0).1
      have HJ4 := Lib.hid (HT.out _ _ _ _ _ HJ3.out (HC1.out.mono (fun _ _ e => e.elim)) ((HC1.out.block cb hlt0 (fun e => e)).trans q0))
      have HF0 := Lib.hid (fun t ht => HA.out _ _ _ _ t HJ3.out HC1.out ht)
      clear q0 hlt0
      gi_loopw [4, 39] (fun mo i wr => ∃ j : Nat, j ≤ xs.length ∧ i = .int .i64 j ∧ mo = .bool true ∧ J (ch.length + j) (.chan cap (cbuf ch) false s r false) wr ∧ RowE wr a xs.length cp (valAt xs V) ∧ ∀ g, OwnS a g → F wr g) (fun _ i _ => upTo xs.length i)
      case atStart => exact ⟨0, by omega, rfl, rfl, HJ4.out, HR1.out, fun g hg => HF0.out g (HG1.out g hg)⟩
      case round =>
        obtain ⟨j, hj, rfl, rfl, hJ5, hrow, hfr⟩ := hrel
        have HJ5 := Lib.hid hJ5
        have HRow := Lib.hid hrow
        have HFr := Lib.hid hfr
        clear hJ5 hrow hfr HR1 HG1
        by_cases hlt2 : j < xs.length
        · obtain ⟨g, rfl, hg⟩ := HRow.out.form (by omega)
          have hc := HRow.out.cell j (by omega)
          have hv := thing_xs (ch := ch) (V := V) hlt2
          obtain ⟨x, hx0⟩ : ∃ x, x = thingAt ch xs V (ch.length + j) := ⟨_, rfl⟩
          rw [← hv, ← hx0] at hc
          obtain ⟨fn, tmps, assign, body, hy, hR⟩ := HY.out _ _ wr HJ5.out (by omega)
          simp only [← hx0] at hy
          have HR := Lib.hid hR
          clear hR hv hx0
          gi_wp2
          refine HR.out.mono ?_
          rintro e W3 ⟨rfl, hJ6, hk6⟩
          have HJ6 := Lib.hid hJ6
          have HK6 := Lib.hid hk6
          clear hJ6 hk6
          gi_wp2
          go_roundw
          case rel =>
            have hk := fun t ht => HK6.out t (HRow.out.lt t ht) (HFr.out t ht)
            exact ⟨j + 1, by omega, rfl, rfl, HJ6.out, Row.sameB HRow.out (fun t ht => (hk t ht).1), fun t ht => (hk t ht).2⟩
          case measure => simp [upTo]; omega
        · obtain rfl : j = xs.length := by omega
          gi_wp2
          go_end0
          exact ⟨⟨_, rfl⟩, _, ⟨_, _, rfl⟩, HJ5.out⟩
end Go.Proofs.Ytpddiphknpplcaa.PI
