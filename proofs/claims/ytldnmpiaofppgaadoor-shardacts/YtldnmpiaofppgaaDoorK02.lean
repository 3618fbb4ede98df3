import Derived.Test.YtldnmpiaofppgaaDoorK01
import Derived.Shelf.Abstract
import Derived.Shelf.RegionOpen
import Derived.WalkKit
import Derived.OwnWalkIn
import Derived.TacticsInMore
import Derived.LoopNIn
import Derived.LoopIn
import Derived.Laws.OwnMore
import Derived.Deep.AppendLies
import Derived.OrdersIn
import Derived.RegionTactic
import Derived.Lib.LaidTab
import Derived.Lib.TrailingZeros
import Derived.ProofKit
import Derived.LaidMore
import Derived.OpenShut
import Derived.Stop.Joined
import Derived.Laws.Bits64b
/-
  A list's nodes, told one by one, at *verge/wheel.Entry[verge/api.Task]: the iterator.
-/
namespace Go.Proofs.YtldnmpiaofppgaaDoor.LT
open Go.RowKit Go.Shelf Verge
attribute [local go_sem] Oper.semAt_some
set_option linter.unusedVariables false
set_option linter.unusedSimpArgs false

/-- how many are left, by the one that comes -/
def left (xs : List Nat) : Value → Nat
  | .pointer (some a) => xs.length - xs.idxOf a.block
  | _ => 0
theorem left_at {xs : List Nat} (nd : ∀ (i j b : Nat), xs[i]? = some b → xs[j]? = some b → i = j) {k b : Nat} (h : xs[k]? = some b) : left xs (pt (some b)) = xs.length - k := by
  have hm := List.mem_of_getElem? h
  have := nd (xs.idxOf b) k b (by rw [List.getElem?_eq_getElem (List.idxOf_lt_length_of_mem hm), List.getElem_idxOf]) h
  simp [left, this]

set_option maxRecDepth 100000 in
set_option maxHeartbeats 1000000 in
theorem nodes_tells (n : Nat) (h1 : 1 ≤ n) (lb : Nat) (xs : List Nat) (nd : ∀ (i j b : Nat), xs[i]? = some b → xs[j]? = some b → i = j) (I : Nat → World → Prop)
    (hF : ∀ W, I 0 W → W.cell? ⟨lb, 0, none⟩ = some (pt xs[0]?)) (hB : ∀ k W b, I k W → xs[k]? = some b → W.cell? ⟨b, 3, none⟩ = some (pt xs[k + 1]?)) :
    TellsAll n Tryd.prog 83 (fun l => #[.pointer (some ⟨lb, 0, none⟩)] ++ #[.func (.yield l) #[] #[]]) xs.length (fun k => pt xs[k]?) I := by
  intro l J W hJ hY h0
  have HF := Lib.hid (hF W (hJ 0 W h0))
  have HB := Lib.hid hB
  have HJ := Lib.hid hJ
  have HY := Lib.hid hY
  have H0 := Lib.hid h0
  have ND := Lib.hid nd
  obtain ⟨p0, hp0⟩ : ∃ p0, p0 = pt xs[0]? := ⟨_, rfl⟩
  have HP0 := Lib.hid hp0
  clear hp0
  clear hF hB hJ hY h0 nd
  refine callsIn_of_wp Tryd.func83 rfl trivial ?_ rfl
  simp only [Tryd.ntmps83, List.size_toArray, List.length_cons, List.length_nil, Nat.reduceAdd, Nat.reduceSub, Array.replicate_succ, Array.replicate_zero, List.push_toArray, List.append_toArray, List.nil_append, List.cons_append]
  gi_wp2_with (refine ⟨trivial, ?_⟩; gi_at_call 99; refine (callsIn_wide.2 (first_of lb xs[0]? _ HF.out)).mono ?_; rw [← HP0.out]; rintro e w' ⟨rfl, rfl⟩)
  gi_loopw [4, 5] (fun p m wr => ∃ k : Nat, k ≤ xs.length ∧ p = pt xs[k]? ∧ m = .bool true ∧ J k wr) (fun p _ _ => left xs p)
  case atStart => exact ⟨0, by omega, HP0.out, rfl, H0.out⟩
  case round =>
    obtain ⟨k, hk, rfl, rfl, hj⟩ := hrel
    have HJ2 := Lib.hid hj
    clear hj
    by_cases hlt : k < xs.length
    · obtain ⟨b, hb⟩ : ∃ b, xs[k]? = some b := ⟨_, List.getElem?_eq_getElem hlt⟩
      have hc := HB.out k wr b (HJ.out k wr HJ2.out) hb
      obtain ⟨fn, tmps, assign, body, hy, hR⟩ := HY.out k wr HJ2.out hlt
      simp only [hb, pt_some] at hy
      have HR := Lib.hid hR
      have HBK := Lib.hid hb
      have hm := left_at ND.out hb
      have HM := Lib.hid hm
      clear hR hm
      rw [hb]
      simp only [pt_some]
      rcases hn : xs[k + 1]? with _ | q
      · rw [hn] at hc
        have HN := Lib.hid hn
        clear hn hb
        simp only [pt_some, pt_none] at hc
        gi_wp2
        refine HR.out.mono ?_
        rintro e W3 ⟨rfl, hJ3⟩
        have HJ3 := Lib.hid hJ3
        clear hJ3
        gi_wp2
        go_roundw
        case rel => exact ⟨k + 1, by omega, by rw [HN.out]; rfl, rfl, HJ3.out⟩
        case measure =>
          have := HM.out
          simp only [pt_some] at this
          rw [this]
          show 0 < _
          omega
      · rw [hn] at hc
        have HN := Lib.hid hn
        clear hn hb
        simp only [pt_some, pt_none] at hc
        gi_wp2
        refine HR.out.mono ?_
        rintro e W3 ⟨rfl, hJ3⟩
        have HJ3 := Lib.hid hJ3
        clear hJ3
        gi_wp2
        go_roundw
        case rel => exact ⟨k + 1, by omega, by rw [HN.out]; rfl, rfl, HJ3.out⟩
        case measure =>
          have h1 := HM.out
          have h2 := left_at ND.out HN.out
          have h3 := (List.getElem?_eq_some_iff.1 HN.out).1
          simp only [pt_some] at h1 h2
          rw [h1, h2]
          omega
    · obtain rfl : k = xs.length := by omega
      rw [List.getElem?_eq_none (Nat.le_refl _)]
      simp only [pt_none]
      gi_wp2
      go_end0
      exact ⟨⟨_, rfl⟩, HJ2.out⟩

theorem nodes_nil (n : Nat) (h1 : 1 ≤ n) (I : Nat → World → Prop) :
    TellsAll n Tryd.prog 83 (fun l => #[.pointer none] ++ #[.func (.yield l) #[] #[]]) 0 (fun k => .pointer none) I := by
  intro l J W hJ hY h0
  have H0 := Lib.hid h0
  clear hJ hY h0
  refine callsIn_of_wp Tryd.func83 rfl trivial ?_ rfl
  simp only [Tryd.ntmps83, List.size_toArray, List.length_cons, List.length_nil, Nat.reduceAdd, Nat.reduceSub, Array.replicate_succ, Array.replicate_zero, List.push_toArray, List.append_toArray, List.nil_append, List.cons_append]
  gi_wp2_with (refine ⟨trivial, ?_⟩; gi_at_call 99; refine (callsIn_wide.2 (first_nil _)).mono ?_; rintro e w' ⟨rfl, rfl⟩)
  gi_loopw [4, 5] (fun p m wr => p = .pointer none ∧ m = .bool true ∧ wr = W) (fun _ _ _ => 0)
  case atStart => exact ⟨rfl, rfl, rfl⟩
  case round =>
    obtain ⟨rfl, rfl, rfl⟩ := hrel
    gi_wp2
    go_end0
    exact ⟨⟨_, rfl⟩, H0.out⟩
end Go.Proofs.YtldnmpiaofppgaaDoor.LT

/-
  Contract of package list's Splice at *verge/wheel.Entry[verge/api.Task].
-/
namespace Go.Proofs.YtldnmpiaofppgaaDoor.LT
open Go.RowKit Go.Shelf Verge
attribute [local go_sem] Oper.semAt_some
set_option linter.unusedVariables false
set_option linter.unusedSimpArgs false

section
variable {S : Nat → Prop} {w w' : World} {lb ob b : Nat} {xs ys : List Nat} {V : Nat → Nat}
theorem NoCells.blk {W : World} {r k : Nat} (h : NoCells W r) (hb : Blk W k) : k ≠ r := by obtain ⟨cs, t, hb⟩ := hb; exact h.row hb
theorem IsL.steady (h : IsL w lb xs V) {r : Nat} (c : Ch (One r) w w') (hr : NoCells w r) : IsL w' lb xs V :=
  h.kept c fun k hk => NoCells.blk hr (h.blk hk)
theorem Keeps.of_ch {B : Nat} (c : Ch S w w') (hS : ∀ k, S k → k < B) : KeepsFrom B w w' :=
  ⟨c.size, fun k o hB hk ho => (c.block k (Array.getElem?_eq_some_iff.1 hk).1 fun hs => by have := hS k hs; omega).trans hk⟩
theorem Ch.late {r : Nat} {a : World} (h : Ch S a w) (c : Ch (One r) w w') (hr : a.heap.size ≤ r) : Ch S a w' :=
  h.then c fun i hi e => by subst e; omega

/-- between two rounds of Splice -/
structure SpIn (w : World) (lb ob : Nat) (xs ys : List Nat) (V : Nat → Nat) (k : Nat) (W : World) : Prop where
  o : IsL W ob (ys.drop k) V
  l : IsL W lb (xs ++ ys.take k) V
  bl : W.cell? ⟨w.heap.size, 0, none⟩ = some (.pointer (some ⟨lb, 0, none⟩))
  bo : W.cell? ⟨w.heap.size + 1, 0, none⟩ = some (.pointer (some ⟨ob, 0, none⟩))
  c : Ch (fun k => LB lb xs k ∨ LB ob ys k) w W
theorem SpIn.steady {B : Nat} (hB : w.heap.size ≤ B) : Steady B (SpIn w lb ob xs ys V) :=
  fun k W W' r h c hr nc => ⟨h.o.steady c nc, h.l.steady c nc, c.keeps h.bl (fun e => nc.cell h.bl e), c.keeps h.bo (fun e => nc.cell h.bo e), Ch.late h.c c (by omega)⟩

theorem drop_succ {ys : List Nat} {k : Nat} : (ys.drop k).eraseIdx 0 = ys.drop (k + 1) := by
  rw [List.eraseIdx_zero, List.tail_drop]
theorem take_succ {ys : List Nat} {k b : Nat} (h : ys[k]? = some b) : ys.take (k + 1) = ys.take k ++ [b] := by
  rw [List.take_add_one, h]; rfl

end
end Go.Proofs.YtldnmpiaofppgaaDoor.LT

/-
  A slice that the call owns, as its cells: kept, read, written, appended to.
-/
namespace Go.Proofs.YtldnmpiaofppgaaDoor
open Go.RowKit
set_option linter.unusedVariables false

/-- the block of a slice's row, if it has one -/
def OwnS (a : Option Addr) : Nat → Prop := fun k => a.map (·.block) = some k
/-- a slice of n elements of 'size' cells, the i-th cell f i -/
def Row (w : World) (e : TypeId) (size : Nat) (a : Option Addr) (n cap : Nat) (f : Nat → Value) : Prop :=
  w.ownsRow 0 e size (.slice a n cap) n ((List.range (n * size)).map f)
section
variable {w w' : World} {e : TypeId} {size : Nat} {a : Option Addr} {n cap : Nat} {f : Nat → Value} {S : Nat → Prop}
theorem Row.nil (w : World) (e : TypeId) (size : Nat) (f : Nat → Value) : Row w e size none 0 0 f := by
  unfold Row; simpa using World.ownsRow_nil w 0 e size
theorem Row.congr (h : Row w e size a n cap f) (g : Nat → Value) (hg : ∀ i, i < n * size → g i = f i) : Row w e size a n cap g := by
  unfold Row
  rw [List.map_congr_left (g := f) (fun i hi => hg i (List.mem_range.1 hi))]
  exact h
theorem Row.lt (h : Row w e size a n cap f) : ∀ k, OwnS a k → k < w.heap.size := by
  intro k hk
  refine (World.ownsRow.lt (v := .slice a n cap) h k ?_).2
  cases a with
  | none => simp [OwnS] at hk
  | some x => simpa [Value.ownBlock, OwnS] using hk
theorem Row.kept (h : Row w e size a n cap f) (c : Ch S w w') (hn : ∀ k, OwnS a k → ¬ S k) : Row w' e size a n cap f := by
  refine ⟨h.1, ?_⟩
  rcases h.2 with hn' | ⟨g, cap', cur, hv, hb, hgg, rest⟩
  · exact .inl hn'
  · refine .inr ⟨g, cap', cur, hv, hb, ?_, rest⟩
    simp only [Value.slice.injEq] at hv
    rw [c.block g (Array.getElem?_eq_some_iff.1 hgg).1 (hn g (by rw [OwnS, hv.1]; rfl))]
    exact hgg
theorem Row.form (h : Row w e size a n cap f) (hn : 0 < n) : ∃ g, a = some ⟨g, 0, none⟩ ∧ g < w.heap.size := by
  obtain ⟨g, cap', hv, -, hlt⟩ := World.ownsRow.form h hn
  simp only [Value.slice.injEq] at hv
  exact ⟨g, hv.1, hlt⟩
theorem Row.len_cap (h : Row w e size a n cap f) : n ≤ cap ∧ cap ≤ maxLen := by
  rcases h.2 with ⟨hv, h0⟩ | ⟨g, cap', cur, hv, hb, hgg, h1, h2, -⟩
  · simp only [Value.slice.injEq] at hv
    obtain ⟨-, rfl, rfl⟩ := hv
    exact ⟨Nat.le_refl _, Nat.zero_le _⟩
  · simp only [Value.slice.injEq] at hv
    obtain ⟨-, -, rfl⟩ := hv
    exact ⟨h1, h2⟩
theorem Row.cell {g : Nat} (h : Row w e size (some ⟨g, 0, none⟩) n cap f) (i : Nat) (hi : i < n * size) : w.cell? ⟨g, i, none⟩ = some (f i) := by
  have := World.ownsRow.cells h (g := g) rfl i (f i) (by simp [hi])
  have hadd : (⟨g, 0, none⟩ : Addr).add i = ⟨g, i, none⟩ := by unfold Addr.add; split <;> simp_all
  rwa [hadd] at this
theorem Row.frozen {g : Nat} (h : Row w e size (some ⟨g, 0, none⟩) n cap f) (i : Nat) : w.frozen? ⟨g, i, none⟩ = false := by
  rcases h.2 with ⟨hv, -⟩ | ⟨g', cap', cur, hv, hb, hgg, -⟩
  · simp at hv
  · simp only [Value.slice.injEq, Option.some.injEq, Addr.mk.injEq, and_true, true_and] at hv
    obtain ⟨rfl, -⟩ := hv
    unfold World.frozen?
    simp [hgg]
theorem Row.set {g : Nat} (h : Row w e size (some ⟨g, 0, none⟩) n cap f) (i : Nat) (hi : i < n * size) (u : Value) (f' : Nat → Value) (h1 : f' i = u) (h2 : ∀ j, j ≠ i → f' j = f j) :
    Row (w.setCell ⟨g, i, none⟩ u) e size (some ⟨g, 0, none⟩) n cap f' := by
  have := (World.ownsRow.stored h i u).1
  unfold Row
  rw [show (List.range (n * size)).map f' = ((List.range (n * size)).map f).set i u from ?_]
  · exact this
  · apply List.ext_getElem
    · simp
    · intro j hj1 hj2
      simp only [List.getElem_map, List.getElem_range, List.getElem_set]
      split
      · rename_i e; subst e; exact h1
      · rename_i e; exact h2 j (fun x => e x.symm)
theorem Ch.of_grown {row : Option Nat} (h : w.grownBy w' row) : Ch (fun k => row = some k) w w' :=
  ⟨h.os, h.tape, h.output, h.size, fun k hk hn => h.block k hk (fun e => hn e.symm)⟩
end

/-- append of one element, for the walk -/
theorem append_row {P : Program} (w : World) {ops : Array Oper} {rest : List Oper} {o : Oper} {act : Act} {Q : Exit → Act → World → Prop} (hgd : o.guard = none) (s x : Operand) (t : TypeId)
    (ho : o.op = .call { callee := .builtin .append, args := #[s, x], argTypes := #[t, t] })
    (e : TypeId) (z : Value) (size bytes : Nat) (ht : P.underlying t = some (.slice e)) (hi : (P.info? e).map (fun i => (i.zero, i.size, i.bytes)) = some (some z, size, bytes))
    (hzs : z.cells.size = size) (hsz : 0 < size) (hby : bytes ≤ 1000)
    {a : Option Addr} {n cap : Nat} {f : Nat → Value} (hs : act.eval s = .slice a n cap) (hrow : Row w e size a n cap f) (hn : n ≤ 1000000)
    (B c : Nat) (news : List Value) (T : TypeId) (hx : act.eval x = .slice (some ⟨B, 0, none⟩) 1 c) (hl : news.length = size) (hb : w.heap[B]? = some (.cells news.toArray T (0, 0))) (h1 : ∀ u ∈ news, u.oneCell' = true)
    (f' : Nat → Value) (hf : ∀ i, i < n * size → f' i = f i) (hf2 : ∀ j u, news[j]? = some u → f' (n * size + j) = u) (H : Nat) (hH : w.heap.size = H)
    (h : ∀ g cap' w', Row w' e size (some ⟨g, 0, none⟩) (n + 1) cap' f' → Ch (OwnS a) w w' → (OwnS a g ∨ g = H) → g < w'.heap.size → wpList P ops Q rest (act.put o.dst (.slice (some ⟨g, 0, none⟩) (n + 1) cap')) w') : wpList P ops Q (o :: rest) act w := by
  obtain ⟨i, hi', he⟩ := Option.map_eq_some_iff.1 hi
  simp only [Prod.mk.injEq] at he
  obtain ⟨hz, hsize, hbytes⟩ := he
  have hlist : (List.range ((n + 1) * size)).map f' = (List.range (n * size)).map f ++ news := by
    apply List.ext_getElem
    · simp [hl, Nat.add_mul]
    · intro j hj1 hj2
      rw [List.getElem_map, List.getElem_range]
      by_cases hj : j < n * size
      · rw [List.getElem_append_left (by simpa using hj)]
        simp only [List.getElem_map, List.getElem_range]
        exact hf j hj
      · rw [List.getElem_append_right (by simpa using hj)]
        have hj3 : j - n * size < news.length := by
          simp [Nat.add_mul] at hj1; omega
        have := hf2 (j - n * size) _ (List.getElem?_eq_getElem hj3)
        rw [show n * size + (j - n * size) = j by omega] at this
        rw [this]
        congr 1
        simp
  have hob : (Value.slice a n cap).ownBlock = a.map (·.block) := by cases a <;> rfl
  refine wpList_append_lies w hgd s x t ho 0 e i z size bytes ht hi' hz hsize hbytes hzs hsz _ n _ hs hrow ⟨B, 0, none⟩ 1 c news hx (by omega) ?_ h1 (by omega) ?_ ?_ (Nat.zero_le _) H hH ?_
  · have := World.news_of_block hb
    simpa using this
  · simp only [maxLen]; omega
  · have : (n + 1) * bytes ≤ 1000001 * 1000 := Nat.mul_le_mul (by omega) hby
    omega
  · intro g cap' w1 hown hgrow hat hlt
    rw [hob] at hgrow hat
    refine h g cap' w1 ?_ (Ch.of_grown hgrow) hat hlt
    unfold Row
    rw [hlist]
    exact hown
end Go.Proofs.YtldnmpiaofppgaaDoor

/-
  A region that draws its order, in a round of a range over a function: its reading head in the text's order, its tail walked as anywhere.
-/
namespace Go.Proofs.YtldnmpiaofppgaaDoor
open Go.RowKit
set_option linter.unusedVariables false

/-- a round's frame carries out what is no defer statement as every frame does -/
theorem op_round {P : Program} {ops : Array Oper} {Q : Exit → Act → World → Prop} {l n i : Nat} {K K' : Act → World → Prop} (hK : ∀ a w, K a w → K' a w) (hL : ¬ LetsOut Q)
    (hd : ∀ (i : Nat) (o : Oper) c, ops[i]? = some o → o.op ≠ .defer c) {a : Act} {w : World} (h : wpOp P ops Q i K a w) : wpOpIn (Fence.wide.inRound l) n P ops Q i K' a w := by
  unfold wpOp at h
  unfold wpOpIn
  cases ho : ops[i]? with
  | none => rw [ho] at h; exact hK _ _ h
  | some o =>
    rw [ho] at h
    simp only at h ⊢
    split at h
    · rename_i hw
      rw [if_pos hw]
      rcases h with h | ⟨-, h⟩
      · refine ⟨fun _ _ => trivial, ?_⟩
        rw [Oper.semAt_eq _ _ _ (fun c => hd i o c ho)]
        unfold Oper.wp at h
        generalize (execOp a.eval o).run P w = r at h
        cases r with
        | ok x w' =>
          cases x with
          | value v => exact hK _ _ h
          | skip => exact hK _ _ h
          | defer d => exact hK _ _ h
          | enter f args =>
            refine ⟨fun h => (by cases h), CallsIn.inRound l (callsIn_wide.2 (Calls.mono h ?_))⟩
            intro e w'' he
            cases e with
            | returned v => exact hK _ _ he
            | panicked c => exact he
            | outgrown => exact he
          | row row args =>
            refine ⟨fun h => (by cases h), fun c cs _ => ?_⟩
            obtain ⟨v, w'', hr, hs⟩ := h c cs
            exact ⟨v, w'', hK _ _ hr, stepsIn_wide.2 hs⟩
          | _ => exact h.elim
        | halt x w' => cases x <;> first | exact h | exact h.elim
      · exact absurd h hL
    · rename_i hw
      rw [if_neg hw]
      exact ⟨fun _ _ => trivial, hK _ _ h⟩

theorem any_round {P : Program} {ops : Array Oper} {md : Region.Mode} {Q : Exit → Act → World → Prop} {l n : Nat} (hL : ¬ LetsOut Q) (hd : ∀ (i : Nat) (o : Oper) c, ops[i]? = some o → o.op ≠ .defer c) :
    ∀ (g : Nat) (listed : Array Bool) (a : Act) (w : World), wpAny P md ops Q g listed a w → wpAnyIn (Fence.wide.inRound l) n P md ops Q g listed a w
  | 0, _, _, _, h => h
  | g + 1, _, _, _, h => ⟨h.1, fun i hi => op_round (fun a' w' h' => any_round hL hd g _ a' w' h') hL hd (h.2 i hi)⟩

/-- no operation is a defer statement -/
def noDefer (ops : Array Oper) : Bool := ops.all fun o => match o.op with | .defer _ => false | _ => true
theorem noDefer_spec {ops : Array Oper} (h : noDefer ops = true) (i : Nat) (o : Oper) (c : Call) (ho : ops[i]? = some o) : o.op ≠ .defer c := by
  intro e
  obtain ⟨hi, hg⟩ := Array.getElem?_eq_some_iff.1 ho
  have := Array.all_eq_true.1 h i hi
  rw [hg, e] at this
  cases this

/-- append of one element, at a step of a region that draws its order -/
theorem step_row {P : Program} {w : World} {ops : Array Oper} {o : Oper} {act : Act} {K : Act → World → Prop} {Q : Exit → Act → World → Prop} {E : Prop} (hgd : o.guard = none) (s x : Operand) (t : TypeId)
    (ho : o.op = .call { callee := .builtin .append, args := #[s, x], argTypes := #[t, t] })
    (e : TypeId) (z : Value) (size bytes : Nat) (ht : P.underlying t = some (.slice e)) (hi : (P.info? e).map (fun i => (i.zero, i.size, i.bytes)) = some (some z, size, bytes))
    (hzs : z.cells.size = size) (hsz : 0 < size) (hby : bytes ≤ 1000)
    {a : Option Addr} {n cap : Nat} {f : Nat → Value} (hs : act.eval s = .slice a n cap) (hrow : Row w e size a n cap f) (hn : n ≤ 1000000)
    (B c : Nat) (news : List Value) (T : TypeId) (hx : act.eval x = .slice (some ⟨B, 0, none⟩) 1 c) (hl : news.length = size) (hb : w.heap[B]? = some (.cells news.toArray T (0, 0))) (h1 : ∀ u ∈ news, u.oneCell' = true)
    (f' : Nat → Value) (hf : ∀ i, i < n * size → f' i = f i) (hf2 : ∀ j u, news[j]? = some u → f' (n * size + j) = u) (H : Nat) (hH : w.heap.size = H)
    (h : ∀ g cap' w', Row w' e size (some ⟨g, 0, none⟩) (n + 1) cap' f' → Ch (OwnS a) w w' → (OwnS a g ∨ g = H) → g < w'.heap.size → K (act.put o.dst (.slice (some ⟨g, 0, none⟩) (n + 1) cap')) w') :
    if Region.wanted o (yielded ops act.tmps) = true then Oper.wp P o act w K Q else E := by
  obtain ⟨i, hi', he⟩ := Option.map_eq_some_iff.1 hi
  simp only [Prod.mk.injEq] at he
  obtain ⟨hz, hsize, hbytes⟩ := he
  have hlist : (List.range ((n + 1) * size)).map f' = (List.range (n * size)).map f ++ news := by
    apply List.ext_getElem
    · simp [hl, Nat.add_mul]
    · intro j hj1 hj2
      rw [List.getElem_map, List.getElem_range]
      by_cases hj : j < n * size
      · rw [List.getElem_append_left (by simpa using hj)]
        simp only [List.getElem_map, List.getElem_range]
        exact hf j hj
      · rw [List.getElem_append_right (by simpa using hj)]
        have hj3 : j - n * size < news.length := by
          simp [Nat.add_mul] at hj1; omega
        have := hf2 (j - n * size) _ (List.getElem?_eq_getElem hj3)
        rw [show n * size + (j - n * size) = j by omega] at this
        rw [this]
        congr 1
        simp
  have hob : (Value.slice a n cap).ownBlock = a.map (·.block) := by cases a <;> rfl
  refine step_append_lies w hgd s x t ho 0 e i z size bytes ht hi' hz hsize hbytes hzs hsz _ n _ hs hrow ⟨B, 0, none⟩ 1 c news hx (by omega) ?_ h1 (by omega) ?_ ?_ (Nat.zero_le _) H hH ?_
  · have := World.news_of_block hb
    simpa using this
  · simp only [maxLen]; omega
  · have : (n + 1) * bytes ≤ 1000001 * 1000 := Nat.mul_le_mul (by omega) hby
    omega
  · intro g cap' w1 hown hgrow hat hlt
    rw [hob] at hgrow hat
    refine h g cap' w1 ?_ (Ch.of_grown hgrow) hat hlt
    unfold Row
    rw [hlist]
    exact hown
end Go.Proofs.YtldnmpiaofppgaaDoor

/-
  Contracts of package list's All and Drain at *verge/wheel.Entry[verge/api.Task]: the values, in order.
-/
namespace Go.Proofs.YtldnmpiaofppgaaDoor.LT
open Go.RowKit Go.Shelf Verge
attribute [local go_sem] Oper.semAt_some
set_option linter.unusedVariables false
set_option linter.unusedSimpArgs false

/-- the value of the i-th node -/
def valAt (xs : List Nat) (V : Nat → Nat) (i : Nat) : Value := .pointer (some ⟨V (xs.getD i 0), 0, none⟩)
/-- a row of values of one's own -/
abbrev RowE (w : World) (a : Option Addr) (n cap : Nat) (f : Nat → Value) : Prop := Row w 76 1 a n cap f
section
variable {S : Nat → Prop} {w w' : World} {lb ob b : Nat} {xs ys : List Nat} {V : Nat → Nat}
theorem Row.blk {e : TypeId} {size : Nat} {a : Option Addr} {n cap : Nat} {f : Nat → Value} (h : Row w e size a n cap f) {g : Nat} (hg : OwnS a g) : ∃ cs t z, w.heap[g]? = some (.cells cs t z) := by
  rcases h.2 with ⟨hv, -⟩ | ⟨g', cap', cur, hv, hb, hgg, -⟩
  · simp only [Value.slice.injEq] at hv; rw [OwnS, hv.1] at hg; cases hg
  · simp only [Value.slice.injEq] at hv
    rw [OwnS, hv.1] at hg
    cases hg
    exact ⟨_, _, _, hgg⟩
theorem Row.steady {e : TypeId} {size : Nat} {a : Option Addr} {n cap : Nat} {f : Nat → Value} (h : Row w e size a n cap f) {r : Nat} (c : Ch (One r) w w') (hr : NoCells w r) : Row w' e size a n cap f :=
  h.kept c fun k hk => by obtain ⟨cs, t, z, hb⟩ := Row.blk h hk; exact hr.row hb

theorem Keeps.of_ch' {B : Nat} (c : Ch S w w') (hS : ∀ k, S k → k < B ∨ ∃ cs t z, w.heap[k]? = some (.cells cs t z)) : KeepsFrom B w w' :=
  ⟨c.size, fun k o hB hk ho => (c.block k (Array.getElem?_eq_some_iff.1 hk).1 fun hs => by
    rcases hS k hs with h | ⟨cs, t, z, h⟩
    · omega
    · rw [h] at hk; cases hk; cases ho).trans hk⟩

/-- between two rounds of All -/
structure AlIn (w : World) (lb : Nat) (xs : List Nat) (V : Nat → Nat) (k : Nat) (W : World) : Prop where
  l : IsL W lb xs V
  row : ∃ a cap, W.cell? ⟨w.heap.size, 0, none⟩ = some (.slice a k cap) ∧ RowE W a k cap (valAt xs V) ∧ ∀ g, OwnS a g → w.heap.size < g
  b : Blk W w.heap.size
  c : Ch Nil w W
theorem AlIn.steady {B : Nat} (hB : w.heap.size ≤ B) : Steady B (AlIn w lb xs V) := fun k W W' r h c hr nc => by
  obtain ⟨a, cap, h1, h2, h3⟩ := h.row
  exact ⟨h.l.steady c nc, ⟨a, cap, c.keeps h1 (fun e => nc.cell h1 e), Row.steady h2 c nc, h3⟩, h.b.kept c (NoCells.blk nc h.b), Ch.late h.c c (by omega)⟩

set_option maxRecDepth 100000 in
set_option maxHeartbeats 1000000 in
theorem IsL.all (h : IsL w lb xs V) (hs : xs.length ≤ 100000) :
    Calls Tryd.prog 90 #[.pointer (some ⟨lb, 0, none⟩)] w fun e w' => ∃ a cap, e = .returned (.slice a xs.length cap) ∧ RowE w' a xs.length cap (valAt xs V) ∧ (∀ g, OwnS a g → w.heap.size ≤ g) ∧ Ch Nil w w' := by
  have hI0 : AlIn w lb xs V 0 (w.alloc (.cells #[.slice none 0 0] 80)) :=
    ⟨h.kept (S := Nil) ((Ch.refl _ _).alloc _) (fun _ _ e => e), ⟨none, 0, by simp [cell_fresh], Row.nil _ _ _ _, fun g hg => by cases hg⟩, Blk.new _ _ _, (Ch.refl _ _).alloc _⟩
  have hlt : ∀ k, LB lb xs k → k < w.heap.size := fun k hk => h.lt hk
  have HI0 := Lib.hid hI0
  have HL := Lib.hid hlt
  have ND := Lib.hid h.nd
  have hsz : (w.alloc (.cells #[.slice none 0 0] 80)).heap.size = w.heap.size + 1 := by simp
  clear hI0 hlt h
  refine (callsIn_wide (n := 5)).1 ?_
  refine callsIn_of_wp_marks Tryd.func90 rfl trivial ?_ rfl
  simp only [Tryd.ntmps90, List.size_toArray, List.length_cons, List.length_nil, Nat.reduceAdd, Nat.reduceSub, Array.replicate_succ, Array.replicate_zero, List.push_toArray, List.append_toArray, List.nil_append, List.cons_append]
  gi_wp2
  generalize hW0 : (w.alloc (.cells #[.slice none 0 0] 80)) = W0 at *
  clear hW0
  refine range_all (n := 5) (gf := 83) (ba := #[.pointer (some ⟨lb, 0, none⟩)]) rfl (enters_of Tryd.func83 (by kernel_rfl) rfl) xs.length (fun k => pt xs[k]?) rfl
    (AlIn w lb xs V) (AlIn.steady (by omega)) HI0.out (nodes_tells 4 (by omega) lb xs ND.out _ ?hF ?hN) ?act1 ?assign ?body ?done
  case hF => intro W hW; exact hW.l.h.f
  case hN => intro k W b hW hk; exact (hW.l.n k b hk).z
  case assign =>
    intro l k W K hK
    gi_wp2
    exact hK
  case body =>
    intro l k W hW hk
    obtain ⟨b, hb⟩ : ∃ b, xs[k]? = some b := ⟨_, List.getElem?_eq_getElem hk⟩
    rw [hb, pt_some]
    obtain ⟨a, cap, c1, r1, g1⟩ := hW.row
    have c2 := (hW.l.n k b hb).v
    have hv : valAt xs V k = .pointer (some ⟨V b, 0, none⟩) := by unfold valAt; rw [List.getD_eq_getElem?_getD, hb]; rfl
    have f1 := hW.b.fz 0
    have hWc := hW.c.size
    have hWb := hW.b.lt
    have HW := Lib.hid hW
    have R1 := Lib.hid r1
    have G1 := Lib.hid g1
    have HV := Lib.hid hv
    clear hW hb r1 g1 hv
    gi_wp2
    refine wpIn_region_any (by kernel_rfl) (any_round (by rintro ⟨a, w, h⟩; exact h) (noDefer_spec (by kernel_rfl)) _ _ _ _ ?_)
    change wpAny _ _ _ _ _ _ _ (World.drew _)
    have c1' : W.drew.cell? ⟨w.heap.size, 0, none⟩ = some (.slice a k cap) := c1
    have c2' : W.drew.cell? ⟨b, 0, none⟩ = some (.pointer (some ⟨V b, 0, none⟩)) := c2
    have f1' : W.drew.frozen? ⟨w.heap.size, 0, none⟩ = false := f1
    have hC : Ch Nil W W.drew := (Ch.refl _ _).drew
    have HC := Lib.hid hC
    have hXs : w.heap.size < W.drew.heap.size := hWb
    clear c1 c2 f1 hC
    generalize W.drew = X at *
    refine wpAny_take (i := 1) (v := ?_) rfl (by kernel_rfl) (by kernel_rfl) (by kernel_rfl) (fun _ _ _ h => h) (Or.inl ⟨by rfl, ?_⟩) ?_
    rotate_left
    · intro w; go_simp; try (with_reducible rfl)
    refine wpAny_take (i := 2) (v := ?_) rfl (by kernel_rfl) (by kernel_rfl) (by kernel_rfl) (fun _ _ _ h => h) (Or.inl ⟨by rfl, ?_⟩) ?_
    rotate_left
    · intro w; go_simp; try (with_reducible rfl)
    refine wpAny_take (i := 3) (v := ?_) rfl (by kernel_rfl) (by kernel_rfl) (by kernel_rfl) (fun _ _ _ h => h) (Or.inl ⟨by rfl, ?_⟩) ?_
    rotate_left
    · intro w; go_simp; try (with_reducible rfl)
    refine wpAny_ready (rs := [0, 4]) (by kernel_rfl) (by simp) ?_
    refine AllReady.cons rfl (fun K hK => ?_) ?_
    go_simp
    refine hK _ _ ?_
    clear hK K
    refine wpAny_ready (rs := [4]) (by kernel_rfl) (by simp) ?_
    refine AllReady.cons rfl (fun K hK => ?_) AllReady.nil
    go_simp
    refine hK _ _ ?_
    clear hK K
    refine wpAny_ready (rs := [5]) (by kernel_rfl) (by simp) ?_
    refine AllReady.cons rfl (fun K hK => ?_) AllReady.nil
    go_simp
    refine hK _ _ ?_
    clear hK K
    refine ?tail
    rotate_left
    refine AllReady.cons rfl (fun K hK => ?_) AllReady.nil
    go_simp
    refine hK _ _ ?_
    clear hK K
    refine wpAny_ready (rs := [0, 5]) (by kernel_rfl) (by simp) ?_
    refine AllReady.cons rfl (fun K hK => ?_) ?_
    go_simp
    refine hK _ _ ?_
    clear hK K
    refine wpAny_ready (rs := [5]) (by kernel_rfl) (by simp) ?_
    refine AllReady.cons rfl (fun K hK => ?_) AllReady.nil
    go_simp
    refine hK _ _ ?_
    clear hK K
    exact ?tail
    refine AllReady.cons rfl (fun K hK => ?_) AllReady.nil
    go_simp
    refine hK _ _ ?_
    clear hK K
    refine wpAny_ready (rs := [0]) (by kernel_rfl) (by simp) ?_
    refine AllReady.cons rfl (fun K hK => ?_) AllReady.nil
    go_simp
    refine hK _ _ ?_
    clear hK K
    exact ?tail
    have R2 : Row (X.alloc (.cells #[.pointer (some ⟨V b, 0, none⟩)] 76)) 76 1 a k cap (valAt xs V) := (R1.out.kept HC.out (fun _ _ e => e)).kept (S := Nil) ((Ch.refl _ _).alloc _) (fun _ _ e => e)
    have hXc : Ch Nil X (X.alloc (.cells #[.pointer (some ⟨V b, 0, none⟩)] 76)) := (Ch.refl _ _).alloc _
    have d1 := hXc.keeps c1' (fun e => e)
    have e1 := (hXc.frozen (p := ⟨w.heap.size, 0, none⟩) hXs (fun e => e)).trans f1'
    refine wpAny_ready (rs := [6]) (by kernel_rfl) (by simp) ?_
    refine AllReady.cons rfl (fun K hK => ?_) AllReady.nil
    refine step_row rfl _ _ _ rfl 76 (.pointer none) 1 8 Tryd.underlying80 (by kernel_rfl) rfl (by omega) (by omega) rfl R2 (by omega) X.heap.size 1 [.pointer (some ⟨V b, 0, none⟩)] 76 rfl rfl (heap_alloc_new X _) (by simp [Value.oneCell']) (valAt xs V) (fun _ _ => rfl) (by intro j u hu; obtain rfl : j = 0 := (by cases j; rfl; simp at hu); simp at hu; subst hu; simpa using HV.out) _ rfl ?_
    intro g cap' w' row ch at_ lt
    have ROW := Lib.hid row
    have CH := Lib.hid ch
    have AT := Lib.hid at_
    have hbox : ¬ OwnS a w.heap.size := fun e => by have := G1.out _ e; omega
    have d2 := ch.keeps d1 hbox
    have e2 := (ch.frozen (p := ⟨w.heap.size, 0, none⟩) (by simp; omega) hbox).trans e1
    clear row ch at_ R2
    refine hK _ _ ?_
    clear hK K
    refine wpAny_ready (rs := [7]) (by kernel_rfl) (by simp) ?_
    refine AllReady.cons rfl (fun K hK => ?_) AllReady.nil
    go_simp
    refine hK _ _ ?_
    clear hK K
    refine wpAny_done (by kernel_rfl) ?_ _
    have T0 : Ch (OwnS a) W w' := ((HC.out.then (S' := Nil) hXc (fun _ _ e => e)).mono (fun _ _ e => e.elim)).trans CH.out
    have T : Ch (fun k => OwnS a k ∨ k = w.heap.size) W (w'.setCell ⟨w.heap.size, 0, none⟩ (.slice (some ⟨g, 0, none⟩) (k + 1) cap')) :=
      Ch.set (p := ⟨w.heap.size, 0, none⟩) (T0.mono fun _ _ e => .inl e) (fun _ => .inr rfl) _
    have gt : w.heap.size < g := by
      rcases AT.out with h | h
      · exact G1.out g h
      · rw [h, World.size_alloc]; omega
    refine ⟨Keeps.of_ch' T fun j hj => ?_, HW.out.l.kept T fun j hj e => ?_, ⟨_, cap', World.cell?_setCell_same _ _ _ d2, ?_, ?_⟩, (HW.out.b.kept T0 hbox).set _ _, HW.out.c.then T fun i hi e => ?_⟩
    · rcases hj with hj | rfl
      · exact .inr (Row.blk R1.out hj)
      · exact .inl (by omega)
    · have := HL.out j hj
      rcases e with e | e
      · have := G1.out j e; omega
      · omega
    · exact ROW.out.kept (S := One w.heap.size) ((Ch.refl _ _).setB 0 _) (fun k e h => by cases e; simp at h; omega)
    · intro g' e; cases e; exact gt
    · rcases e with e | e
      · have := G1.out i e; omega
      · omega
  case done =>
    intro D W hD hW hK
    have hput := (AlIn.steady (B := w.heap.size) (Nat.le_refl _)).put (.deferred none) hW (by omega) hK rfl
    obtain ⟨a, cap, c1, r1, g1⟩ := hW.row
    have R1 := Lib.hid (Row.steady r1 (Ch.put D (.deferred none)) (.of_loop hK rfl))
    have G1 := Lib.hid g1
    have HP := Lib.hid hput
    clear hW hput r1 g1
    gi_wp2
    refine ⟨by simp, .inl ⟨_, _, rfl, run_takeDeferred hK, ?_⟩⟩
    exact ⟨_, results_tmp rfl _ _ _, a, cap, rfl, R1.out, fun g hg => Nat.le_of_lt (G1.out g hg), HP.out.c⟩

set_option maxRecDepth 100000 in
set_option maxHeartbeats 1000000 in
theorem all_nil (w : World) :
    Calls Tryd.prog 90 #[.pointer none] w fun e w' => e = .returned (.slice none 0 0) ∧ Ch Nil w w' := by
  have hI0 : (w.alloc (.cells #[.slice none 0 0] 80)).cell? ⟨w.heap.size, 0, none⟩ = some (.slice none 0 0) ∧ Ch Nil w (w.alloc (.cells #[.slice none 0 0] 80)) := ⟨by simp [cell_fresh], (Ch.refl _ _).alloc _⟩
  have HI0 := Lib.hid hI0
  clear hI0
  have hsz : (w.alloc (.cells #[.slice none 0 0] 80)).heap.size = w.heap.size + 1 := by simp
  refine (callsIn_wide (n := 5)).1 ?_
  refine callsIn_of_wp_marks Tryd.func90 rfl trivial ?_ rfl
  simp only [Tryd.ntmps90, List.size_toArray, List.length_cons, List.length_nil, Nat.reduceAdd, Nat.reduceSub, Array.replicate_succ, Array.replicate_zero, List.push_toArray, List.append_toArray, List.nil_append, List.cons_append]
  gi_wp2
  generalize hW0 : (w.alloc (.cells #[.slice none 0 0] 80)) = W0 at *
  clear hW0
  refine range_all (n := 5) (gf := 83) (ba := #[.pointer none]) rfl (enters_of Tryd.func83 (by kernel_rfl) rfl) 0 (fun k => .pointer none) rfl
    (fun k W => W.cell? ⟨w.heap.size, 0, none⟩ = some (.slice none 0 0) ∧ Ch Nil w W) ?hI HI0.out (nodes_nil 4 (by omega) _) ?act1 ?assign ?body ?done
  case hI => intro k W W' r h c hr nc; exact ⟨c.keeps h.1 (fun e => nc.cell h.1 e), Ch.late h.2 c (by omega)⟩
  case assign =>
    intro l k W K hK
    gi_wp2
    exact hK
  case body => intro l k W hW hk; omega
  case done =>
    intro D W hD hW hK
    have HC := Lib.hid (Ch.late hW.2 (Ch.put D (.deferred none)) (by omega))
    have c1 := hW.1
    clear hW
    gi_wp2
    refine ⟨by simp, .inl ⟨_, _, rfl, run_takeDeferred hK, ?_⟩⟩
    exact ⟨_, results_tmp rfl _ _ _, rfl, HC.out⟩
end
end Go.Proofs.YtldnmpiaofppgaaDoor.LT

/-
  The package-level table of math/bits (deBruijn64tab) as the row lists it: what a walk reads of it, and a start that meets the condition.
-/
namespace Go.Proofs.YtldnmpiaofppgaaDoor
open Go.ChangeShapes Go.WideShapes Go.ChangeAt Go.RowKit

/-- what the rows list, and its name -/
def laidTab : List (String × DataW Unit) := Rows.shardActsRow.laid
def tabName : String := Rows.shardActsRow.named.headD default
theorem gTab : Tryd.prog.globalNamed tabName = some 0 := by kernel_rfl
theorem tTab : (Tryd.prog.globals[0]?).map (·.type) = some 181 := by kernel_rfl
abbrev doorSteps : Nat := 14
theorem door_met (os : Os) (args : Array Value) : laidMetH Tryd.prog laidTab ((World.doorLaid Tryd.prog doorSteps os).forCall (fun _ _ => 0) ⟨#[], args, []⟩).memory :=
  laidMetH_of_parts3 (fuel := 8) (laidMet_of_run' 8 (by kernel_rfl) (by kernel_rfl)) (by kernel_rfl) (by kernel_rfl)

/-- the table of math/bits lies in its variable -/
def Tab (w : World) : Prop := ∀ j, j < 64 → w.cell? ⟨0, j, none⟩ = some (.int .u8 (Lib.deBruijn64tab.getD j 0 : Nat))

theorem tab_of_laid {W : World} (h : laidMetH Tryd.prog laidTab W) : Tab W := by
  rw [MakeChecks.laidMetH_plain _ _ _ (by kernel_rfl)] at h
  have hT : Lib.TabIs Tryd.prog W tabName .u8 (Lib.deBruijn64tab.map fun n : Nat => (n : Int)) :=
    Lib.tabIs_of_head (rest := []) (n := 64) gTab tTab Tryd.underlying181 Tryd.underlying5 (by kernel_rfl) (by kernel_rfl) h
  intro j hj
  have := hT.cell gTab j (by simpa [Lib.deBruijn64tab] using hj)
  rw [this]
  congr 2
  rw [List.getD_eq_getElem?_getD, List.getD_eq_getElem?_getD, List.getElem?_map]
  cases Lib.deBruijn64tab[j]? <;> rfl

theorem Tab.keeps {S : Nat → Prop} {w w' : World} (h : Tab w) (c : Ch S w w') (hS : ¬ S 0) : Tab w' := fun j hj => c.keeps (h j hj) hS
theorem Tab.lt {w : World} (h : Tab w) : 0 < w.heap.size := lt_of_cell (h 0 (by omega))
end Go.Proofs.YtldnmpiaofppgaaDoor

/-
  Plain facts of maps of 64 slots, without Go: the slots of a number, the least one, one more or less, how many.
-/
namespace Verge
open Go
set_option linter.unusedVariables false

/-- the slots whose bits are set, rising -/
def slots (m : Nat) : List Nat := (List.range 64).filter m.testBit
/-- a slot's bit; of no slot 0 -/
def bitN (s : Int) : Nat := if 0 ≤ s ∧ s < 64 then 2 ^ s.toNat else 0
/-- is the bit set? -/
def hasN (m : Nat) (s : Int) : Bool := decide (0 ≤ s ∧ s < 64) && m.testBit s.toNat
def withN (m : Nat) (s : Int) : Nat := m ||| bitN s
def woN (m : Nat) (s : Int) : Nat := m &&& (18446744073709551615 - bitN s)
/-- the least slot from one on, or -1 -/
def fromN (m : Nat) (s : Int) : Int := match (slots m).find? (fun x : Nat => decide (s ≤ (x : Int))) with
  | some x => (x : Int)
  | none => -1
def roundN (m : Nat) (s : Int) : Int := if fromN m s = -1 then fromN m 0 else fromN m s

theorem bitN_at (k : Nat) (h : k < 64) : bitN (k : Int) = 2 ^ k := by unfold bitN; rw [if_pos ⟨by omega, by omega⟩, Int.toNat_natCast]
theorem bitN_no (s : Int) (h : ¬ (0 ≤ s ∧ s < 64)) : bitN s = 0 := if_neg h
theorem pow_lt64 (k : Nat) (h : k < 64) : 2 ^ k < 18446744073709551616 := Nat.lt_of_lt_of_le (Nat.pow_lt_pow_right (by decide) h) (by decide)
theorem bitN_lt (s : Int) : bitN s < 18446744073709551616 := by
  unfold bitN
  split
  · exact pow_lt64 _ (by omega)
  · decide
theorem withN_lt (m : Nat) (s : Int) (h : m < 18446744073709551616) : withN m s < 18446744073709551616 := Nat.or_lt_two_pow (n := 64) h (bitN_lt s)
theorem woN_le (m : Nat) (s : Int) : woN m s ≤ m := Nat.and_le_left
theorem woN_lt (m : Nat) (s : Int) (h : m < 18446744073709551616) : woN m s < 18446744073709551616 := Nat.lt_of_le_of_lt (woN_le m s) h

theorem bitN_test (s : Int) (i : Nat) : (bitN s).testBit i = (decide (0 ≤ s ∧ s < 64) && decide (s.toNat = i)) := by
  unfold bitN
  by_cases h : 0 ≤ s ∧ s < 64
  · rw [if_pos h, Nat.testBit_two_pow]; simp [h]
  · rw [if_neg h]; simp [h]
theorem withN_test (m : Nat) (s : Int) (i : Nat) : (withN m s).testBit i = (m.testBit i || (decide (0 ≤ s ∧ s < 64) && decide (s.toNat = i))) := by
  unfold withN; rw [Nat.testBit_or, bitN_test]
theorem woN_test (m : Nat) (s : Int) (i : Nat) (hi : i < 64) : (woN m s).testBit i = (m.testBit i && !(decide (0 ≤ s ∧ s < 64) && decide (s.toNat = i))) := by
  unfold woN
  have e : 18446744073709551615 - bitN s = 2 ^ 64 - (bitN s + 1) := by have := bitN_lt s; omega
  rw [Nat.testBit_and, e, Nat.testBit_two_pow_sub_succ (bitN_lt s), bitN_test]
  simp [hi]
theorem test_ge (m i : Nat) (h : m < 18446744073709551616) (hi : 64 ≤ i) : m.testBit i = false :=
  Nat.testBit_lt_two_pow (Nat.lt_of_lt_of_le h (Nat.pow_le_pow_right (n := 2) (by decide) hi))
/-- two numbers are alike just if they have the same slots -/
theorem eq_of_test (a b : Nat) (ha : a < 18446744073709551616) (hb : b < 18446744073709551616) (h : ∀ i, i < 64 → a.testBit i = b.testBit i) : a = b := by
  apply Nat.eq_of_testBit_eq
  intro i
  by_cases hi : i < 64
  · exact h i hi
  · rw [test_ge a i ha (by omega), test_ge b i hb (by omega)]

theorem mem_slots (m k : Nat) : k ∈ slots m ↔ k < 64 ∧ m.testBit k = true := by unfold slots; simp
theorem slots_le (m : Nat) : (slots m).length ≤ 64 := by
  unfold slots; have := List.length_filter_le m.testBit (List.range 64); simpa using this
theorem slots_sorted (m : Nat) : (slots m).Pairwise (· < ·) := List.Pairwise.filter _ List.pairwise_lt_range
theorem slots_nil (m : Nat) (h : m < 18446744073709551616) (e : slots m = []) : m = 0 := by
  apply eq_of_test m 0 h (by decide)
  intro i hi
  cases ht : m.testBit i
  · simp
  · have := (mem_slots m i).2 ⟨hi, ht⟩
    rw [e] at this; cases this
theorem slots_zero : slots 0 = [] := by unfold slots; simp

/-- the lowest bit -/
theorem ctz_spec (m : Nat) (h : m < 18446744073709551616) (h0 : m ≠ 0) : Lib.ctz 64 m < 64 ∧ m.testBit (Lib.ctz 64 m) = true ∧ ∀ i, i < Lib.ctz 64 m → m.testBit i = false := by
  obtain ⟨k, hk, hc⟩ := Lib.ctzFrom_spec 64 m (by omega) h
  have e : Lib.ctz 64 m = Lib.ctzFrom 64 m := by simp [Lib.ctz, h0]
  rw [e]
  generalize Lib.ctzFrom 64 m = c at *
  refine ⟨hc, ?_, fun i hi => ?_⟩
  · rw [hk, Nat.testBit_two_pow_mul]; simp [Nat.testBit_zero]
  · rw [hk, Nat.testBit_two_pow_mul]; simp; omega

theorem slots_cons (m : Nat) (h : m < 18446744073709551616) (h0 : m ≠ 0) : slots m = Lib.ctz 64 m :: slots (woN m (Lib.ctz 64 m : Nat)) := by
  obtain ⟨hc, ht, hz⟩ := ctz_spec m h h0
  generalize Lib.ctz 64 m = c at *
  have er : List.range 64 = List.range c ++ c :: (List.range (64 - c - 1)).map (c + 1 + ·) := by
    have := List.range_add (n := c) (m := 64 - c)
    rw [show c + (64 - c) = 64 by omega] at this
    rw [this]
    congr 1
    have := List.range_add (n := 1) (m := 64 - c - 1)
    rw [show 1 + (64 - c - 1) = 64 - c by omega] at this
    rw [this]
    simp [Nat.add_assoc]
  have hw : ∀ i, i < 64 → (woN m (c : Nat)).testBit i = (m.testBit i && !decide (c = i)) := fun i hi => by
    rw [woN_test m _ i hi]
    have : (0 : Int) ≤ (c : Int) ∧ (c : Int) < 64 := ⟨by omega, by omega⟩
    simp [this]
  unfold slots
  rw [er, List.filter_append, List.filter_append, List.filter_cons, List.filter_cons, if_pos ht, hw c hc]
  have e1 : (List.range c).filter m.testBit = [] := by
    rw [List.filter_eq_nil_iff]
    intro i hi
    rw [List.mem_range] at hi
    rw [hz i hi]; simp
  have e2 : (List.range c).filter (woN m (c : Nat)).testBit = [] := by
    rw [List.filter_eq_nil_iff]
    intro i hi
    rw [List.mem_range] at hi
    rw [hw i (by omega), hz i hi]; simp
  rw [e1, e2]
  simp only [List.nil_append]
  have e3 : ((List.range (64 - c - 1)).map (c + 1 + ·)).filter m.testBit = ((List.range (64 - c - 1)).map (c + 1 + ·)).filter (woN m (c : Nat)).testBit := by
    apply List.filter_congr
    intro i hi
    rw [List.mem_map] at hi
    obtain ⟨j, hj, rfl⟩ := hi
    rw [List.mem_range] at hj
    rw [hw _ (by omega)]
    have : ¬ c = c + 1 + j := by omega
    simp [this]
  rw [e3]
  simp

/-- the slot that stands at place k -/
def slotAt (m k : Nat) : Nat := (slots m).getD k 0
theorem slotAt_get (m k : Nat) (h : k < (slots m).length) : (slots m)[k]? = some (slotAt m k) := by
  unfold slotAt; rw [List.getD_eq_getElem?_getD, List.getElem?_eq_getElem h]; rfl
theorem slotAt_mem (m k : Nat) (h : k < (slots m).length) : slotAt m k ∈ slots m := List.mem_of_getElem? (slotAt_get m k h)
theorem slotAt_lt (m k : Nat) (h : k < (slots m).length) : slotAt m k < 64 := ((mem_slots m _).1 (slotAt_mem m k h)).1
theorem fromN_cases (m : Nat) (s : Int) : fromN m s = -1 ∨ (∃ k : Nat, fromN m s = k ∧ k ∈ slots m ∧ s ≤ k) := by
  unfold fromN
  cases h : (slots m).find? (fun x : Nat => decide (s ≤ (x : Int))) with
  | none => exact .inl rfl
  | some x => exact .inr ⟨x, rfl, List.mem_of_find?_eq_some h, by have := List.find?_some h; simpa using this⟩

theorem bits_andNot_u64_nat (a b : Nat) (ha : a < 18446744073709551616) (hb : b < 18446744073709551616) : bits .andNot .u64 (a : Int) (b : Int) = ((a &&& (18446744073709551615 - b) : Nat) : Int) := by
  have h1 : (BitVec.ofInt 64 (a : Int)).toNat = a := by
    rw [BitVec.ofInt_natCast, BitVec.toNat_ofNat]; exact Nat.mod_eq_of_lt (by omega)
  have h2 : (BitVec.ofInt 64 (b : Int)).toNat = b := by
    rw [BitVec.ofInt_natCast, BitVec.toNat_ofNat]; exact Nat.mod_eq_of_lt (by omega)
  have hx : a &&& (18446744073709551615 - b) ≤ a := Nat.and_le_left
  show IntKind.u64.wrap ((BitVec.ofInt 64 (a : Int) &&& ~~~ BitVec.ofInt 64 (b : Int)).toNat : Int) = _
  rw [BitVec.toNat_and, BitVec.toNat_not, h1, h2, IntKind.wrap_u64]
  have e : 2 ^ 64 - 1 - b = 18446744073709551615 - b := by omega
  rw [e]
  omega
theorem has_and (m : Nat) (s : Int) : (m &&& bitN s = 0) ↔ hasN m s = false := by
  unfold hasN
  by_cases h : 0 ≤ s ∧ s < 64
  · rw [bitN, if_pos h]
    simp only [h, and_self, decide_true, Bool.true_and]
    constructor
    · intro e
      have := congrArg (·.testBit s.toNat) e
      simpa [Nat.testBit_and, Nat.testBit_two_pow] using this
    · intro e
      apply Nat.eq_of_testBit_eq
      intro i
      rw [Nat.testBit_and, Nat.testBit_two_pow]
      by_cases hi : s.toNat = i
      · subst hi; simp [e]
      · simp [hi]
  · rw [bitN_no s h]; simp [h]
end Verge
