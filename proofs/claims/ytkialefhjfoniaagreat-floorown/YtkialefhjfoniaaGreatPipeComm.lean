/-
  Channels within one goroutine, in the ordinary walk: a region whose operations send, receive or select, where nothing waits.
-/
import Derived.Test.YtkialefhjfoniaaGreatCellMem
import Derived.Conc.LoneSelect
import Derived.Orders
namespace Go.Proofs.YtkialefhjfoniaaGreat
open Go.RowKit Go.Conc
set_option linter.unusedVariables false

/-- what a region's operations, in this order, come to -/
def OpsTo (P : Program) (ops : Array Oper) (Q : Exit → Act → World → Prop) (l : List Nat) (a : Act) (w : World) : Prop :=
  ∀ (b : Frame) (k : List Item) (cs : List Frame), ∃ e a' w', Q e a' w' ∧ Arrives P (lone (b.at a (.inRegion ops l :: k)) cs w) b k cs e a' w'

section
variable {P : Program} {ops : Array Oper} {Q : Exit → Act → World → Prop} {l : List Nat} {a a' : Act} {w w' : World} {i : Nat} {o : Oper} {v z : Value} {c cap s r : Nat} {buf : Array Value} {tm cl : Bool}
theorem OpsTo.region {id : Nat} (h : OpsTo P ops Q (List.range ops.size) a w) : (Code.region id ops false).wp P Q a w :=
  fun b k cs => let ⟨e, a', w', q, r⟩ := h b k cs; ⟨e, a', w', q, .of_steps (.one step_region) r⟩
theorem OpsTo.step (hs : ∀ (b : Frame) (k : List Item) (cs : List Frame), Go.step P (lone (b.at a (.inRegion ops (i :: l) :: k)) cs w) = .next (lone (b.at a' (.inRegion ops l :: k)) cs w')) (h : OpsTo P ops Q l a' w') : OpsTo P ops Q (i :: l) a w :=
  fun b k cs => let ⟨e, a₂, w₂, q, r⟩ := h b k cs; ⟨e, a₂, w₂, q, .of_steps (.one (hs b k cs)) r⟩
theorem OpsTo.done (h : Q .normal a w) : OpsTo P ops Q [] a w := fun b k cs => ⟨.normal, a, w, h, .one step_region_end⟩
theorem finish_put (ho : ops[i]? = some o) (b : Frame) (k : List Item) (v : Value) : (b.at a (.inRegion ops (i :: l) :: k)).finish v = b.at (a.put o.dst v) (.inRegion ops l :: k) := by
  rw [Frame.finish_at, ho]; rfl
/-- an operation that yields a value -/
theorem OpsTo.value (ho : ops[i]? = some o) (hw : Region.wanted o (yielded ops a.tmps) = true) (hr : (execOp a.eval o).run P w = .ok (.value v) w') (h : OpsTo P ops Q l (a.put o.dst v) w') : OpsTo P ops Q (i :: l) a w :=
  .step (fun b k cs => step_lone_go (by rw [stepG_op ho hw, ← finish_put ho]; simp [stepG.apply, hr])) h
theorem comm_at (ho : ops[i]? = some o) (hw : Region.wanted o (yielded ops a.tmps) = true) {cases : Array CommCase} {blocking : Bool} {shape : CommShape} (hr : (execOp a.eval o).run P w = .ok (.comm cases blocking shape) w')
    (b : Frame) (k : List Item) (cs : List Frame) : ∃ es, stepG P true (G (b.at a (.inRegion ops (i :: l) :: k)) cs) w = .comm (G (b.at a (.inRegion ops (i :: l) :: k)) cs) cases blocking shape w' es := by
  have h := stepG_op (P := P) (b := b) (k := k) (cs := cs) (w := w) (rest := l) ho hw
  have e : stepG P true (G (b.at a (.inRegion ops (i :: l) :: k)) cs) w = _ := h
  rw [e]
  simp [stepG.apply, hr, G, GStep.after]
/-- a send into a buffer with room -/
theorem OpsTo.send (ho : ops[i]? = some o) (hw : Region.wanted o (yielded ops a.tmps) = true) (hr : (execOp a.eval o).run P w = .ok (.comm #[scase c v z] true .send) w)
    (hc : w.heap[c]? = some (.chan cap buf false s r tm)) (hroom : buf.size < cap) (h : OpsTo P ops Q l (a.put o.dst undef) (w.setChan c cap (buf.push v) false (s + 1) r tm)) : OpsTo P ops Q (i :: l) a w :=
  .step (fun b k cs => by obtain ⟨es, he⟩ := comm_at (l := l) ho hw hr b k cs; rw [← finish_put ho]; exact step_lone_send_room he hc hroom) h
/-- a receive from a buffer that holds something -/
theorem OpsTo.recv (ho : ops[i]? = some o) (hw : Region.wanted o (yielded ops a.tmps) = true) (hr : (execOp a.eval o).run P w = .ok (.comm #[rcase c z] true (.recv false)) w)
    (hc : w.heap[c]? = some (.chan cap buf cl s r tm)) (hsome : 0 < buf.size) (h : OpsTo P ops Q l (a.put o.dst (buf.getD 0 undef)) (w.setChan c cap (buf.extract 1 buf.size) cl s (r + 1) tm)) : OpsTo P ops Q (i :: l) a w :=
  .step (fun b k cs => by obtain ⟨es, he⟩ := comm_at (l := l) ho hw hr b k cs; rw [← finish_put ho]; exact step_lone_recv_buf false he hc hsome) h
/-- a select of one send, with a default: there is room -/
theorem OpsTo.selSend (ho : ops[i]? = some o) (hw : Region.wanted o (yielded ops a.tmps) = true) (hr : (execOp a.eval o).run P w = .ok (.comm #[scase c v z] false .select) w)
    (hc : w.heap[c]? = some (.chan cap buf false s r tm)) (hroom : buf.size < cap) (h : OpsTo P ops Q l (a.put o.dst (.tuple #[goInt 0, .bool false])) (w.setChan c cap (buf.push v) false (s + 1) r tm)) : OpsTo P ops Q (i :: l) a w :=
  .step (fun b k cs => by obtain ⟨es, he⟩ := comm_at (l := l) ho hw hr b k cs; rw [← finish_put ho]; exact step_lone_select_send_room he hc hroom) h
/-- there is none -/
theorem OpsTo.selFull (ho : ops[i]? = some o) (hw : Region.wanted o (yielded ops a.tmps) = true) (hr : (execOp a.eval o).run P w = .ok (.comm #[scase c v z] false .select) w)
    (hc : w.heap[c]? = some (.chan cap buf false s r tm)) (hfull : cap ≤ buf.size) (h : OpsTo P ops Q l (a.put o.dst (.tuple #[goInt (-1), .bool false])) w) : OpsTo P ops Q (i :: l) a w :=
  .step (fun b k cs => by obtain ⟨es, he⟩ := comm_at (l := l) ho hw hr b k cs; rw [← finish_put ho]; exact step_lone_select_send_full he hc hfull) h
/-- a select of one receive, with a default: something is there -/
theorem OpsTo.selRecv (ho : ops[i]? = some o) (hw : Region.wanted o (yielded ops a.tmps) = true) (hr : (execOp a.eval o).run P w = .ok (.comm #[rcase c z] false .select) w)
    (hc : w.heap[c]? = some (.chan cap buf cl s r tm)) (hsome : 0 < buf.size) (h : OpsTo P ops Q l (a.put o.dst (.tuple #[goInt 0, .bool true, buf.getD 0 undef])) (w.setChan c cap (buf.extract 1 buf.size) cl s (r + 1) tm)) : OpsTo P ops Q (i :: l) a w :=
  .step (fun b k cs => by obtain ⟨es, he⟩ := comm_at (l := l) ho hw hr b k cs; rw [← finish_put ho]; exact step_lone_select_recv_buf he hc hsome) h
/-- nothing is there -/
theorem OpsTo.selNone (ho : ops[i]? = some o) (hw : Region.wanted o (yielded ops a.tmps) = true) (hr : (execOp a.eval o).run P w = .ok (.comm #[rcase c z] false .select) w)
    (hc : w.heap[c]? = some (.chan cap #[] false s r tm)) (h : OpsTo P ops Q l (a.put o.dst (.tuple #[goInt (-1), .bool false, z])) w) : OpsTo P ops Q (i :: l) a w :=
  .step (fun b k cs => by obtain ⟨es, he⟩ := comm_at (l := l) ho hw hr b k cs; rw [← finish_put ho]; exact step_lone_select_default he hc) h
end

/-- whatever order a region draws from here on -/
def AnyT (P : Program) (ops : Array Oper) (Q : Exit → Act → World → Prop) (fuel : Nat) (listed : Array Bool) (a : Act) (w : World) : Prop :=
  ∀ t, OpsTo P ops Q (Region.linearise.go .any ops fuel t listed []) a w
section
variable {P : Program} {ops : Array Oper} {Q : Exit → Act → World → Prop} {a : Act} {w : World} {fuel : Nat} {listed : Array Bool}
theorem AnyT.region {id : Nat} (hm : P.follows .mixedOrders = true) (h : AnyT P ops Q ops.size (Array.replicate ops.size false) a w.drew) : (Code.region id ops true).wp P Q a w :=
  fun b k cs => by
    have := h (w.tape w.drawn (.order b.fn id)) b k cs
    obtain ⟨e, a', w', q, r⟩ := this
    refine ⟨e, a', w', q, .of_steps (.one step_region_draw) ?_⟩
    simp only [Region.schedule, hm, Bool.true_or, if_true]
    exact r
/-- whichever comes up next -/
theorem AnyT.next {rs : List Nat} (hr : Region.ready .any ops listed = rs) (hne : rs ≠ [])
    (h : ∀ i ∈ rs, ∃ a' w', (∀ l, OpsTo P ops Q l a' w' → OpsTo P ops Q (i :: l) a w) ∧ AnyT P ops Q fuel (listed.setIfInBounds i true) a' w') : AnyT P ops Q (fuel + 1) listed a w := by
  intro t
  have hlen : 0 < rs.length := List.length_pos_iff.2 hne
  have hlt : t % rs.length < rs.length := Nat.mod_lt _ hlen
  obtain ⟨a', w', h1, h2⟩ := h _ (List.getElem_mem hlt)
  have e : Region.linearise.go .any ops (fuel + 1) t listed [] = match rs[t % rs.length]? with
      | some i => Region.linearise.go .any ops fuel (t / rs.length) (listed.setIfInBounds i true) [i]
      | none => [].reverse := by rw [← hr]; rfl
  rw [e, List.getElem?_eq_getElem hlt]
  simp only []
  rw [linearise_go_acc, List.reverse_singleton, List.singleton_append]
  exact h1 _ (h2 _)
theorem AnyT.done (hr : Region.ready .any ops listed = []) (h : Q .normal a w) : ∀ fuel, AnyT P ops Q fuel listed a w
  | 0 => fun t => by simpa [Region.linearise.go] using OpsTo.done h
  | n + 1 => fun t => by
    have e : Region.linearise.go .any ops (n + 1) t listed [] = match (Region.ready .any ops listed)[t % (Region.ready .any ops listed).length]? with
      | some i => Region.linearise.go .any ops n (t / (Region.ready .any ops listed).length) (listed.setIfInBounds i true) [i]
      | none => [].reverse := rfl
    rw [e, hr]
    simpa using OpsTo.done h
end

/-- a slot that the k-th of n operations has set, or not -/
def slotAt2 (k n : Nat) (v : Value) : Value := bif Nat.blt k n then v else undef
/-- two rows of four operations each, one behind the other, and one that waits for both: who has come up -/
def Li2 (p q : Nat) : Array Bool := #[Nat.blt 0 p, Nat.blt 1 p, Nat.blt 2 p, Nat.blt 3 p, Nat.blt 0 q, Nat.blt 1 q, Nat.blt 2 q, Nat.blt 3 q, false]
def rdy2 (p q : Nat) : List Nat := (if p < 4 then [p] else []) ++ ((if q < 4 then [4 + q] else []) ++ (if p = 4 ∧ q = 4 then [8] else []))
theorem Li2_p (p q : Nat) (h : p < 4) : (Li2 p q).setIfInBounds p true = Li2 (p + 1) q := by
  rcases p with _ | _ | _ | _ | p <;> first | rfl | omega
theorem Li2_q (p q : Nat) (h : q < 4) : (Li2 p q).setIfInBounds (4 + q) true = Li2 p (q + 1) := by
  rcases q with _ | _ | _ | _ | q <;> first | rfl | omega
theorem rdy2_mem {p q i : Nat} (hp : p ≤ 4) (hq : q ≤ 4) (h : i ∈ rdy2 p q) : (i = p ∧ p < 4) ∨ (i = 4 + q ∧ q < 4) ∨ (i = 8 ∧ p = 4 ∧ q = 4) := by
  unfold rdy2 at h
  simp only [List.mem_append] at h
  rcases h with h | h | h <;> split at h <;> simp at h <;> omega
theorem rdy2_ne {p q : Nat} (hp : p ≤ 4) (hq : q ≤ 4) : rdy2 p q ≠ [] := by
  intro h
  unfold rdy2 at h
  simp only [List.append_eq_nil_iff] at h
  obtain ⟨h1, h2, h3⟩ := h
  split at h1 <;> split at h2 <;> split at h3 <;> simp at h1 h2 h3 <;> omega
theorem AnyT.two {P : Program} {ops : Array Oper} {Q : Exit → Act → World → Prop} {w : World} (St : Nat → Nat → Act)
    (hR : ∀ p q, p ≤ 4 → q ≤ 4 → Region.ready .any ops (Li2 p q) = rdy2 p q)
    (h1 : ∀ p q, p < 4 → q ≤ 4 → ∀ l, OpsTo P ops Q l (St (p + 1) q) w → OpsTo P ops Q (p :: l) (St p q) w)
    (h2 : ∀ p q, p ≤ 4 → q < 4 → ∀ l, OpsTo P ops Q l (St p (q + 1)) w → OpsTo P ops Q ((4 + q) :: l) (St p q) w)
    (h8 : AnyT P ops Q 1 (Li2 4 4) (St 4 4) w) : AnyT P ops Q 9 (Li2 0 0) (St 0 0) w := by
  have key : ∀ n p q, p ≤ 4 → q ≤ 4 → (4 - p) + (4 - q) = n → AnyT P ops Q (n + 1) (Li2 p q) (St p q) w := by
    intro n
    induction n with
    | zero =>
      intro p q hp hq hn
      obtain rfl : p = 4 := by omega
      obtain rfl : q = 4 := by omega
      exact h8
    | succ n ih =>
      intro p q hp hq hn
      refine AnyT.next (hR p q hp hq) (rdy2_ne hp hq) fun i hi => ?_
      rcases rdy2_mem hp hq hi with ⟨rfl, h⟩ | ⟨rfl, h⟩ | ⟨-, h, h'⟩
      · exact ⟨_, _, h1 i q h hq, by rw [Li2_p i q h]; exact ih _ _ (by omega) hq (by omega)⟩
      · exact ⟨_, _, h2 p q hp h, by rw [Li2_q p q h]; exact ih _ _ hp (by omega) (by omega)⟩
      · omega
  exact key 8 0 0 (by omega) (by omega) rfl

/-- a channel's block turned -/
theorem Ch.chan {S : Nat → Prop} {a w : World} (h : Ch S a w) {c : Nat} (hc : c < a.heap.size → S c) (cap : Nat) (buf : Array Value) (cl : Bool) (s r : Nat) (tm : Bool) : Ch S a (w.setChan c cap buf cl s r tm) :=
  h.then (S' := One c) ⟨rfl, rfl, rfl, by simp [World.setChan], fun k _ hk => by simp only [World.setChan]; rw [Array.getElem?_setIfInBounds_ne (fun e => hk e.symm)]⟩ (fun i hi e => by cases e; exact hc hi)
theorem chan_cell (w : World) (c cap : Nat) (buf : Array Value) (cl : Bool) (s r : Nat) (tm : Bool) (p : Addr) (h : p.block ≠ c) : (w.setChan c cap buf cl s r tm).cell? p = w.cell? p :=
  World.cell?_of_block (w := w) (by simp only [World.setChan]; rw [Array.getElem?_setIfInBounds_ne (fun e => h e.symm)])
end Go.Proofs.YtkialefhjfoniaaGreat
