/-
  A pipe of strings in memory: its block with the spill's head, its channel, the spill's nodes. refill.
-/
import Derived.Test.YtpddiphknpplcaaPipeS1
namespace Go.Proofs.Ytpddiphknpplcaa.PS
open Go.RowKit Go.Conc Verge
attribute [local go_sem] Oper.semAt_some
set_option linter.unusedVariables false
set_option linter.unusedSimpArgs false

/-- what a channel holds -/
def cbuf (ch : List ByteArray) : Array Value := (ch.map fun x => .string x).toArray
theorem size_cbuf (ch : List ByteArray) : (cbuf ch).size = ch.length := by simp [cbuf]
theorem cbuf_push (ch : List ByteArray) (x : ByteArray) : (cbuf ch).push (.string x) = cbuf (ch ++ [x]) := by simp [cbuf]
theorem cbuf_head (x : ByteArray) (ch : List ByteArray) : (cbuf (x :: ch)).getD 0 undef = .string x := by simp [cbuf]
theorem cbuf_tail (x : ByteArray) (ch : List ByteArray) : (cbuf (x :: ch)).extract 1 (cbuf (x :: ch)).size = cbuf ch := by
  simp [cbuf]
  exact List.take_of_length_le (by simp)

/-- a pipe in block pb, its channel in block cb: how much room that has, what is in it; the spill's nodes, what each holds; the greatest spill; is it shut? -/
structure IsPb (w : World) (pb cb cap : Nat) (ch : List ByteArray) (xs : List Nat) (V : Nat → ByteArray) (m : Nat) (sh : Bool) : Prop where
  l : IsL ⟨.chan (some cb), .int .i64 m, .bool sh⟩ w pb xs V
  c : ∃ s r, w.heap[cb]? = some (.chan cap (cbuf ch) false s r false)
/-- its blocks -/
def PB (pb cb : Nat) (xs : List Nat) : Nat → Prop := fun k => LB pb xs k ∨ k = cb
section
variable {S : Nat → Prop} {w w' : World} {pb cb cap m b : Nat} {ch : List ByteArray} {xs : List Nat} {V : Nat → ByteArray} {sh : Bool}
theorem IsPb.ne (h : IsPb w pb cb cap ch xs V m sh) {k : Nat} (hk : LB pb xs k) : k ≠ cb := by
  rintro rfl
  obtain ⟨cs, t, h1⟩ := h.l.blk hk
  obtain ⟨s, r, h2⟩ := h.c
  rw [h1] at h2; cases h2
theorem IsPb.clt (h : IsPb w pb cb cap ch xs V m sh) : cb < w.heap.size := by
  obtain ⟨s, r, h2⟩ := h.c
  exact (Array.getElem?_eq_some_iff.1 h2).1
theorem IsPb.lt (h : IsPb w pb cb cap ch xs V m sh) {k : Nat} (hk : PB pb cb xs k) : k < w.heap.size := by
  rcases hk with hk | rfl
  · exact h.l.lt hk
  · exact h.clt
theorem IsPb.kept (h : IsPb w pb cb cap ch xs V m sh) (c : Ch S w w') (hn : ∀ k, PB pb cb xs k → ¬ S k) : IsPb w' pb cb cap ch xs V m sh := by
  refine ⟨h.l.kept c fun k hk => hn k (.inl hk), ?_⟩
  obtain ⟨s, r, h2⟩ := h.c
  exact ⟨s, r, (c.block cb h.clt (hn cb (.inr rfl))).trans h2⟩

theorem refill_none (h : IsPb w pb cb cap ch [] V m sh) :
    Calls Try.prog 36 #[.pointer (some ⟨pb, 0, none⟩)] w fun e w' => (∃ v, e = .returned v) ∧ w = w' := by
  have h1 := h.l.h.f
  go_enter Try.func36, Try.ntmps36
  go_wp2_with fail
  refine (first_of pb none w h1).mono ?_
  rintro e w' ⟨rfl, rfl⟩
  simp only [pt]
  go_wp2
  go_end0
  exact ⟨⟨_, rfl⟩, rfl⟩
theorem refill_some (h : IsPb w pb cb cap ch (b :: xs) V m sh) (hr : ch.length < cap) (hs : xs.length < 1000000) :
    Calls Try.prog 36 #[.pointer (some ⟨pb, 0, none⟩)] w fun e w' => (∃ v, e = .returned v) ∧ IsPb w' pb cb cap (ch ++ [V b]) xs V m sh ∧ Ch (PB pb cb (b :: xs)) w w' := by
  have h1 := h.l.h.f
  have H := Lib.hid h
  clear h
  go_enter Try.func36, Try.ntmps36
  go_wp2_with fail
  refine (first_of pb (some b) w h1).mono ?_
  rintro e w' ⟨rfl, rfl⟩
  simp only [pt]
  go_wp2_with fail
  refine (H.out.l.unlink (i := 0) (b := b) rfl (by simp; omega)).mono ?_
  rintro e W ⟨rfl, l1, n1, c1⟩
  have hcb : ∀ k, LB pb (b :: xs) k → k ≠ cb := fun k hk => H.out.ne hk
  have hc := l1.h.c
  have hv := n1.v
  obtain ⟨s, r, hb⟩ : ∃ s r, W.heap[cb]? = some (.chan cap (cbuf ch) false s r false) := by
    obtain ⟨s, r, hb⟩ := H.out.c
    exact ⟨s, r, (c1.block cb H.out.clt (fun hk => hcb _ hk rfl)).trans hb⟩
  have L1 := Lib.hid l1
  have C1 := Lib.hid c1
  have HCB := Lib.hid hcb
  clear h1 l1 n1 c1 hcb
  go_upto_region 3 with (fail)
  refine AnyT.region (by kernel_rfl) ?_
  have hc' : W.drew.cell? ⟨pb, 0, none⟩ = some (.chan (some cb)) := hc
  have hv' : W.drew.cell? ⟨b, 0, none⟩ = some (.string (V b)) := hv
  have hb' : W.drew.heap[cb]? = some (.chan cap (cbuf ch) false s r false) := hb
  have hD : Ch Nil W W.drew := (Ch.refl _ _).drew
  have L2 := Lib.hid (L1.out.kept hD (fun _ _ e => e))
  have C2 := Lib.hid (C1.out.then (S' := Nil) hD (fun _ _ e => e.elim))
  clear hc hv hb hD L1 C1
  generalize W.drew = Y at *
  have q1 : ∀ v, slotAt2 0 1 v = v := fun _ => rfl
  have q2 : ∀ v, slotAt2 1 2 v = v := fun _ => rfl
  have q3 : ∀ v, slotAt2 2 3 v = v := fun _ => rfl
  have q4 : ∀ v, slotAt2 3 4 v = v := fun _ => rfl
  refine AnyT.two (St := fun p q => ⟨#[.pointer (some ⟨pb, 0, none⟩), undef, .pointer (some ⟨b, 0, none⟩), .pointer (some ⟨pb, 0, none⟩), .pointer (some ⟨pb, 0, none⟩), .pointer (some ⟨pb, 1, none⟩), .pointer (some ⟨b, 0, none⟩),
    .pointer (some ⟨b, 0, none⟩), .bool true, .pointer (some ⟨pb, 0, none⟩), .pointer (some ⟨pb, 0, none⟩), .pointer (some ⟨pb, 1, none⟩), .pointer (some ⟨b, 0, none⟩), .int .i64 0,
    slotAt2 0 p (.pointer (some ⟨pb, 0, none⟩)), slotAt2 1 p (.pointer (some ⟨pb, 0, none⟩)), slotAt2 2 p (.pointer (some ⟨pb, 0, none⟩)), slotAt2 3 p (.chan (some cb)),
    slotAt2 0 q (.pointer (some ⟨b, 0, none⟩)), slotAt2 1 q (.pointer (some ⟨b, 0, none⟩)), slotAt2 2 q (.pointer (some ⟨b, 0, none⟩)), slotAt2 3 q (.string (V b))], []⟩) ?hR ?h1 ?h2 ?h8
  case hR =>
    intro p q hp hq
    rcases p with _ | _ | _ | _ | _ | p <;> rcases q with _ | _ | _ | _ | _ | q <;> first | omega | kernel_rfl
  case h1 =>
    intro p q hp hq l h
    rcases p with _ | _ | _ | _ | p
    · exact OpsTo.value (v := .pointer (some ⟨pb, 0, none⟩)) (w' := Y) rfl rfl (by go_simp) h
    · exact OpsTo.value (v := .pointer (some ⟨pb, 0, none⟩)) (w' := Y) rfl rfl (by go_simp) h
    · exact OpsTo.value (v := .pointer (some ⟨pb, 0, none⟩)) (w' := Y) rfl rfl (by go_simp) h
    · exact OpsTo.value (v := .chan (some cb)) (w' := Y) rfl rfl (by go_simp) h
    · omega
  case h2 =>
    intro p q hp hq l h
    rcases q with _ | _ | _ | _ | q
    · exact OpsTo.value (v := .pointer (some ⟨b, 0, none⟩)) (w' := Y) rfl rfl (by go_simp) h
    · exact OpsTo.value (v := .pointer (some ⟨b, 0, none⟩)) (w' := Y) rfl rfl (by go_simp) h
    · exact OpsTo.value (v := .pointer (some ⟨b, 0, none⟩)) (w' := Y) rfl rfl (by go_simp) h
    · exact OpsTo.value (v := .string (V b)) (w' := Y) rfl rfl (by go_simp) h
    · omega
  case h8 =>
    refine AnyT.next (rs := [8]) (by kernel_rfl) (by simp) fun i hi => ?_
    obtain rfl : i = 8 := by simpa using hi
    refine ⟨_, _, fun l h => OpsTo.send (c := cb) (v := .string (V b)) (z := .tuple #[]) rfl rfl (by simp [go_sem, execOp, scase, Act.eval, q4]) hb' (by rw [size_cbuf]; exact hr) h, AnyT.done (by kernel_rfl) ?_ 0⟩
    rw [cbuf_push]
    have hlt := (Array.getElem?_eq_some_iff.1 hb').1
    have hq := heap_setChan Y cb cap (cbuf (ch ++ [V b])) false (s + 1) r false hlt
    have hl := L2.out.kept (S := One cb) ((Ch.refl (One cb) Y).chan (fun _ => rfl) cap (cbuf (ch ++ [V b])) false (s + 1) r false) (fun k hk e => HCB.out k (by rcases hk with rfl | hk; exact .inl rfl; exact .inr (List.mem_of_mem_eraseIdx hk)) e)
    have hch : Ch (PB pb cb (b :: xs)) w (Y.setChan cb cap (cbuf (ch ++ [V b])) false (s + 1) r false) :=
      (C2.out.mono (fun _ _ e => .inl e)).then (S' := One cb) ((Ch.refl (One cb) Y).chan (fun _ => rfl) cap (cbuf (ch ++ [V b])) false (s + 1) r false) (fun _ _ e => .inr e)
    have R := Lib.hid (show IsPb _ pb cb cap (ch ++ [V b]) xs V m sh ∧ _ from ⟨⟨hl, _, _, hq⟩, hch⟩)
    clear hl hq hch
    go_wp2
    go_end0
    exact ⟨⟨_, rfl⟩, R.out⟩
end
end Go.Proofs.Ytpddiphknpplcaa.PS
