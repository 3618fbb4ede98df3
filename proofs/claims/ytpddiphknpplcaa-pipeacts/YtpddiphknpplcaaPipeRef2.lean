/-
  The document's pipe: Put and Take.
-/
import Derived.Test.YtpddiphknpplcaaPipeRef
import Derived.Test.YtpddiphknpplcaaHeld
import Derived.Deep.Cut
namespace Go.Proofs.Ytpddiphknpplcaa.PI
open Go.RowKit Verge
attribute [local go_sem] Oper.semAt_some
set_option linter.unusedVariables false
set_option linter.unusedSimpArgs false

/-- append of a whole row of numbers to one's own that is empty -/
theorem append_nums {P : Program} (w : World) {ops : Array Oper} {rest : List Oper} {o : Oper} {act : Act} {Q : Exit → Act → World → Prop} (hgd : o.guard = none) (s x : Operand) (t : TypeId)
    (ho : o.op = .call { callee := .builtin .append, args := #[s, x], argTypes := #[t, t] })
    (e : TypeId) (ht : P.underlying t = some (.slice e)) (hi : (P.info? e).map (fun i => (i.zero, i.size, i.bytes)) = some (some (.int .i64 0), 1, 8))
    {a : Option Addr} {c0 : Nat} {f : Nat → Value} (hs : act.eval s = .slice a 0 c0) (hrow : Row w e 1 a 0 c0 f)
    (ad : Addr) (m c : Nat) (F : Nat → Int) (hx : act.eval x = .slice (some ad) m c) (hm : 0 < m) (hm2 : m ≤ 1000000) (hc : ∀ j, j < m → w.cell? (ad.add j) = some (.int .i64 (F j))) (H : Nat) (hH : w.heap.size = H)
    (h : ∀ g cap' w', Row w' e 1 (some ⟨g, 0, none⟩) m cap' (fun i => .int .i64 (F i)) → Ch (OwnS a) w w' → (OwnS a g ∨ g = H) → g < w'.heap.size → wpList P ops Q rest (act.put o.dst (.slice (some ⟨g, 0, none⟩) m cap')) w') : wpList P ops Q (o :: rest) act w := by
  obtain ⟨i, hi', he⟩ := Option.map_eq_some_iff.1 hi
  simp only [Prod.mk.injEq] at he
  obtain ⟨hz, hsize, hbytes⟩ := he
  have hob : (Value.slice a 0 c0).ownBlock = a.map (·.block) := by cases a <;> rfl
  refine wpList_append_lies w hgd s x t ho 0 e i (.int .i64 0) 1 8 ht hi' hz hsize hbytes rfl (by omega) _ 0 _ hs hrow ad m c ((List.range m).map fun i => .int .i64 (F i)) hx (by simp) ?_ ?_ hm ?_ ?_ (Nat.zero_le _) H hH ?_
  · intro j u hu
    rw [List.getElem?_map] at hu
    by_cases hj : j < m
    · rw [List.getElem?_range hj] at hu; simp at hu; subst hu; exact hc j hj
    · rw [List.getElem?_eq_none (by simp; omega)] at hu; simp at hu
  · intro u hu; simp at hu; obtain ⟨j, -, rfl⟩ := hu; simp [Value.oneCell']
  · simp only [maxLen]; omega
  · omega
  · intro g cap' w1 hown hgrow hat hlt
    rw [hob] at hgrow hat
    rw [Nat.zero_add] at hown ⊢
    refine h g cap' w1 ?_ (Ch.of_grown hgrow) hat hlt
    unfold Row
    simpa using hown
theorem row_empty (w : World) (f : Nat → Value) : Row (w.alloc (.cells #[] 3)) 3 1 (some ⟨w.heap.size, 0, none⟩) 0 0 f :=
  ⟨rfl, .inr ⟨_, 0, #[], rfl, Nat.zero_le _, World.alloc_heap_new w _, Nat.le_refl _, Nat.zero_le _, rfl, rfl⟩⟩
theorem qV_old {q : List Int} {v : Int} {i : Nat} (h : i < q.length) : qV (q ++ [v]) i = qV q i := by
  unfold qV; rw [List.getD_eq_getElem?_getD, List.getD_eq_getElem?_getD, List.getElem?_append_left h]
theorem qV_new {q : List Int} {v : Int} : qV (q ++ [v]) q.length = .int .i64 v := by
  unfold qV; rw [List.getD_eq_getElem?_getD, List.getElem?_append_right (Nat.le_refl _)]; simp
theorem qV_cons {q : List Int} {x : Int} {i : Nat} : qV (x :: q) (i + 1) = qV q i := by unfold qV; simp
section
variable {S : Nat → Prop} {W W' : World} {vb n m cp : Nat} {q : List Int} {sh : Bool} {a : Option Addr}
set_option maxHeartbeats 2000000 in
theorem Rf.putRise (h : Rf W vb n q false m a cp) (v : Int) (hq : q.length ≤ 99999) (hn : n ≤ 100000) (z : Nat) (hz : q.length + 1 - n = z) (h1 : m < z) :
    Calls Try.prog 10 #[.pointer (some ⟨vb, 0, none⟩), .int .i64 v] W fun e W' => e = .returned (.tuple #[.bool true, .bool false]) ∧ ∃ g cp', (OwnS a g ∨ W.heap.size ≤ g) ∧ Rf W' vb n (q ++ [v]) false z (some ⟨g, 0, none⟩) cp' ∧ Ch (RB vb a) W W' := by
  have HZ : Hid ((q ++ [v]).length - n = z) := Lib.hid (by rw [List.length_append, List.length_singleton]; exact hz)
  have g1 : (m : Int) < (z : Int) := by omega
  have g2 : (0 : Int) < (z : Int) := by omega
  have g3 : 0 < z := by omega
  have c1 := h.l
  have c2 := h.s
  have f1 := h.k.fz 1
  have hlt := h.k.lt
  have hA : Ch Nil W (W.alloc (.cells #[.int .i64 v] 3)) := (Ch.refl _ _).alloc _
  have R2 := Lib.hid (h.r.kept hA (fun _ _ e => e))
  have d1 := hA.keeps c1 (fun e => e)
  have e1 := (hA.frozen (p := ⟨vb, 1, none⟩) hlt (fun e => e)).trans f1
  have HA := Lib.hid hA
  have H := Lib.hid h
  clear hA h
  go_enter Try.func10, Try.ntmps10
  go_wp2_with (at_builtin; refine append_row _ rfl _ _ _ rfl 3 (.int .i64 0) 1 8 Try.underlying29 (by kernel_rfl) rfl (by omega) (by omega) rfl R2.out (by omega) W.heap.size 1 [.int .i64 v] 3 rfl rfl (heap_alloc_new W _) (by simp [Value.oneCell']) (qV (q ++ [v])) (fun i hi => qV_old (by omega)) (by intro j u hu; obtain rfl : j = 0 := (by cases j; rfl; simp at hu); simp at hu; subst hu; simpa using qV_new) _ rfl ?_)
  intro g cap' w1 row ch at_ lt
  have hw1 := H.out.setL (q' := q ++ [v]) (g := g) (cp' := cap') ((HA.out.mono (fun _ _ e => e.elim)).trans ch) (by simpa using row) (at_.imp id (fun e => by omega))
  have d2 := ch.keeps d1 H.out.ne
  have e2 := (ch.frozen (p := ⟨vb, 1, none⟩) (by simp; omega) H.out.ne).trans e1
  have hgw : OwnS a g ∨ W.heap.size ≤ g := at_.imp id (fun e => by omega)
  have HG := Lib.hid hgw
  have HW1 := Lib.hid hw1
  clear row ch at_ lt hw1 d1 e1 c1 c2 f1 R2 HA hgw
  rw [List.length_append, List.length_singleton] at HW1
  go_upto_region 4 with (fail)
  generalize w1.setCell ⟨vb, 1, none⟩ (.slice (some ⟨g, 0, none⟩) (q.length + 1) cap') = W2 at *
  obtain ⟨h2, k2⟩ := HW1.out
  have c3 : W2.drew.cell? ⟨vb, 3, none⟩ = some (.int .i64 m) := h2.m0
  have H2 := Lib.hid (h2.kept (S := Nil) ((Ch.refl Nil W2).drew) (fun _ _ e => e))
  have K2 := Lib.hid (k2.then (S' := Nil) ((Ch.refl Nil W2).drew) (fun _ _ e => e.elim))
  clear h2 k2 HW1 d2 e2
  refine wp_region_held_drew (S := fun w' => w'.cell? ⟨vb, 3, none⟩ = some (.int .i64 m)) (by kernel_rfl) c3 (fun hHeld => ?_)
  generalize W2.drew = Y at *
  refine take_at (v := ?_) 0 (some 20) rfl (by kernel_rfl) (by kernel_rfl) (by kernel_rfl) (by kernel_rfl) (fun _ _ _ h => h) (Or.inl ⟨by rfl, ?_⟩) (by assumption) ?_
  rotate_left
  · intro w hSw; (try dsimp only at hSw); go_simp; try (with_reducible rfl)
  (try simp only [Act.put, List.setIfInBounds_toArray, List.set_cons_zero, List.set_cons_succ])
  refine take_at (v := ?_) 2 (some 22) rfl (by kernel_rfl) (by kernel_rfl) (by kernel_rfl) (by kernel_rfl) (fun _ _ _ h => h) (Or.inl ⟨by rfl, ?_⟩) (by assumption) ?_
  rotate_left
  · intro w hSw; (try dsimp only at hSw); go_simp; try (with_reducible rfl)
  (try simp only [Act.put, List.setIfInBounds_toArray, List.set_cons_zero, List.set_cons_succ])
  refine take_at (v := ?_) 3 (some 23) rfl (by kernel_rfl) (by kernel_rfl) (by kernel_rfl) (by kernel_rfl) (fun _ _ _ h => h) (Or.inl ⟨by rfl, ?_⟩) (by assumption) ?_
  rotate_left
  · intro w hSw; (try dsimp only at hSw); go_simp; try (with_reducible rfl)
  (try simp only [Act.put, List.setIfInBounds_toArray, List.set_cons_zero, List.set_cons_succ])
  refine take_at (v := ?_) 4 (some 24) rfl (by kernel_rfl) (by kernel_rfl) (by kernel_rfl) (by kernel_rfl) (fun _ _ _ h => h) (Or.inl ⟨by rfl, ?_⟩) (by assumption) ?_
  rotate_left
  · intro w hSw; (try dsimp only at hSw); go_simp; try (with_reducible rfl)
  (try simp only [Act.put, List.setIfInBounds_toArray, List.set_cons_zero, List.set_cons_succ])
  refine take_at (v := ?_) 5 (some 25) rfl (by kernel_rfl) (by kernel_rfl) (by kernel_rfl) (by kernel_rfl) (fun _ _ _ h => h) (Or.inl ⟨by rfl, ?_⟩) (by assumption) ?_
  rotate_left
  · intro w hSw; (try dsimp only at hSw); go_simp; try (with_reducible rfl)
  (try simp only [Act.put, List.setIfInBounds_toArray, List.set_cons_zero, List.set_cons_succ])
  have SP := Lib.hid (H2.out.spilled (by simp; omega) (by omega))
  rw [HZ.out] at SP
  refine wpAnyH_ready (rs := [1]) (by kernel_rfl) (by simp) ?_
  refine AllReadyH.cons rfl (fun K hK => ?_) AllReadyH.nil
  go_simp
  refine SP.out.mono ?_
  rintro e w3 ⟨rfl, c4⟩
  refine hK.out _ _ (c4.keeps c3 (fun e => e)) (fun hHeld => ?_)
  clear hK K SP
  (try simp only [Act.put, List.setIfInBounds_toArray, List.set_cons_zero, List.set_cons_succ])
  have H3 := Lib.hid (H2.out.kept c4 (fun _ _ e => e))
  have K3 := Lib.hid (K2.out.then c4 (fun _ _ e => e.elim))
  clear H2 K2 c4 c3
  refine take_at (v := ?_) 6 (some 26) rfl (by kernel_rfl) (by kernel_rfl) (by kernel_rfl) (by kernel_rfl) (fun _ _ _ h => h) (Or.inl ⟨by rfl, ?_⟩) (by assumption) ?_
  rotate_left
  · intro w hSw; (try dsimp only at hSw); go_simp; try (with_reducible rfl)
  (try simp only [Act.put, List.setIfInBounds_toArray, List.set_cons_zero, List.set_cons_succ])
  refine wpAnyH_done (by kernel_rfl) ?_ _
  have SP := Lib.hid (H3.out.spilled (by simp; omega) (by omega))
  rw [HZ.out] at SP
  go_wp2_with fail
  refine SP.out.mono ?_
  rintro e w4 ⟨rfl, c4⟩
  have H4 := Lib.hid (H3.out.kept c4 (fun _ _ e => e))
  have K4 := Lib.hid (K3.out.then c4 (fun _ _ e => e.elim))
  clear c4 SP H3 K3
  have f3 := H4.out.k.fz 3
  have c3 := H4.out.m0
  go_upto_region 6 with (fail)
  have H5 := Lib.hid (H4.out.setM z)
  have K5 : Hid (Ch (RB vb a) W (w4.setCell ⟨vb, 3, none⟩ (.int .i64 (z : Nat)))) := Lib.hid (K4.out.set (p := ⟨vb, 3, none⟩) (fun _ => .inl rfl) _)
  clear H4 K4 c3 f3
  generalize w4.setCell ⟨vb, 3, none⟩ (.int .i64 (z : Nat)) = W5 at *
  have SP := Lib.hid (H5.out.spilled (by simp; omega) (by omega))
  rw [HZ.out] at SP
  go_wp2_with fail
  refine SP.out.mono ?_
  rintro e w6 ⟨rfl, c6⟩
  have H6 := Lib.hid (H5.out.kept c6 (fun _ _ e => e))
  have K6 := Lib.hid (K5.out.then c6 (fun _ _ e => e.elim))
  clear c6 SP H5 K5
  go_wp2
  go_ret2
  exact ⟨rfl, _, _, HG.out, H6.out, K6.out⟩
set_option maxHeartbeats 2000000 in
theorem Rf.putKeep (h : Rf W vb n q false m a cp) (v : Int) (hq : q.length ≤ 99999) (hn : n ≤ 100000) (z : Nat) (hz : q.length + 1 - n = z) (h1 : ¬ m < z) (h2 : 0 < z) :
    Calls Try.prog 10 #[.pointer (some ⟨vb, 0, none⟩), .int .i64 v] W fun e W' => e = .returned (.tuple #[.bool true, .bool false]) ∧ ∃ g cp', (OwnS a g ∨ W.heap.size ≤ g) ∧ Rf W' vb n (q ++ [v]) false m (some ⟨g, 0, none⟩) cp' ∧ Ch (RB vb a) W W' := by
  have HZ : Hid ((q ++ [v]).length - n = z) := Lib.hid (by rw [List.length_append, List.length_singleton]; exact hz)
  have g1 : ¬ (m : Int) < (z : Int) := by omega
  have g2 : (0 : Int) < (z : Int) := by omega
  have c1 := h.l
  have c2 := h.s
  have f1 := h.k.fz 1
  have hlt := h.k.lt
  have hA : Ch Nil W (W.alloc (.cells #[.int .i64 v] 3)) := (Ch.refl _ _).alloc _
  have R2 := Lib.hid (h.r.kept hA (fun _ _ e => e))
  have d1 := hA.keeps c1 (fun e => e)
  have e1 := (hA.frozen (p := ⟨vb, 1, none⟩) hlt (fun e => e)).trans f1
  have HA := Lib.hid hA
  have H := Lib.hid h
  clear hA h
  go_enter Try.func10, Try.ntmps10
  go_wp2_with (at_builtin; refine append_row _ rfl _ _ _ rfl 3 (.int .i64 0) 1 8 Try.underlying29 (by kernel_rfl) rfl (by omega) (by omega) rfl R2.out (by omega) W.heap.size 1 [.int .i64 v] 3 rfl rfl (heap_alloc_new W _) (by simp [Value.oneCell']) (qV (q ++ [v])) (fun i hi => qV_old (by omega)) (by intro j u hu; obtain rfl : j = 0 := (by cases j; rfl; simp at hu); simp at hu; subst hu; simpa using qV_new) _ rfl ?_)
  intro g cap' w1 row ch at_ lt
  have hw1 := H.out.setL (q' := q ++ [v]) (g := g) (cp' := cap') ((HA.out.mono (fun _ _ e => e.elim)).trans ch) (by simpa using row) (at_.imp id (fun e => by omega))
  have d2 := ch.keeps d1 H.out.ne
  have e2 := (ch.frozen (p := ⟨vb, 1, none⟩) (by simp; omega) H.out.ne).trans e1
  have hgw : OwnS a g ∨ W.heap.size ≤ g := at_.imp id (fun e => by omega)
  have HG := Lib.hid hgw
  have HW1 := Lib.hid hw1
  clear row ch at_ lt hw1 d1 e1 c1 c2 f1 R2 HA hgw
  rw [List.length_append, List.length_singleton] at HW1
  go_upto_region 4 with (fail)
  generalize w1.setCell ⟨vb, 1, none⟩ (.slice (some ⟨g, 0, none⟩) (q.length + 1) cap') = W2 at *
  obtain ⟨h2, k2⟩ := HW1.out
  have c3 : W2.drew.cell? ⟨vb, 3, none⟩ = some (.int .i64 m) := h2.m0
  have H2 := Lib.hid (h2.kept (S := Nil) ((Ch.refl Nil W2).drew) (fun _ _ e => e))
  have K2 := Lib.hid (k2.then (S' := Nil) ((Ch.refl Nil W2).drew) (fun _ _ e => e.elim))
  clear h2 k2 HW1 d2 e2
  refine wp_region_held_drew (S := fun w' => w'.cell? ⟨vb, 3, none⟩ = some (.int .i64 m)) (by kernel_rfl) c3 (fun hHeld => ?_)
  generalize W2.drew = Y at *
  refine take_at (v := ?_) 0 (some 20) rfl (by kernel_rfl) (by kernel_rfl) (by kernel_rfl) (by kernel_rfl) (fun _ _ _ h => h) (Or.inl ⟨by rfl, ?_⟩) (by assumption) ?_
  rotate_left
  · intro w hSw; (try dsimp only at hSw); go_simp; try (with_reducible rfl)
  (try simp only [Act.put, List.setIfInBounds_toArray, List.set_cons_zero, List.set_cons_succ])
  refine take_at (v := ?_) 2 (some 22) rfl (by kernel_rfl) (by kernel_rfl) (by kernel_rfl) (by kernel_rfl) (fun _ _ _ h => h) (Or.inl ⟨by rfl, ?_⟩) (by assumption) ?_
  rotate_left
  · intro w hSw; (try dsimp only at hSw); go_simp; try (with_reducible rfl)
  (try simp only [Act.put, List.setIfInBounds_toArray, List.set_cons_zero, List.set_cons_succ])
  refine take_at (v := ?_) 3 (some 23) rfl (by kernel_rfl) (by kernel_rfl) (by kernel_rfl) (by kernel_rfl) (fun _ _ _ h => h) (Or.inl ⟨by rfl, ?_⟩) (by assumption) ?_
  rotate_left
  · intro w hSw; (try dsimp only at hSw); go_simp; try (with_reducible rfl)
  (try simp only [Act.put, List.setIfInBounds_toArray, List.set_cons_zero, List.set_cons_succ])
  refine take_at (v := ?_) 4 (some 24) rfl (by kernel_rfl) (by kernel_rfl) (by kernel_rfl) (by kernel_rfl) (fun _ _ _ h => h) (Or.inl ⟨by rfl, ?_⟩) (by assumption) ?_
  rotate_left
  · intro w hSw; (try dsimp only at hSw); go_simp; try (with_reducible rfl)
  (try simp only [Act.put, List.setIfInBounds_toArray, List.set_cons_zero, List.set_cons_succ])
  refine take_at (v := ?_) 5 (some 25) rfl (by kernel_rfl) (by kernel_rfl) (by kernel_rfl) (by kernel_rfl) (fun _ _ _ h => h) (Or.inl ⟨by rfl, ?_⟩) (by assumption) ?_
  rotate_left
  · intro w hSw; (try dsimp only at hSw); go_simp; try (with_reducible rfl)
  (try simp only [Act.put, List.setIfInBounds_toArray, List.set_cons_zero, List.set_cons_succ])
  have SP := Lib.hid (H2.out.spilled (by simp; omega) (by omega))
  rw [HZ.out] at SP
  refine wpAnyH_ready (rs := [1]) (by kernel_rfl) (by simp) ?_
  refine AllReadyH.cons rfl (fun K hK => ?_) AllReadyH.nil
  go_simp
  refine SP.out.mono ?_
  rintro e w3 ⟨rfl, c4⟩
  refine hK.out _ _ (c4.keeps c3 (fun e => e)) (fun hHeld => ?_)
  clear hK K SP
  (try simp only [Act.put, List.setIfInBounds_toArray, List.set_cons_zero, List.set_cons_succ])
  have H3 := Lib.hid (H2.out.kept c4 (fun _ _ e => e))
  have K3 := Lib.hid (K2.out.then c4 (fun _ _ e => e.elim))
  clear H2 K2 c4 c3
  refine take_at (v := ?_) 6 (some 26) rfl (by kernel_rfl) (by kernel_rfl) (by kernel_rfl) (by kernel_rfl) (fun _ _ _ h => h) (Or.inl ⟨by rfl, ?_⟩) (by assumption) ?_
  rotate_left
  · intro w hSw; (try dsimp only at hSw); go_simp; try (with_reducible rfl)
  (try simp only [Act.put, List.setIfInBounds_toArray, List.set_cons_zero, List.set_cons_succ])
  refine wpAnyH_done (by kernel_rfl) ?_ _
  have SP := Lib.hid (H3.out.spilled (by simp; omega) (by omega))
  rw [HZ.out] at SP
  go_wp2_with fail
  refine SP.out.mono ?_
  rintro e w4 ⟨rfl, c4⟩
  have H4 := Lib.hid (H3.out.kept c4 (fun _ _ e => e))
  have K4 := Lib.hid (K3.out.then c4 (fun _ _ e => e.elim))
  clear c4 SP H3 K3
  go_wp2
  go_ret2
  exact ⟨rfl, _, _, HG.out, H4.out, K4.out⟩
set_option maxHeartbeats 2000000 in
theorem Rf.putRoom (h : Rf W vb n q false m a cp) (v : Int) (hq : q.length ≤ 99999) (hn : n ≤ 100000) (z : Nat) (hz : q.length + 1 - n = z) (h2 : z = 0) :
    Calls Try.prog 10 #[.pointer (some ⟨vb, 0, none⟩), .int .i64 v] W fun e W' => e = .returned (.tuple #[.bool false, .bool false]) ∧ ∃ g cp', (OwnS a g ∨ W.heap.size ≤ g) ∧ Rf W' vb n (q ++ [v]) false m (some ⟨g, 0, none⟩) cp' ∧ Ch (RB vb a) W W' := by
  have HZ : Hid ((q ++ [v]).length - n = z) := Lib.hid (by rw [List.length_append, List.length_singleton]; exact hz)
  subst h2
  have g1 : ¬ (m : Int) < 0 := by omega
  have c1 := h.l
  have c2 := h.s
  have f1 := h.k.fz 1
  have hlt := h.k.lt
  have hA : Ch Nil W (W.alloc (.cells #[.int .i64 v] 3)) := (Ch.refl _ _).alloc _
  have R2 := Lib.hid (h.r.kept hA (fun _ _ e => e))
  have d1 := hA.keeps c1 (fun e => e)
  have e1 := (hA.frozen (p := ⟨vb, 1, none⟩) hlt (fun e => e)).trans f1
  have HA := Lib.hid hA
  have H := Lib.hid h
  clear hA h
  go_enter Try.func10, Try.ntmps10
  go_wp2_with (at_builtin; refine append_row _ rfl _ _ _ rfl 3 (.int .i64 0) 1 8 Try.underlying29 (by kernel_rfl) rfl (by omega) (by omega) rfl R2.out (by omega) W.heap.size 1 [.int .i64 v] 3 rfl rfl (heap_alloc_new W _) (by simp [Value.oneCell']) (qV (q ++ [v])) (fun i hi => qV_old (by omega)) (by intro j u hu; obtain rfl : j = 0 := (by cases j; rfl; simp at hu); simp at hu; subst hu; simpa using qV_new) _ rfl ?_)
  intro g cap' w1 row ch at_ lt
  have hw1 := H.out.setL (q' := q ++ [v]) (g := g) (cp' := cap') ((HA.out.mono (fun _ _ e => e.elim)).trans ch) (by simpa using row) (at_.imp id (fun e => by omega))
  have d2 := ch.keeps d1 H.out.ne
  have e2 := (ch.frozen (p := ⟨vb, 1, none⟩) (by simp; omega) H.out.ne).trans e1
  have hgw : OwnS a g ∨ W.heap.size ≤ g := at_.imp id (fun e => by omega)
  have HG := Lib.hid hgw
  have HW1 := Lib.hid hw1
  clear row ch at_ lt hw1 d1 e1 c1 c2 f1 R2 HA hgw
  rw [List.length_append, List.length_singleton] at HW1
  go_upto_region 4 with (fail)
  generalize w1.setCell ⟨vb, 1, none⟩ (.slice (some ⟨g, 0, none⟩) (q.length + 1) cap') = W2 at *
  obtain ⟨h2, k2⟩ := HW1.out
  have c3 : W2.drew.cell? ⟨vb, 3, none⟩ = some (.int .i64 m) := h2.m0
  have H2 := Lib.hid (h2.kept (S := Nil) ((Ch.refl Nil W2).drew) (fun _ _ e => e))
  have K2 := Lib.hid (k2.then (S' := Nil) ((Ch.refl Nil W2).drew) (fun _ _ e => e.elim))
  clear h2 k2 HW1 d2 e2
  refine wp_region_held_drew (S := fun w' => w'.cell? ⟨vb, 3, none⟩ = some (.int .i64 m)) (by kernel_rfl) c3 (fun hHeld => ?_)
  generalize W2.drew = Y at *
  refine take_at (v := ?_) 0 (some 20) rfl (by kernel_rfl) (by kernel_rfl) (by kernel_rfl) (by kernel_rfl) (fun _ _ _ h => h) (Or.inl ⟨by rfl, ?_⟩) (by assumption) ?_
  rotate_left
  · intro w hSw; (try dsimp only at hSw); go_simp; try (with_reducible rfl)
  (try simp only [Act.put, List.setIfInBounds_toArray, List.set_cons_zero, List.set_cons_succ])
  refine take_at (v := ?_) 2 (some 22) rfl (by kernel_rfl) (by kernel_rfl) (by kernel_rfl) (by kernel_rfl) (fun _ _ _ h => h) (Or.inl ⟨by rfl, ?_⟩) (by assumption) ?_
  rotate_left
  · intro w hSw; (try dsimp only at hSw); go_simp; try (with_reducible rfl)
  (try simp only [Act.put, List.setIfInBounds_toArray, List.set_cons_zero, List.set_cons_succ])
  refine take_at (v := ?_) 3 (some 23) rfl (by kernel_rfl) (by kernel_rfl) (by kernel_rfl) (by kernel_rfl) (fun _ _ _ h => h) (Or.inl ⟨by rfl, ?_⟩) (by assumption) ?_
  rotate_left
  · intro w hSw; (try dsimp only at hSw); go_simp; try (with_reducible rfl)
  (try simp only [Act.put, List.setIfInBounds_toArray, List.set_cons_zero, List.set_cons_succ])
  refine take_at (v := ?_) 4 (some 24) rfl (by kernel_rfl) (by kernel_rfl) (by kernel_rfl) (by kernel_rfl) (fun _ _ _ h => h) (Or.inl ⟨by rfl, ?_⟩) (by assumption) ?_
  rotate_left
  · intro w hSw; (try dsimp only at hSw); go_simp; try (with_reducible rfl)
  (try simp only [Act.put, List.setIfInBounds_toArray, List.set_cons_zero, List.set_cons_succ])
  refine take_at (v := ?_) 5 (some 25) rfl (by kernel_rfl) (by kernel_rfl) (by kernel_rfl) (by kernel_rfl) (fun _ _ _ h => h) (Or.inl ⟨by rfl, ?_⟩) (by assumption) ?_
  rotate_left
  · intro w hSw; (try dsimp only at hSw); go_simp; try (with_reducible rfl)
  (try simp only [Act.put, List.setIfInBounds_toArray, List.set_cons_zero, List.set_cons_succ])
  have SP := Lib.hid (H2.out.spilled (by simp; omega) (by omega))
  rw [HZ.out] at SP
  refine wpAnyH_ready (rs := [1]) (by kernel_rfl) (by simp) ?_
  refine AllReadyH.cons rfl (fun K hK => ?_) AllReadyH.nil
  go_simp
  refine SP.out.mono ?_
  rintro e w3 ⟨rfl, c4⟩
  refine hK.out _ _ (c4.keeps c3 (fun e => e)) (fun hHeld => ?_)
  clear hK K SP
  (try simp only [Act.put, List.setIfInBounds_toArray, List.set_cons_zero, List.set_cons_succ])
  have H3 := Lib.hid (H2.out.kept c4 (fun _ _ e => e))
  have K3 := Lib.hid (K2.out.then c4 (fun _ _ e => e.elim))
  clear H2 K2 c4 c3
  refine take_at (v := ?_) 6 (some 26) rfl (by kernel_rfl) (by kernel_rfl) (by kernel_rfl) (by kernel_rfl) (fun _ _ _ h => h) (Or.inl ⟨by rfl, ?_⟩) (by assumption) ?_
  rotate_left
  · intro w hSw; (try dsimp only at hSw); go_simp; try (with_reducible rfl)
  (try simp only [Act.put, List.setIfInBounds_toArray, List.set_cons_zero, List.set_cons_succ])
  refine wpAnyH_done (by kernel_rfl) ?_ _
  have SP := Lib.hid (H3.out.spilled (by simp; omega) (by omega))
  rw [HZ.out] at SP
  go_wp2_with fail
  refine SP.out.mono ?_
  rintro e w4 ⟨rfl, c4⟩
  have H4 := Lib.hid (H3.out.kept c4 (fun _ _ e => e))
  have K4 := Lib.hid (K3.out.then c4 (fun _ _ e => e.elim))
  clear c4 SP H3 K3
  go_wp2
  go_ret2
  exact ⟨rfl, _, _, HG.out, H4.out, K4.out⟩
theorem Rf.put (h : Rf W vb n q false m a cp) (v : Int) (hq : q.length ≤ 99999) (hn : n ≤ 100000) :
    Calls Try.prog 10 #[.pointer (some ⟨vb, 0, none⟩), .int .i64 v] W fun e W' => e = .returned (.tuple #[.bool (decide (n ≤ q.length)), .bool false]) ∧ ∃ g cp', (OwnS a g ∨ W.heap.size ≤ g) ∧ Rf W' vb n (q ++ [v]) false (max m (q.length + 1 - n)) (some ⟨g, 0, none⟩) cp' ∧ Ch (RB vb a) W W' := by
  obtain ⟨z, hz⟩ : ∃ z, q.length + 1 - n = z := ⟨_, rfl⟩
  rw [hz]
  by_cases h1 : m < z
  · rw [decide_eq_true (show n ≤ q.length by omega), show max m z = z by omega]
    exact h.putRise v hq hn z hz h1
  · rw [show max m z = m by omega]
    by_cases h2 : 0 < z
    · rw [decide_eq_true (show n ≤ q.length by omega)]
      exact h.putKeep v hq hn z hz h1 h2
    · rw [decide_eq_false (show ¬ n ≤ q.length by omega)]
      exact h.putRoom v hq hn z hz (by omega)
theorem Rf.takeNone (h : Rf W vb n [] sh m a cp) :
    Calls Try.prog 12 #[.pointer (some ⟨vb, 0, none⟩)] W fun e W' => e = .returned (.tuple #[.int .i64 0, .bool false]) ∧ W = W' := by
  have c1 := h.l
  simp only [List.length_nil] at c1
  clear h
  go_enter Try.func12, Try.ntmps12
  go_wp2
  go_ret2
  exact ⟨rfl, rfl⟩
set_option maxHeartbeats 2000000 in
theorem Rf.take1 {x : Int} (h : Rf W vb n (x :: q) sh m a cp) (hq : q.length ≤ 99999) (h0 : 0 < q.length) :
    Calls Try.prog 12 #[.pointer (some ⟨vb, 0, none⟩)] W fun e W' => e = .returned (.tuple #[.int .i64 x, .bool true]) ∧ ∃ g cp', W.heap.size ≤ g ∧ Rf W' vb n q sh m (some ⟨g, 0, none⟩) cp' ∧ Ch (RB vb a) W W' := by
  have c1 := h.l
  simp only [List.length_cons] at c1
  have f1 := h.k.fz 1
  have hlt := h.k.lt
  have lc := h.r.len_cap
  simp only [List.length_cons] at lc
  obtain ⟨g, rfl, hg⟩ := h.r.form (by simp)
  have q0 := h.r.cell 0 (by simp)
  have q1 : W.cell? ⟨g, 0, none⟩ = some (.int .i64 x) := q0
  obtain ⟨l, hl⟩ : ∃ l : Nat, l = q.length := ⟨_, rfl⟩
  rw [← hl] at c1 lc
  have hA : Ch Nil W (W.alloc (.cells #[] 3)) := (Ch.refl _ _).alloc _
  have d1 := hA.keeps c1 (fun e => e)
  have e1 := (hA.frozen (p := ⟨vb, 1, none⟩) hlt (fun e => e)).trans f1
  have HA := Lib.hid hA
  have H := Lib.hid h
  have HL := Lib.hid hl
  clear hA h q0 hl

  have hcs : ∀ j, j < q.length → (W.alloc (.cells #[] 3)).cell? ((⟨g, 1, none⟩ : Addr).add j) = some (.int .i64 (q.getD j 0)) := by
    intro j hj
    have := HA.out.keeps (H.out.r.cell (j + 1) (by simp; omega)) (fun e => e)
    rw [qV_cons] at this
    have e : (⟨g, 1, none⟩ : Addr).add j = ⟨g, j + 1, none⟩ := by unfold Addr.add; split <;> simp_all; omega
    rw [e]; exact this
  have HCS := Lib.hid hcs
  clear hcs
  have hl0 : 0 < l := by rw [HL.out]; exact h0
  have z1 : (1 : Int) ≤ (l : Int) + 1 := by omega
  go_enter Try.func12, Try.ntmps12
  go_wp2_with (at_builtin; refine append_nums _ rfl _ _ _ rfl 3 Try.underlying29 (by kernel_rfl) rfl (row_empty W (fun _ => .int .i64 0)) ⟨g, 1, none⟩ l (cp - 1) (fun i => q.getD i 0) rfl hl0 (by have := HL.out; omega) (by rw [HL.out]; exact HCS.out) _ rfl ?_)
  intro g2 cap2 w2 row2 ch2 at2 lt2
  have hno : ∀ i, i < W.heap.size → OwnS (some ⟨W.heap.size, 0, none⟩) i → False := fun i hi e => by
    have : W.heap.size = i := by simpa [OwnS] using e
    omega
  have hg2 : W.heap.size ≤ g2 := by
    rcases at2 with e | e
    · have : W.heap.size = g2 := by simpa [OwnS] using e
      omega
    · omega
  have cN : Ch Nil W w2 := HA.out.then ch2 hno
  have row3 : Row w2 3 1 (some ⟨g2, 0, none⟩) q.length cap2 (qV q) := by rw [← HL.out]; exact row2
  have hw1 := H.out.setL (q' := q) (g := g2) (cp' := cap2) (cN.mono (fun _ _ e => e.elim)) row3 (.inr hg2)
  rw [← HL.out] at hw1
  have d2 := cN.keeps c1 (fun e => e)
  have e2 := (cN.frozen (p := ⟨vb, 1, none⟩) hlt (fun e => e)).trans f1
  have HW1 := Lib.hid hw1
  have HG2 := Lib.hid hg2
  clear row2 row3 ch2 at2 lt2 hw1 cN hno d1 e1 c1 f1 HA hg2
  go_wp2
  go_ret2
  exact ⟨rfl, _, _, HG2.out, HW1.out⟩
set_option maxHeartbeats 2000000 in
theorem Rf.take0 {x : Int} (h : Rf W vb n [x] sh m a cp) :
    Calls Try.prog 12 #[.pointer (some ⟨vb, 0, none⟩)] W fun e W' => e = .returned (.tuple #[.int .i64 x, .bool true]) ∧ ∃ g cp', W.heap.size ≤ g ∧ Rf W' vb n [] sh m (some ⟨g, 0, none⟩) cp' ∧ Ch (RB vb a) W W' := by
  have c1 := h.l
  simp only [List.length_singleton] at c1
  have f1 := h.k.fz 1
  have hlt := h.k.lt
  have lc := h.r.len_cap
  simp only [List.length_singleton] at lc
  obtain ⟨g, rfl, hg⟩ := h.r.form (by simp)
  have q0 := h.r.cell 0 (by simp)
  have q1 : W.cell? ⟨g, 0, none⟩ = some (.int .i64 x) := q0
  have hA : Ch Nil W (W.alloc (.cells #[] 3)) := (Ch.refl _ _).alloc _
  have d1 := hA.keeps c1 (fun e => e)
  have e1 := (hA.frozen (p := ⟨vb, 1, none⟩) hlt (fun e => e)).trans f1
  have hw1 := h.setL (q' := []) (g := W.heap.size) (cp' := 0) (hA.mono (fun _ _ e => e.elim)) (row_empty W _) (.inr (Nat.le_refl _))
  rw [List.length_nil, World.setCell_alloc_past _ _ _ _ hlt] at hw1
  have HW1 := Lib.hid hw1
  clear hA h q0 hw1
  go_enter Try.func12, Try.ntmps12
  go_wp2
  all_goals
    go_ret2
    exact ⟨rfl, _, _, Nat.le_refl _, HW1.out⟩
theorem Rf.take {x : Int} (h : Rf W vb n (x :: q) sh m a cp) (hq : q.length ≤ 99999) :
    Calls Try.prog 12 #[.pointer (some ⟨vb, 0, none⟩)] W fun e W' => e = .returned (.tuple #[.int .i64 x, .bool true]) ∧ ∃ g cp', W.heap.size ≤ g ∧ Rf W' vb n q sh m (some ⟨g, 0, none⟩) cp' ∧ Ch (RB vb a) W W' := by
  cases q with
  | nil => exact h.take0
  | cons y q => exact h.take1 hq (by simp)
end
end Go.Proofs.Ytpddiphknpplcaa.PI
