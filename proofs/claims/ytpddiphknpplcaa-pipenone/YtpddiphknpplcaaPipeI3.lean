/-
  Contracts of package pipe's New, Put and Take at int.
-/
import Derived.Test.YtpddiphknpplcaaPipeI2
namespace Go.Proofs.Ytpddiphknpplcaa.PI
open Go.RowKit Go.Conc Verge
attribute [local go_sem] Oper.semAt_some
set_option linter.unusedVariables false
set_option linter.unusedSimpArgs false

theorem bytes_of : ∃ i, Try.prog.info? 3 = some i ∧ i.bytes = 8 := by
  have h : (Try.prog.info? 3).map (·.bytes) = some 8 := by kernel_rfl
  obtain ⟨i, hi, hb⟩ := Option.map_eq_some_iff.1 h
  exact ⟨i, hi, hb⟩
theorem make_chan (n : Nat) (hn : n ≤ 16) (w : World) : (Instr.makeChan 56 (.int .i64 n)).run Try.prog w = .ok (.chan (some w.heap.size)) (w.alloc (.chan n #[] false 0 0 false)) := by
  obtain ⟨i, hi, hb⟩ := bytes_of
  simpa using run_makeChan (P := Try.prog) (w := w) Try.underlying56 hi .i64 n (by omega) (by rw [hb]; omega)

section
variable {S : Nat → Prop} {w w' : World} {pb cb cap m b : Nat} {ch : List Int} {xs : List Nat} {V : Nat → Int} {sh : Bool}
theorem new_of (n : Nat) (h1 : 1 ≤ n) (h2 : n ≤ 16) (V : Nat → Int) (w : World) :
    Calls Try.prog 8 #[.int .i64 n] w fun e w' => e = .returned (.tuple #[.pointer (some ⟨w.heap.size + 1, 0, none⟩), .int .i64 0]) ∧ IsPb w' (w.heap.size + 1) w.heap.size n [] [] V 0 false ∧ Ch Nil w w' := by
  have hmk := make_chan n h2
  have l1 : ¬ ((n : Int) < 1) := by omega
  have l2 : ¬ (16 < (n : Int)) := by omega
  go_enter Try.func8, Try.ntmps8
  go_wp2
  go_ret2
  have c1 : ((w.alloc (.chan n #[] false 0 0 false)).alloc (.cells #[.chan (some w.heap.size), .pointer none, .pointer none, .int .i64 0, .int .i64 0, .bool false] 61)).heap[w.heap.size]? = some (.chan n #[] false 0 0 false) := by
    rw [Below.heap_alloc _ _ _ (by simp)]
    exact heap_alloc_new w _
  have c2 : ∀ j, ((w.alloc (.chan n #[] false 0 0 false)).alloc (.cells #[.chan (some w.heap.size), .pointer none, .pointer none, .int .i64 0, .int .i64 0, .bool false] 61)).cell? ⟨w.heap.size + 1, j, none⟩ = #[.chan (some w.heap.size), .pointer none, .pointer none, .int .i64 0, .int .i64 0, .bool false][j]? := fun j => by
    have := cell_fresh (w.alloc (.chan n #[] false 0 0 false)) #[.chan (some w.heap.size), .pointer none, .pointer none, .int .i64 0, .int .i64 0, .bool false] 61 j
    rw [World.size_alloc] at this
    exact this
  have c3 := Blk.new (w.alloc (.chan n #[] false 0 0 false)) #[.chan (some w.heap.size), .pointer none, .pointer none, .int .i64 0, .int .i64 0, .bool false] 61
  rw [World.size_alloc] at c3
  exact ⟨rfl, ⟨.new ⟨c2 1, c2 2, c2 3, c3, c2 0, c2 4, c2 5⟩, 0, 0, c1⟩, ((Ch.refl _ _).alloc _).alloc _⟩
theorem new_range (n : Int) (h : n < 1 ∨ 16 < n) (w : World) :
    Calls Try.prog 8 #[.int .i64 n] w fun e w' => e = .returned (.tuple #[.pointer none, .int .i64 4]) ∧ w = w' := by
  by_cases h1 : n < 1
  · clear h
    go_enter Try.func8, Try.ntmps8
    go_wp2
    go_ret2
    exact ⟨rfl, rfl⟩
  · have h2 : 16 < n := by omega
    clear h
    go_enter Try.func8, Try.ntmps8
    go_wp2
    go_ret2
    exact ⟨rfl, rfl⟩
theorem put_nil (v : Int) (w : World) :
    Calls Try.prog 9 #[.pointer none, .int .i64 v] w fun e w' => e = .returned (.tuple #[.bool false, .int .i64 6]) ∧ w = w' := by
  go_enter Try.func9, Try.ntmps9
  go_wp2_with fail
  refine (roomless_nil w).mono ?_
  rintro e w' ⟨rfl, rfl⟩
  go_wp2
  go_ret2
  exact ⟨rfl, rfl⟩
theorem IsPb.put_shut (h : IsPb w pb cb cap ch xs V m true) (v : Int) :
    Calls Try.prog 9 #[.pointer (some ⟨pb, 0, none⟩), .int .i64 v] w fun e w' => e = .returned (.tuple #[.bool false, .int .i64 3]) ∧ w = w' := by
  have h0 := h.l.h.c
  have h5 := h.l.h.s
  dsimp only at h0 h5
  go_enter Try.func9, Try.ntmps9
  go_wp2_with fail
  refine (roomless_of pb cb w h0).mono ?_
  rintro e w' ⟨rfl, rfl⟩
  go_wp2
  go_ret2
  exact ⟨rfl, rfl⟩
theorem IsPb.put_room (h : IsPb w pb cb cap ch [] V m false) (v : Int) (hr : ch.length < cap) :
    Calls Try.prog 9 #[.pointer (some ⟨pb, 0, none⟩), .int .i64 v] w fun e w' => e = .returned (.tuple #[.bool false, .int .i64 0]) ∧ IsPb w' pb cb cap (ch ++ [v]) [] V m false ∧ Ch (PB pb cb []) w w' := by
  have h0 := h.l.h.c
  have h3 := h.l.h.n
  have h5 := h.l.h.s
  dsimp only at h0 h3 h5
  obtain ⟨s, r, hb⟩ := h.c
  have H := Lib.hid h
  clear h
  go_enter Try.func9, Try.ntmps9
  go_wp2_with fail
  refine (roomless_of pb cb w h0).mono ?_
  rintro e w' ⟨rfl, rfl⟩
  go_wp2_with fail
  refine (spilled_of pb 0 w h3).mono ?_
  rintro e w' ⟨rfl, rfl⟩
  go_wp2_with fail
  refine (sent_room v h0 hb (by rw [size_cbuf]; exact hr)).mono ?_
  rintro e w' ⟨rfl, rfl⟩
  rw [cbuf_push]
  have hlt := (Array.getElem?_eq_some_iff.1 hb).1
  have hC : Ch (One cb) w (w.setChan cb cap (cbuf (ch ++ [v])) false (s + 1) r false) := (Ch.refl (One cb) w).chan (fun _ => rfl) _ _ _ _ _ _
  have R := Lib.hid (show IsPb (w.setChan cb cap (cbuf (ch ++ [v])) false (s + 1) r false) pb cb cap (ch ++ [v]) [] V m false ∧ Ch (PB pb cb []) w (w.setChan cb cap (cbuf (ch ++ [v])) false (s + 1) r false) from
    ⟨⟨H.out.l.kept hC (fun k hk e => H.out.ne hk e), _, _, heap_setChan _ _ _ _ _ _ _ _ hlt⟩, hC.mono (fun _ _ e => .inr e)⟩)
  clear hC
  generalize w.setChan cb cap (cbuf (ch ++ [v])) false (s + 1) r false = Z at *
  go_wp2
  go_ret2
  exact ⟨rfl, R.out⟩
set_option maxHeartbeats 1600000 in
theorem IsPb.put_spill (h : IsPb w pb cb cap ch xs V m false) (v : Int) (hf : xs = [] → cap ≤ ch.length) (hs : xs.length < 1000000) (hm : m ≤ 1000000) :
    Calls Try.prog 9 #[.pointer (some ⟨pb, 0, none⟩), .int .i64 v] w fun e w' => e = .returned (.tuple #[.bool true, .int .i64 0]) ∧ ∃ b, w.heap.size ≤ b ∧ IsPb w' pb cb cap ch (xs ++ [b]) (upd V b v) (max m (xs.length + 1)) false ∧ Ch (PB pb cb xs) w w' := by
  have h0 := h.l.h.c
  have h3 := h.l.h.n
  have h5 := h.l.h.s
  dsimp only at h0 h3 h5
  obtain ⟨s, r, hb⟩ := h.c
  have H := Lib.hid h
  have HF := Lib.hid hf
  clear h hf
  go_enter Try.func9, Try.ntmps9
  go_wp2_with fail
  refine (roomless_of pb cb w h0).mono ?_
  rintro e w' ⟨rfl, rfl⟩
  go_wp2_with fail
  refine (spilled_of pb xs.length w h3).mono ?_
  rintro e w' ⟨rfl, rfl⟩
  rcases xs with _ | ⟨x0, xt⟩
  · obtain ⟨xs, hxs⟩ : ∃ xs, xs = ([] : List Nat) := ⟨_, rfl⟩
    rw [← hxs] at H HF h3 hs
    simp only [← hxs]
    have hz : (((xs.length : Nat) : Int) == 0) = true := by rw [hxs]; rfl
    have hfu : cap ≤ ch.length := HF.out rfl
    have HXS := Lib.hid hxs
    obtain ⟨M, hM⟩ : ∃ M : Nat, M = max m (xs.length + 1) := ⟨_, rfl⟩
    have HM := Lib.hid hM
    clear hxs hM
    go_wp2_with fail
    refine (sent_full v h0 hb (by rw [size_cbuf]; exact hfu)).mono ?_
    rintro e w' ⟨rfl, rfl⟩
    go_wp2_with fail
    have H' := Lib.hid H.out.l
    refine (H'.out.push v (by omega)).mono ?_
    rintro e W ⟨b, rfl, hbb, l1, c1⟩
    have f4 := l1.h.k.fz 4
    have hc4 := l1.h.m
    have hc3 := l1.h.n
    rw [List.length_append, List.length_singleton] at hc3
    dsimp only at hc4
    have hcb : ∀ k, LB pb xs k → k ≠ cb := fun k hk => H.out.ne hk
    have hb2 : W.heap[cb]? = some (.chan cap (cbuf ch) false s r false) := (c1.block cb H.out.clt (fun hk => hcb _ hk rfl)).trans hb
    have L1 := Lib.hid l1
    have C1 := Lib.hid c1
    have HB2 := Lib.hid hb2
    have HBB := Lib.hid hbb
    clear h0 h3 h5 l1 c1 hb2 hcb hb hbb
    go_upto_region 8 with (fail)
    refine wp_region_any (by kernel_rfl) ?_
    change wpAny _ _ _ _ _ _ _ (World.drew _)
    have hc4' : W.drew.cell? ⟨pb, 4, none⟩ = some (.int .i64 m) := hc4
    have hc3' : W.drew.cell? ⟨pb, 3, none⟩ = some (.int .i64 ((xs.length + 1 : Nat) : Int)) := hc3
    have f4' : W.drew.frozen? ⟨pb, 4, none⟩ = false := f4
    have hD : Ch Nil W W.drew := (Ch.refl _ _).drew
    have L2 := Lib.hid (L1.out.kept hD (fun _ _ e => e))
    have C2 := Lib.hid (C1.out.then (S' := Nil) hD (fun _ _ e => e.elim))
    have HB3 := Lib.hid (show W.drew.heap[cb]? = some (.chan cap (cbuf ch) false s r false) from HB2.out)
    clear hc4 hc3 f4 hD L1 C1 HB2
    generalize W.drew = Y at *
    refine wpAny_take (i := 0) (v := ?_) rfl (by kernel_rfl) (by kernel_rfl) (by kernel_rfl) (fun _ _ _ h => h) (Or.inl ⟨by rfl, ?_⟩) ?_
    rotate_left
    · intro w; go_simp; try (with_reducible rfl)
    refine wpAny_take (i := 1) (v := ?_) rfl (by kernel_rfl) (by kernel_rfl) (by kernel_rfl) (fun _ _ _ h => h) (Or.inl ⟨by rfl, ?_⟩) ?_
    rotate_left
    · intro w; go_simp; try (with_reducible rfl)
    refine wpAny_take (i := 2) (v := ?_) rfl (by kernel_rfl) (by kernel_rfl) (by kernel_rfl) (fun _ _ _ h => h) (Or.inl ⟨by rfl, ?_⟩) ?_
    rotate_left
    · intro w; go_simp; try (with_reducible rfl)
    refine wpAny_take (i := 3) (v := ?_) rfl (by kernel_rfl) (by kernel_rfl) (by kernel_rfl) (fun _ _ _ h => h) (Or.inl ⟨by rfl, ?_⟩) ?_
    rotate_left
    · intro w; go_simp; try (with_reducible rfl)
    refine wpAny_take (i := 5) (v := ?_) rfl (by kernel_rfl) (by kernel_rfl) (by kernel_rfl) (fun _ _ _ h => h) (Or.inl ⟨by rfl, ?_⟩) ?_
    rotate_left
    · intro w; go_simp; try (with_reducible rfl)
    refine wpAny_ready (rs := [4, 6]) (by kernel_rfl) (by simp) ?_
    refine AllReady.cons rfl (fun K hK => ?_) ?_
    go_simp
    refine hK _ _ ?_
    clear hK K
    refine wpAny_ready (rs := [6]) (by kernel_rfl) (by simp) ?_
    refine AllReady.cons rfl (fun K hK => ?_) AllReady.nil
    go_simp
    refine (spilled_of pb (xs.length + 1) Y hc3').mono ?_
    rintro e w' ⟨rfl, rfl⟩
    refine hK _ _ ?_
    clear hK K
    refine ?tail
    rotate_left
    refine AllReady.cons rfl (fun K hK => ?_) AllReady.nil
    go_simp
    refine (spilled_of pb (xs.length + 1) Y hc3').mono ?_
    rintro e w' ⟨rfl, rfl⟩
    refine hK _ _ ?_
    clear hK K
    refine wpAny_ready (rs := [4]) (by kernel_rfl) (by simp) ?_
    refine AllReady.cons rfl (fun K hK => ?_) AllReady.nil
    go_simp
    refine hK _ _ ?_
    clear hK K
    exact ?tail
    have hmx : (if (m : Int) < (xs.length : Int) + 1 then (xs.length : Int) + 1 else (m : Int)) = M := by
      rw [HM.out]; split <;> omega
    refine wpAny_ready (rs := [7]) (by kernel_rfl) (by simp) ?_
    refine AllReady.cons rfl (fun K hK => ?_) AllReady.nil
    go_simp
    refine hK _ _ ?_
    clear hK K
    refine wpAny_take (i := 8) (v := ?_) rfl (by kernel_rfl) (by kernel_rfl) (by kernel_rfl) (fun _ _ _ h => h) (Or.inl ⟨by rfl, ?_⟩) ?_
    rotate_left
    · intro w; go_simp; try (with_reducible rfl)
    refine wpAny_take (i := 9) (v := ?_) rfl (by kernel_rfl) (by kernel_rfl) (by kernel_rfl) (fun _ _ _ h => h) (Or.inl ⟨by rfl, ?_⟩) ?_
    rotate_left
    · intro w; go_simp; try (with_reducible rfl)
    refine wpAny_ready (rs := [10]) (by kernel_rfl) (by simp) ?_
    refine AllReady.cons rfl (fun K hK => ?_) AllReady.nil
    go_simp
    refine hK _ _ ?_
    clear hK K
    refine wpAny_done (by kernel_rfl) ?_ _
    have hq : (Y.setCell ⟨pb, 4, none⟩ (.int .i64 M)).heap[cb]? = some (.chan cap (cbuf ch) false s r false) := by
      rw [Below.heap_setCell _ _ _ _ (fun e => H.out.ne (.inl rfl) e.symm)]
      exact HB3.out
    have hl : IsL ⟨.chan (some cb), .int .i64 M, .bool false⟩ (Y.setCell ⟨pb, 4, none⟩ (.int .i64 M)) pb (xs ++ [b]) (upd V b v) := by
      have hC : Ch (One pb) Y (Y.setCell ⟨pb, 4, none⟩ (.int .i64 M)) := (Ch.refl _ _).setB 4 _
      exact ⟨L2.out.h.setM _, fun i c hc => (L2.out.n i c hc).kept hC (fun e => L2.out.nl (e ▸ List.mem_of_getElem? hc)), L2.out.nd, L2.out.nl⟩
    have hch : Ch (PB pb cb xs) w (Y.setCell ⟨pb, 4, none⟩ (.int .i64 M)) := (C2.out.mono (fun _ _ e => .inl e)).set (p := ⟨pb, 4, none⟩) (fun _ => .inl (.inl rfl)) _
    have R := Lib.hid (show IsPb _ pb cb cap ch (xs ++ [b]) (upd V b v) M false ∧ _ from ⟨⟨hl, _, _, hq⟩, hch⟩)
    clear hq hl hch
    generalize Y.setCell ⟨pb, 4, none⟩ (.int .i64 M) = Z at *
    go_wp2
    go_ret2
    have R2 := R.out
    rw [HM.out, HXS.out] at R2
    exact ⟨rfl, b, HBB.out, R2⟩
  · obtain ⟨xs, hxs⟩ : ∃ xs, xs = x0 :: xt := ⟨_, rfl⟩
    rw [← hxs] at H HF h3 hs
    simp only [← hxs]
    have hz : (((xs.length : Nat) : Int) == 0) = false := by rw [hxs]; simp; omega
    have HXS := Lib.hid hxs
    obtain ⟨M, hM⟩ : ∃ M : Nat, M = max m (xs.length + 1) := ⟨_, rfl⟩
    have HM := Lib.hid hM
    clear hxs hM
    go_wp2_with fail
    have H' := Lib.hid H.out.l
    refine (H'.out.push v (by omega)).mono ?_
    rintro e W ⟨b, rfl, hbb, l1, c1⟩
    have f4 := l1.h.k.fz 4
    have hc4 := l1.h.m
    have hc3 := l1.h.n
    rw [List.length_append, List.length_singleton] at hc3
    dsimp only at hc4
    have hcb : ∀ k, LB pb xs k → k ≠ cb := fun k hk => H.out.ne hk
    have hb2 : W.heap[cb]? = some (.chan cap (cbuf ch) false s r false) := (c1.block cb H.out.clt (fun hk => hcb _ hk rfl)).trans hb
    have L1 := Lib.hid l1
    have C1 := Lib.hid c1
    have HB2 := Lib.hid hb2
    have HBB := Lib.hid hbb
    clear h0 h3 h5 l1 c1 hb2 hcb hb hbb
    go_upto_region 8 with (fail)
    refine wp_region_any (by kernel_rfl) ?_
    change wpAny _ _ _ _ _ _ _ (World.drew _)
    have hc4' : W.drew.cell? ⟨pb, 4, none⟩ = some (.int .i64 m) := hc4
    have hc3' : W.drew.cell? ⟨pb, 3, none⟩ = some (.int .i64 ((xs.length + 1 : Nat) : Int)) := hc3
    have f4' : W.drew.frozen? ⟨pb, 4, none⟩ = false := f4
    have hD : Ch Nil W W.drew := (Ch.refl _ _).drew
    have L2 := Lib.hid (L1.out.kept hD (fun _ _ e => e))
    have C2 := Lib.hid (C1.out.then (S' := Nil) hD (fun _ _ e => e.elim))
    have HB3 := Lib.hid (show W.drew.heap[cb]? = some (.chan cap (cbuf ch) false s r false) from HB2.out)
    clear hc4 hc3 f4 hD L1 C1 HB2
    generalize W.drew = Y at *
    refine wpAny_take (i := 0) (v := ?_) rfl (by kernel_rfl) (by kernel_rfl) (by kernel_rfl) (fun _ _ _ h => h) (Or.inl ⟨by rfl, ?_⟩) ?_
    rotate_left
    · intro w; go_simp; try (with_reducible rfl)
    refine wpAny_take (i := 1) (v := ?_) rfl (by kernel_rfl) (by kernel_rfl) (by kernel_rfl) (fun _ _ _ h => h) (Or.inl ⟨by rfl, ?_⟩) ?_
    rotate_left
    · intro w; go_simp; try (with_reducible rfl)
    refine wpAny_take (i := 2) (v := ?_) rfl (by kernel_rfl) (by kernel_rfl) (by kernel_rfl) (fun _ _ _ h => h) (Or.inl ⟨by rfl, ?_⟩) ?_
    rotate_left
    · intro w; go_simp; try (with_reducible rfl)
    refine wpAny_take (i := 3) (v := ?_) rfl (by kernel_rfl) (by kernel_rfl) (by kernel_rfl) (fun _ _ _ h => h) (Or.inl ⟨by rfl, ?_⟩) ?_
    rotate_left
    · intro w; go_simp; try (with_reducible rfl)
    refine wpAny_take (i := 5) (v := ?_) rfl (by kernel_rfl) (by kernel_rfl) (by kernel_rfl) (fun _ _ _ h => h) (Or.inl ⟨by rfl, ?_⟩) ?_
    rotate_left
    · intro w; go_simp; try (with_reducible rfl)
    refine wpAny_ready (rs := [4, 6]) (by kernel_rfl) (by simp) ?_
    refine AllReady.cons rfl (fun K hK => ?_) ?_
    go_simp
    refine hK _ _ ?_
    clear hK K
    refine wpAny_ready (rs := [6]) (by kernel_rfl) (by simp) ?_
    refine AllReady.cons rfl (fun K hK => ?_) AllReady.nil
    go_simp
    refine (spilled_of pb (xs.length + 1) Y hc3').mono ?_
    rintro e w' ⟨rfl, rfl⟩
    refine hK _ _ ?_
    clear hK K
    refine ?tail2
    rotate_left
    refine AllReady.cons rfl (fun K hK => ?_) AllReady.nil
    go_simp
    refine (spilled_of pb (xs.length + 1) Y hc3').mono ?_
    rintro e w' ⟨rfl, rfl⟩
    refine hK _ _ ?_
    clear hK K
    refine wpAny_ready (rs := [4]) (by kernel_rfl) (by simp) ?_
    refine AllReady.cons rfl (fun K hK => ?_) AllReady.nil
    go_simp
    refine hK _ _ ?_
    clear hK K
    exact ?tail2
    have hmx : (if (m : Int) < (xs.length : Int) + 1 then (xs.length : Int) + 1 else (m : Int)) = M := by
      rw [HM.out]; split <;> omega
    refine wpAny_ready (rs := [7]) (by kernel_rfl) (by simp) ?_
    refine AllReady.cons rfl (fun K hK => ?_) AllReady.nil
    go_simp
    refine hK _ _ ?_
    clear hK K
    refine wpAny_take (i := 8) (v := ?_) rfl (by kernel_rfl) (by kernel_rfl) (by kernel_rfl) (fun _ _ _ h => h) (Or.inl ⟨by rfl, ?_⟩) ?_
    rotate_left
    · intro w; go_simp; try (with_reducible rfl)
    refine wpAny_take (i := 9) (v := ?_) rfl (by kernel_rfl) (by kernel_rfl) (by kernel_rfl) (fun _ _ _ h => h) (Or.inl ⟨by rfl, ?_⟩) ?_
    rotate_left
    · intro w; go_simp; try (with_reducible rfl)
    refine wpAny_ready (rs := [10]) (by kernel_rfl) (by simp) ?_
    refine AllReady.cons rfl (fun K hK => ?_) AllReady.nil
    go_simp
    refine hK _ _ ?_
    clear hK K
    refine wpAny_done (by kernel_rfl) ?_ _
    have hq : (Y.setCell ⟨pb, 4, none⟩ (.int .i64 M)).heap[cb]? = some (.chan cap (cbuf ch) false s r false) := by
      rw [Below.heap_setCell _ _ _ _ (fun e => H.out.ne (.inl rfl) e.symm)]
      exact HB3.out
    have hl : IsL ⟨.chan (some cb), .int .i64 M, .bool false⟩ (Y.setCell ⟨pb, 4, none⟩ (.int .i64 M)) pb (xs ++ [b]) (upd V b v) := by
      have hC : Ch (One pb) Y (Y.setCell ⟨pb, 4, none⟩ (.int .i64 M)) := (Ch.refl _ _).setB 4 _
      exact ⟨L2.out.h.setM _, fun i c hc => (L2.out.n i c hc).kept hC (fun e => L2.out.nl (e ▸ List.mem_of_getElem? hc)), L2.out.nd, L2.out.nl⟩
    have hch : Ch (PB pb cb xs) w (Y.setCell ⟨pb, 4, none⟩ (.int .i64 M)) := (C2.out.mono (fun _ _ e => .inl e)).set (p := ⟨pb, 4, none⟩) (fun _ => .inl (.inl rfl)) _
    have R := Lib.hid (show IsPb _ pb cb cap ch (xs ++ [b]) (upd V b v) M false ∧ _ from ⟨⟨hl, _, _, hq⟩, hch⟩)
    clear hq hl hch
    generalize Y.setCell ⟨pb, 4, none⟩ (.int .i64 M) = Z at *
    go_wp2
    go_ret2
    have R2 := R.out
    rw [HM.out, HXS.out] at R2
    exact ⟨rfl, b, HBB.out, R2⟩
theorem take_nil (w : World) :
    Calls Try.prog 11 #[.pointer none] w fun e w' => e = .returned (.tuple #[.int .i64 0, .int .i64 6]) ∧ w = w' := by
  go_enter Try.func11, Try.ntmps11
  go_wp2_with fail
  refine (received_nil w).mono ?_
  rintro e w' ⟨rfl, rfl⟩
  go_wp2
  go_ret2
  exact ⟨rfl, rfl⟩
theorem IsPb.take_none (h : IsPb w pb cb cap [] xs V m sh) :
    Calls Try.prog 11 #[.pointer (some ⟨pb, 0, none⟩)] w fun e w' => e = .returned (.tuple #[.int .i64 0, .int .i64 6]) ∧ w = w' := by
  have h0 := h.l.h.c
  dsimp only at h0
  obtain ⟨s, r, hb⟩ := h.c
  have hb' : w.heap[cb]? = some (.chan cap #[] false s r false) := hb
  clear hb h
  go_enter Try.func11, Try.ntmps11
  go_wp2_with fail
  refine (received_none h0 hb').mono ?_
  rintro e w' ⟨rfl, rfl⟩
  go_wp2
  go_ret2
  exact ⟨rfl, rfl⟩
/-- what is left in the channel behind a receive -/
theorem IsPb.recvd {x : Int} {s r s' r' : Nat} (h : IsPb w pb cb cap (x :: ch) xs V m sh) : IsPb (w.setChan cb cap (cbuf ch) false s' r' false) pb cb cap ch xs V m sh ∧ Ch (One cb) w (w.setChan cb cap (cbuf ch) false s' r' false) := by
  have hC : Ch (One cb) w (w.setChan cb cap (cbuf ch) false s' r' false) := (Ch.refl (One cb) w).chan (fun _ => rfl) _ _ _ _ _ _
  exact ⟨⟨h.l.kept hC (fun k hk e => h.ne hk e), _, _, heap_setChan _ _ _ _ _ _ _ _ h.clt⟩, hC⟩
theorem IsPb.take_one {x : Int} (h : IsPb w pb cb cap (x :: ch) [] V m sh) :
    Calls Try.prog 11 #[.pointer (some ⟨pb, 0, none⟩)] w fun e w' => e = .returned (.tuple #[.int .i64 x, .int .i64 0]) ∧ IsPb w' pb cb cap ch [] V m sh ∧ Ch (PB pb cb []) w w' := by
  have h0 := h.l.h.c
  dsimp only at h0
  obtain ⟨s, r, hb⟩ := h.c
  have H := Lib.hid h
  clear h
  go_enter Try.func11, Try.ntmps11
  go_wp2_with fail
  refine (received_some x _ h0 hb (by rw [size_cbuf]; simp) (cbuf_head x ch) (cbuf_tail x ch)).mono ?_
  rintro e w' ⟨rfl, rfl⟩
  obtain ⟨h1, c1⟩ := H.out.recvd (s := s) (r := r) (s' := s) (r' := r + 1)
  generalize w.setChan cb cap (cbuf ch) false s (r + 1) false = Z at *
  have H1 := Lib.hid h1
  have C1 := Lib.hid c1
  clear h1 c1
  go_wp2_with fail
  refine (refill_none H1.out).mono ?_
  rintro e w' ⟨⟨u, rfl⟩, rfl⟩
  go_wp2
  go_ret2
  exact ⟨rfl, H1.out, C1.out.mono (fun _ _ e => .inr e)⟩
theorem IsPb.take_more {x : Int} (h : IsPb w pb cb cap (x :: ch) (b :: xs) V m sh) (hr : ch.length < cap) (hs : xs.length < 1000000) :
    Calls Try.prog 11 #[.pointer (some ⟨pb, 0, none⟩)] w fun e w' => e = .returned (.tuple #[.int .i64 x, .int .i64 0]) ∧ IsPb w' pb cb cap (ch ++ [V b]) xs V m sh ∧ Ch (PB pb cb (b :: xs)) w w' := by
  have h0 := h.l.h.c
  dsimp only at h0
  obtain ⟨s, r, hb⟩ := h.c
  have H := Lib.hid h
  clear h
  go_enter Try.func11, Try.ntmps11
  go_wp2_with fail
  refine (received_some x _ h0 hb (by rw [size_cbuf]; simp) (cbuf_head x ch) (cbuf_tail x ch)).mono ?_
  rintro e w' ⟨rfl, rfl⟩
  obtain ⟨h1, c1⟩ := H.out.recvd (s := s) (r := r) (s' := s) (r' := r + 1)
  generalize w.setChan cb cap (cbuf ch) false s (r + 1) false = Z at *
  have H1 := Lib.hid h1
  have C1 := Lib.hid c1
  clear h1 c1
  go_wp2_with fail
  refine (refill_some H1.out hr hs).mono ?_
  rintro e w' ⟨⟨u, rfl⟩, h2, c2⟩
  have H2 := Lib.hid h2
  have C2 := Lib.hid c2
  clear h2 c2
  go_wp2
  go_ret2
  exact ⟨rfl, H2.out, (C1.out.mono (fun _ _ e => .inr e)).trans C2.out⟩
end
end Go.Proofs.Ytpddiphknpplcaa.PI
