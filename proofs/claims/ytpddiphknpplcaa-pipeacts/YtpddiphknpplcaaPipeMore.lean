/-
  Contracts of package pipe's Len, Most, Shut and Closed at int.
-/
import Derived.Test.YtpddiphknpplcaaPipeI3
import Derived.Test.YtpddiphknpplcaaHeld
namespace Go.Proofs.Ytpddiphknpplcaa.PI
open Go.RowKit Go.Conc Verge
attribute [local go_sem] Oper.semAt_some
set_option linter.unusedVariables false
set_option linter.unusedSimpArgs false

theorem len_chan (ty : TypeId) (c cap s r : Nat) (buf : Array Value) (cl : Bool) (w : World) (hb : w.heap[c]? = some (.chan cap buf cl s r false)) :
    (Builtin.len_ #[56] ty #[.chan (some c)]).run Try.prog w = .ok (goInt buf.size) w := by
  simp [Builtin.len_, run_underlying Try.underlying56, getObj, Sem.run, hb]

section
variable {S : Nat → Prop} {w w' : World} {pb cb cap m b : Nat} {ch : List Int} {xs : List Nat} {V : Nat → Int} {sh : Bool}
theorem IsPb.len (h : IsPb w pb cb cap ch xs V m sh) (hl : ch.length ≤ 1000000) (hs : xs.length ≤ 1000000) :
    Calls Try.prog 14 #[.pointer (some ⟨pb, 0, none⟩)] w fun e w' => e = .returned (.int .i64 ((ch.length + xs.length : Nat) : Int)) ∧ Ch Nil w w' := by
  have h0 := h.l.h.c
  have h3 := h.l.h.n
  dsimp only at h0
  obtain ⟨s, r, hb⟩ := h.c
  have hln := fun ty (w : World) hb => len_chan ty cb cap s r (cbuf ch) false w hb
  rw [size_cbuf] at hln
  clear h
  go_enter Try.func14, Try.ntmps14
  go_upto_region 3 with (fail)
  have h0' : w.drew.cell? ⟨pb, 0, none⟩ = some (.chan (some cb)) := h0
  have h3' : w.drew.cell? ⟨pb, 3, none⟩ = some (.int .i64 xs.length) := h3
  have hln' := fun ty => hln ty w.drew hb
  have hD := Lib.hid (show Ch Nil w w.drew from (Ch.refl _ _).drew)
  refine wp_region_held_drew (S := fun w' => w' = w.drew) (by kernel_rfl) rfl (fun hHeld => ?_)
  clear h0 h3 hb hln
  generalize w.drew = Y at *
  refine take_at (v := ?_) 0 (some 5) rfl (by kernel_rfl) (by kernel_rfl) (by kernel_rfl) (by kernel_rfl) (fun _ _ _ h => h) (Or.inl ⟨by rfl, ?_⟩) (by assumption) ?_
  rotate_left
  · intro w hSw; (try dsimp only at hSw); go_simp; try (with_reducible rfl)
  (try simp only [Act.put, List.setIfInBounds_toArray, List.set_cons_zero, List.set_cons_succ])
  refine take_at (v := ?_) 1 (some 6) rfl (by kernel_rfl) (by kernel_rfl) (by kernel_rfl) (by kernel_rfl) (fun _ _ _ h => h) (Or.inl ⟨by rfl, ?_⟩) (by assumption) ?_
  rotate_left
  · intro w hSw; (try dsimp only at hSw); go_simp; try (with_reducible rfl)
  (try simp only [Act.put, List.setIfInBounds_toArray, List.set_cons_zero, List.set_cons_succ])
  refine take_at (v := ?_) 2 (some 7) rfl (by kernel_rfl) (by kernel_rfl) (by kernel_rfl) (by kernel_rfl) (fun _ _ _ h => h) (Or.inl ⟨by rfl, ?_⟩) (by assumption) ?_
  rotate_left
  · intro w hSw; (try dsimp only at hSw); go_simp; try (with_reducible rfl)
  (try simp only [Act.put, List.setIfInBounds_toArray, List.set_cons_zero, List.set_cons_succ])
  refine take_at (v := ?_) 3 (some 8) rfl (by kernel_rfl) (by kernel_rfl) (by kernel_rfl) (by kernel_rfl) (fun _ _ _ h => h) (Or.inl ⟨by rfl, ?_⟩) (by assumption) ?_
  rotate_left
  · intro w hSw; (try dsimp only at hSw); go_simp; try (with_reducible rfl)
  (try simp only [Act.put, List.setIfInBounds_toArray, List.set_cons_zero, List.set_cons_succ])
  refine take_at (v := ?_) 4 (some 9) rfl (by kernel_rfl) (by kernel_rfl) (by kernel_rfl) (by kernel_rfl) (fun _ _ _ h => h) (Or.inl ⟨by rfl, ?_⟩) (by assumption) ?_
  rotate_left
  · intro w hSw; (try dsimp only at hSw); go_simp; try (with_reducible rfl)
  (try simp only [Act.put, List.setIfInBounds_toArray, List.set_cons_zero, List.set_cons_succ])
  refine take_at (v := ?_) 5 (some 10) rfl (by kernel_rfl) (by kernel_rfl) (by kernel_rfl) (by kernel_rfl) (fun _ _ _ h => h) (Or.inl ⟨by rfl, ?_⟩) (by assumption) ?_
  rotate_left
  · intro w hSw; (try dsimp only at hSw); go_simp; try (with_reducible rfl)
  (try simp only [Act.put, List.setIfInBounds_toArray, List.set_cons_zero, List.set_cons_succ])
  refine take_at (v := ?_) 6 (some 11) rfl (by kernel_rfl) (by kernel_rfl) (by kernel_rfl) (by kernel_rfl) (fun _ _ _ h => h) (Or.inl ⟨by rfl, ?_⟩) (by assumption) ?_
  rotate_left
  · intro w hSw; (try dsimp only at hSw); go_simp; try (with_reducible rfl)
  (try simp only [Act.put, List.setIfInBounds_toArray, List.set_cons_zero, List.set_cons_succ])
  refine take_at (v := ?_) 7 (some 12) rfl (by kernel_rfl) (by kernel_rfl) (by kernel_rfl) (by kernel_rfl) (fun _ _ _ h => h) (Or.inl ⟨by rfl, ?_⟩) (by assumption) ?_
  rotate_left
  · intro w hSw; (try dsimp only at hSw); go_simp; try (with_reducible rfl)
  (try simp only [Act.put, List.setIfInBounds_toArray, List.set_cons_zero, List.set_cons_succ])
  refine wpAnyH_ready (rs := [8]) (by kernel_rfl) (by simp) ?_
  refine AllReadyH.cons rfl (fun K hK => ?_) AllReadyH.nil
  go_simp
  refine (len_of pb xs.length Y h3').mono ?_
  rintro e w4 ⟨rfl, rfl⟩
  refine hK.out _ _ rfl (fun hHeld => ?_)
  clear hK K
  (try simp only [Act.put, List.setIfInBounds_toArray, List.set_cons_zero, List.set_cons_succ])
  refine take_at (v := ?_) 9 (some 14) rfl (by kernel_rfl) (by kernel_rfl) (by kernel_rfl) (by kernel_rfl) (fun _ _ _ h => h) (Or.inl ⟨by rfl, ?_⟩) (by assumption) ?_
  rotate_left
  · intro w hSw; (try dsimp only at hSw); go_simp; try (with_reducible rfl)
  (try simp only [Act.put, List.setIfInBounds_toArray, List.set_cons_zero, List.set_cons_succ])
  refine take_at (v := ?_) 10 (some 2) rfl (by kernel_rfl) (by kernel_rfl) (by kernel_rfl) (by kernel_rfl) (fun _ _ _ h => h) (Or.inl ⟨by rfl, ?_⟩) (by assumption) ?_
  rotate_left
  · intro w hSw; (try dsimp only at hSw); go_simp; try (with_reducible rfl)
  (try simp only [Act.put, List.setIfInBounds_toArray, List.set_cons_zero, List.set_cons_succ])
  refine wpAnyH_done (by kernel_rfl) ?_ _
  go_wp2
  go_ret
  refine ⟨?_, hD.out⟩
  show Ending.returned (.int .i64 (IntKind.i64.wrap ((ch.length : Int) + (xs.length : Int)))) = _
  rw [IntWalk.i64_in _ (by omega)]
theorem len_nil' (w : World) :
    Calls Try.prog 14 #[.pointer none] w fun e w' => e = .returned (.int .i64 0) ∧ w = w' := by
  go_enter Try.func14, Try.ntmps14
  go_wp2
  go_ret
  exact ⟨rfl, rfl⟩
theorem IsPb.mostOf (h : IsPb w pb cb cap ch xs V m sh) :
    Calls Try.prog 17 #[.pointer (some ⟨pb, 0, none⟩)] w fun e w' => e = .returned (.int .i64 m) ∧ w = w' := by
  have h0 := h.l.h.m
  dsimp only at h0
  clear h
  go_enter Try.func17, Try.ntmps17
  go_wp2
  go_ret
  exact ⟨rfl, rfl⟩
theorem most_nil (w : World) :
    Calls Try.prog 17 #[.pointer none] w fun e w' => e = .returned (.int .i64 0) ∧ w = w' := by
  go_enter Try.func17, Try.ntmps17
  go_wp2
  go_ret
  exact ⟨rfl, rfl⟩
theorem IsPb.shut_again (h : IsPb w pb cb cap ch xs V m true) :
    Calls Try.prog 13 #[.pointer (some ⟨pb, 0, none⟩)] w fun e w' => e = .returned (.int .i64 3) ∧ w = w' := by
  have h0 := h.l.h.c
  have h5 := h.l.h.s
  dsimp only at h0 h5
  clear h
  go_enter Try.func13, Try.ntmps13
  go_wp2_with fail
  refine (roomless_of pb cb w h0).mono ?_
  rintro e w' ⟨rfl, rfl⟩
  go_wp2
  go_ret
  exact ⟨rfl, rfl⟩
theorem IsPb.shutS (h : IsPb w pb cb cap ch xs V m sh) : IsPb (w.setCell ⟨pb, 5, none⟩ (.bool true)) pb cb cap ch xs V m true ∧ Ch (One pb) w (w.setCell ⟨pb, 5, none⟩ (.bool true)) := by
  have hC : Ch (One pb) w (w.setCell ⟨pb, 5, none⟩ (.bool true)) := (Ch.refl _ _).setB 5 _
  obtain ⟨s, r, hb⟩ := h.c
  refine ⟨⟨⟨h.l.h.setS _, fun i c hc => (h.l.n i c hc).kept hC (fun e => h.l.nl (e ▸ List.mem_of_getElem? hc)), h.l.nd, h.l.nl⟩, s, r, ?_⟩, hC⟩
  exact (hC.block cb h.clt (fun e => h.ne (.inl rfl) e.symm)).trans hb
theorem IsPb.shut_first (h : IsPb w pb cb cap ch xs V m false) :
    Calls Try.prog 13 #[.pointer (some ⟨pb, 0, none⟩)] w fun e w' => e = .returned (.int .i64 0) ∧ IsPb w' pb cb cap ch xs V m true ∧ Ch (One pb) w w' := by
  have h0 := h.l.h.c
  have h5 := h.l.h.s
  dsimp only at h0 h5
  have f5 := h.l.h.k.fz 5
  have R := Lib.hid h.shutS
  clear h
  go_enter Try.func13, Try.ntmps13
  go_wp2_with fail
  refine (roomless_of pb cb w h0).mono ?_
  rintro e w' ⟨rfl, rfl⟩
  go_wp2
  go_ret
  exact ⟨rfl, R.out⟩
theorem shut_nil (w : World) :
    Calls Try.prog 13 #[.pointer none] w fun e w' => e = .returned (.int .i64 6) ∧ w = w' := by
  go_enter Try.func13, Try.ntmps13
  go_wp2_with fail
  refine (roomless_nil w).mono ?_
  rintro e w' ⟨rfl, rfl⟩
  go_wp2
  go_ret
  exact ⟨rfl, rfl⟩
theorem closed_nil (w : World) :
    Calls Try.prog 18 #[.pointer none] w fun e w' => e = .returned (.bool false) ∧ w = w' := by
  go_enter Try.func18, Try.ntmps18
  go_wp2
  go_ret
  exact ⟨rfl, rfl⟩
theorem IsPb.closedOf (h : IsPb w pb cb cap ch xs V m sh) (hl : ch.length ≤ 1000000) (hs : xs.length ≤ 1000000) :
    Calls Try.prog 18 #[.pointer (some ⟨pb, 0, none⟩)] w fun e w' => e = .returned (.bool (sh && (ch.length + xs.length == 0))) ∧ Ch Nil w w' := by
  have h5 := h.l.h.s
  dsimp only at h5
  cases sh with
  | false =>
    clear h
    go_enter Try.func18, Try.ntmps18
    go_wp2
    go_ret
    exact ⟨rfl, Ch.refl _ _⟩
  | true =>
    have H := Lib.hid h
    clear h
    go_enter Try.func18, Try.ntmps18
    go_wp2_with fail
    obtain ⟨n, hn⟩ : ∃ n, n = ch.length + xs.length := ⟨_, rfl⟩
    have HN := Lib.hid hn
    refine (H.out.len hl hs).mono ?_
    rw [← hn]
    rintro e w' ⟨rfl, c1⟩
    have C1 := Lib.hid c1
    clear c1 hn
    go_wp2
    go_ret
    refine ⟨?_, C1.out⟩
    rw [← HN.out]
    show Ending.returned (.bool ((n : Int) == 0)) = .returned (.bool (true && (n == 0)))
    rw [show ((n : Int) == 0) = (n == 0) from by rcases n with _ | n; rfl; simp; omega]
    rfl
end
end Go.Proofs.Ytpddiphknpplcaa.PI
