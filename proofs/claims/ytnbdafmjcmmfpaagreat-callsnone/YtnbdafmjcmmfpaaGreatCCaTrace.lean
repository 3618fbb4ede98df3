import Derived.Test.YtnbdafmjcmmfpaaGreatCCaSee
import Derived.Test.YtnbdafmjcmmfpaaGreatK11
import Derived.Deep.RegionHeld
/-
  A floor's trace, told beside it; what Begin notes; what Trace answers.
-/
namespace Go.Proofs.YtnbdafmjcmmfpaaGreat
open Go.RowKit Verge
attribute [local go_sem] Oper.semAt_some
set_option linter.unusedVariables false
set_option linter.unusedSimpArgs false
/-- a floor whose trace is L -/
def HasL (E : Ee) (W : World) (L : List Ev) : Prop := ∃ s a tc, Fl W E.F s a tc ∧ s.L = L
section
variable {E : Ee} {S S0 : Nat → Prop} {w0 W W' : World} {σ σ' : Wd} {n n' : Nat} {X X' : Mx} {k k' : Wk} {L : List Ev}
theorem HasL.quiet (h : HasL E W L) (c : Ch Nil W W') : HasL E W' L := by
  obtain ⟨s, a, tc, h1, h2⟩ := h
  exact ⟨s, a, tc, h1.quiet c, h2⟩
theorem IsF.tell {w : World} {F : Fb} {a a' : Option Addr} {l l' tc tc' : Nat} (h : IsF w F a l tc) (h' : IsF w F a' l' tc') : a' = a ∧ l' = l ∧ tc' = tc := by
  have e1 := h.c 14 _ rfl
  have e2 := h'.c 14 _ rfl
  rw [e1] at e2
  simp only [Option.some.injEq, Value.slice.injEq] at e2
  exact ⟨e2.1.symm, e2.2.1.symm, e2.2.2.symm⟩
theorem Hd.tell {L' : List Ev} {a : Option Addr} {tc : Nat} (h1 : Hd E W σ L' a tc) (hl : HasL E W L) : Hd E W σ L a tc ∧ L.length = L'.length := by
  obtain ⟨s, a', tc', g, rfl⟩ := hl
  obtain ⟨rfl, el, rfl⟩ := IsF.tell h1.f.fl g.fl
  exact ⟨⟨⟨g.fl, h1.f.pc, h1.f.pi, h1.f.pb, h1.f.pn, g.tr, g.ta, h1.f.o, h1.f.tb⟩, h1.r, h1.sd, h1.ri, h1.s, h1.la⟩, el⟩
theorem Bo.noteL (h : Bo E S0 w0 W σ n X k) (hl : HasL E W L) (hn : n ≤ 90000) (u : Ev) :
    Calls Tryz.prog 65 #[ptr E.F.f, .agg #[.int .i64 u.k, .int .i64 u.t, .int .i64 u.c, .int .i64 u.h, .int .u64 u.i, .int .u64 u.g, .int .u64 u.d, .int .u64 u.p, .int .u64 u.q, .int .i64 u.e]] W fun e W' => e = .returned (.tuple #[]) ∧ Bo E S0 w0 W' σ (n + 1) X k ∧ HasL E W' (L ++ [u]) := by
  obtain ⟨L', a, tc, h1', h2', h3, h4⟩ := h.hd
  obtain ⟨h1, el⟩ := h1'.tell hl
  have h2 : L.length ≤ n := by omega
  refine (note_fl h1.f (by show L.length ≤ 100000; omega) u).mono ?_
  rintro e w' ⟨a', tc', rfl, f', c, ha⟩
  have hi := h.bd.i
  exact ⟨rfl, h.flr h1 h3 h4 f' c ha (by rw [List.length_append]; show L.length + 1 ≤ n + 1; omega) (by omega) (by omega), ⟨_, a', tc', f', rfl⟩⟩
set_option maxHeartbeats 4000000 in
theorem Bo.knoteL (hl : HasL E W L) (h : Bo E S0 w0 W σ n X k) (hn : n ≤ 90000) (u : Ev) :
    Calls Tryz.prog 41 #[ptr X.kb, .agg #[.int .i64 u.k, .int .i64 u.t, .int .i64 u.c, .int .i64 u.h, .int .u64 u.i, .int .u64 u.g, .int .u64 u.d, .int .u64 u.p, .int .u64 u.q, .int .i64 u.e]] W fun e W' => e = .returned (.tuple #[]) ∧ Bo E S0 w0 W' σ (n + 1) X k ∧ HasL E W' (L ++ [⟨u.k, X.th, X.no, (k.kd : Nat), u.i, u.g, u.d, u.p, u.q, u.e⟩]) := by
  have cA : Ch Nil W (W.alloc (Obj.cells #[.int .i64 u.k, .int .i64 u.t, .int .i64 u.c, .int .i64 u.h, .int .u64 u.i, .int .u64 u.g, .int .u64 u.d, .int .u64 u.p, .int .u64 u.q, .int .i64 u.e] 70)) := (Ch.refl _ _).alloc _
  have bx : IsVs (W.alloc (Obj.cells #[.int .i64 u.k, .int .i64 u.t, .int .i64 u.c, .int .i64 u.h, .int .u64 u.i, .int .u64 u.g, .int .u64 u.d, .int .u64 u.p, .int .u64 u.q, .int .i64 u.e] 70)) W.heap.size (evV10 u) := IsVs.new W (evV10 u) 70
  have H0 := Lib.hid h
  have CA := Lib.hid cA
  have H1 := Lib.hid (h.quiet cA)
  have hkB := h.kl
  have HL := Lib.hid hl
  clear h cA hl
  go_enter Tryz.func41, Tryz.ntmps41
  go_upto_region 1 with (fail)
  generalize W.alloc (Obj.cells #[.int .i64 u.k, .int .i64 u.t, .int .i64 u.c, .int .i64 u.h, .int .u64 u.i, .int .u64 u.g, .int .u64 u.d, .int .u64 u.p, .int .u64 u.q, .int .i64 u.e] 70) = w1 at H1 CA bx ⊢
  obtain ⟨B, hB⟩ : ∃ B, B = W.heap.size := ⟨_, rfl⟩
  rw [← hB] at bx hkB ⊢
  have HB := Lib.hid hB
  clear hB
  have D1 : Ch Nil w1 w1.drew := (Ch.refl _ _).drew
  have H2 := Lib.hid (H1.out.quiet D1)
  have CD := Lib.hid (CA.out.trans D1)
  have BX := Lib.hid (bx.kept D1 (fun e => e))
  refine wp_region_held_drew (S := fun w' => w'.cell? ⟨X.kb, 1, none⟩ = some (.int .i64 X.th) ∧ w'.cell? ⟨X.kb, 2, none⟩ = some (.int .i64 X.no) ∧ w'.cell? ⟨X.kb, 3, none⟩ = some (.int .i64 (k.kd : Nat))) (by kernel_rfl) ⟨H2.out.kc 1 _ rfl, H2.out.kc 2 _ rfl, H2.out.kc 3 _ rfl⟩ (fun hHeld => ?_)
  clear bx D1 H1 CA
  generalize w1.drew = w2 at *
  have hne : ¬ X.kb = B := by omega
  refine take_at (v := ?_) 0 (some 4) rfl (by kernel_rfl) (by kernel_rfl) (by kernel_rfl) (by kernel_rfl) (fun _ _ _ h => h) (Or.inl ⟨by rfl, ?_⟩) (by assumption) ?_
  rotate_left
  · intro w hSw; (try dsimp only at hSw); go_simp; try (with_reducible rfl)
  (try simp only [Act.put, List.setIfInBounds_toArray, List.set_cons_zero, List.set_cons_succ])
  refine take_at (v := ?_) 1 (some 5) rfl (by kernel_rfl) (by kernel_rfl) (by kernel_rfl) (by kernel_rfl) (fun _ _ _ h => h) (Or.inl ⟨by rfl, ?_⟩) (by assumption) ?_
  rotate_left
  · intro w hSw; (try dsimp only at hSw); go_simp; try (with_reducible rfl)
  (try simp only [Act.put, List.setIfInBounds_toArray, List.set_cons_zero, List.set_cons_succ])
  refine take_at (v := ?_) 2 (some 6) rfl (by kernel_rfl) (by kernel_rfl) (by kernel_rfl) (by kernel_rfl) (fun _ _ _ h => h) (Or.inl ⟨by rfl, ?_⟩) (by assumption) ?_
  rotate_left
  · intro w hSw; (try dsimp only at hSw); go_simp; try (with_reducible rfl)
  (try simp only [Act.put, List.setIfInBounds_toArray, List.set_cons_zero, List.set_cons_succ])
  refine take_at (v := ?_) 3 (some 7) rfl (by kernel_rfl) (by kernel_rfl) (by kernel_rfl) (by kernel_rfl) (fun _ _ _ h => h) (Or.inl ⟨by rfl, ?_⟩) (by assumption) ?_
  rotate_left
  · intro w hSw; (try dsimp only at hSw); go_simp; try (with_reducible rfl)
  (try simp only [Act.put, List.setIfInBounds_toArray, List.set_cons_zero, List.set_cons_succ])
  refine take_at (v := ?_) 4 (some 8) rfl (by kernel_rfl) (by kernel_rfl) (by kernel_rfl) (by kernel_rfl) (fun _ _ _ h => h) (Or.inl ⟨by rfl, ?_⟩) (by assumption) ?_
  rotate_left
  · intro w hSw; (try dsimp only at hSw); go_simp; try (with_reducible rfl)
  (try simp only [Act.put, List.setIfInBounds_toArray, List.set_cons_zero, List.set_cons_succ])
  refine take_at (v := ?_) 5 (some 9) rfl (by kernel_rfl) (by kernel_rfl) (by kernel_rfl) (by kernel_rfl) (fun _ _ _ h => h) (Or.inl ⟨by rfl, ?_⟩) (by assumption) ?_
  rotate_left
  · intro w hSw; (try dsimp only at hSw); go_simp; try (with_reducible rfl)
  (try simp only [Act.put, List.setIfInBounds_toArray, List.set_cons_zero, List.set_cons_succ])
  refine take_at (v := ?_) 6 (some 10) rfl (by kernel_rfl) (by kernel_rfl) (by kernel_rfl) (by kernel_rfl) (fun _ _ _ h => h) (Or.inl ⟨by rfl, ?_⟩) (by assumption) ?_
  rotate_left
  · intro w hSw; (try dsimp only at hSw); go_simp; try (with_reducible rfl)
  (try simp only [Act.put, List.setIfInBounds_toArray, List.set_cons_zero, List.set_cons_succ])
  refine take_at (v := ?_) 7 (some 11) rfl (by kernel_rfl) (by kernel_rfl) (by kernel_rfl) (by kernel_rfl) (fun _ _ _ h => h) (Or.inl ⟨by rfl, ?_⟩) (by assumption) ?_
  rotate_left
  · intro w hSw; (try dsimp only at hSw); go_simp; try (with_reducible rfl)
  (try simp only [Act.put, List.setIfInBounds_toArray, List.set_cons_zero, List.set_cons_succ])
  refine take_at (v := ?_) 8 (some 12) rfl (by kernel_rfl) (by kernel_rfl) (by kernel_rfl) (by kernel_rfl) (fun _ _ _ h => h) (Or.inl ⟨by rfl, ?_⟩) (by assumption) ?_
  rotate_left
  · intro w hSw; (try dsimp only at hSw); go_simp; try (with_reducible rfl)
  (try simp only [Act.put, List.setIfInBounds_toArray, List.set_cons_zero, List.set_cons_succ])
  refine take_at (v := ?_) 9 (some 13) rfl (by kernel_rfl) (by kernel_rfl) (by kernel_rfl) (by kernel_rfl) (fun _ _ _ h => h) (Or.inl ⟨by rfl, ?_⟩) (by assumption) ?_
  rotate_left
  · intro w hSw; (try dsimp only at hSw); go_simp; try (with_reducible rfl)
  (try simp only [Act.put, List.setIfInBounds_toArray, List.set_cons_zero, List.set_cons_succ])
  refine take_at (v := ?_) 10 (some 14) rfl (by kernel_rfl) (by kernel_rfl) (by kernel_rfl) (by kernel_rfl) (fun _ _ _ h => h) (Or.inl ⟨by rfl, ?_⟩) (by assumption) ?_
  rotate_left
  · intro w hSw; (try dsimp only at hSw); go_simp; try (with_reducible rfl)
  (try simp only [Act.put, List.setIfInBounds_toArray, List.set_cons_zero, List.set_cons_succ])
  refine take_at (v := ?_) 11 (some 15) rfl (by kernel_rfl) (by kernel_rfl) (by kernel_rfl) (by kernel_rfl) (fun _ _ _ h => h) (Or.inl ⟨by rfl, ?_⟩) (by assumption) ?_
  rotate_left
  · intro w hSw; (try dsimp only at hSw); go_simp; try (with_reducible rfl)
  (try simp only [Act.put, List.setIfInBounds_toArray, List.set_cons_zero, List.set_cons_succ])
  refine take_at (v := ?_) 12 (some 16) rfl (by kernel_rfl) (by kernel_rfl) (by kernel_rfl) (by kernel_rfl) (fun _ _ _ h => h) (Or.inl ⟨by rfl, ?_⟩) (by assumption) ?_
  rotate_left
  · intro w hSw; (try dsimp only at hSw); go_simp; try (with_reducible rfl)
  (try simp only [Act.put, List.setIfInBounds_toArray, List.set_cons_zero, List.set_cons_succ])
  refine take_at (v := ?_) 13 (some 17) rfl (by kernel_rfl) (by kernel_rfl) (by kernel_rfl) (by kernel_rfl) (fun _ _ _ h => h) (Or.inl ⟨by rfl, ?_⟩) (by assumption) ?_
  rotate_left
  · intro w hSw; (try dsimp only at hSw); go_simp; try (with_reducible rfl)
  (try simp only [Act.put, List.setIfInBounds_toArray, List.set_cons_zero, List.set_cons_succ])
  have f1 := BX.out.b.fz 1
  have g1 := BX.out.c 1 _ rfl
  refine wpAnyH_ready (rs := [14]) (by kernel_rfl) (by simp) ?_
  refine AllReadyH.cons rfl (fun K hK => ?_) AllReadyH.nil
  go_simp
  have c1 : Ch (One B) w2 (w2.setCell ⟨B, 1, none⟩ (.int .i64 X.th)) := (Ch.refl _ _).setB _ _
  have B1 := Lib.hid (BX.out.setAt 1 (.int .i64 X.th))
  have s1 := (And.intro (c1.keeps hHeld.1 hne) (And.intro (c1.keeps hHeld.2.1 hne) (c1.keeps hHeld.2.2 hne)))
  have C1 := Lib.hid c1
  clear c1 f1 g1 hHeld
  generalize w2.setCell ⟨B, 1, none⟩ (.int .i64 X.th) = w3 at *
  refine hK.out _ _ s1 (fun hHeld => ?_)
  clear hK K s1
  (try simp only [Act.put, List.setIfInBounds_toArray, List.set_cons_zero, List.set_cons_succ])
  refine take_at (v := ?_) 15 (some 18) rfl (by kernel_rfl) (by kernel_rfl) (by kernel_rfl) (by kernel_rfl) (fun _ _ _ h => h) (Or.inl ⟨by rfl, ?_⟩) (by assumption) ?_
  rotate_left
  · intro w hSw; (try dsimp only at hSw); go_simp; try (with_reducible rfl)
  (try simp only [Act.put, List.setIfInBounds_toArray, List.set_cons_zero, List.set_cons_succ])
  have f1 := B1.out.b.fz 2
  have g1 := B1.out.c 2 _ rfl
  refine wpAnyH_ready (rs := [16]) (by kernel_rfl) (by simp) ?_
  refine AllReadyH.cons rfl (fun K hK => ?_) AllReadyH.nil
  go_simp
  have c1 : Ch (One B) w3 (w3.setCell ⟨B, 2, none⟩ (.int .i64 X.no)) := (Ch.refl _ _).setB _ _
  have B2 := Lib.hid (B1.out.setAt 2 (.int .i64 X.no))
  have s1 := (And.intro (c1.keeps hHeld.1 hne) (And.intro (c1.keeps hHeld.2.1 hne) (c1.keeps hHeld.2.2 hne)))
  have C2 := Lib.hid (C1.out.trans c1)
  clear c1 f1 g1 hHeld
  generalize w3.setCell ⟨B, 2, none⟩ (.int .i64 X.no) = w4 at *
  refine hK.out _ _ s1 (fun hHeld => ?_)
  clear hK K s1
  (try simp only [Act.put, List.setIfInBounds_toArray, List.set_cons_zero, List.set_cons_succ])
  refine take_at (v := ?_) 17 (some 19) rfl (by kernel_rfl) (by kernel_rfl) (by kernel_rfl) (by kernel_rfl) (fun _ _ _ h => h) (Or.inl ⟨by rfl, ?_⟩) (by assumption) ?_
  rotate_left
  · intro w hSw; (try dsimp only at hSw); go_simp; try (with_reducible rfl)
  (try simp only [Act.put, List.setIfInBounds_toArray, List.set_cons_zero, List.set_cons_succ])
  have f1 := B2.out.b.fz 3
  have g1 := B2.out.c 3 _ rfl
  refine wpAnyH_ready (rs := [18]) (by kernel_rfl) (by simp) ?_
  refine AllReadyH.cons rfl (fun K hK => ?_) AllReadyH.nil
  go_simp
  have c1 : Ch (One B) w4 (w4.setCell ⟨B, 3, none⟩ (.int .i64 (k.kd : Nat))) := (Ch.refl _ _).setB _ _
  have B3 := Lib.hid (B2.out.setAt 3 (.int .i64 (k.kd : Nat)))
  have s1 := (And.intro (c1.keeps hHeld.1 hne) (And.intro (c1.keeps hHeld.2.1 hne) (c1.keeps hHeld.2.2 hne)))
  have C3 := Lib.hid (C2.out.trans c1)
  clear c1 f1 g1 hHeld
  generalize w4.setCell ⟨B, 3, none⟩ (.int .i64 (k.kd : Nat)) = w5 at *
  refine hK.out _ _ s1 (fun hHeld => ?_)
  clear hK K s1 hHeld B1 B2 C1 C2 BX
  (try simp only [Act.put, List.setIfInBounds_toArray, List.set_cons_zero, List.set_cons_succ])
  refine wpAnyH_done (by kernel_rfl) ?_ _
  have CE := Lib.hid (show Ch Nil W w5 from CD.out.then C3.out (fun i hi e => by have := HB.out; have e' : i = B := e; omega))
  have H5 := Lib.hid (H0.out.push CE.out (Nat.le_of_eq HB.out.symm) B3.out)
  clear CD C3 H2
  go_upto_region 2 with (fail)
  have D1 : Ch Nil w5 w5.drew := (Ch.refl _ _).drew
  have H6 := Lib.hid (H5.out.quiet D1)
  have y := (H6.out.kw.bc _ List.mem_cons_self).cells10
  have HL6 := Lib.hid (HL.out.quiet (CE.out.trans D1))
  clear D1 H5 B3 H0 CE HL
  refine wp_region_held_drew (S := fun w' => w'.cell? ⟨X.kb, 0, none⟩ = some (ptr E.F.f) ∧ w'.cell? ⟨B, 0, none⟩ = some (.int .i64 u.k) ∧ w'.cell? ⟨B, 1, none⟩ = some (.int .i64 X.th) ∧ w'.cell? ⟨B, 2, none⟩ = some (.int .i64 X.no) ∧ w'.cell? ⟨B, 3, none⟩ = some (.int .i64 (k.kd : Nat)) ∧ w'.cell? ⟨B, 4, none⟩ = some (.int .u64 u.i) ∧ w'.cell? ⟨B, 5, none⟩ = some (.int .u64 u.g) ∧ w'.cell? ⟨B, 6, none⟩ = some (.int .u64 u.d) ∧ w'.cell? ⟨B, 7, none⟩ = some (.int .u64 u.p) ∧ w'.cell? ⟨B, 8, none⟩ = some (.int .u64 u.q) ∧ w'.cell? ⟨B, 9, none⟩ = some (.int .i64 u.e)) (by kernel_rfl) ⟨H6.out.k0, y⟩ (fun hHeld => ?_)
  clear y
  generalize w5.drew = w6 at *
  refine take_at (v := ?_) 0 (some 20) rfl (by kernel_rfl) (by kernel_rfl) (by kernel_rfl) (by kernel_rfl) (fun _ _ _ h => h) (Or.inl ⟨by rfl, ?_⟩) (by assumption) ?_
  rotate_left
  · intro w hSw; (try dsimp only at hSw); go_simp; try (with_reducible rfl)
  (try simp only [Act.put, List.setIfInBounds_toArray, List.set_cons_zero, List.set_cons_succ])
  refine take_at (v := ?_) 1 (some 21) rfl (by kernel_rfl) (by kernel_rfl) (by kernel_rfl) (by kernel_rfl) (fun _ _ _ h => h) (Or.inl ⟨by rfl, ?_⟩) (by assumption) ?_
  rotate_left
  · intro w hSw; (try dsimp only at hSw); go_simp; try (with_reducible rfl)
  (try simp only [Act.put, List.setIfInBounds_toArray, List.set_cons_zero, List.set_cons_succ])
  refine take_at (v := ?_) 2 (some 22) rfl (by kernel_rfl) (by kernel_rfl) (by kernel_rfl) (by kernel_rfl) (fun _ _ _ h => h) (Or.inl ⟨by rfl, ?_⟩) (by assumption) ?_
  rotate_left
  · intro w hSw; (try dsimp only at hSw); go_simp; try (with_reducible rfl)
  (try simp only [Act.put, List.setIfInBounds_toArray, List.set_cons_zero, List.set_cons_succ])
  refine take_at (v := ?_) 3 (some 23) rfl (by kernel_rfl) (by kernel_rfl) (by kernel_rfl) (by kernel_rfl) (fun _ _ _ h => h) (Or.inl ⟨by rfl, ?_⟩) (by assumption) ?_
  rotate_left
  · intro w hSw; (try dsimp only at hSw); go_simp; try (with_reducible rfl)
  (try simp only [Act.put, List.setIfInBounds_toArray, List.set_cons_zero, List.set_cons_succ])
  refine take_at (v := ?_) 4 (some 24) rfl (by kernel_rfl) (by kernel_rfl) (by kernel_rfl) (by kernel_rfl) (fun _ _ _ h => h) (Or.inl ⟨by rfl, ?_⟩) (by assumption) ?_
  rotate_left
  · intro w hSw; (try dsimp only at hSw); go_simp; try (with_reducible rfl)
  (try simp only [Act.put, List.setIfInBounds_toArray, List.set_cons_zero, List.set_cons_succ])
  refine wpAnyH_ready (rs := [5]) (by kernel_rfl) (by simp) ?_
  refine AllReadyH.cons rfl (fun K hK => ?_) AllReadyH.nil
  go_simp
  refine (H6.out.noteL HL6.out hn ⟨u.k, X.th, X.no, (k.kd : Nat), u.i, u.g, u.d, u.p, u.q, u.e⟩).mono ?_
  rintro e w7 ⟨rfl, h7, l7⟩
  have H7 := Lib.hid h7
  have L7 := Lib.hid l7
  clear l7
  refine hK.out _ _ ?_ (fun hHeld => ?_)
  · exact ⟨h7.k0, (h7.kw.bc _ List.mem_cons_self).cells10⟩
  clear hK K h7 hHeld
  (try simp only [Act.put, List.setIfInBounds_toArray, List.set_cons_zero, List.set_cons_succ])
  refine wpAnyH_done (by kernel_rfl) ?_ _
  go_wp2
  go_end0
  exact ⟨rfl, H7.out.pops (fun p hp => List.mem_cons_of_mem _ hp), L7.out⟩
variable {th no : Int} {id d p : Nat}
set_option maxHeartbeats 4000000 in
theorem begin_genL (hl : HasL E W L) {kd F : Nat} {vs : Nat → List Value} (hf : First E th no kd id d p F vs) (hv : ∀ kb ab pb, rvV (newX kb ab pb th no (.func (.func F) #[ptr ab] #[])) (newW kd id d p) = vs kb) (h : Bf E S0 w0 W σ n) (hn : n ≤ 90000) :
    Calls Tryz.prog 11 #[ptr E.F.f, .int .i64 th, .int .i64 no, clV kd id d p] W fun e W' => ∃ kb ab pb, e = .returned (.tuple #[ptr kb, .int .i64 0]) ∧ Bo E S0 w0 W' σ (n + 1) (newX kb ab pb th no (.func (.func F) #[ptr ab] #[])) (newW kd id d p) ∧ W.heap.size ≤ kb ∧ kb < ab ∧ ab < pb ∧ HasL E W' (L ++ [⟨1, th, no, (kd : Nat), (id : Nat), 0, (d : Nat), (p : Nat), 0, 0⟩]) := by
  have hE := eql_do
  obtain ⟨i1, i2, cA⟩ := boxes2 W (clL kd id d p) (wk0 E th no kd id d p) 38 98 _ rfl
  have I1 := Lib.hid i1
  have I2 := Lib.hid i2
  have CA := Lib.hid cA
  have HF := Lib.hid hf
  have HV := Lib.hid hv
  have H0 := Lib.hid h
  obtain ⟨y0, y1, y2, y3⟩ := (IsVs.new W (clL kd id d p) 38).cells4
  have HL := Lib.hid hl
  clear h hf hv i1 i2 cA hl
  go_enter Tryz.func11, Tryz.ntmps11
  go_upto_region 4 with (fail)
  change Hid (IsVs ((W.alloc (.cells #[.int .i64 (kd : Nat), .int .u64 (id : Nat), .int .u64 (d : Nat), .int .u64 (p : Nat)] 38)).alloc (.cells #[ptr E.F.f, .int .i64 th, .int .i64 no, .int .i64 (kd : Nat), .int .u64 (id : Nat), .int .u64 (d : Nat), .int .u64 (p : Nat), .int .i64 0, .bool false, .int .u64 0, .int .u64 0, .slice none 0 0, .pointer none] 98)) _ _) at I1
  change Hid (IsVs ((W.alloc (.cells #[.int .i64 (kd : Nat), .int .u64 (id : Nat), .int .u64 (d : Nat), .int .u64 (p : Nat)] 38)).alloc (.cells #[ptr E.F.f, .int .i64 th, .int .i64 no, .int .i64 (kd : Nat), .int .u64 (id : Nat), .int .u64 (d : Nat), .int .u64 (p : Nat), .int .i64 0, .bool false, .int .u64 0, .int .u64 0, .slice none 0 0, .pointer none] 98)) _ _) at I2
  change Hid (Ch Nil W ((W.alloc (.cells #[.int .i64 (kd : Nat), .int .u64 (id : Nat), .int .u64 (d : Nat), .int .u64 (p : Nat)] 38)).alloc (.cells #[ptr E.F.f, .int .i64 th, .int .i64 no, .int .i64 (kd : Nat), .int .u64 (id : Nat), .int .u64 (d : Nat), .int .u64 (p : Nat), .int .i64 0, .bool false, .int .u64 0, .int .u64 0, .slice none 0 0, .pointer none] 98))) at CA
  generalize (W.alloc (.cells #[.int .i64 (kd : Nat), .int .u64 (id : Nat), .int .u64 (d : Nat), .int .u64 (p : Nat)] 38)).alloc (.cells #[ptr E.F.f, .int .i64 th, .int .i64 no, .int .i64 (kd : Nat), .int .u64 (id : Nat), .int .u64 (d : Nat), .int .u64 (p : Nat), .int .i64 0, .bool false, .int .u64 0, .int .u64 0, .slice none 0 0, .pointer none] 98) = w1 at I1 I2 CA ⊢
  clear y0 y1 y2 y3
  obtain ⟨cb, hcb⟩ : ∃ cb, cb = W.heap.size := ⟨_, rfl⟩
  rw [← hcb] at I1 I2 ⊢
  obtain ⟨kb, hkb⟩ : ∃ kb, kb = cb + 1 := ⟨_, rfl⟩
  rw [← hkb] at I2 ⊢
  have HB := Lib.hid (And.intro hcb hkb)
  clear hcb hkb
  go_wp2_with fail
  refine (HF.out w1 kb I2.out).mono ?_
  rintro e w2 ⟨rfl, v2, c2⟩
  have V2 := Lib.hid v2
  have J1 := Lib.hid (I1.out.kept c2 (fun e => e))
  have J2 := Lib.hid (I2.out.kept c2 (fun e => e))
  have C2 := Lib.hid (CA.out.trans c2)
  have L1 := Lib.hid (show kb < w1.heap.size from I2.out.lt)
  obtain ⟨ab, hab⟩ : ∃ ab, ab = w1.heap.size := ⟨_, rfl⟩
  rw [← hab] at V2 L1 ⊢
  clear v2 c2 hab I1 I2 CA HF
  go_wp2_with fail
  refine (next_fn _ (.inr ⟨_, _, _, rfl⟩) _).mono ?_
  rintro e w3 ⟨rfl, c3⟩
  go_wp2_with fail
  refine (new_any _ _).mono ?_
  rintro e w4 ⟨pb, rfl, hp, c4, hpb⟩
  have C34 := c3.trans c4
  have V4 := Lib.hid (V2.out.kept C34 (fun e => e))
  have K1 := Lib.hid (J1.out.kept C34 (fun e => e))
  have K2 := Lib.hid (J2.out.kept C34 (fun e => e))
  have C4 := Lib.hid (C2.out.trans C34)
  have HP := Lib.hid hp
  have L2 := Lib.hid (show ab < pb from by have := V2.out.lt; have := c3.size; omega)
  have c12 := K2.out.c 12 _ rfl
  have f12 := K2.out.b.fz 12
  clear c3 c4 C34 hp hpb J1 J2 V2 C2
  go_upto_region 8 with (fail)
  have cS : Ch (One kb) w4 (w4.setCell ⟨kb, 12, none⟩ (ptr pb)) := (Ch.refl _ _).setB _ _
  have BG : Hid (Begun E W (w4.setCell ⟨kb, 12, none⟩ (ptr pb)) kb ab pb th no kd id d p F) := Lib.hid (by
    have l1 := L1.out
    have l2 := L2.out
    have hb := HB.out
    refine ⟨⟨K2.out.setAt 12 (ptr pb), ?_, HP.out.kept cS (fun e => by have e' : pb = kb := e; omega), fun b e => (by cases e), fun b e => (by cases e), fun p hp => (by cases hp), l1, l2, fun b e => (by cases e), fun b e => (by cases e), fun p hp => (by cases hp)⟩, by omega, C4.out.then cS (fun i hi e => by have e' : i = kb := e; omega)⟩
    show IsVs _ ab (rvV _ _)
    rw [HV.out]
    exact V4.out.kept cS (fun e => by have e' : ab = kb := e; omega))
  have K3 := Lib.hid (K1.out.kept cS (fun e => by have e' : cb = kb := e; have := HB.out; omega))
  clear c12 f12 cS K1 K2 V4 C4 HP
  generalize w4.setCell ⟨kb, 12, none⟩ (ptr pb) = w5 at BG K3 ⊢
  have B5 := Lib.hid (H0.out.with BG.out.c BG.out.kw (fun j hj => by
    have h1 := BG.out.n1
    have h2 := L1.out
    have h3 := L2.out
    rcases hj with e | e | e | e | e | ⟨p, hp, e⟩
    · have e' : j = kb := e; omega
    · have e' : j = ab := e; omega
    · have e' : j = pb := e; omega
    · cases e
    · cases e
    · cases hp))
  have LL := Lib.hid (And.intro BG.out.n1 (And.intro L1.out L2.out))
  obtain ⟨y0, y1, y2, y3⟩ := K3.out.cells4
  have HL5 := Lib.hid (HL.out.quiet BG.out.c)
  clear BG H0 HV L1 L2 HB HL
  go_wp2_with fail
  clear y0 y1 y2 y3 K3
  refine (B5.out.knoteL HL5.out hn ⟨1, 0, 0, 0, (id : Nat), 0, (d : Nat), (p : Nat), 0, 0⟩).mono ?_
  rintro e w6 ⟨rfl, h6, l6⟩
  have H6 := Lib.hid h6
  have L6 := Lib.hid l6
  clear l6
  clear h6 B5
  go_wp2
  go_ret2
  exact ⟨kb, ab, pb, rfl, H6.out, LL.out.1, LL.out.2.1, LL.out.2.2, L6.out⟩
/-- a work that begins, of whatever kind -/
theorem begin_anyL (hl : HasL E W L) {kd : Nat} (hk : 1 ≤ kd ∧ kd ≤ 5) (h : Bf E S0 w0 W σ n) (hn : n ≤ 90000) :
    Calls Tryz.prog 11 #[ptr E.F.f, .int .i64 th, .int .i64 no, clV kd id d p] W fun e W' => ∃ X, e = .returned (.tuple #[ptr X.kb, .int .i64 0]) ∧ Rt E S0 w0 W' σ (n + 1) X (newW kd id d p) ∧ (∀ j, own X j → W.heap.size ≤ j) ∧ HasL E W' (L ++ [⟨1, th, no, (kd : Nat), (id : Nat), 0, (d : Nat), (p : Nat), 0, 0⟩]) := by
  have hown : ∀ {kb ab pb : Nat} {v : Value}, W.heap.size ≤ kb → kb < ab → ab < pb → ∀ j, own (newX kb ab pb th no v) j → W.heap.size ≤ j := fun {kb ab pb v} h1 h2 h3 j hj => by
    rcases hj with e | e | e | e | e | ⟨p, hp, e⟩
    · have e' : j = kb := e; omega
    · have e' : j = ab := e; omega
    · have e' : j = pb := e; omega
    · cases e
    · cases e
    · cases hp
  have hc : kd = 1 ∨ kd = 2 ∨ kd = 3 ∨ kd = 4 ∨ kd = 5 := by omega
  rcases hc with rfl | rfl | rfl | rfl | rfl
  · refine (begin_genL hl first1 (fun _ _ _ => rfl) h hn).mono ?_
    rintro e w' ⟨kb, ab, pb, rfl, hb, h1, h2, h3, l'⟩
    exact ⟨_, rfl, ⟨hb, ⟨rfl, rfl⟩, by show (0 : Int) ≤ 0 ∧ (0 : Int) ≤ _; omega⟩, hown h1 h2 h3, l'⟩
  · refine (begin_genL hl first2 (fun _ _ _ => rfl) h hn).mono ?_
    rintro e w' ⟨kb, ab, pb, rfl, hb, h1, h2, h3, l'⟩
    exact ⟨_, rfl, ⟨hb, ⟨rfl, rfl⟩, by show (0 : Int) ≤ 0 ∧ (0 : Int) ≤ _; omega⟩, hown h1 h2 h3, l'⟩
  · refine (begin_genL hl first3 (fun _ _ _ => rfl) h hn).mono ?_
    rintro e w' ⟨kb, ab, pb, rfl, hb, h1, h2, h3, l'⟩
    exact ⟨_, rfl, ⟨hb, rfl, by show (0 : Int) ≤ 0 ∧ (0 : Int) ≤ _; omega⟩, hown h1 h2 h3, l'⟩
  · refine (begin_genL hl first4 (fun _ _ _ => rfl) h hn).mono ?_
    rintro e w' ⟨kb, ab, pb, rfl, hb, h1, h2, h3, l'⟩
    exact ⟨_, rfl, ⟨hb, rfl, by show (0 : Int) ≤ 0 ∧ (0 : Int) ≤ _; omega⟩, hown h1 h2 h3, l'⟩
  · refine (begin_genL hl first5 (fun _ _ _ => rfl) h hn).mono ?_
    rintro e w' ⟨kb, ab, pb, rfl, hb, h1, h2, h3, l'⟩
    exact ⟨_, rfl, ⟨hb, rfl, by show (0 : Int) ≤ 0 ∧ (0 : Int) ≤ _; omega⟩, hown h1 h2 h3, l'⟩
/-- what Trace answers -/
theorem Bf.traceL (h : Bf E S0 w0 W σ n) (hl : HasL E W L) (hn : n ≤ 90000) :
    Calls Tryz.prog 28 #[ptr E.F.f] W fun e W' => ∃ a' c', e = .returned (.slice a' L.length c') ∧ ESrc W' a' L ∧ Ch Nil W W' := by
  obtain ⟨L', a, tc, h1', h2', h3⟩ := h.hd
  obtain ⟨h1, el⟩ := h1'.tell hl
  exact trace_of h1.f.fl h1.f.tr h1.f.ta L.length rfl (by omega)
theorem Bo.traceL (h : Bo E S0 w0 W σ n X k) (hl : HasL E W L) (hn : n ≤ 90000) :
    Calls Tryz.prog 28 #[ptr E.F.f] W fun e W' => ∃ a' c', e = .returned (.slice a' L.length c') ∧ ESrc W' a' L ∧ Ch Nil W W' := by
  obtain ⟨L', a, tc, h1', h2', -, -⟩ := h.hd
  obtain ⟨h1, el⟩ := h1'.tell hl
  exact trace_of h1.f.fl h1.f.tr h1.f.ta L.length rfl (by omega)
theorem HasL.outer (hl : HasL E W L) (ly : Lay E) (c : Ch (fun j => j < E.lo) W W') : HasL E W' L := by
  obtain ⟨s, a, tc, h1, h2⟩ := hl
  have ids := ly.ids
  refine ⟨s, a, tc, h1.kept c (fun j hj e => ?_), h2⟩
  have e' : j < E.lo := e
  rcases hj with q | q | q | q | q | q
  · omega
  · omega
  · omega
  · omega
  · omega
  · have := h1.tb j q; omega
/-- something ahead of the floor has turned: the floor, seen from then on -/
theorem Bf.outer (h : Bf E S0 w0 W σ n) (c : Ch (fun j => j < E.lo) W W') : ∃ S1 : Nat → Prop, (∀ j, S1 j → S0 j ∨ w0.heap.size ≤ j) ∧ (∀ j, S1 j → j < W.heap.size) ∧ Bf E S1 W' W' σ n := by
  obtain ⟨L, a, tc, h1, h2, h3⟩ := h.hd
  have ids := h.ly.ids
  have ne : ∀ {j}, E.lo ≤ j → ¬ (fun j => j < E.lo) j := fun {j} h e => by have e' : j < E.lo := e; omega
  have hfs : ∀ j, FS E.F a j → E.lo ≤ j := fun j hj => by
    rcases h.ly.fs hj with e | e
    · exact e.1
    · have := h1.la j e; omega
  refine ⟨fun j => (E.lo ≤ j ∧ j < E.hi) ∨ OwnS a j, fun j hj => ?_, fun j hj => ?_, ⟨h.ly, ⟨L, a, tc, ⟨h1.f.kept c (fun j hj => ne (hfs j hj)), h1.r.kept c (fun j hj => ne ?_), fun i hi => ?_, fun i hi => ?_, h1.s.kept c (ne (by omega)) (ne (by omega)), h1.la⟩, h2, fun j hj => .inl (.inr hj)⟩, h.bd, fun j x y => .inl ⟨x, y⟩, Nat.le_trans h.hw c.size, Ch.refl _ _⟩⟩
  · rcases hj with e | e
    · exact .inl (h.z j e.1 e.2)
    · exact h3 j e
  · rcases hj with e | e
    · have := h.hw; omega
    · exact h1.f.lt (by simp [FS, e])
  · obtain rfl : E.F.g = j := Option.some.inj hj
    omega
  · obtain ⟨l, v, s⟩ := h1.sd i hi
    have := h.ly.idl hi
    exact ⟨l, v, s.kept c (ne (by omega))⟩
  · have := h.ly.idl hi
    exact (h1.ri i hi).kept c (ne (by omega)) (ne (by omega))
end
end Go.Proofs.YtnbdafmjcmmfpaaGreat
