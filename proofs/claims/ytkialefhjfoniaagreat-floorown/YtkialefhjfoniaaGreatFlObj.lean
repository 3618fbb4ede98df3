/-
  A floor as the statement on its acts sees it; Note.
-/
import Derived.Test.YtkialefhjfoniaaGreatFlTrace
namespace Verge
/-- what is counted, whether it is closed, its time, its trace -/
structure St where
  i : Nat
  b : Nat
  cl : Bool
  t : Nat
  L : List Ev
/-- an act: its kind, on, an event -/
structure Ax where
  k : Int
  on : Bool
  u : Ev
end Verge
namespace Go.Proofs.YtkialefhjfoniaaGreat
open Go.RowKit Verge
attribute [local go_sem] Oper.semAt_some
set_option linter.unusedVariables false
set_option linter.unusedSimpArgs false

structure Fl (w : World) (F : Fb) (s : St) (a : Option Addr) (tc : Nat) : Prop where
  fl : IsF w F a s.L.length tc
  pc : IsB w F.cl s.cl
  pi : IsJ w F.ins 0 (s.i : Nat)
  pb : IsJ w F.bz 0 (s.b : Nat)
  pn : IsU w F.nw 0 (s.t : Nat)
  tr : ERow w a tc s.L
  ta : s.L = [] → a = none ∧ tc = 0
  o : ∃ lo, Ord lo F
  tb : ∀ k, OwnS a k → F.f < k
/-- what a floor's calls may turn -/
def FS (F : Fb) (a : Option Addr) : Nat → Prop := fun k => k = F.cl ∨ k = F.ins ∨ k = F.bz ∨ k = F.nw ∨ k = F.f ∨ OwnS a k
section
variable {S : Nat → Prop} {w w' : World} {F : Fb} {s : St} {a : Option Addr} {tc : Nat}
theorem Ord.ids {lo : Nat} (o : Ord lo F) : lo ≤ F.cl ∧ F.cl < F.ins ∧ F.ins < F.bz ∧ F.bz < F.nw ∧ F.nw < F.f := by
  have := o.o1; have := o.o2; have := o.o3; have := o.o4; have := o.o5; have := o.o6; omega
theorem Fl.kept (h : Fl w F s a tc) (c : Ch S w w') (hn : ∀ k, FS F a k → ¬ S k) : Fl w' F s a tc :=
  ⟨h.fl.kept c (hn _ (by simp [FS])), h.pc.kept c (hn _ (by simp [FS])), h.pi.kept c (hn _ (by simp [FS])), h.pb.kept c (hn _ (by simp [FS])), h.pn.kept c (hn _ (by simp [FS])), h.tr.kept c (fun k hk => hn k (by simp [FS, hk])), h.ta, h.o, h.tb⟩
theorem Fl.quiet (h : Fl w F s a tc) (c : Ch Nil w w') : Fl w' F s a tc := h.kept c (fun _ _ e => e)
theorem Fl.lt (h : Fl w F s a tc) {k : Nat} (hk : FS F a k) : k < w.heap.size := by
  rcases hk with rfl | rfl | rfl | rfl | rfl | hk
  · exact h.pc.lt
  · exact h.pi.lt
  · exact h.pb.lt
  · exact h.pn.lt
  · exact h.fl.lt
  · exact h.tr.lt k hk
theorem Fl.up_i {v : Nat} (h : Fl w F s a tc) (c : Ch (One F.ins) w w') (j : IsJ w' F.ins 0 (v : Nat)) : Fl w' F { s with i := v } a tc ∧ Ch (FS F a) w w' := by
  obtain ⟨lo, o⟩ := h.o
  obtain ⟨o1, o2, o3, o4, o5⟩ := o.ids
  refine ⟨⟨h.fl.kept c (fun e => by have e' : F.f = F.ins := e; omega), h.pc.kept c (fun e => by have e1 : F.cl = F.ins := e; omega), j, h.pb.kept c (fun e => by have e1 : F.bz = F.ins := e; omega), h.pn.kept c (fun e => by have e1 : F.nw = F.ins := e; omega), h.tr.kept c (fun k hk e => by have := h.tb k hk; have e' : k = F.ins := e; omega), h.ta, h.o, h.tb⟩, c.mono (fun k _ e => by have e' : k = F.ins := e; simp [FS, e'])⟩
theorem Fl.up_b {v : Nat} (h : Fl w F s a tc) (c : Ch (One F.bz) w w') (j : IsJ w' F.bz 0 (v : Nat)) : Fl w' F { s with b := v } a tc ∧ Ch (FS F a) w w' := by
  obtain ⟨lo, o⟩ := h.o
  obtain ⟨o1, o2, o3, o4, o5⟩ := o.ids
  refine ⟨⟨h.fl.kept c (fun e => by have e' : F.f = F.bz := e; omega), h.pc.kept c (fun e => by have e1 : F.cl = F.bz := e; omega), h.pi.kept c (fun e => by have e1 : F.ins = F.bz := e; omega), j, h.pn.kept c (fun e => by have e1 : F.nw = F.bz := e; omega), h.tr.kept c (fun k hk e => by have := h.tb k hk; have e' : k = F.bz := e; omega), h.ta, h.o, h.tb⟩, c.mono (fun k _ e => by have e' : k = F.bz := e; simp [FS, e'])⟩
theorem Fl.up_c {v : Bool} (h : Fl w F s a tc) (c : Ch (One F.cl) w w') (j : IsB w' F.cl v) : Fl w' F { s with cl := v } a tc ∧ Ch (FS F a) w w' := by
  obtain ⟨lo, o⟩ := h.o
  obtain ⟨o1, o2, o3, o4, o5⟩ := o.ids
  refine ⟨⟨h.fl.kept c (fun e => by have e' : F.f = F.cl := e; omega), j, h.pi.kept c (fun e => by have e1 : F.ins = F.cl := e; omega), h.pb.kept c (fun e => by have e1 : F.bz = F.cl := e; omega), h.pn.kept c (fun e => by have e1 : F.nw = F.cl := e; omega), h.tr.kept c (fun k hk e => by have := h.tb k hk; have e' : k = F.cl := e; omega), h.ta, h.o, h.tb⟩, c.mono (fun k _ e => by have e' : k = F.cl := e; simp [FS, e'])⟩
theorem Fl.up_t {v : Nat} (h : Fl w F s a tc) (c : Ch (One F.nw) w w') (j : IsU w' F.nw 0 (v : Nat)) : Fl w' F { s with t := v } a tc ∧ Ch (FS F a) w w' := by
  obtain ⟨lo, o⟩ := h.o
  obtain ⟨o1, o2, o3, o4, o5⟩ := o.ids
  refine ⟨⟨h.fl.kept c (fun e => by have e' : F.f = F.nw := e; omega), h.pc.kept c (fun e => by have e1 : F.cl = F.nw := e; omega), h.pi.kept c (fun e => by have e1 : F.ins = F.nw := e; omega), h.pb.kept c (fun e => by have e1 : F.bz = F.nw := e; omega), j, h.tr.kept c (fun k hk e => by have := h.tb k hk; have e' : k = F.nw := e; omega), h.ta, h.o, h.tb⟩, c.mono (fun k _ e => by have e' : k = F.nw := e; simp [FS, e'])⟩

set_option maxHeartbeats 8000000 in
set_option maxRecDepth 100000 in
theorem note_fl (h : Fl w F s a tc) (hl : s.L.length ≤ 100000) (u : Ev) :
    Calls Tryz.prog 12 #[.pointer (some ⟨F.f, 0, none⟩), .agg #[.int .i64 u.k, .int .i64 u.t, .int .i64 u.c, .int .i64 u.h, .int .u64 u.i, .int .u64 u.g, .int .u64 u.d, .int .u64 u.p, .int .u64 u.q, .int .i64 u.e]] w fun e w' => ∃ a' tc', e = .returned (.tuple #[]) ∧ Fl w' F { s with L := s.L ++ [u] } a' tc' ∧ Ch (FS F a) w w' ∧ ∀ k, OwnS a' k → OwnS a k ∨ w.heap.size ≤ k := by
  have cA : Ch Nil w (w.alloc (Obj.cells #[.int .i64 u.k, .int .i64 u.t, .int .i64 u.c, .int .i64 u.h, .int .u64 u.i, .int .u64 u.g, .int .u64 u.d, .int .u64 u.p, .int .u64 u.q, .int .i64 u.e] 33)) := (Ch.refl _ _).alloc _
  have bx : IsVs (w.alloc (Obj.cells #[.int .i64 u.k, .int .i64 u.t, .int .i64 u.c, .int .i64 u.h, .int .u64 u.i, .int .u64 u.g, .int .u64 u.d, .int .u64 u.p, .int .u64 u.q, .int .i64 u.e] 33)) w.heap.size [.int .i64 u.k, .int .i64 u.t, .int .i64 u.c, .int .i64 u.h, .int .u64 u.i, .int .u64 u.g, .int .u64 u.d, .int .u64 u.p, .int .u64 u.q, .int .i64 u.e] := IsVs.new w [.int .i64 u.k, .int .i64 u.t, .int .i64 u.c, .int .i64 u.h, .int .u64 u.i, .int .u64 u.g, .int .u64 u.d, .int .u64 u.p, .int .u64 u.q, .int .i64 u.e] 33
  have FA := Lib.hid (h.quiet cA)
  have LTA := Lib.hid (fun k (hk : FS F a k) => h.lt hk)
  have CA := Lib.hid cA
  obtain ⟨L, hL⟩ : ∃ L, L = s.L := ⟨_, rfl⟩
  obtain ⟨nl, hnl⟩ : ∃ nl, nl = L.length := ⟨_, rfl⟩
  have HLS := Lib.hid hL
  have HNL := Lib.hid hnl
  have hLn : nl ≤ 1000000 := by rw [hnl, hL]; omega
  clear h cA hL hnl hl
  go_enter Tryz.func12, Tryz.ntmps12
  go_upto_region 2 with (fail)
  generalize w.alloc (Obj.cells #[.int .i64 u.k, .int .i64 u.t, .int .i64 u.c, .int .i64 u.h, .int .u64 u.i, .int .u64 u.g, .int .u64 u.d, .int .u64 u.p, .int .u64 u.q, .int .i64 u.e] 33) = W at FA bx CA ⊢
  obtain ⟨B, hB⟩ : ∃ B, B = w.heap.size := ⟨_, rfl⟩
  rw [← hB] at bx ⊢
  have HB := Lib.hid hB
  have nab : ¬ OwnS a B := fun e => by have := LTA.out B (by simp [FS, e]); omega
  have nar : ¬ OwnS a F.f := fun e => by have := FA.out.tb _ e; omega
  have nbb : ¬ B = F.f := fun e => by have := LTA.out F.f (by simp [FS]); omega
  have y := (bx.kept (show Ch Nil W W.drew from (Ch.refl _ _).drew) (fun e => e)).cells10
  have R8 := Lib.hid (FA.out.quiet (show Ch Nil W W.drew from (Ch.refl _ _).drew))
  have CW := Lib.hid (CA.out.trans (show Ch Nil W W.drew from (Ch.refl _ _).drew))
  clear bx FA hB
  refine wp_region_held_drew (S := fun w' => w'.cell? ⟨B, 0, none⟩ = some (.int .i64 u.k) ∧ w'.cell? ⟨B, 1, none⟩ = some (.int .i64 u.t) ∧ w'.cell? ⟨B, 2, none⟩ = some (.int .i64 u.c) ∧ w'.cell? ⟨B, 3, none⟩ = some (.int .i64 u.h) ∧ w'.cell? ⟨B, 4, none⟩ = some (.int .u64 u.i) ∧ w'.cell? ⟨B, 5, none⟩ = some (.int .u64 u.g) ∧ w'.cell? ⟨B, 6, none⟩ = some (.int .u64 u.d) ∧ w'.cell? ⟨B, 7, none⟩ = some (.int .u64 u.p) ∧ w'.cell? ⟨B, 8, none⟩ = some (.int .u64 u.q) ∧ w'.cell? ⟨B, 9, none⟩ = some (.int .i64 u.e)) (by kernel_rfl) y (fun hHeld => ?_)
  clear y
  generalize W.drew = X at *
  have cX : Ch Nil X (X.alloc (.cells #[.int .i64 u.k, .int .i64 u.t, .int .i64 u.c, .int .i64 u.h, .int .u64 u.i, .int .u64 u.g, .int .u64 u.d, .int .u64 u.p, .int .u64 u.q, .int .i64 u.e] 33)) := (Ch.refl _ _).alloc _
  have c1 := (show X.cell? ⟨F.f, 14, none⟩ = some (.slice a nl tc) from by have := R8.out.fl.c 14 _ rfl; rw [← HLS.out, ← HNL.out] at this; exact this)
  have c2 := cX.keeps c1 (fun e => e)
  have S2 : (X.alloc (.cells #[.int .i64 u.k, .int .i64 u.t, .int .i64 u.c, .int .i64 u.h, .int .u64 u.i, .int .u64 u.g, .int .u64 u.d, .int .u64 u.p, .int .u64 u.q, .int .i64 u.e] 33)).cell? ⟨B, 0, none⟩ = some (.int .i64 u.k) ∧ (X.alloc (.cells #[.int .i64 u.k, .int .i64 u.t, .int .i64 u.c, .int .i64 u.h, .int .u64 u.i, .int .u64 u.g, .int .u64 u.d, .int .u64 u.p, .int .u64 u.q, .int .i64 u.e] 33)).cell? ⟨B, 1, none⟩ = some (.int .i64 u.t) ∧ (X.alloc (.cells #[.int .i64 u.k, .int .i64 u.t, .int .i64 u.c, .int .i64 u.h, .int .u64 u.i, .int .u64 u.g, .int .u64 u.d, .int .u64 u.p, .int .u64 u.q, .int .i64 u.e] 33)).cell? ⟨B, 2, none⟩ = some (.int .i64 u.c) ∧ (X.alloc (.cells #[.int .i64 u.k, .int .i64 u.t, .int .i64 u.c, .int .i64 u.h, .int .u64 u.i, .int .u64 u.g, .int .u64 u.d, .int .u64 u.p, .int .u64 u.q, .int .i64 u.e] 33)).cell? ⟨B, 3, none⟩ = some (.int .i64 u.h) ∧ (X.alloc (.cells #[.int .i64 u.k, .int .i64 u.t, .int .i64 u.c, .int .i64 u.h, .int .u64 u.i, .int .u64 u.g, .int .u64 u.d, .int .u64 u.p, .int .u64 u.q, .int .i64 u.e] 33)).cell? ⟨B, 4, none⟩ = some (.int .u64 u.i) ∧ (X.alloc (.cells #[.int .i64 u.k, .int .i64 u.t, .int .i64 u.c, .int .i64 u.h, .int .u64 u.i, .int .u64 u.g, .int .u64 u.d, .int .u64 u.p, .int .u64 u.q, .int .i64 u.e] 33)).cell? ⟨B, 5, none⟩ = some (.int .u64 u.g) ∧ (X.alloc (.cells #[.int .i64 u.k, .int .i64 u.t, .int .i64 u.c, .int .i64 u.h, .int .u64 u.i, .int .u64 u.g, .int .u64 u.d, .int .u64 u.p, .int .u64 u.q, .int .i64 u.e] 33)).cell? ⟨B, 6, none⟩ = some (.int .u64 u.d) ∧ (X.alloc (.cells #[.int .i64 u.k, .int .i64 u.t, .int .i64 u.c, .int .i64 u.h, .int .u64 u.i, .int .u64 u.g, .int .u64 u.d, .int .u64 u.p, .int .u64 u.q, .int .i64 u.e] 33)).cell? ⟨B, 7, none⟩ = some (.int .u64 u.p) ∧ (X.alloc (.cells #[.int .i64 u.k, .int .i64 u.t, .int .i64 u.c, .int .i64 u.h, .int .u64 u.i, .int .u64 u.g, .int .u64 u.d, .int .u64 u.p, .int .u64 u.q, .int .i64 u.e] 33)).cell? ⟨B, 8, none⟩ = some (.int .u64 u.q) ∧ (X.alloc (.cells #[.int .i64 u.k, .int .i64 u.t, .int .i64 u.c, .int .i64 u.h, .int .u64 u.i, .int .u64 u.g, .int .u64 u.d, .int .u64 u.p, .int .u64 u.q, .int .i64 u.e] 33)).cell? ⟨B, 9, none⟩ = some (.int .i64 u.e) := ⟨cX.keeps hHeld.1 (fun e => e), cX.keeps hHeld.2.1 (fun e => e), cX.keeps hHeld.2.2.1 (fun e => e), cX.keeps hHeld.2.2.2.1 (fun e => e), cX.keeps hHeld.2.2.2.2.1 (fun e => e), cX.keeps hHeld.2.2.2.2.2.1 (fun e => e), cX.keeps hHeld.2.2.2.2.2.2.1 (fun e => e), cX.keeps hHeld.2.2.2.2.2.2.2.1 (fun e => e), cX.keeps hHeld.2.2.2.2.2.2.2.2.1 (fun e => e), cX.keeps hHeld.2.2.2.2.2.2.2.2.2 (fun e => e)⟩
  refine take_at (v := ?_) 0 (some 6) rfl (by kernel_rfl) (by kernel_rfl) (by kernel_rfl) (by kernel_rfl) (fun _ _ _ h => h) (Or.inl ⟨by rfl, ?_⟩) (by assumption) ?_
  rotate_left
  · intro w hSw; (try dsimp only at hSw); go_simp; try (with_reducible rfl)
  (try simp only [Act.put, List.setIfInBounds_toArray, List.set_cons_zero, List.set_cons_succ])
  refine take_at (v := ?_) 1 (some 7) rfl (by kernel_rfl) (by kernel_rfl) (by kernel_rfl) (by kernel_rfl) (fun _ _ _ h => h) (Or.inl ⟨by rfl, ?_⟩) (by assumption) ?_
  rotate_left
  · intro w hSw; (try dsimp only at hSw); go_simp; try (with_reducible rfl)
  (try simp only [Act.put, List.setIfInBounds_toArray, List.set_cons_zero, List.set_cons_succ])
  refine take_at (v := ?_) 2 (some 8) rfl (by kernel_rfl) (by kernel_rfl) (by kernel_rfl) (by kernel_rfl) (fun _ _ _ h => h) (Or.inl ⟨by rfl, ?_⟩) (by assumption) ?_
  rotate_left
  · intro w hSw; (try dsimp only at hSw); go_simp; try (with_reducible rfl)
  (try simp only [Act.put, List.setIfInBounds_toArray, List.set_cons_zero, List.set_cons_succ])
  refine take_at (v := ?_) 3 (some 9) rfl (by kernel_rfl) (by kernel_rfl) (by kernel_rfl) (by kernel_rfl) (fun _ _ _ h => h) (Or.inl ⟨by rfl, ?_⟩) (by assumption) ?_
  rotate_left
  · intro w hSw; (try dsimp only at hSw); go_simp; try (with_reducible rfl)
  (try simp only [Act.put, List.setIfInBounds_toArray, List.set_cons_zero, List.set_cons_succ])
  refine take_at (v := ?_) 5 (some 11) rfl (by kernel_rfl) (by kernel_rfl) (by kernel_rfl) (by kernel_rfl) (fun _ _ _ h => h) (Or.inl ⟨by rfl, ?_⟩) (by assumption) ?_
  rotate_left
  · intro w hSw; (try dsimp only at hSw); go_simp; try (with_reducible rfl)
  (try simp only [Act.put, List.setIfInBounds_toArray, List.set_cons_zero, List.set_cons_succ])
  refine wpAnyH_ready (rs := [4, 6]) (by kernel_rfl) (by simp) ?_
  refine AllReadyH.cons rfl (fun K hK => ?_) ?_
  go_simp
  refine hK.out _ _ hHeld (fun hh => ?_)
  clear hK K hh
  (try simp only [Act.put, List.setIfInBounds_toArray, List.set_cons_zero, List.set_cons_succ])
  refine wpAnyH_ready (rs := [6]) (by kernel_rfl) (by simp) ?_
  refine AllReadyH.cons rfl (fun K hK => ?_) AllReadyH.nil
  go_simp
  refine hK.out _ _ S2 (fun hh => ?_)
  clear hK K hh
  (try simp only [Act.put, List.setIfInBounds_toArray, List.set_cons_zero, List.set_cons_succ])
  refine ?tail1
  rotate_left
  refine AllReadyH.cons rfl (fun K hK => ?_) AllReadyH.nil
  go_simp
  refine hK.out _ _ S2 (fun hh => ?_)
  clear hK K hh
  (try simp only [Act.put, List.setIfInBounds_toArray, List.set_cons_zero, List.set_cons_succ])
  refine wpAnyH_ready (rs := [4]) (by kernel_rfl) (by simp) ?_
  refine AllReadyH.cons rfl (fun K hK => ?_) AllReadyH.nil
  go_simp
  refine hK.out _ _ S2 (fun hh => ?_)
  clear hK K hh
  (try simp only [Act.put, List.setIfInBounds_toArray, List.set_cons_zero, List.set_cons_succ])
  exact ?tail1
  have R5 : Hid (Row (X.alloc (.cells #[.int .i64 u.k, .int .i64 u.t, .int .i64 u.c, .int .i64 u.h, .int .u64 u.i, .int .u64 u.g, .int .u64 u.d, .int .u64 u.p, .int .u64 u.q, .int .i64 u.e] 33)) 33 10 a nl tc (ec L)) := Lib.hid (by have := Row.kept (by have := R8.out.tr; rw [← HLS.out] at this; exact this : ERow X a tc L) cX (fun _ _ e => e); rw [← HNL.out] at this; exact this)
  have V1 : Hid (∀ i, i < nl * 10 → ec (L ++ [u]) i = ec L i) := Lib.hid fun i hi => ec_left _ (by rw [← HNL.out]; exact hi)
  have V2 : Hid (∀ (j : Nat) (v : Value), (evV u)[j]? = some v → ec (L ++ [u]) (nl * 10 + j) = v) := Lib.hid fun j v hv => by
    obtain ⟨hj, rfl⟩ := evV_get hv
    rw [HNL.out]; exact ec_snoc _ hj
  refine wpAnyH_ready (rs := [7]) (by kernel_rfl) (by simp) ?_
  refine AllReadyH.cons rfl (fun K hK => ?_) AllReadyH.nil
  refine step_row rfl _ _ _ rfl 33 (.agg #[.int .i64 0, .int .i64 0, .int .i64 0, .int .i64 0, .int .u64 0, .int .u64 0, .int .u64 0, .int .u64 0, .int .u64 0, .int .i64 0]) 10 80 Tryz.underlying64 (by kernel_rfl) rfl (by omega) (by omega) rfl R5.out hLn X.heap.size 1 (evV u) 33 rfl rfl (heap_alloc_new X _) (by simp [evV, Value.oneCell']) (ec (L ++ [u])) V1.out V2.out _ rfl ?_
  intro g6 cap6 w9 row6 ch6 at6 lt6
  have S3 : w9.cell? ⟨B, 0, none⟩ = some (.int .i64 u.k) ∧ w9.cell? ⟨B, 1, none⟩ = some (.int .i64 u.t) ∧ w9.cell? ⟨B, 2, none⟩ = some (.int .i64 u.c) ∧ w9.cell? ⟨B, 3, none⟩ = some (.int .i64 u.h) ∧ w9.cell? ⟨B, 4, none⟩ = some (.int .u64 u.i) ∧ w9.cell? ⟨B, 5, none⟩ = some (.int .u64 u.g) ∧ w9.cell? ⟨B, 6, none⟩ = some (.int .u64 u.d) ∧ w9.cell? ⟨B, 7, none⟩ = some (.int .u64 u.p) ∧ w9.cell? ⟨B, 8, none⟩ = some (.int .u64 u.q) ∧ w9.cell? ⟨B, 9, none⟩ = some (.int .i64 u.e) := ⟨ch6.keeps S2.1 nab, ch6.keeps S2.2.1 nab, ch6.keeps S2.2.2.1 nab, ch6.keeps S2.2.2.2.1 nab, ch6.keeps S2.2.2.2.2.1 nab, ch6.keeps S2.2.2.2.2.2.1 nab, ch6.keeps S2.2.2.2.2.2.2.1 nab, ch6.keeps S2.2.2.2.2.2.2.2.1 nab, ch6.keeps S2.2.2.2.2.2.2.2.2.1 nab, ch6.keeps S2.2.2.2.2.2.2.2.2.2 nab⟩
  have c3 := ch6.keeps c2 nar
  have z3 := (((R8.out.fl.b).kept cX (fun e => e)).kept ch6 nar).fz 14
  have C9 := Lib.hid ((cX.mono fun _ _ e => e.elim).trans ch6)
  have AT : Hid (OwnS a g6 ∨ X.heap.size ≤ g6) := Lib.hid (by rcases at6 with h | h; exact .inl h; exact .inr (by (try simp at h); omega))
  have ROW := Lib.hid row6
  refine hK.out _ _ S3 (fun hh => ?_)
  clear hK K hh ch6 row6 at6 lt6 R5 S2 c2 c1 hHeld cX
  (try simp only [Act.put, List.setIfInBounds_toArray, List.set_cons_zero, List.set_cons_succ])
  refine take_at (v := ?_) 8 (some 14) rfl (by kernel_rfl) (by kernel_rfl) (by kernel_rfl) (by kernel_rfl) (fun _ _ _ h => h) (Or.inl ⟨by rfl, ?_⟩) (by assumption) ?_
  rotate_left
  · intro w hSw; (try dsimp only at hSw); go_simp; try (with_reducible rfl)
  (try simp only [Act.put, List.setIfInBounds_toArray, List.set_cons_zero, List.set_cons_succ])
  refine take_at (v := ?_) 9 (some 15) rfl (by kernel_rfl) (by kernel_rfl) (by kernel_rfl) (by kernel_rfl) (fun _ _ _ h => h) (Or.inl ⟨by rfl, ?_⟩) (by assumption) ?_
  rotate_left
  · intro w hSw; (try dsimp only at hSw); go_simp; try (with_reducible rfl)
  (try simp only [Act.put, List.setIfInBounds_toArray, List.set_cons_zero, List.set_cons_succ])
  refine wpAnyH_ready (rs := [10]) (by kernel_rfl) (by simp) ?_
  refine AllReadyH.cons rfl (fun K hK => ?_) AllReadyH.nil
  go_simp
  have cS : Ch (One F.f) w9 (w9.setCell ⟨F.f, 14, none⟩ (.slice (some ⟨g6, 0, none⟩) (nl + 1) cap6)) := (Ch.refl _ _).setB 14 _
  have S4 : (w9.setCell ⟨F.f, 14, none⟩ (.slice (some ⟨g6, 0, none⟩) (nl + 1) cap6)).cell? ⟨B, 0, none⟩ = some (.int .i64 u.k) ∧ (w9.setCell ⟨F.f, 14, none⟩ (.slice (some ⟨g6, 0, none⟩) (nl + 1) cap6)).cell? ⟨B, 1, none⟩ = some (.int .i64 u.t) ∧ (w9.setCell ⟨F.f, 14, none⟩ (.slice (some ⟨g6, 0, none⟩) (nl + 1) cap6)).cell? ⟨B, 2, none⟩ = some (.int .i64 u.c) ∧ (w9.setCell ⟨F.f, 14, none⟩ (.slice (some ⟨g6, 0, none⟩) (nl + 1) cap6)).cell? ⟨B, 3, none⟩ = some (.int .i64 u.h) ∧ (w9.setCell ⟨F.f, 14, none⟩ (.slice (some ⟨g6, 0, none⟩) (nl + 1) cap6)).cell? ⟨B, 4, none⟩ = some (.int .u64 u.i) ∧ (w9.setCell ⟨F.f, 14, none⟩ (.slice (some ⟨g6, 0, none⟩) (nl + 1) cap6)).cell? ⟨B, 5, none⟩ = some (.int .u64 u.g) ∧ (w9.setCell ⟨F.f, 14, none⟩ (.slice (some ⟨g6, 0, none⟩) (nl + 1) cap6)).cell? ⟨B, 6, none⟩ = some (.int .u64 u.d) ∧ (w9.setCell ⟨F.f, 14, none⟩ (.slice (some ⟨g6, 0, none⟩) (nl + 1) cap6)).cell? ⟨B, 7, none⟩ = some (.int .u64 u.p) ∧ (w9.setCell ⟨F.f, 14, none⟩ (.slice (some ⟨g6, 0, none⟩) (nl + 1) cap6)).cell? ⟨B, 8, none⟩ = some (.int .u64 u.q) ∧ (w9.setCell ⟨F.f, 14, none⟩ (.slice (some ⟨g6, 0, none⟩) (nl + 1) cap6)).cell? ⟨B, 9, none⟩ = some (.int .i64 u.e) := ⟨cS.keeps S3.1 nbb, cS.keeps S3.2.1 nbb, cS.keeps S3.2.2.1 nbb, cS.keeps S3.2.2.2.1 nbb, cS.keeps S3.2.2.2.2.1 nbb, cS.keeps S3.2.2.2.2.2.1 nbb, cS.keeps S3.2.2.2.2.2.2.1 nbb, cS.keeps S3.2.2.2.2.2.2.2.1 nbb, cS.keeps S3.2.2.2.2.2.2.2.2.1 nbb, cS.keeps S3.2.2.2.2.2.2.2.2.2 nbb⟩
  refine hK.out _ _ S4 (fun hh => ?_)
  clear hK K hh
  (try simp only [Act.put, List.setIfInBounds_toArray, List.set_cons_zero, List.set_cons_succ])
  refine wpAnyH_done (by kernel_rfl) ?_ _
  have C3 := Lib.hid c3
  have CS := Lib.hid cS
  clear S3 S4 c3 z3 cS
  go_wp2
  go_end0
  obtain ⟨lo, o⟩ := R8.out.o
  obtain ⟨o1, o2, o3, o4, o5⟩ := o.ids
  have hXs : w.heap.size ≤ X.heap.size := CW.out.size
  have FX := Lib.hid (fun k (hk : FS F a k) => R8.out.lt hk)
  have gf : F.f < g6 := by
    rcases AT.out with h | h
    · exact R8.out.tb _ h
    · have := FX.out F.f (by simp [FS]); omega
  have K1 := R8.out
  have n1 : ∀ {x}, x ≤ F.f → ¬ OwnS a x := fun {x} hx e => by have := R8.out.tb _ e; omega
  have eL : s.L = L := HLS.out.symm
  refine ⟨some ⟨g6, 0, none⟩, cap6, rfl, ⟨?_, (K1.pc.kept C9.out (n1 (by omega))).kept CS.out (fun e => by have e' : F.cl = F.f := e; omega), (K1.pi.kept C9.out (n1 (by omega))).kept CS.out (fun e => by have e' : F.ins = F.f := e; omega), (K1.pb.kept C9.out (n1 (by omega))).kept CS.out (fun e => by have e' : F.bz = F.f := e; omega), (K1.pn.kept C9.out (n1 (by omega))).kept CS.out (fun e => by have e' : F.nw = F.f := e; omega), ?_, fun e => by simp at e, R8.out.o, fun k hk => by cases hk; exact gf⟩, ?_, fun k hk => ?_⟩
  · have := (K1.fl.kept C9.out (n1 (Nat.le_refl _))).setAt 14 (.slice (some ⟨g6, 0, none⟩) (nl + 1) cap6)
    show IsVs _ _ (flV F (some ⟨g6, 0, none⟩) (s.L ++ [u]).length cap6)
    rw [List.length_append, eL, ← HNL.out]
    exact this
  · show Row _ _ _ _ (s.L ++ [u]).length _ (ec (s.L ++ [u]))
    rw [eL, List.length_append, ← HNL.out]
    exact Row.kept ROW.out CS.out (fun k hk e => by cases hk; have e' : g6 = F.f := e; omega)
  · exact ((CW.out.mono fun _ _ e => e.elim).then C9.out (fun k _ e => by simp [FS, e])).then CS.out (fun k _ e => by have e' : k = F.f := e; simp [FS, e'])
  · cases hk
    rcases AT.out with h | h
    · exact .inl h
    · exact .inr (by dsimp only; omega)
end
end Go.Proofs.YtkialefhjfoniaaGreat
