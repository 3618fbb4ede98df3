/-
  Proved: for every f the statement FiringNone returns true: no log has nothing, and takes nothing; and nothing that was there is changed. Conditions: none.
-/
import Derived.Test.YtpihlchocjdpmaaFirAlive
import Derived.Test.YtpihlchocjdpmaaFirIds
import Derived.ProofKit
import Derived.OpenShut
import Derived.ChangeOld
import Derived.Below
import Derived.Lib.SmallJoins
namespace Go.Proofs.Ytpihlchocjdpmaa
open Go.ChangeShapes Go.WideShapes Go.ChangeAt Go.RowKit Verge
set_option linter.unusedVariables false
set_option linter.unusedSimpArgs false
attribute [local go_sem] Oper.semAt_some

theorem nil_all (w : World) : Calls Try.prog 12 #[.pointer none] w fun e w' => ∃ a' cap', e = .returned (.slice a' 0 cap') ∧ Ch Nil w w' := by
  refine (all_of (LogAt.nil w) (fun k hk => by cases hk) (by simp)).mono ?_
  rintro e w' ⟨a', cap', rfl, -, -, c⟩
  exact ⟨a', cap', rfl, c⟩
theorem nil_of (x : Nat) (w : World) : Calls Try.prog 13 #[.pointer none, .int .u64 (x : Nat)] w fun e w' => ∃ a' cap', e = .returned (.slice a' 0 cap') ∧ Ch Nil w w' := by
  refine (of_of x (LogAt.nil w) (fun k hk => by cases hk) (by simp)).mono ?_
  rintro e w' ⟨a', cap', rfl, -, -, c⟩
  exact ⟨a', cap', rfl, c⟩
theorem nil_at (x : Nat) (w : World) : Calls Try.prog 15 #[.pointer none, .int .u64 (x : Nat)] w fun e w' => ∃ a' cap', e = .returned (.slice a' 0 cap') ∧ Ch Nil w w' := by
  refine (at_of x (LogAt.nil w) (fun k hk => by cases hk) (by simp)).mono ?_
  rintro e w' ⟨a', cap', rfl, -, -, c⟩
  exact ⟨a', cap', rfl, c⟩
theorem nil_ids (w : World) : Calls Try.prog 18 #[.pointer none] w fun e w' => ∃ a' cap', e = .returned (.slice a' 0 cap') ∧ Ch Nil w w' := by
  refine (ids_of (LogAt.nil w) (fun k hk => by cases hk) (by simp)).mono ?_
  rintro e w' ⟨Q, a', cap', rfl, hQ, -, c⟩
  obtain rfl : Q = [] := hQ.same IsIds.nil
  exact ⟨a', cap', rfl, c⟩

set_option maxRecDepth 100000 in
set_option maxHeartbeats 4000000 in
theorem FiringNone_walk (a0 a1 a2 a3 : Int) (wa0 : (Lit.int .u64 a0).wf = true) (wa1 : (Lit.int .u64 a1).wf = true) (wa2 : (Lit.int .u64 a2).wf = true) (wa3 : (Lit.int .u64 a3).wf = true) (w : World) :
    Calls Try.prog 6 #[.agg #[.int .u64 a0, .int .u64 a1, .int .u64 a2, .int .u64 a3]] w fun e w' => e = .returned (.bool true) ∧ Below w.heap.size w w' := by
  obtain ⟨s1, s2⟩ := bounds_u64 wa0
  obtain ⟨a0, rfl⟩ := Int.eq_ofNat_of_zero_le s1
  obtain ⟨p1, p2⟩ := bounds_u64 wa1
  obtain ⟨a1, rfl⟩ := Int.eq_ofNat_of_zero_le p1
  obtain ⟨r1, r2⟩ := bounds_u64 wa2
  obtain ⟨a2, rfl⟩ := Int.eq_ofNat_of_zero_le r1
  obtain ⟨t1, t2⟩ := bounds_u64 wa3
  obtain ⟨a3, rfl⟩ := Int.eq_ofNat_of_zero_le t1
  clear wa0 wa1 wa2 wa3 s1 s2 p1 p2 r1 r2 t1 t2
  have hx : ∀ W, Ch Nil (w.alloc (.cells #[.int .u64 (a0 : Nat), .int .u64 (a1 : Nat), .int .u64 (a2 : Nat), .int .u64 (a3 : Nat)] 43)) W → ∀ j v, #[Value.int .u64 (a0 : Nat), .int .u64 (a1 : Nat), .int .u64 (a2 : Nat), .int .u64 (a3 : Nat)][j]? = some v → W.cell? ⟨w.heap.size, j, none⟩ = some v := fun W c j v hv => c.keeps (by simp [cell_fresh, hv]) (fun e => e)
  have HX := Lib.hid hx
  have C0 := Lib.hid (show Ch Nil w (w.alloc (.cells #[.int .u64 (a0 : Nat), .int .u64 (a1 : Nat), .int .u64 (a2 : Nat), .int .u64 (a3 : Nat)] 43)) from (Ch.refl _ _).alloc _)
  clear hx
  go_enter Try.func6, Try.ntmps6
  go_wp2_with fail
  generalize w.alloc _ = W0 at HX C0 ⊢
  refine (alive_any _).mono ?_
  rintro e w1 ⟨rfl, c1⟩
  have C1 := Lib.hid (C0.out.trans c1)
  have K1 := Lib.hid c1
  have x0 := HX.out w1 c1 0 _ rfl
  have x1 := HX.out w1 c1 1 _ rfl
  have x2 := HX.out w1 c1 2 _ rfl
  have x3 := HX.out w1 c1 3 _ rfl
  clear c1
  go_wp2_with fail
  refine (put_nil _).mono ?_
  rintro e w2 ⟨rfl, hw2⟩
  have c2 : Ch Nil w1 w2 := by rw [hw2]; exact (Ch.refl _ _).alloc _
  have C2 := Lib.hid (C1.out.trans c2)
  have K2 := Lib.hid (K1.out.trans c2)
  clear hw2 c2 x0 x1 x2 x3 C1 K1
  go_upto_region 5 with (fail)
  refine wp_region_held_drew (S := fun w' => w'.cell? ⟨w.heap.size, 0, none⟩ = some (.int .u64 (a0 : Nat)) ∧ w'.cell? ⟨w.heap.size, 3, none⟩ = some (.int .u64 (a3 : Nat))) (by kernel_rfl) ⟨HX.out w2 K2.out 0 _ rfl, HX.out w2 K2.out 3 _ rfl⟩ (fun hHeld => ?_)
  replace C2 := Lib.hid (C2.out.trans (Ch.refl Nil _).drew)
  replace K2 := Lib.hid (K2.out.trans (Ch.refl Nil _).drew)
  generalize w2.drew = X0 at hHeld C2 K2 ⊢
  refine take_at (v := ?_) 0 (some 10) rfl (by kernel_rfl) (by kernel_rfl) (by kernel_rfl) (by kernel_rfl) (fun _ _ _ h => h) (Or.inl ⟨by rfl, ?_⟩) (by assumption) ?_
  rotate_left
  · intro w hSw; (try dsimp only at hSw); go_simp; try (with_reducible rfl)
  (try simp only [Act.put, List.setIfInBounds_toArray, List.set_cons_zero, List.set_cons_succ])
  refine take_at (v := ?_) 3 (some 13) rfl (by kernel_rfl) (by kernel_rfl) (by kernel_rfl) (by kernel_rfl) (fun _ _ _ h => h) (Or.inl ⟨by rfl, ?_⟩) (by assumption) ?_
  rotate_left
  · intro w hSw; (try dsimp only at hSw); go_simp; try (with_reducible rfl)
  (try simp only [Act.put, List.setIfInBounds_toArray, List.set_cons_zero, List.set_cons_succ])
  refine take_at (v := ?_) 4 (some 14) rfl (by kernel_rfl) (by kernel_rfl) (by kernel_rfl) (by kernel_rfl) (fun _ _ _ h => h) (Or.inl ⟨by rfl, ?_⟩) (by assumption) ?_
  rotate_left
  · intro w hSw; (try dsimp only at hSw); go_simp; try (with_reducible rfl)
  (try simp only [Act.put, List.setIfInBounds_toArray, List.set_cons_zero, List.set_cons_succ])
  refine take_at (v := ?_) 5 (some 15) rfl (by kernel_rfl) (by kernel_rfl) (by kernel_rfl) (by kernel_rfl) (fun _ _ _ h => h) (Or.inl ⟨by rfl, ?_⟩) (by assumption) ?_
  rotate_left
  · intro w hSw; (try dsimp only at hSw); go_simp; try (with_reducible rfl)
  (try simp only [Act.put, List.setIfInBounds_toArray, List.set_cons_zero, List.set_cons_succ])
  refine take_at (v := ?_) 9 (some 19) rfl (by kernel_rfl) (by kernel_rfl) (by kernel_rfl) (by kernel_rfl) (fun _ _ _ h => h) (Or.inl ⟨by rfl, ?_⟩) (by assumption) ?_
  rotate_left
  · intro w hSw; (try dsimp only at hSw); go_simp; try (with_reducible rfl)
  (try simp only [Act.put, List.setIfInBounds_toArray, List.set_cons_zero, List.set_cons_succ])
  refine take_at (v := ?_) 10 (some 20) rfl (by kernel_rfl) (by kernel_rfl) (by kernel_rfl) (by kernel_rfl) (fun _ _ _ h => h) (Or.inl ⟨by rfl, ?_⟩) (by assumption) ?_
  rotate_left
  · intro w hSw; (try dsimp only at hSw); go_simp; try (with_reducible rfl)
  (try simp only [Act.put, List.setIfInBounds_toArray, List.set_cons_zero, List.set_cons_succ])
  refine take_at (v := ?_) 11 (some 21) rfl (by kernel_rfl) (by kernel_rfl) (by kernel_rfl) (by kernel_rfl) (fun _ _ _ h => h) (Or.inl ⟨by rfl, ?_⟩) (by assumption) ?_
  rotate_left
  · intro w hSw; (try dsimp only at hSw); go_simp; try (with_reducible rfl)
  (try simp only [Act.put, List.setIfInBounds_toArray, List.set_cons_zero, List.set_cons_succ])
  refine take_at (v := ?_) 15 (some 25) rfl (by kernel_rfl) (by kernel_rfl) (by kernel_rfl) (by kernel_rfl) (fun _ _ _ h => h) (Or.inl ⟨by rfl, ?_⟩) (by assumption) ?_
  rotate_left
  · intro w hSw; (try dsimp only at hSw); go_simp; try (with_reducible rfl)
  (try simp only [Act.put, List.setIfInBounds_toArray, List.set_cons_zero, List.set_cons_succ])
  refine take_at (v := ?_) 19 (some 29) rfl (by kernel_rfl) (by kernel_rfl) (by kernel_rfl) (by kernel_rfl) (fun _ _ _ h => h) (Or.inl ⟨by rfl, ?_⟩) (by assumption) ?_
  rotate_left
  · intro w hSw; (try dsimp only at hSw); go_simp; try (with_reducible rfl)
  (try simp only [Act.put, List.setIfInBounds_toArray, List.set_cons_zero, List.set_cons_succ])
  refine wpAnyH_ready (rs := [1]) (by kernel_rfl) (by simp) ?_
  refine AllReadyH.cons rfl (fun K hK => ?_) AllReadyH.nil
  go_simp
  refine (nil_all _).mono ?_
  rintro e X1 ⟨b1, z1, rfl, c1⟩
  have C3 := Lib.hid (C2.out.trans c1)
  have K3 := Lib.hid (K2.out.trans c1)
  refine hK.out _ _ ⟨HX.out X1 K3.out 0 _ rfl, HX.out X1 K3.out 3 _ rfl⟩ (fun hHeld => ?_)
  clear hK K c1 C2 K2
  (try simp only [Act.put, List.setIfInBounds_toArray, List.set_cons_zero, List.set_cons_succ])
  refine take_at (v := ?_) 2 (some 12) rfl (by kernel_rfl) (by kernel_rfl) (by kernel_rfl) (by kernel_rfl) (fun _ _ _ h => h) (Or.inl ⟨by rfl, ?_⟩) (by assumption) ?_
  rotate_left
  · intro w hSw; (try dsimp only at hSw); go_simp; try (with_reducible rfl)
  (try simp only [Act.put, List.setIfInBounds_toArray, List.set_cons_zero, List.set_cons_succ])
  refine wpAnyH_ready (rs := [6]) (by kernel_rfl) (by simp) ?_
  refine AllReadyH.cons rfl (fun K hK => ?_) AllReadyH.nil
  go_simp
  refine (nil_of _ _).mono ?_
  rintro e X2 ⟨b2, z2, rfl, c1⟩
  have C4 := Lib.hid (C3.out.trans c1)
  have K4 := Lib.hid (K3.out.trans c1)
  refine hK.out _ _ ⟨HX.out X2 K4.out 0 _ rfl, HX.out X2 K4.out 3 _ rfl⟩ (fun hHeld => ?_)
  clear hK K c1 C3 K3
  (try simp only [Act.put, List.setIfInBounds_toArray, List.set_cons_zero, List.set_cons_succ])
  refine take_at (v := ?_) 7 (some 17) rfl (by kernel_rfl) (by kernel_rfl) (by kernel_rfl) (by kernel_rfl) (fun _ _ _ h => h) (Or.inl ⟨by rfl, ?_⟩) (by assumption) ?_
  rotate_left
  · intro w hSw; (try dsimp only at hSw); go_simp; try (with_reducible rfl)
  (try simp only [Act.put, List.setIfInBounds_toArray, List.set_cons_zero, List.set_cons_succ])
  refine take_at (v := ?_) 8 (some 18) rfl (by kernel_rfl) (by kernel_rfl) (by kernel_rfl) (by kernel_rfl) (fun _ _ _ h => h) (Or.inl ⟨by rfl, ?_⟩) (by assumption) ?_
  rotate_left
  · intro w hSw; (try dsimp only at hSw); go_simp; try (with_reducible rfl)
  (try simp only [Act.put, List.setIfInBounds_toArray, List.set_cons_zero, List.set_cons_succ])
  refine wpAnyH_ready (rs := [12]) (by kernel_rfl) (by simp) ?_
  refine AllReadyH.cons rfl (fun K hK => ?_) AllReadyH.nil
  go_simp
  refine (nil_at _ _).mono ?_
  rintro e X3 ⟨b3, z3, rfl, c1⟩
  have C5 := Lib.hid (C4.out.trans c1)
  have K5 := Lib.hid (K4.out.trans c1)
  refine hK.out _ _ ⟨HX.out X3 K5.out 0 _ rfl, HX.out X3 K5.out 3 _ rfl⟩ (fun hHeld => ?_)
  clear hK K c1 C4 K4
  (try simp only [Act.put, List.setIfInBounds_toArray, List.set_cons_zero, List.set_cons_succ])
  refine take_at (v := ?_) 13 (some 23) rfl (by kernel_rfl) (by kernel_rfl) (by kernel_rfl) (by kernel_rfl) (fun _ _ _ h => h) (Or.inl ⟨by rfl, ?_⟩) (by assumption) ?_
  rotate_left
  · intro w hSw; (try dsimp only at hSw); go_simp; try (with_reducible rfl)
  (try simp only [Act.put, List.setIfInBounds_toArray, List.set_cons_zero, List.set_cons_succ])
  refine take_at (v := ?_) 14 (some 24) rfl (by kernel_rfl) (by kernel_rfl) (by kernel_rfl) (by kernel_rfl) (fun _ _ _ h => h) (Or.inl ⟨by rfl, ?_⟩) (by assumption) ?_
  rotate_left
  · intro w hSw; (try dsimp only at hSw); go_simp; try (with_reducible rfl)
  (try simp only [Act.put, List.setIfInBounds_toArray, List.set_cons_zero, List.set_cons_succ])
  refine wpAnyH_ready (rs := [16]) (by kernel_rfl) (by simp) ?_
  refine AllReadyH.cons rfl (fun K hK => ?_) AllReadyH.nil
  go_simp
  refine (nil_ids _).mono ?_
  rintro e X4 ⟨b4, z4, rfl, c1⟩
  have C6 := Lib.hid (C5.out.trans c1)
  have K6 := Lib.hid (K5.out.trans c1)
  refine hK.out _ _ ⟨HX.out X4 K6.out 0 _ rfl, HX.out X4 K6.out 3 _ rfl⟩ (fun hHeld => ?_)
  clear hK K c1 C5 K5
  (try simp only [Act.put, List.setIfInBounds_toArray, List.set_cons_zero, List.set_cons_succ])
  refine take_at (v := ?_) 17 (some 27) rfl (by kernel_rfl) (by kernel_rfl) (by kernel_rfl) (by kernel_rfl) (fun _ _ _ h => h) (Or.inl ⟨by rfl, ?_⟩) (by assumption) ?_
  rotate_left
  · intro w hSw; (try dsimp only at hSw); go_simp; try (with_reducible rfl)
  (try simp only [Act.put, List.setIfInBounds_toArray, List.set_cons_zero, List.set_cons_succ])
  refine take_at (v := ?_) 18 (some 28) rfl (by kernel_rfl) (by kernel_rfl) (by kernel_rfl) (by kernel_rfl) (fun _ _ _ h => h) (Or.inl ⟨by rfl, ?_⟩) (by assumption) ?_
  rotate_left
  · intro w hSw; (try dsimp only at hSw); go_simp; try (with_reducible rfl)
  (try simp only [Act.put, List.setIfInBounds_toArray, List.set_cons_zero, List.set_cons_succ])
  refine wpAnyH_ready (rs := [20]) (by kernel_rfl) (by simp) ?_
  refine AllReadyH.cons rfl (fun K hK => ?_) AllReadyH.nil
  go_simp
  refine (len_nil _).mono ?_
  rintro e X5 ⟨rfl, rfl⟩
  refine hK.out _ _ ⟨HX.out X5 K6.out 0 _ rfl, HX.out X5 K6.out 3 _ rfl⟩ (fun hHeld => ?_)
  clear hK K
  (try simp only [Act.put, List.setIfInBounds_toArray, List.set_cons_zero, List.set_cons_succ])
  refine take_at (v := ?_) 21 (some 31) rfl (by kernel_rfl) (by kernel_rfl) (by kernel_rfl) (by kernel_rfl) (fun _ _ _ h => h) (Or.inl ⟨by rfl, ?_⟩) (by assumption) ?_
  rotate_left
  · intro w hSw; (try dsimp only at hSw); go_simp; try (with_reducible rfl)
  (try simp only [Act.put, List.setIfInBounds_toArray, List.set_cons_zero, List.set_cons_succ])
  refine take_at (v := ?_) 22 (some 32) rfl (by kernel_rfl) (by kernel_rfl) (by kernel_rfl) (by kernel_rfl) (fun _ _ _ h => h) (Or.inl ⟨by rfl, ?_⟩) (by assumption) ?_
  rotate_left
  · intro w hSw; (try dsimp only at hSw); go_simp; try (with_reducible rfl)
  (try simp only [Act.put, List.setIfInBounds_toArray, List.set_cons_zero, List.set_cons_succ])
  refine take_at (v := ?_) 23 (some 2) rfl (by kernel_rfl) (by kernel_rfl) (by kernel_rfl) (by kernel_rfl) (fun _ _ _ h => h) (Or.inl ⟨by rfl, ?_⟩) (by assumption) ?_
  rotate_left
  · intro w hSw; (try dsimp only at hSw); go_simp; try (with_reducible rfl)
  (try simp only [Act.put, List.setIfInBounds_toArray, List.set_cons_zero, List.set_cons_succ])
  refine wpAnyH_done (by kernel_rfl) ?_ _
  clear hHeld
  go_wp2
  go_ret
  exact ⟨rfl, C6.out.below (Nat.le_refl _) (fun _ _ e => e.elim)⟩

theorem FiringNone_own : ownKnob Try.prog.godebug = none := by kernel_rfl

set_option maxRecDepth 100000 in
theorem FiringNone_lifted (os : Os) (started : os.Started) (H : Type) (enc : TypeId × Value → H) :
    ReturnsInHanded {} Try.checked os 6 .any (Rows.firingNoneSpec.pre6 enc Try.prog Try.f6 Rows.firingNoneRow.domain false) (Rows.firingNoneSpec.post enc Try.prog Try.f6 false true false false) := by
  refine returnsInHanded_of_change (C := Try.checked) FiringNone_own started (by kernel_rfl) Try.func6
    (ChangeSpec.witness6 (enc := enc) (C := Try.checked) false ⟨#[], #[.agg #[.int .u64 0, .int .u64 0, .int .u64 0, .int .u64 0]], []⟩ 8 (by kernel_rfl) (by kernel_rfl) (by kernel_rfl) (by kernel_rfl)) ?_
  intro W base args ds gs before hval0 hW hcnd _
  have hval : ∀ (j : Nat) t v, Try.f6.params[j]? = some t → args[j]? = some v → Value.okWide Try.prog W .any base t v := hval0
  have hW' := hW
  obtain ⟨p, q, hA0, hV, rfl, hfz, hnd⟩ := hW
  have hA : DataW.TrodAll enc Try.prog W 0 (fun _ => true) true Try.f6.params.toList args.toList ds p := hA0
  rw [Try.params6] at hA hval
  obtain ⟨v0, vs0, d0, ds0, p0, q0, hargs, rfl, rfl, h0, r0⟩ := trodAll_cons hA
  obtain ⟨rfl, rfl, rfl⟩ := trodAll_nil r0
  obtain rfl : args = #[v0] := by cases args; simp_all
  obtain ⟨rfl, rfl⟩ := trodVars_none hV
  obtain ⟨x00, x01, x02, x03, y00, y01, y02, y03, m0, rfl, rfl, rfl, t00, t01, t02, t03⟩ := Go.Joins.open_agg4 Try.underlying43 (by kernel_rfl) (by kernel_rfl) (hval 0 43 v0 rfl rfl) h0
  obtain ⟨a00, e00, rfl, w00⟩ := DataW.trod_int Try.underlying23 t00
  simp at e00
  subst e00
  obtain ⟨a01, e01, rfl, w01⟩ := DataW.trod_int Try.underlying23 t01
  simp at e01
  subst e01
  obtain ⟨a02, e02, rfl, w02⟩ := DataW.trod_int Try.underlying23 t02
  simp at e02
  subst e02
  obtain ⟨a03, e03, rfl, w03⟩ := DataW.trod_int Try.underlying23 t03
  simp at e03
  subst e03
  clear hA0 hval0
  simp only [List.nil_append, List.append_nil] at hW'
  refine (FiringNone_walk a00 a01 a02 a03 w00 w01 w02 w03 W).mono fun e W' ⟨he, bel⟩ => ?_
  subst he
  exact ⟨_, rfl, _, _, _, [], _, [], hW', trodAll_mk1 (shut_bool Try.underlying4 _), (trodAll_cons_mk (Go.Joins.shut_agg4 Try.underlying43 (by kernel_rfl) (by kernel_rfl) (Go.Joins.field_of_Trod (shut_int Try.underlying23 w00) rfl) (Go.Joins.field_of_Trod (shut_int Try.underlying23 w01) rfl) (Go.Joins.field_of_Trod (shut_int Try.underlying23 w02) rfl) (Go.Joins.field_of_Trod (shut_int Try.underlying23 w03) rfl)) trodAll_mk0), rfl, bel.frame _, fun h => by cases h⟩

theorem firingNone_holds : Rows.FiringNoneSaid :=
  OpenClaim.holds_of_wide 6 Try.f6 rfl rfl rfl rfl rfl rfl rfl ⟨rfl, rfl, rfl, rfl, rfl⟩ rfl rfl rfl rfl rfl (by kernel_rfl) Try.func6 (by kernel_rfl)
    (of_decide_eq_true (by kernel_rfl)) (by unfold Func.isWrapper; rw [if_neg (of_decide_eq_false (by kernel_rfl))]; exact ⟨rfl, rfl⟩)
    (fun os started H enc _ => FiringNone_lifted os started H enc)
end Go.Proofs.Ytpihlchocjdpmaa
