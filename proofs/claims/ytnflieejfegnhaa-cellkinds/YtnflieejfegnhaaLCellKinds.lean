/-
  Proved: for every s, t and n the statement CellKinds returns true: cells of texts and of structs hold what they are given, one that is zero holds the zero value, and no cell does nothing; and nothing that was there is changed. Conditions: none.
-/
import Derived.Test.YtnflieejfegnhaaCellWalks2
import Derived.Test.YtnflieejfegnhaaCellStr
import Derived.Test.YtnflieejfegnhaaCellArr
import Derived.Test.YtnflieejfegnhaaHeld
import Derived.ProofKit
import Derived.OpenShut
import Derived.ChangeOld
import Derived.ChangeMaps5
import Derived.Below
namespace Go.Proofs.Ytnflieejfegnhaa
open Go.ChangeShapes Go.WideShapes Go.ChangeAt Go.RowKit Go.ChangeMaps Verge
set_option linter.unusedVariables false
set_option linter.unusedSimpArgs false
attribute [local go_sem] Oper.semAt_some

theorem isS_new (w : World) (T : TypeId) : IsC (w.alloc (.cells #[.string ⟨#[]⟩, .int .i64 0, .int .i64 0, .int .i64 0] T)) w.heap.size 0 (.string ⟨#[]⟩) 0 0 0 := by
  constructor <;> simp [go_sem]

set_option maxHeartbeats 8000000 in
set_option maxRecDepth 100000 in
theorem CellKinds_walk (s t : ByteArray) (n : Int) (ws : s.size ≤ maxLen) (wt : t.size ≤ maxLen) (wn : (Lit.int .i64 n).wf = true) (w : World) :
    Calls Try.prog 5 #[.string s, .string t, .int .i64 n] w fun e w' => e = .returned (.bool true) ∧ Below w.heap.size w w' := by
  clear ws wt wn
  have hmf : ∀ (fn : Fn) (first cap : Array Value) (w : World), (Instr.makeFunc fn first cap).run Try.prog w = .ok (.func fn first cap) w := fun _ _ _ _ => rfl
  go_enter Try.func5, Try.ntmps5
  go_wp2_with fail
  refine (alive_any _).mono ?_
  rintro e w1 ⟨rfl, c1⟩
  have hs1 : w1.cell? ⟨w.heap.size, 0, none⟩ = some (.string s) := c1.keeps (by simp [go_sem]) (fun e => e)
  have hz1 : w.heap.size < w1.heap.size := by have := c1.size; simp at this; omega
  go_wp2_with fail
  refine (storeS_nil s _).mono ?_
  rintro e w2 ⟨rfl, rfl⟩
  go_wp2_with fail
  refine (turnS_nil _ _).mono ?_
  rintro e w2 ⟨rfl, rfl⟩
  go_wp2_with fail
  refine (countsS_nil _).mono ?_
  rintro e w2 ⟨rfl, rfl⟩
  go_wp2_with fail
  refine (loadS_nil _).mono ?_
  rintro e w2 ⟨rfl, rfl⟩
  go_wp2_with fail
  refine (swapS_nil _ _ _).mono ?_
  rintro e w2 ⟨rfl, rfl⟩
  go_wp2_with fail
  have c2 : Ch Nil w1 (w1.alloc (.cells #[.string ⟨#[]⟩, .int .i64 0, .int .i64 0, .int .i64 0] 42)) := (Ch.refl _ _).alloc _
  refine (loadS_c _ ⟨#[]⟩ 0 0 0 _ (isS_new _ _)).mono ?_
  rintro e w3 ⟨rfl, hi, c3⟩
  have H3 := Lib.hid hi
  clear hi
  have nb : ¬ w.heap.size = w1.heap.size := by omega
  have hs3 : w3.cell? ⟨w.heap.size, 0, none⟩ = some (.string s) := c3.keeps (c2.keeps hs1 (fun e => e)) nb
  have HS3 := Lib.hid hs3
  clear hs1
  go_wp2_with fail
  refine (storeS_c _ _ s _ _ _ _ H3.out).mono ?_
  rintro e w4 ⟨rfl, hi, c4⟩
  have H4 := Lib.hid hi
  clear hi hs3
  have hs4 : w4.cell? ⟨w.heap.size, 0, none⟩ = some (.string s) := c4.keeps HS3.out nb
  have HS4 := Lib.hid hs4
  clear hs4 HS3
  have c14 : Ch Nil w w4 := by
    have q := ((((Ch.refl Nil w).alloc (.cells #[.string s] 9)).trans c1).trans c2)
    refine (q.then c3 ?_).then c4 ?_
    all_goals
      intro i hi e
      change i = _ at e
      omega
  clear c1 c2 c3 c4
  go_wp2
  have e0 : (s.toList != s.toList) = false := by simp
  have HSd : w4.drew.cell? ⟨w.heap.size, 0, none⟩ = some (.string s) := HS4.out
  refine wp_region_held_drew (S := fun w' => w'.cell? ⟨w.heap.size, 0, none⟩ = some (.string s)) (by kernel_rfl) HSd (fun hHeld => ?_)
  clear HSd
  replace c14 := c14.drew
  have H5 := Lib.hid (IsC.drew H4.out)
  clear H4 HS4
  generalize w4.drew = w5 at c14 hHeld H5 ⊢
  refine take_at (v := ?_) 1 (some 62) rfl (by kernel_rfl) (by kernel_rfl) (by kernel_rfl) (by kernel_rfl) (fun _ _ _ h => h) (Or.inl ⟨by rfl, ?_⟩) (by assumption) ?_
  rotate_left
  · intro w hSw; (try dsimp only at hSw); go_simp; try (with_reducible rfl)
  (try simp only [Act.put, List.setIfInBounds_toArray, List.set_cons_zero, List.set_cons_succ])
  refine wpAnyH_ready (rs := [0]) (by kernel_rfl) (by simp) ?_
  refine AllReadyH.cons rfl (fun K hK => ?_) AllReadyH.nil
  go_simp
  refine (loadS_c _ s _ _ _ _ H5.out).mono ?_
  rintro e w6 ⟨rfl, hi, c6⟩
  have H6 := Lib.hid hi
  clear hi
  refine hK.out _ _ (c6.keeps hHeld nb) (fun hHeld6 => ?_)
  clear hK K hHeld
  (try simp only [Act.put, List.setIfInBounds_toArray, List.set_cons_zero, List.set_cons_succ])
  have c16 : Ch Nil w w6 := c14.then c6 (fun i hi e => by change i = _ at e; omega)
  clear c14 c6 H5
  refine take_at (v := ?_) 2 (some 63) rfl (by kernel_rfl) (by kernel_rfl) (by kernel_rfl) (by kernel_rfl) (fun _ _ _ h => h) (Or.inl ⟨by rfl, ?_⟩) (by assumption) ?_
  rotate_left
  · intro w hSw; (try dsimp only at hSw); go_simp; try (with_reducible rfl)
  (try simp only [Act.put, List.setIfInBounds_toArray, List.set_cons_zero, List.set_cons_succ])
  refine take_at (v := ?_) 3 (some 64) rfl (by kernel_rfl) (by kernel_rfl) (by kernel_rfl) (by kernel_rfl) (fun _ _ _ h => h) (Or.inl ⟨by rfl, ?_⟩) (by assumption) ?_
  rotate_left
  · intro w hSw; (try dsimp only at hSw); go_simp; try (with_reducible rfl)
  (try simp only [Act.put, List.setIfInBounds_toArray, List.set_cons_zero, List.set_cons_succ])
  refine take_at (v := ?_) 4 (some 65) rfl (by kernel_rfl) (by kernel_rfl) (by kernel_rfl) (by kernel_rfl) (fun _ _ _ h => h) (Or.inl ⟨by rfl, ?_⟩) (by assumption) ?_
  rotate_left
  · intro w hSw; (try dsimp only at hSw); go_simp; try (with_reducible rfl)
  (try simp only [Act.put, List.setIfInBounds_toArray, List.set_cons_zero, List.set_cons_succ])
  refine take_at (v := ?_) 6 (some 67) rfl (by kernel_rfl) (by kernel_rfl) (by kernel_rfl) (by kernel_rfl) (fun _ _ _ h => h) (Or.inl ⟨by rfl, ?_⟩) (by assumption) ?_
  rotate_left
  · intro w hSw; (try dsimp only at hSw); go_simp; try (with_reducible rfl)
  (try simp only [Act.put, List.setIfInBounds_toArray, List.set_cons_zero, List.set_cons_succ])
  refine take_at (v := ?_) 7 (some 68) rfl (by kernel_rfl) (by kernel_rfl) (by kernel_rfl) (by kernel_rfl) (fun _ _ _ h => h) (Or.inl ⟨by rfl, ?_⟩) (by assumption) ?_
  rotate_left
  · intro w hSw; (try dsimp only at hSw); go_simp; try (with_reducible rfl)
  (try simp only [Act.put, List.setIfInBounds_toArray, List.set_cons_zero, List.set_cons_succ])
  refine take_at (v := ?_) 8 (some 69) rfl (by kernel_rfl) (by kernel_rfl) (by kernel_rfl) (by kernel_rfl) (fun _ _ _ h => h) (Or.inl ⟨by rfl, ?_⟩) (by assumption) ?_
  rotate_left
  · intro w hSw; (try dsimp only at hSw); go_simp; try (with_reducible rfl)
  (try simp only [Act.put, List.setIfInBounds_toArray, List.set_cons_zero, List.set_cons_succ])
  refine wpAnyH_ready (rs := [5]) (by kernel_rfl) (by simp) ?_
  refine AllReadyH.cons rfl (fun K hK => ?_) AllReadyH.nil
  go_simp
  refine (swapS_at _ 0 s t _ _ _ _ _ H6.out).mono ?_
  rintro e w7 ⟨rfl, c7⟩
  refine hK.out _ _ (c7.keeps hHeld6 nb) (fun hHeld7 => ?_)
  clear hK K hHeld6
  (try simp only [Act.put, List.setIfInBounds_toArray, List.set_cons_zero, List.set_cons_succ])
  have c17 : Ch Nil w w7 := c16.then c7 (fun i hi e => by change i = _ at e; omega)
  clear c16 c7 H6
  have e1 : ((s.toList == t.toList) != (s.toList == t.toList)) = false := by simp
  refine take_at (v := ?_) 9 (some 70) rfl (by kernel_rfl) (by kernel_rfl) (by kernel_rfl) (by kernel_rfl) (fun _ _ _ h => h) (Or.inl ⟨by rfl, ?_⟩) (by assumption) ?_
  rotate_left
  · intro w hSw; (try dsimp only at hSw); go_simp; try (with_reducible rfl)
  (try simp only [Act.put, List.setIfInBounds_toArray, List.set_cons_zero, List.set_cons_succ])
  refine take_at (v := ?_) 10 (some 71) rfl (by kernel_rfl) (by kernel_rfl) (by kernel_rfl) (by kernel_rfl) (fun _ _ _ h => h) (Or.inl ⟨by rfl, ?_⟩) (by assumption) ?_
  rotate_left
  · intro w hSw; (try dsimp only at hSw); go_simp; try (with_reducible rfl)
  (try simp only [Act.put, List.setIfInBounds_toArray, List.set_cons_zero, List.set_cons_succ])
  refine wpAnyH_done (by kernel_rfl) ?_ _
  clear e0 e1 hHeld7
  go_wp2_with fail
  refine (ofA_any n n _).mono ?_
  rintro e w8 ⟨rfl, hi, c8⟩
  have H8 := Lib.hid hi
  clear hi
  go_wp2_with fail
  refine (swapA_yes _ n n 0 0 0 n 0 _ H8.out).mono ?_
  rintro e w9 ⟨rfl, hi, c9⟩
  have H9 := Lib.hid hi
  clear hi
  go_wp2_with fail
  refine (loadA_at _ _ _ _ _ _ _ H9.out).mono ?_
  rintro e w10 ⟨rfl, o10, hw10⟩
  have c10 : Ch (One (w7.heap.size + 1)) w9 w10 := by rw [hw10]; exact ((Ch.refl _ _).setB _ _).alloc _
  have h10 : IsA w10 (w7.heap.size + 1) n 0 (wrap64 (0 + 1)) (wrap64 (0 + 1)) (wrap64 (0 + 1)) := by
    rw [hw10]
    have hl := H9.out.lt
    refine IsA.kept (S := Nil) ?_ ((Ch.refl _ _).alloc _) (fun e => e)
    obtain ⟨hx, hy, hl, ht, hu, hf⟩ := H9.out
    constructor
    all_goals (try intro i)
    all_goals simp [go_sem, hx, hy, hl, ht, hu, hf]
  have H10 := Lib.hid h10
  clear hw10 h10 H9 H8
  have heq := eqA
  have e0 : (n == n) = true := by simp
  go_wp2_with fail
  refine (swapA_no _ n 0 _ _ _ 0 0 n 1 _ H10.out (by simp)).mono ?_
  rintro e w11 ⟨rfl, c11⟩
  go_wp2
  go_ret
  have sz := c17.size
  have no : ∀ i, i < w.heap.size → One (w7.heap.size + 1) i → Nil i := fun i hi e => by change i = _ at e; omega
  exact ⟨rfl, Ch.below (S := Nil) ((((c17.trans c8).then c9 no).then c10 no).then c11 no) (Nat.le_refl _) (fun _ _ h => h.elim)⟩

theorem CellKinds_own : ownKnob Try.prog.godebug = none := by kernel_rfl

set_option maxRecDepth 100000 in
theorem CellKinds_lifted (os : Os) (started : os.Started) (H : Type) (enc : TypeId × Value → H) :
    ReturnsInHanded {} Try.checked os 5 .any (Rows.cellKindsSpec.pre6 enc Try.prog Try.f5 Rows.cellKindsRow.domain false) (Rows.cellKindsSpec.post enc Try.prog Try.f5 false true false false) := by
  refine returnsInHanded_of_change (C := Try.checked) CellKinds_own started (by kernel_rfl) Try.func5
    (ChangeSpec.witness6 (enc := enc) (C := Try.checked) false ⟨#[], #[.string ⟨#[]⟩, .string ⟨#[]⟩, .int .i64 0], []⟩ 8 (by kernel_rfl) (by kernel_rfl) (by kernel_rfl) (by kernel_rfl)) ?_
  intro W base args ds gs before hval0 hW hcnd _
  have hval : ∀ (j : Nat) t v, Try.f5.params[j]? = some t → args[j]? = some v → Value.okWide Try.prog W .any base t v := hval0
  have hW' := hW
  obtain ⟨p, q, hA0, hV, rfl, hfz, hnd⟩ := hW
  have hA : DataW.TrodAll enc Try.prog W 0 (fun _ => true) true Try.f5.params.toList args.toList ds p := hA0
  rw [Try.params5] at hA hval
  obtain ⟨v0, vs0, d0, ds0, p0, q0, hargs, rfl, rfl, h0, r0⟩ := trodAll_cons hA
  obtain ⟨v1, vs1, d1, ds1, p1, q1, rfl, rfl, rfl, h1, r1⟩ := trodAll_cons r0
  obtain ⟨v2, vs2, d2, ds2, p2, q2, rfl, rfl, rfl, h2, r2⟩ := trodAll_cons r1
  obtain ⟨rfl, rfl, rfl⟩ := trodAll_nil r2
  obtain rfl : args = #[v0, v1, v2] := by cases args; simp_all
  obtain ⟨rfl, rfl⟩ := trodVars_none hV
  obtain ⟨a0, rfl, rfl, rfl, w0⟩ := open_string Try.underlying9 (hval 0 9 v0 rfl rfl) h0
  obtain ⟨a1, rfl, rfl, rfl, w1⟩ := open_string Try.underlying9 (hval 1 9 v1 rfl rfl) h1
  obtain ⟨a2, rfl, rfl, rfl, w2⟩ := open_int Try.underlying3 (hval 2 3 v2 rfl rfl) h2
  clear hA0 hval0
  simp only [List.append_nil] at hW'
  refine (CellKinds_walk a0 a1 a2 w0 w1 w2 W).mono fun e W' ⟨he, bel⟩ => ?_
  subst he
  exact ⟨_, rfl, _, _, _, [], _, [], hW', trodAll_mk1 (shut_bool Try.underlying4 _), (trodAll_cons_mk (shut_string Try.underlying9 w0) (trodAll_cons_mk (shut_string Try.underlying9 w1) (trodAll_cons_mk (shut_int Try.underlying3 w2) trodAll_mk0))), rfl, bel.frame _, fun h => by cases h⟩

theorem cellKinds_holds : Rows.CellKindsSaid :=
  OpenClaim.holds_of_wide 5 Try.f5 rfl rfl rfl rfl rfl rfl rfl ⟨rfl, rfl, rfl, rfl, rfl⟩ rfl rfl rfl rfl rfl (by kernel_rfl) Try.func5 (by kernel_rfl)
    (of_decide_eq_true (by kernel_rfl)) (by unfold Func.isWrapper; rw [if_neg (of_decide_eq_false (by kernel_rfl))]; exact ⟨rfl, rfl⟩)
    (fun os started H enc _ => CellKinds_lifted os started H enc)
end Go.Proofs.Ytnflieejfegnhaa
