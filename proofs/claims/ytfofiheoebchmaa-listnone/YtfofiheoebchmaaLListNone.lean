/-
  Proved: for every v the statement ListNone returns true: no list has nothing, no node is in none, a zero node can be put; and nothing that was there is changed. Conditions: none.
-/
import Derived.Test.YtfofiheoebchmaaListAlive
import Derived.Test.YtfofiheoebchmaaListDrain
import Derived.Test.YtfofiheoebchmaaListHas
import Derived.ProofKit
import Derived.OpenShut
import Derived.ChangeOld
import Derived.Below
namespace Go.Proofs.Ytfofiheoebchmaa
open Go.ChangeShapes Go.WideShapes Go.ChangeAt Go.RowKit Verge LI
set_option linter.unusedVariables false
set_option linter.unusedSimpArgs false
attribute [local go_sem] Oper.semAt_some

set_option maxHeartbeats 1600000 in
theorem ListNone_walk (v : Int) (wa : (Lit.int .i64 v).wf = true) (w : World) :
    Calls Try.prog 6 #[.int .i64 v] w fun e w' => e = .returned (.bool true) ∧ Below w.heap.size w w' := by
  clear wa
  go_enter Try.func6, Try.ntmps6
  go_wp2_with fail
  refine (alive_any _).mono ?_
  rintro e w1 ⟨rfl, c1⟩
  have C1 := Lib.hid c1
  clear c1
  go_wp2_with fail
  refine (LI.new_of _ (fun _ => v)).mono ?_
  rintro e w2 ⟨lb, rfl, hlb, h2, c2⟩
  have H2 := Lib.hid h2
  have C2 := Lib.hid (C1.out.up c2 (fun _ e => e.elim))
  have s1 := C1.out.size
  have llb : lb < w2.heap.size := h2.lt (.inl rfl)
  clear h2 c2
  go_wp2_with fail
  have z3 : IsN (w2.alloc (.cells #[.int .i64 v, .pointer none, .pointer none, .pointer none] 38)) w2.heap.size v none none none := LI.IsN.made _ _ _
  have c3 : Ch Nil w2 (w2.alloc (.cells #[.int .i64 v, .pointer none, .pointer none, .pointer none] 38)) := (Ch.refl _ _).alloc _
  obtain ⟨zb, hzb⟩ : ∃ zb, zb = w2.heap.size := ⟨_, rfl⟩
  rw [← hzb] at z3 ⊢
  generalize w2.alloc (.cells #[.int .i64 v, .pointer none, .pointer none, .pointer none] 38) = w3 at *
  have Z3 := Lib.hid z3
  have H3 := Lib.hid (H2.out.kept c3 (fun _ _ e => e))
  have C3 := Lib.hid (C2.out.up c3 (fun _ e => e.elim))
  have s2 := C2.out.size
  have hz1 : lb < zb := by omega
  have hz2 : w.heap.size ≤ zb := by omega
  clear z3 c3 hzb
  refine (LI.push_nil v _).mono ?_
  rintro e w4 ⟨rfl, rfl⟩
  go_wp2_with fail
  refine (LI.put_nil _ _).mono ?_
  rintro e w4 ⟨rfl, rfl⟩
  go_wp2_with fail
  refine (LI.unlink_nil _ _).mono ?_
  rintro e w4 ⟨rfl, rfl⟩
  go_wp2_with fail
  refine (LI.splice_nil _ _).mono ?_
  rintro e w4 ⟨rfl, c4⟩
  have Z4 := Lib.hid (Z3.out.kept c4 (fun e => e))
  have H4 := Lib.hid (H3.out.kept c4 (fun _ _ e => e))
  have C4 := Lib.hid (C3.out.up c4 (fun _ e => e.elim))
  clear c4
  go_wp2_with fail
  refine (LI.drain_nil _).mono ?_
  rintro e w5 ⟨rfl, c5⟩
  have Z5 := Lib.hid (Z4.out.kept c5 (fun e => e))
  have H5 := Lib.hid (H4.out.kept c5 (fun _ _ e => e))
  have C5 := Lib.hid (C4.out.up c5 (fun _ e => e.elim))
  clear c5
  go_wp2_with fail
  refine (LI.all_nil _).mono ?_
  rintro e w6 ⟨rfl, c6⟩
  have Z6 := Lib.hid (Z5.out.kept c6 (fun e => e))
  have H6 := Lib.hid (H5.out.kept c6 (fun _ _ e => e))
  have C6 := Lib.hid (C5.out.up c6 (fun _ e => e.elim))
  clear c6
  go_wp2_with fail
  refine (LI.len_nil _).mono ?_
  rintro e w7 ⟨rfl, rfl⟩
  go_wp2_with fail
  refine (LI.first_nil _).mono ?_
  rintro e w7 ⟨rfl, rfl⟩
  go_wp2_with fail
  refine (LI.has_nil _ _).mono ?_
  rintro e w7 ⟨rfl, rfl⟩
  go_wp2_with fail
  refine (LI.has_nonode _ _).mono ?_
  rintro e w7 ⟨rfl, rfl⟩
  go_wp2_with fail
  refine (has_no lb zb none _ Z6.out.l H6.out.h.k (fun x e => by cases e) (by simp)).mono ?_
  rintro e w7 ⟨rfl, rfl⟩
  go_wp2_with fail
  refine (LI.put_nonode _ _).mono ?_
  rintro e w7 ⟨rfl, rfl⟩
  go_wp2_with fail
  refine (LI.unlink_nonode _ _).mono ?_
  rintro e w7 ⟨rfl, rfl⟩
  go_wp2_with fail
  refine (LI.unlink_none lb zb none _ Z6.out.l H6.out.h.k (fun x e => by cases e) (by simp)).mono ?_
  rintro e w7 ⟨rfl, rfl⟩
  go_wp2_with fail
  refine (LI.splice_nonlist _ _).mono ?_
  rintro e w7 ⟨rfl, c7⟩
  have Z7 := Lib.hid (Z6.out.kept c7 (fun e => e))
  have H7 := Lib.hid (H6.out.kept c7 (fun _ _ e => e))
  have C7 := Lib.hid (C6.out.up c7 (fun _ e => e.elim))
  clear c7
  go_wp2_with fail
  refine (LI.splice_self lb _ H7.out.h.k).mono ?_
  rintro e w8 ⟨rfl, c8⟩
  have Z8 := Lib.hid (Z7.out.kept c8 (fun e => e))
  have H8 := Lib.hid (H7.out.kept c8 (fun _ _ e => e))
  have C8 := Lib.hid (C7.out.up c8 (fun _ e => e.elim))
  clear c8
  go_wp2_with fail
  refine (H8.out.put Z8.out (by simp) (by omega) (by simp)).mono ?_
  rintro e w9 ⟨rfl, h9, c9⟩
  have H9 : Hid (LI.IsL w9 lb [zb] (fun _ => v)) := Lib.hid h9
  have C9 := Lib.hid (C8.out.up c9 (by
    rintro k ((rfl | hk) | rfl)
    · omega
    · cases hk
    · omega))
  clear h9 c9
  go_wp2_with fail
  refine (LI.put_state lb zb lb _ (H9.out.n 0 zb rfl).l).mono ?_
  rintro e w10 ⟨rfl, rfl⟩
  go_wp2_with fail
  refine (LI.first_of lb (some zb) _ H9.out.h.f).mono ?_
  simp only [pt_some]
  rintro e w10 ⟨rfl, rfl⟩
  have hE := LI.eqlN (w := w9) (some zb) (some zb) (fun x e => by cases e; exact (H9.out.n 0 zb rfl).k) (fun x e => by cases e; exact (H9.out.n 0 zb rfl).k)
  rw [decide_eq_true rfl] at hE
  simp only [pt_some] at hE
  go_wp2_with fail
  clear hE
  refine (H9.out.all (by simp)).mono ?_
  rintro e w10 ⟨r, cap, rfl, r10, g10, c10⟩
  have R10 := Lib.hid r10
  have C10 := Lib.hid (C9.out.up c10 (fun _ e => e.elim))
  simp only [List.length_cons, List.length_nil, Nat.zero_add] at r10 ⊢
  clear r10 g10 c10
  go_wp2_with fail
  have r11 : RowI (w10.alloc (.cells #[.int .i64 v] 3)) r 1 cap (fun _ => v) := R10.out.kept (S := Nil) ((Ch.refl _ _).alloc _) (fun _ _ e => e)
  refine (ints_same r11 (RowI.lit w10 v) (by omega)).mono ?_
  rintro e w11 ⟨rfl, c11⟩
  have C11 := Lib.hid ((C10.out.alloc _).up c11 (fun _ e => e.elim))
  clear r11 c11
  go_wp2
  go_ret
  exact ⟨rfl, C11.out.below (Nat.le_refl _) (fun _ _ h => h.elim)⟩

theorem ListNone_own : ownKnob Try.prog.godebug = none := by kernel_rfl

set_option maxRecDepth 100000 in
theorem ListNone_lifted (os : Os) (started : os.Started) (H : Type) (enc : TypeId × Value → H) :
    ReturnsInHanded {} Try.checked os 6 .any (Rows.listNoneSpec.pre6 enc Try.prog Try.f6 Rows.listNoneRow.domain false) (Rows.listNoneSpec.post enc Try.prog Try.f6 false true false false) := by
  refine returnsInHanded_of_change (C := Try.checked) ListNone_own started (by kernel_rfl) Try.func6
    (ChangeSpec.witness6 (enc := enc) (C := Try.checked) false ⟨#[], #[.int .i64 0], []⟩ 8 (by kernel_rfl) (by kernel_rfl) (by kernel_rfl) (by kernel_rfl)) ?_
  intro W base args ds gs before hval0 hW hcnd _
  have hval : ∀ (j : Nat) t v, Try.f6.params[j]? = some t → args[j]? = some v → Value.okWide Try.prog W .any base t v := hval0
  have hW' := hW
  obtain ⟨p, q, hA0, hV, rfl, hfz, hnd⟩ := hW
  have hA : DataW.TrodAll enc Try.prog W 0 (fun _ => true) true Try.f6.params.toList args.toList ds p := hA0
  rw [Try.params6] at hA hval
  obtain ⟨v0, vs0, d0, ds0, p0, q0, hargs, rfl, rfl, h0, r0⟩ := trodAll_cons hA
  obtain ⟨rfl, rfl, rfl⟩ := trodAll_nil r0
  obtain rfl : args = #[v0] := by cases args; simp_all
  obtain ⟨rfl, rfl⟩ := trodVars_none hV
  obtain ⟨a0, rfl, rfl, rfl, w0⟩ := open_int Try.underlying3 (hval 0 3 v0 rfl rfl) h0
  clear hA0 hval0
  simp only [List.append_nil] at hW'
  refine (ListNone_walk a0 w0 W).mono fun e W' ⟨he, bel⟩ => ?_
  subst he
  exact ⟨_, rfl, _, _, _, [], _, [], hW', trodAll_mk1 (shut_bool Try.underlying4 _), (trodAll_cons_mk (shut_int Try.underlying3 w0) trodAll_mk0), rfl, bel.frame _, fun h => by cases h⟩

theorem listNone_holds : Rows.ListNoneSaid :=
  OpenClaim.holds_of_wide 6 Try.f6 rfl rfl rfl rfl rfl rfl rfl ⟨rfl, rfl, rfl, rfl, rfl⟩ rfl rfl rfl rfl rfl (by kernel_rfl) Try.func6 (by kernel_rfl)
    (of_decide_eq_true (by kernel_rfl)) (by unfold Func.isWrapper; rw [if_neg (of_decide_eq_false (by kernel_rfl))]; exact ⟨rfl, rfl⟩)
    (fun os started H enc _ => ListNone_lifted os started H enc)
end Go.Proofs.Ytfofiheoebchmaa
