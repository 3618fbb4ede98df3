/-
  Proved: for every room and row of acts the statement PipeActs returns true: whatever is put, taken and shut, each answer, and all that the pipe has, are the document's all along; and nothing that was there is changed. Conditions: none.
-/
import Derived.Test.YtpddiphknpplcaaPaA
import Derived.ProofKit
import Derived.OpenShut
import Derived.ChangeOld
import Derived.Below
namespace Go.Proofs.Ytpddiphknpplcaa
open Go.ChangeShapes Go.WideShapes Go.ChangeAt Go.RowKit PI
set_option linter.unusedVariables false
set_option linter.unusedSimpArgs false
attribute [local go_sem] Oper.semAt_some

/-- the document's pipe, new -/
theorem Rf_new (W : World) (n : Nat) (t : TypeId) : Rf (W.alloc (.cells #[.int .i64 n, .slice none 0 0, .bool false, .int .i64 0] t)) W.heap.size n [] false 0 none 0 := by
  refine ⟨?_, ?_, ?_, ?_, Blk.new _ _ _, Row.nil _ _ _ _, fun e => by cases e⟩ <;> simp [cell_fresh]
set_option maxRecDepth 100000 in
set_option maxHeartbeats 0 in
theorem PipeActs_walk (nz : Int) (ad : Option Addr) (len cap : Nat) (wn : (Lit.int .i64 nz).wf = true) (w : World) (hv : IsTab [.i .i64, .i .i64] w ad len cap) :
    Calls Try.prog 3 #[.int .i64 nz, .slice ad len cap] w fun e w' => e = .returned (.bool true) ∧ Below w.heap.size w w' := by
  have HV := Lib.hid hv
  have hsm := hv.small
  clear hv wn
  go_enter Try.func3, Try.ntmps3
  go_wp2_with fail
  refine (alive_any _).mono ?_
  rintro e w1 ⟨rfl, c1⟩
  have C1 := Lib.hid c1
  clear c1
  by_cases h200 : 200 < len
  · have hz : (200 : Int) < (len : Int) := by omega
    go_wp2
    go_ret
    exact ⟨rfl, C1.out.below (Nat.le_refl _) (fun _ _ e => e.elim)⟩
  · have hz : (len : Int) ≤ 200 := by omega
    by_cases hr1 : nz < 1
    · have NR := Lib.hid (new_range nz (.inl hr1) w1)
      go_wp2_with fail
      refine NR.out.mono ?_
      rintro e w2 ⟨rfl, rfl⟩
      clear NR
      go_wp2
      go_ret
      exact ⟨rfl, C1.out.below (Nat.le_refl _) (fun _ _ e => e.elim)⟩
    · by_cases hr2 : 16 < nz
      · have NR := Lib.hid (new_range nz (.inr hr2) w1)
        go_wp2_with fail
        refine NR.out.mono ?_
        rintro e w2 ⟨rfl, rfl⟩
        clear NR
        go_wp2
        go_ret
        exact ⟨rfl, C1.out.below (Nat.le_refl _) (fun _ _ e => e.elim)⟩
      · obtain ⟨n, rfl⟩ := Int.eq_ofNat_of_zero_le (show 0 ≤ nz by omega)
        have b1 : 1 ≤ n := by omega
        have b2 : n ≤ 16 := by omega
        have NW := Lib.hid (new_prs n b1 b2 w w1 C1.out)
        go_wp2_with fail
        refine NW.out.mono ?_
        rintro e W3 ⟨pb, cb, S, rfl, p2, -, -⟩
        have START : Hid (PaR w (W3.alloc (.cells #[.int .i64 n, .slice none 0 0, .bool false, .int .i64 0] 31)) pb cb n W3.heap.size [] 0 false S none 0 0) := by
          have cA : Ch Nil W3 (W3.alloc (.cells #[.int .i64 n, .slice none 0 0, .bool false, .int .i64 0] 31)) := (Ch.refl _ _).alloc _
          have hs := p2.c.size
          refine Lib.hid ⟨⟨(p2.quiet cA).1, Rf_new W3 n _, ?_, ?_⟩, by simp, by omega⟩
          · rintro j hj (rfl | e)
            · have := p2.lt hj; omega
            · cases e
          · rintro j (rfl | e)
            · exact hs
            · cases e
        clear p2 NW
        go_wp2
        refine wp_mono (paA_loop w pb cb n W3.heap.size ad len cap HV.out (by omega) b1 b2 _ _ (by omega) ?hI) ?_
        case hI => exact ⟨[], 0, false, S, none, 0, rfl, rfl, rfl, rfl, rfl, rfl, START.out⟩
        rename_i K hK
        intro e a' w' hp
        obtain ⟨rfl, H⟩ := Qx_inv hp
        exact hK _ _ (pa_end w pb cb n W3.heap.size ad len cap HV.out (by omega) b1 b2 a' w' H)

theorem PipeActs_own : ownKnob Try.prog.godebug = none := by kernel_rfl
theorem PipeActs_laidOut : laidOutB Try.prog = true := by kernel_rfl

set_option maxRecDepth 100000 in
theorem PipeActs_lifted (os : Os) (started : os.Started) (H : Type) (enc : TypeId × Value → H) :
    ReturnsInHanded {} Try.checked os 3 .any (Rows.pipeActsSpec.pre6 enc Try.prog Try.f3 Rows.pipeActsRow.domain false) (Rows.pipeActsSpec.post enc Try.prog Try.f3 false true false false) := by
  refine returnsInHanded_of_change (C := Try.checked) PipeActs_own started (by kernel_rfl) Try.func3
    (ChangeSpec.witness6 (enc := enc) (C := Try.checked) false ⟨#[], #[.int .i64 0, .slice none 0 0], []⟩ 8 (by kernel_rfl) (by kernel_rfl) (by kernel_rfl) (by kernel_rfl)) ?_
  intro W base args ds gs before hval0 hW hcnd _
  have hval : ∀ (j : Nat) t v, Try.f3.params[j]? = some t → args[j]? = some v → Value.okWide Try.prog W .any base t v := hval0
  have hW' := hW
  obtain ⟨p, q, hA0, hV, rfl, hfz, hnd⟩ := hW
  have hA : DataW.TrodAll enc Try.prog W 0 (fun _ => true) true Try.f3.params.toList args.toList ds p := hA0
  rw [Try.params3] at hA hval
  obtain ⟨v0, vs0, d0, ds0, p0, q0, hargs, rfl, rfl, h0, r0⟩ := trodAll_cons hA
  obtain ⟨v1, vs1, d1, ds1, p1, q1, rfl, rfl, rfl, h1, r1⟩ := trodAll_cons r0
  obtain ⟨rfl, rfl, rfl⟩ := trodAll_nil r1
  obtain rfl : args = #[v0, v1] := by cases args; simp_all
  obtain ⟨rfl, rfl⟩ := trodVars_none hV
  obtain ⟨a0, rfl, rfl, rfl, w0⟩ := open_int Try.underlying3 (hval 0 3 v0 rfl rfl) h0
  obtain ⟨a1, len1, cap1, rfl⟩ := okWide_slice Try.underlying22 (hval 1 22 v1 rfl rfl)
  have k1 := h1
  have lt1 : ∀ x ∈ p1, x.block < W.heap.size := by obtain ⟨m, hm⟩ := k1; exact DataW.trod_lt m _ _ _ hm
  have w1 : IsTab [.i .i64, .i .i64] W a1 len1 cap1 := by
    obtain ⟨fuel, hf⟩ := h1
    exact open_tab _ Try.underlying22 Try.underlying33 (by kernel_rfl) (by kernel_rfl) hf
  clear hA0 hval0
  refine (PipeActs_walk a0 a1 len1 cap1 w0 W w1).mono fun e W' ⟨he, bel⟩ => ?_
  subst he
  exact ⟨_, rfl, _, _, _, [], _, [], hW', trodAll_mk1 (shut_bool Try.underlying4 _), (trodAll_cons_mk (shut_int Try.underlying3 w0) (trodAll_cons_mk (Below.trod PipeActs_laidOut (by kernel_rfl) (of_decide_eq_true (by kernel_rfl)) k1 bel lt1) trodAll_mk0)), rfl, bel.frame _, fun h => by cases h⟩

theorem pipeActs_holds : Rows.PipeActsSaid :=
  OpenClaim.holds_of_wide 3 Try.f3 rfl rfl rfl rfl rfl rfl rfl ⟨rfl, rfl, rfl, rfl, rfl⟩ rfl rfl rfl rfl rfl (by kernel_rfl) Try.func3 (by kernel_rfl)
    (of_decide_eq_true (by kernel_rfl)) (by unfold Func.isWrapper; rw [if_neg (of_decide_eq_false (by kernel_rfl))]; exact ⟨rfl, rfl⟩)
    (fun os started H enc _ => PipeActs_lifted os started H enc)
end Go.Proofs.Ytpddiphknpplcaa
