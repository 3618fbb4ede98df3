/-
  Proved: for every n, acts, id and slot the statement SlabActs returns true: however requests step between each other, words are tried, and the count is dropped, what each answers, and all that the slab tells, are the document's all along; and nothing that was there is changed. Conditions: none.
-/
import Derived.Test.YtjhmmfdmoalfmaaSxA
import Derived.ProofKit
import Derived.OpenShut
import Derived.ChangeOld
import Derived.Below
namespace Go.Proofs.Ytjhmmfdmoalfmaa
open Go.ChangeShapes Go.WideShapes Go.ChangeAt Go.RowKit Verge
set_option linter.unusedVariables false
set_option linter.unusedSimpArgs false
attribute [local go_sem] Oper.semAt_some

set_option maxRecDepth 100000 in
set_option maxHeartbeats 0 in
theorem SlabActs_walk (n0 : Int) (ad : Option Addr) (len cap : Nat) (id slot : Int) (wn : (Lit.int .i64 n0).wf = true) (wi : (Lit.int .u64 id).wf = true) (ws : (Lit.int .i64 slot).wf = true) (w : World) (hv : IsTab [.i .i64, .i .i64, .i .i64, .i .u64] w ad len cap) :
    Calls Try.prog 3 #[.int .i64 n0, .slice ad len cap, .int .u64 id, .int .i64 slot] w fun e w' => e = .returned (.bool true) ∧ Below w.heap.size w w' := by
  have HV := Lib.hid hv
  have hsm := hv.small
  obtain ⟨i1, i2⟩ := bounds_u64 wi
  obtain ⟨id, rfl⟩ := Int.eq_ofNat_of_zero_le i1
  have hid : id < 18446744073709551616 := by omega
  clear hv wn wi ws i1 i2
  go_enter Try.func3, Try.ntmps3
  go_wp2_with fail
  refine (alive_any _).mono ?_
  rintro e w1 ⟨rfl, c1⟩
  have C1 := Lib.hid c1
  clear c1
  by_cases h200 : 200 < len
  · have hz : (200 : Int) < (len : Int) := by omega
    go_wp2
    go_ret
    exact ⟨rfl, C1.out.below (Nat.le_refl _) (fun _ _ e => e.elim)⟩
  · have hz : (len : Int) ≤ 200 := by omega
    by_cases hn : n0 < 1 ∨ 64 < n0
    · have HN := Lib.hid hn
      by_cases hn1 : n0 < 1
      · clear hn
        go_wp2_with fail
        refine (new_out n0 _ HN).mono ?_
        rintro e w2 ⟨rfl, rfl⟩
        go_wp2
        go_ret
        exact ⟨rfl, C1.out.below (Nat.le_refl _) (fun _ _ e => e.elim)⟩
      · have hn2 : 64 < n0 := by omega
        clear hn
        go_wp2_with fail
        refine (new_out n0 _ HN).mono ?_
        rintro e w2 ⟨rfl, rfl⟩
        go_wp2
        go_ret
        exact ⟨rfl, C1.out.below (Nat.le_refl _) (fun _ _ e => e.elim)⟩
    · obtain ⟨n, rfl⟩ := Int.eq_ofNat_of_zero_le (show 0 ≤ n0 by omega)
      have n0 : 0 < n := by omega
      have n1 : n ≤ 64 := by omega
      have z1 : ¬ (n : Int) < 1 := by omega
      have z2 : ¬ 64 < (n : Int) := by omega
      clear hn
      go_wp2_with fail
      refine (new_of n w1 n0 n1).mono ?_
      rintro e w2 ⟨b, rb, rfl, hb, hr, s2, c2⟩
      have S2 := Lib.hid s2
      have C2 := Lib.hid (C1.out.trans c2)
      have HB : Hid (w.heap.size ≤ b) := Lib.hid (by have := C1.out.size; omega)
      have HR : Hid (w.heap.size ≤ rb) := Lib.hid (by have := C1.out.size; omega)
      clear s2 c2 hb hr C1
      go_wp2_with fail
      refine (refNew_of n w2 n0 n1).mono ?_
      rintro e w3 ⟨vb, lb, rfl, hvb, hlb, v3, c3⟩
      have START : Hid (SaR w w3 b rb vb lb n 0 zeroR 0 (fun _ => 0) (fun _ => ⟨0, 0, 0, 0, 0, 0⟩) none 0 none 0 0) := Lib.hid
        ⟨S2.out.quiet c3, v3, AInv.zero n, fun j hj => by omega, fun j hj => by omega, fun j j' hj => by omega, Row.nil _ _ _ _, fun j hj => by simp [OwnS] at hj, fun j hj => by
          have h1 := C2.out.size
          have h2 := S2.out.lt
          have h3 := S2.out.lt2
          rcases hj with hj | hj | hj
          · subst hj; exact ⟨by omega, by omega, by omega⟩
          · subst hj; exact ⟨by omega, by omega, by omega⟩
          · simp [OwnS] at hj, C2.out.trans c3, HB.out, HR.out⟩
      clear v3 c3 hvb hlb S2 C2
      go_wp2
      refine wp_mono (sxA_loop w b rb vb lb n ad len cap id slot HV.out (by omega) n1 hid _ _ (by omega) ?hI) ?_
      case hI => exact ⟨_, _, _, _, _, _, _, _, _, rfl, rfl, rfl, rfl, rfl, rfl, rfl, rfl, rfl, rfl, START.out⟩
      rename_i K hK
      intro e a' w' hp
      obtain ⟨rfl, H⟩ := Qx_inv hp
      exact hK _ _ (sx_end w b rb vb lb n ad len cap id slot HV.out (by omega) n1 hid a' w' H)

theorem SlabActs_own : ownKnob Try.prog.godebug = none := by kernel_rfl
theorem SlabActs_laidOut : laidOutB Try.prog = true := by kernel_rfl

set_option maxRecDepth 100000 in
theorem SlabActs_lifted (os : Os) (started : os.Started) (H : Type) (enc : TypeId × Value → H) :
    ReturnsInHanded {} Try.checked os 3 .any (Rows.slabActsSpec.pre6 enc Try.prog Try.f3 Rows.slabActsRow.domain false) (Rows.slabActsSpec.post enc Try.prog Try.f3 false true false false) := by
  refine returnsInHanded_of_change (C := Try.checked) SlabActs_own started (by kernel_rfl) Try.func3
    (ChangeSpec.witness6 (enc := enc) (C := Try.checked) false ⟨#[], #[.int .i64 0, .slice none 0 0, .int .u64 0, .int .i64 0], []⟩ 8 (by kernel_rfl) (by kernel_rfl) (by kernel_rfl) (by kernel_rfl)) ?_
  intro W base args ds gs before hval0 hW hcnd _
  have hval : ∀ (j : Nat) t v, Try.f3.params[j]? = some t → args[j]? = some v → Value.okWide Try.prog W .any base t v := hval0
  have hW' := hW
  obtain ⟨p, q, hA0, hV, rfl, hfz, hnd⟩ := hW
  have hA : DataW.TrodAll enc Try.prog W 0 (fun _ => true) true Try.f3.params.toList args.toList ds p := hA0
  rw [Try.params3] at hA hval
  obtain ⟨v0, vs0, d0, ds0, p0, q0, hargs, rfl, rfl, h0, r0⟩ := trodAll_cons hA
  obtain ⟨v1, vs1, d1, ds1, p1, q1, rfl, rfl, rfl, h1, r1⟩ := trodAll_cons r0
  obtain ⟨v2, vs2, d2, ds2, p2, q2, rfl, rfl, rfl, h2, r2⟩ := trodAll_cons r1
  obtain ⟨v3, vs3, d3, ds3, p3, q3, rfl, rfl, rfl, h3, r3⟩ := trodAll_cons r2
  obtain ⟨rfl, rfl, rfl⟩ := trodAll_nil r3
  obtain rfl : args = #[v0, v1, v2, v3] := by cases args; simp_all
  obtain ⟨rfl, rfl⟩ := trodVars_none hV
  obtain ⟨a0, rfl, rfl, rfl, w0⟩ := open_int Try.underlying3 (hval 0 3 v0 rfl rfl) h0
  obtain ⟨a1, len1, cap1, rfl⟩ := okWide_slice Try.underlying22 (hval 1 22 v1 rfl rfl)
  have k1 := h1
  have lt1 : ∀ x ∈ p1, x.block < W.heap.size := by obtain ⟨m, hm⟩ := k1; exact DataW.trod_lt m _ _ _ hm
  have w1 : IsTab [.i .i64, .i .i64, .i .i64, .i .u64] W a1 len1 cap1 := by
    obtain ⟨fuel, hf⟩ := h1
    exact open_tab _ Try.underlying22 Try.underlying33 (by kernel_rfl) (by kernel_rfl) hf
  obtain ⟨a2, rfl, rfl, rfl, w2⟩ := open_int Try.underlying23 (hval 2 23 v2 rfl rfl) h2
  obtain ⟨a3, rfl, rfl, rfl, w3⟩ := open_int Try.underlying3 (hval 3 3 v3 rfl rfl) h3
  clear hA0 hval0
  refine (SlabActs_walk a0 a1 len1 cap1 a2 a3 w0 w2 w3 W w1).mono fun e W' ⟨he, bel⟩ => ?_
  subst he
  exact ⟨_, rfl, _, _, _, [], _, [], hW', trodAll_mk1 (shut_bool Try.underlying4 _), (trodAll_cons_mk (shut_int Try.underlying3 w0) (trodAll_cons_mk (Below.trod SlabActs_laidOut (by kernel_rfl) (of_decide_eq_true (by kernel_rfl)) k1 bel lt1) (trodAll_cons_mk (shut_int Try.underlying23 w2) (trodAll_cons_mk (shut_int Try.underlying3 w3) trodAll_mk0)))), rfl, bel.frame _, fun h => by cases h⟩

theorem slabActs_holds : Rows.SlabActsSaid :=
  OpenClaim.holds_of_wide 3 Try.f3 rfl rfl rfl rfl rfl rfl rfl ⟨rfl, rfl, rfl, rfl, rfl⟩ rfl rfl rfl rfl rfl (by kernel_rfl) Try.func3 (by kernel_rfl)
    (of_decide_eq_true (by kernel_rfl)) (by unfold Func.isWrapper; rw [if_neg (of_decide_eq_false (by kernel_rfl))]; exact ⟨rfl, rfl⟩)
    (fun os started H enc _ => SlabActs_lifted os started H enc)
end Go.Proofs.Ytjhmmfdmoalfmaa
