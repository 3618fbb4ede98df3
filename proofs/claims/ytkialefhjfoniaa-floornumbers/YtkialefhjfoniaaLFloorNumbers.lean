/-
  Proved: for every room, all times and every slot the statement FloorNumbers returns true: the greatest number that was given of any slot, or the error, is that of the slab's last request there; and nothing that was there is changed. Conditions: none.
-/
import Derived.Test.YtkialefhjfoniaaFnB
import Derived.ProofKit
import Derived.OpenShut
import Derived.ChangeOld
import Derived.Below
namespace Go.Proofs.Ytkialefhjfoniaa
open Go.ChangeShapes Go.WideShapes Go.ChangeAt Go.RowKit Verge
set_option linter.unusedVariables false
set_option linter.unusedSimpArgs false
attribute [local go_sem] Oper.semAt_some

set_option maxRecDepth 100000 in
set_option maxHeartbeats 0 in
theorem FloorNumbers_walk (a0 : Int) (ad : Option Addr) (len cap : Nat) (zs : List Int) (si : Int) (wn : (Lit.int .u8 a0).wf = true) (wsi : (Lit.int .i64 si).wf = true) (w : World) (hv : IsRow .u8 w ad len cap zs) :
    Calls Try.prog 6 #[.int .u8 a0, .slice ad len cap, .int .i64 si] w fun e w' => e = .returned (.bool true) ∧ Below w.heap.size w w' := by
  have HV := Lib.hid hv
  have hsm := hv.small
  clear hv wsi
  obtain ⟨n1, n2⟩ := bounds_u8 wn
  obtain ⟨n0, rfl⟩ := Int.eq_ofNat_of_zero_le n1
  clear wn n1
  have tm := tmod_nat n0 5
  have hm := Nat.mod_lt n0 (show 0 < 5 by decide)
  obtain ⟨r, hr⟩ : ∃ r, r = n0 % 5 := ⟨_, rfl⟩
  rw [← hr] at tm hm
  have em : (n0 : Int) % 5 = (r : Int) := by rw [hr, Int.natCast_emod]; rfl
  clear hr
  replace tm : ((n0 : Int)).tmod 5 = (r : Int) := tm
  have hmm := @run_makeMap Try.prog
  go_enter Try.func6, Try.ntmps6
  go_wp2_with fail
  refine (alive_any _).mono ?_
  rintro e w1 ⟨rfl, c1⟩
  have C1 := Lib.hid c1
  clear c1
  by_cases h200 : 60 < len
  · have hz : (60 : Int) < (len : Int) := by omega
    go_wp2
    go_ret
    exact ⟨rfl, C1.out.below (Nat.le_refl _) (fun _ _ e => e.elim)⟩
  · have hz : (len : Int) ≤ 60 := by omega
    have e1 : (1 : Int) + (r : Int) = ((r + 1 : Nat) : Int) := by omega
    go_wp2_with fail
    refine (plain_of 1 _ _).mono ?_
    rintro e w2 ⟨rfl, c2⟩
    have C2 := Lib.hid (C1.out.trans c2)
    clear c2 C1
    go_wp2_with fail
    refine (newPlain 1 _ 1 (r + 1) rfl (by omega) (by omega) (by omega) _).mono ?_
    rintro e w3 ⟨F, rfl, hF, hn, n3⟩
    have HCC := Lib.hid (show F.c.c = ((r + 1 : Nat) : Int) from by rw [hF])
    have N3 := Lib.hid n3
    have C3 := Lib.hid (C2.out.trans n3.c)
    have hlo : w.heap.size ≤ w2.heap.size := C2.out.size
    have hlt : F.srb < w3.heap.size ∧ F.sb < w3.heap.size ∧ F.f < w3.heap.size := ⟨n3.s.lt2, n3.s.lt, n3.fl.lt⟩
    have cA : Ch Nil w3 (w3.alloc (.map #[] 0)) := (Ch.refl _ _).alloc _
    have o := n3.o
    have hlo2 : w2.heap.size ≤ F.srb ∧ w2.heap.size ≤ F.sb := by
      obtain ⟨o1, o2, o3, o4, o5, o6, o7, o8, o9, oa, og, os, od⟩ := o
      omega
    have START : Hid (SlR w (w3.alloc (.map #[] 0)) F.sb F.srb (r + 1) 0 zeroR 0 ∧ NumK (w3.alloc (.map #[] 0)) F w3.heap.size zeroR 0) := Lib.hid ⟨⟨n3.s.quiet cA, Inv.zero _, C3.out.trans cA, by omega, by omega⟩, n3.fl.kept cA (fun e => e), 0, Nat.le_refl _, by
      have := MapI.new w3
      rwa [show (fun _ : Nat => (0 : Nat)) = lastF zeroR from by funext j; rfl] at this⟩
    have HLB : Hid (NumH w F w3.heap.size) := Lib.hid ⟨by have := o.o7; have := o.o8; omega, by have := o.o7; omega, by omega, by omega, by omega, C3.out.size⟩
    clear hF hn n3 cA o hlo hlo2 hlt
    go_wp2
    refine wp_mono (fnA_loop w F (r + 1) _ si ad len cap zs HV.out (by omega) (by omega) (by omega) HLB.out _ _ (by omega) ?hI) ?_
    case hI => exact ⟨_, _, rfl, rfl, rfl, rfl, rfl, rfl, rfl, rfl, START.out⟩
    rename_i K hK
    intro e a' w' hp
    obtain ⟨rfl, H⟩ := Qx_inv hp
    exact hK _ _ (fn_end w F (r + 1) _ si ad len cap zs HV.out (by omega) (by omega) (by omega) HLB.out HCC.out a' w' H)

theorem FloorNumbers_own : ownKnob Try.prog.godebug = none := by kernel_rfl
theorem FloorNumbers_laidOut : laidOutB Try.prog = true := by kernel_rfl

set_option maxRecDepth 100000 in
theorem FloorNumbers_lifted (os : Os) (started : os.Started) (H : Type) (enc : TypeId × Value → H) :
    ReturnsInHanded {} Try.checked os 6 .any (Rows.floorNumbersSpec.pre6 enc Try.prog Try.f6 Rows.floorNumbersRow.domain false) (Rows.floorNumbersSpec.post enc Try.prog Try.f6 false true false false) := by
  refine returnsInHanded_of_change (C := Try.checked) FloorNumbers_own started (by kernel_rfl) Try.func6
    (ChangeSpec.witness6 (enc := enc) (C := Try.checked) false ⟨#[], #[.int .u8 0, .slice none 0 0, .int .i64 0], []⟩ 8 (by kernel_rfl) (by kernel_rfl) (by kernel_rfl) (by kernel_rfl)) ?_
  intro W base args ds gs before hval0 hW hcnd _
  have hval : ∀ (j : Nat) t v, Try.f6.params[j]? = some t → args[j]? = some v → Value.okWide Try.prog W .any base t v := hval0
  have hW' := hW
  obtain ⟨p, q, hA0, hV, rfl, hfz, hnd⟩ := hW
  have hA : DataW.TrodAll enc Try.prog W 0 (fun _ => true) true Try.f6.params.toList args.toList ds p := hA0
  rw [Try.params6] at hA hval
  obtain ⟨v0, vs0, d0, ds0, p0, q0, hargs, rfl, rfl, h0, r0⟩ := trodAll_cons hA
  obtain ⟨v1, vs1, d1, ds1, p1, q1, rfl, rfl, rfl, h1, r1⟩ := trodAll_cons r0
  obtain ⟨v2, vs2, d2, ds2, p2, q2, rfl, rfl, rfl, h2, r2⟩ := trodAll_cons r1
  obtain ⟨rfl, rfl, rfl⟩ := trodAll_nil r2
  obtain rfl : args = #[v0, v1, v2] := by cases args; simp_all
  obtain ⟨rfl, rfl⟩ := trodVars_none hV
  obtain ⟨a0, rfl, rfl, rfl, w0⟩ := open_int Try.underlying5 (hval 0 5 v0 rfl rfl) h0
  obtain ⟨a1, len1, cap1, rfl⟩ := okWide_slice Try.underlying71 (hval 1 71 v1 rfl rfl)
  have k1 := h1
  have lt1 : ∀ x ∈ p1, x.block < W.heap.size := by obtain ⟨m, hm⟩ := k1; exact DataW.trod_lt m _ _ _ hm
  obtain ⟨z1, w1⟩ : ∃ zs, IsRow .u8 W a1 len1 cap1 zs := by
    obtain ⟨fuel, hf⟩ := h1
    rcases open_ints Try.underlying71 Try.underlying5 (by kernel_rfl) hf with ⟨hcs, _⟩ | ⟨x, l, c, zs, hcs, _, hl, hm, hz, _, hcell, hwz⟩
    · simp [Value.cells] at hcs
      obtain ⟨rfl, rfl, rfl⟩ := hcs
      exact ⟨[], .inl ⟨rfl, rfl, rfl, rfl⟩⟩
    · simp [Value.cells] at hcs
      obtain ⟨rfl, rfl, rfl⟩ := hcs
      exact ⟨zs, .inr ⟨_, rfl, hl, hm, by simpa using hz, hcell, hwz⟩⟩
  obtain ⟨a2, rfl, rfl, rfl, w2⟩ := open_int Try.underlying3 (hval 2 3 v2 rfl rfl) h2
  clear hA0 hval0
  refine (FloorNumbers_walk a0 a1 len1 cap1 z1 a2 w0 w2 W w1).mono fun e W' ⟨he, bel⟩ => ?_
  subst he
  exact ⟨_, rfl, _, _, _, [], _, [], hW', trodAll_mk1 (shut_bool Try.underlying4 _), (trodAll_cons_mk (shut_int Try.underlying5 w0) (trodAll_cons_mk (Below.trod FloorNumbers_laidOut (by kernel_rfl) (of_decide_eq_true (by kernel_rfl)) k1 bel lt1) (trodAll_cons_mk (shut_int Try.underlying3 w2) trodAll_mk0))), rfl, bel.frame _, fun h => by cases h⟩

theorem floorNumbers_holds : Rows.FloorNumbersSaid :=
  OpenClaim.holds_of_wide 6 Try.f6 rfl rfl rfl rfl rfl rfl rfl ⟨rfl, rfl, rfl, rfl, rfl⟩ rfl rfl rfl rfl rfl (by kernel_rfl) Try.func6 (by kernel_rfl)
    (of_decide_eq_true (by kernel_rfl)) (by unfold Func.isWrapper; rw [if_neg (of_decide_eq_false (by kernel_rfl))]; exact ⟨rfl, rfl⟩)
    (fun os started H enc _ => FloorNumbers_lifted os started H enc)
end Go.Proofs.Ytkialefhjfoniaa
