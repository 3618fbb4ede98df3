/-
  Proved: for every v and acts the statement CellActs returns true: whatever is done with a cell, what each answers, and the counts, are the document's all along; and nothing that was there is changed. Conditions: none.
-/
import Derived.Test.YtnflieejfegnhaaCellWalks3
import Derived.Test.YtnflieejfegnhaaIsTab
import Derived.Test.YtnflieejfegnhaaHeld
import Derived.ProofKit
import Derived.OpenShut
import Derived.ChangeOld
import Derived.Below
namespace Go.Proofs.Ytnflieejfegnhaa
open Go.ChangeShapes Go.WideShapes Go.ChangeAt Go.RowKit Verge
set_option linter.unusedVariables false
set_option linter.unusedSimpArgs false
attribute [local go_sem] Oper.semAt_some

/-- what the loop keeps: the two cells are alike -/
structure ActsIn (len b c : Nat) (w wr : World) (i : Value) (k : Nat) (s : CSt) : Prop where
  le : k ≤ len
  i : i = .int .i64 k
  ci : IsI wr b s
  ri : IsI wr c s
  ch : Ch (fun k => k = b ∨ k = c) w wr

set_option maxHeartbeats 8000000 in
set_option maxRecDepth 100000 in
theorem CellActs_walk (v : Int) (a1 : Option Addr) (len cap : Nat) (wa : (Lit.int .i64 v).wf = true) (w : World) (hr : IsTab [.i .i64, .i .i64, .i .i64] w a1 len cap) :
    Calls Try.prog 3 #[.int .i64 v, .slice a1 len cap] w fun e w' => e = .returned (.bool true) ∧ Below w.heap.size w w' := by
  clear wa
  have HR := Lib.hid hr
  have hsm := hr.small
  clear hr
  by_cases h2 : 200 < (len : Int)
  · go_enter Try.func3, Try.ntmps3
    go_wp2_with fail
    refine (alive_any _).mono ?_
    rintro e w1 ⟨rfl, c1⟩
    go_wp2
    go_ret
    exact ⟨rfl, c1.below (Nat.le_refl _) (fun _ _ h => h.elim)⟩
  · go_enter Try.func3, Try.ntmps3
    go_wp2_with fail
    refine (alive_any _).mono ?_
    rintro e w1 ⟨rfl, c1⟩
    go_wp2_with fail
    refine (of_i v _).mono ?_
    rintro e w2 ⟨rfl, hi, c2⟩
    have H2 := Lib.hid hi
    have hb2 : w1.heap.size < w2.heap.size := IsC.lt hi
    clear hi
    go_wp2
    go_loopw [7] (fun i wr => ∃ (k : Nat) (s : CSt), ActsIn len w1.heap.size w2.heap.size w2 wr i k s) (fun i _ => len - (intOf i).toNat)
    case atStart =>
      refine ⟨0, ⟨v, 0, 0, 0⟩, Nat.zero_le _, rfl, IsC.alloc H2.out _, isI_new _ _ _, (Ch.refl _ _).alloc _⟩
    case round =>
      obtain ⟨k, s, hk, rfl, hI, hJ, cr⟩ := hrel
      have HI := Lib.hid hI
      have HJ := Lib.hid hJ
      clear hI hJ H2
      have hw1 := c1.size
      have no : ∀ i, i < w.heap.size → (i = w1.heap.size ∨ i = w2.heap.size) → Nil i := fun i hi e => by omega
      have cw : Ch Nil w wr := (c1.trans c2).then cr no
      have hbne : ¬ w2.heap.size = w1.heap.size := by omega
      have hcne : ¬ w1.heap.size = w2.heap.size := by omega
      by_cases hlt : k < len
      · rcases HR.out with ⟨-, h0, -⟩ | ⟨x, rfl, -, -, hx⟩
        · omega
        obtain ⟨_, q0, y0, rfl, -⟩ := hx k hlt 0 _ rfl
        obtain ⟨_, q1, y1, rfl, -⟩ := hx k hlt 1 _ rfl
        obtain ⟨_, q2, y2, rfl, -⟩ := hx k hlt 2 _ rfl
        clear hx
        have q0' := cw.keeps q0 (fun e => e)
        have q1' := cell_at (k * 3) 1 (cw.keeps q1 (fun e => e))
        have q2' := cell_at (k * 3) 2 (cw.keeps q2 (fun e => e))
        rw [show k * [Leaf.i .i64, .i .i64, .i .i64].length + 0 = k * 3 from rfl] at q0'
        have Q0 := Lib.hid q0'
        have Q1 := Lib.hid q1'
        have Q2 := Lib.hid q2'
        have hxl : x.block < w.heap.size := by
          have := lt_of_cell q0
          unfold Addr.add at this
          split at this <;> exact this
        have xb : (x.add (k * 3)).block = x.block := by unfold Addr.add; split <;> rfl
        have XB := Lib.hid xb
        have nx1 : ¬ (x.add (k * 3)).block = w1.heap.size := by rw [xb]; omega
        have nx2 : ¬ (x.add (k * 3)).block = w2.heap.size := by rw [xb]; omega
        clear q0 q1 q2 xb
        obtain ⟨p, hp⟩ : ∃ p, doC y0 y1 y2 s = p := ⟨_, rfl⟩
        have HP := Lib.hid hp
        clear hp
        obtain ⟨ra, rb, rs⟩ := p
        go_wp2_with fail
        refine (act_any _ y0 y1 y2 s _ HI.out).mono ?_
        rw [HP.out]
        rintro e w3 ⟨rfl, hi, c3⟩
        dsimp only at hi
        have H3 := Lib.hid hi
        clear hi q0' q1' q2'
        have p0 := c3.keeps Q0.out nx1
        have p1 := c3.keeps Q1.out nx1
        have p2 := c3.keeps Q2.out nx1
        have J3 := Lib.hid (IsI.kept HJ.out c3 hbne)
        go_wp2_with fail
        refine (do_any _ y0 y1 y2 s _ J3.out).mono ?_
        rw [HP.out]
        rintro e w4 ⟨rfl, hi, c4⟩
        dsimp only at hi
        have J4 := Lib.hid hi
        clear hi p0 p1 p2
        have H4 := Lib.hid (IsI.kept H3.out c4 hcne)
        go_wp2_with fail
        refine (counts_i _ rs _ H4.out).mono ?_
        rintro e w5 ⟨rfl, hi, c5⟩
        have H5 := Lib.hid hi
        clear hi
        have j5 := IsI.kept J4.out c5 (fun e => e)
        have J5 := Lib.hid j5
        have l5 : w5.cell? ⟨w2.heap.size, 1, none⟩ = some (.int .i64 rs.l) := j5.l
        have t5 : w5.cell? ⟨w2.heap.size, 2, none⟩ = some (.int .i64 rs.t) := j5.t
        have u5 : w5.cell? ⟨w2.heap.size, 3, none⟩ = some (.int .i64 rs.u) := j5.u
        clear j5
        have e0 : (ra != ra) = false := by simp
        have e1 : (rb != rb) = false := by simp
        have e2 : (rs.l != rs.l) = false := by simp
        have e3 : (rs.t != rs.t) = false := by simp
        have e4 : (rs.u != rs.u) = false := by simp
        go_wp2
        go_roundw
        case rel =>
          refine ⟨k + 1, rs, by omega, by go_num, H5.out, J5.out, ?_⟩
          have d3 : Ch (fun k => k = w1.heap.size ∨ k = w2.heap.size) wr w3 := c3.mono (fun i _ h => .inl h)
          have d4 : Ch (fun k => k = w1.heap.size ∨ k = w2.heap.size) w3 w4 := c4.mono (fun i _ h => .inr h)
          have d5 : Ch (fun k => k = w1.heap.size ∨ k = w2.heap.size) w4 w5 := c5.mono (fun i _ h => h.elim)
          exact ((cr.trans d3).trans d4).trans d5
        case measure => simp [intOf]; omega
      · obtain rfl : k = len := by omega
        clear hlt
        go_wp2
        have hv : wr.cell? ⟨w2.heap.size, 0, none⟩ = some (.int .i64 s.v) := HJ.out.v
        have HV := Lib.hid hv
        clear hv
        have HVd : wr.drew.cell? ⟨w2.heap.size, 0, none⟩ = some (.int .i64 s.v) := HV.out
        have e0 : (s.v == s.v) = true := by simp
        refine wp_region_held_drew (S := fun w' => w'.cell? ⟨w2.heap.size, 0, none⟩ = some (.int .i64 s.v)) (by kernel_rfl) HVd (fun hHeld => ?_)
        clear HVd
        refine take_at (v := ?_) 0 (some 79) rfl (by kernel_rfl) (by kernel_rfl) (by kernel_rfl) (by kernel_rfl) (fun _ _ _ h => h) (Or.inl ⟨by rfl, ?_⟩) (by assumption) ?_
        rotate_left
        · intro w hSw; (try dsimp only at hSw); go_simp; try (with_reducible rfl)
        (try simp only [Act.put, List.setIfInBounds_toArray, List.set_cons_zero, List.set_cons_succ])
        refine take_at (v := ?_) 2 (some 81) rfl (by kernel_rfl) (by kernel_rfl) (by kernel_rfl) (by kernel_rfl) (fun _ _ _ h => h) (Or.inl ⟨by rfl, ?_⟩) (by assumption) ?_
        rotate_left
        · intro w hSw; (try dsimp only at hSw); go_simp; try (with_reducible rfl)
        (try simp only [Act.put, List.setIfInBounds_toArray, List.set_cons_zero, List.set_cons_succ])
        refine take_at (v := ?_) 3 (some 82) rfl (by kernel_rfl) (by kernel_rfl) (by kernel_rfl) (by kernel_rfl) (fun _ _ _ h => h) (Or.inl ⟨by rfl, ?_⟩) (by assumption) ?_
        rotate_left
        · intro w hSw; (try dsimp only at hSw); go_simp; try (with_reducible rfl)
        (try simp only [Act.put, List.setIfInBounds_toArray, List.set_cons_zero, List.set_cons_succ])
        refine wpAnyH_ready (rs := [1]) (by kernel_rfl) (by simp) ?_
        refine AllReadyH.cons rfl (fun K hK => ?_) AllReadyH.nil
        go_simp
        refine (load_i _ s _ (IsC.drew HI.out)).mono ?_
        rintro e w4 ⟨rfl, hi, c4⟩
        clear hi
        refine hK.out _ _ (c4.keeps hHeld hbne) (fun hHeld2 => ?_)
        clear hK K
        (try simp only [Act.put, List.setIfInBounds_toArray, List.set_cons_zero, List.set_cons_succ])
        refine take_at (v := ?_) 4 (some 83) rfl (by kernel_rfl) (by kernel_rfl) (by kernel_rfl) (by kernel_rfl) (fun _ _ _ h => h) (Or.inl ⟨by rfl, ?_⟩) (by assumption) ?_
        rotate_left
        · intro w hSw; (try dsimp only at hSw); go_simp; try (with_reducible rfl)
        (try simp only [Act.put, List.setIfInBounds_toArray, List.set_cons_zero, List.set_cons_succ])
        refine take_at (v := ?_) 5 (some 4) rfl (by kernel_rfl) (by kernel_rfl) (by kernel_rfl) (by kernel_rfl) (fun _ _ _ h => h) (Or.inl ⟨by rfl, ?_⟩) (by assumption) ?_
        rotate_left
        · intro w hSw; (try dsimp only at hSw); go_simp; try (with_reducible rfl)
        (try simp only [Act.put, List.setIfInBounds_toArray, List.set_cons_zero, List.set_cons_succ])
        refine wpAnyH_done (by kernel_rfl) ?_ _
        go_wp2
        go_ret
        exact ⟨rfl, Ch.below (S := Nil) (cw.drew.then c4 (fun i hi e => no i hi (.inl e))) (Nat.le_refl _) (fun _ _ h => h.elim)⟩

theorem CellActs_own : ownKnob Try.prog.godebug = none := by kernel_rfl
theorem CellActs_laidOut : laidOutB Try.prog = true := by kernel_rfl

set_option maxRecDepth 100000 in
theorem CellActs_lifted (os : Os) (started : os.Started) (H : Type) (enc : TypeId × Value → H) :
    ReturnsInHanded {} Try.checked os 3 .any (Rows.cellActsSpec.pre6 enc Try.prog Try.f3 Rows.cellActsRow.domain false) (Rows.cellActsSpec.post enc Try.prog Try.f3 false true false false) := by
  refine returnsInHanded_of_change (C := Try.checked) CellActs_own started (by kernel_rfl) Try.func3
    (ChangeSpec.witness6 (enc := enc) (C := Try.checked) false ⟨#[], #[.int .i64 0, .slice none 0 0], []⟩ 8 (by kernel_rfl) (by kernel_rfl) (by kernel_rfl) (by kernel_rfl)) ?_
  intro W base args ds gs before hval0 hW hcnd _
  have hval : ∀ (j : Nat) t v, Try.f3.params[j]? = some t → args[j]? = some v → Value.okWide Try.prog W .any base t v := hval0
  have hW' := hW
  obtain ⟨p, q, hA0, hV, rfl, hfz, hnd⟩ := hW
  have hA : DataW.TrodAll enc Try.prog W 0 (fun _ => true) true Try.f3.params.toList args.toList ds p := hA0
  rw [Try.params3] at hA hval
  obtain ⟨v0, vs0, d0, ds0, p0, q0, hargs, rfl, rfl, h0, r0⟩ := trodAll_cons hA
  obtain ⟨v1, vs1, d1, ds1, p1, q1, rfl, rfl, rfl, h1, r1⟩ := trodAll_cons r0
  obtain ⟨rfl, rfl, rfl⟩ := trodAll_nil r1
  obtain rfl : args = #[v0, v1] := by cases args; simp_all
  obtain ⟨rfl, rfl⟩ := trodVars_none hV
  obtain ⟨a0, rfl, rfl, rfl, w0⟩ := open_int Try.underlying3 (hval 0 3 v0 rfl rfl) h0
  obtain ⟨a1, len1, cap1, rfl⟩ := okWide_slice Try.underlying22 (hval 1 22 v1 rfl rfl)
  have k1 := h1
  have lt1 : ∀ x ∈ p1, x.block < W.heap.size := by obtain ⟨m, hm⟩ := k1; exact DataW.trod_lt m _ _ _ hm
  have w1 : IsTab [.i .i64, .i .i64, .i .i64] W a1 len1 cap1 := by
    obtain ⟨fuel, hf⟩ := h1
    exact open_tab _ Try.underlying22 Try.underlying31 (by kernel_rfl) (by kernel_rfl) hf
  clear hA0 hval0
  refine (CellActs_walk a0 a1 len1 cap1 w0 W w1).mono fun e W' ⟨he, bel⟩ => ?_
  subst he
  exact ⟨_, rfl, _, _, _, [], _, [], hW', trodAll_mk1 (shut_bool Try.underlying4 _), (trodAll_cons_mk (shut_int Try.underlying3 w0) (trodAll_cons_mk (Below.trod CellActs_laidOut (by kernel_rfl) (of_decide_eq_true (by kernel_rfl)) k1 bel lt1) trodAll_mk0)), rfl, bel.frame _, fun h => by cases h⟩

theorem cellActs_holds : Rows.CellActsSaid :=
  OpenClaim.holds_of_wide 3 Try.f3 rfl rfl rfl rfl rfl rfl rfl ⟨rfl, rfl, rfl, rfl, rfl⟩ rfl rfl rfl rfl rfl (by kernel_rfl) Try.func3 (by kernel_rfl)
    (of_decide_eq_true (by kernel_rfl)) (by unfold Func.isWrapper; rw [if_neg (of_decide_eq_false (by kernel_rfl))]; exact ⟨rfl, rfl⟩)
    (fun os started H enc _ => CellActs_lifted os started H enc)
end Go.Proofs.Ytnflieejfegnhaa
