/-
  FloorActs: the loop over the acts.
-/
import Derived.Test.YtkialefhjfoniaaFaCode
import Derived.Test.YtkialefhjfoniaaHeld
import Derived.Deep.QuietTactic
import Derived.BigQuiet
import Derived.Deep.Cut
import Derived.Deep.CutRange
import Derived.Deep.CutBlock
import Derived.RegionTactic
import Derived.BigRegion
namespace Go.Proofs.Ytkialefhjfoniaa
open Go.RowKit Verge
set_option linter.unusedVariables false
set_option linter.unusedSimpArgs false
attribute [local go_sem] Oper.semAt_some

/-- what holds at the head of the loop -/
def faAI (w : World) (F : Fb) (vb : Nat) (ad : Option Addr) (len cap : Nat) (Ls : List Ax) (k : Nat) (a : Act) (wr : World) : Prop :=
  ∃ (s : St) (a1 : Option Addr) (tc1 : Nat) (a2 : Option Addr) (tc2 : Nat), a.defers = [] ∧ a.tmps.size = 146 ∧ a.tmps.getD 0 undef = .slice ad len cap ∧ a.tmps.getD 3 undef = .pointer (some ⟨F.f, 0, none⟩) ∧ a.tmps.getD 5 undef = .pointer (some ⟨vb, 0, none⟩) ∧ a.tmps.getD 6 undef = .int .i64 (k : Nat) ∧ (AcK w wr F vb s s a1 tc1 a2 tc2 ∧ stLe s k)
theorem faAI_ctr {k : Nat} (w : World) (F : Fb) (vb : Nat) (ad : Option Addr) (len cap : Nat) (Ls : List Ax) {a : Act} {wr : World} (H : faAI w F vb ad len cap Ls k a wr) : a.tmps.getD 6 undef = .int .i64 (k : Nat) := by
  obtain ⟨s, a1, tc1, a2, tc2, -, -, -, -, -, h, -⟩ := H
  exact h
set_option maxRecDepth 100000 in
set_option maxHeartbeats 0 in
theorem faA_round {k : Nat} (w : World) (F : Fb) (vb : Nat) (ad : Option Addr) (len cap : Nat) (Ls : List Ax) (hv : ASrc14 w ad Ls) (hl : Ls.length = len) (h200 : len ≤ 200) (a : Act) (wr : World) (hk : k ≤ len) (H : faAI w F vb ad len cap Ls k a wr) :
    Code.wp Try.prog (loopIn 0 Try.f4) (Exit.then (fun a' w' => faAI w F vb ad len cap Ls (k + 1) a' w' ∧ k < len) (Qx 0 (fun a' w' => faAI w F vb ad len cap Ls k a' w' ∧ k = len))) a wr := by
  obtain ⟨t, ds⟩ := a
  obtain ⟨s, a1, tc1, a2, tc2, hd', hz, h0, h3, h5, h6, rel⟩ := H
  replace hd' : ds = [] := hd'
  subst hd'
  replace hz : t.size = 146 := hz
  replace h0 : t.getD 0 undef = .slice ad len cap := h0
  replace h3 : t.getD 3 undef = .pointer (some ⟨F.f, 0, none⟩) := h3
  replace h5 : t.getD 5 undef = .pointer (some ⟨vb, 0, none⟩) := h5
  replace h6 : t.getD 6 undef = .int .i64 (k : Nat) := h6
  have REL := Lib.hid rel
  clear rel
  refine openFr146 (P := fun t => t.getD 0 undef = .slice ad len cap → t.getD 3 undef = .pointer (some ⟨F.f, 0, none⟩) → t.getD 5 undef = .pointer (some ⟨vb, 0, none⟩) → t.getD 6 undef = .int .i64 (k : Nat) → Code.wp Try.prog (loopIn 0 Try.f4) (Exit.then (fun a' w' => faAI w F vb ad len cap Ls (k + 1) a' w' ∧ k < len) (Qx 0 (fun a' w' => faAI w F vb ad len cap Ls k a' w' ∧ k = len))) ⟨t, []⟩ wr) ?_ t hz h0 h3 h5 h6
  clear h0 h3 h5 h6 hz t
  intro c0 c1 c2 c3 c4 c5 c6 c7 c8 c9 c10 c11 c12 c13 c14 c15 c16 c17 c18 c19 c20 c21 c22 c23 c24 c25 c26 c27 c28 c29 c30 c31 c32 c33 c34 c35 c36 c37 c38 c39 c40 c41 c42 c43 c44 c45 c46 c47 c48 c49 c50 c51 c52 c53 c54 c55 c56 c57 c58 c59 c60 c61 c62 c63 c64 c65 c66 c67 c68 c69 c70 c71 c72 c73 c74 c75 c76 c77 c78 c79 c80 c81 c82 c83 c84 c85 c86 c87 c88 c89 c90 c91 c92 c93 c94 c95 c96 c97 c98 c99 c100 c101 c102 c103 c104 c105 c106 c107 c108 c109 c110 c111 c112 c113 c114 c115 c116 c117 c118 c119 c120 c121 c122 c123 c124 c125 c126 c127 c128 c129 c130 c131 c132 c133 c134 c135 c136 c137 c138 c139 c140 c141 c142 c143 c144 c145 h0 h3 h5 h6
  replace h0 : c0 = .slice ad len cap := h0
  replace h3 : c3 = .pointer (some ⟨F.f, 0, none⟩) := h3
  replace h5 : c5 = .pointer (some ⟨vb, 0, none⟩) := h5
  replace h6 : c6 = .int .i64 (k : Nat) := h6
  subst h0
  subst h3
  subst h5
  subst h6
  conv => arg 2; whnf
  have HV := Lib.hid hv
  have HL := Lib.hid hl
  clear hv hl
  by_cases hlt : k < len
  · obtain ⟨b, o, rfl, hcell⟩ := HV.out.form (by rw [HL.out]; omega)
    obtain ⟨x, hx⟩ : ∃ x, Ls[k]? = some x := ⟨_, List.getElem?_eq_getElem (by rw [HL.out]; exact hlt)⟩
    obtain ⟨x0, x1, y0, y1, y2, y3, y4, y5, y6, y7, y8, y9⟩ := ((hcell k x hx).kept REL.out.1.c (fun e => e)).cells
    have hltz : (k : Int) < (len : Int) := by omega
    have hk0 : (0 : Int) ≤ (k : Int) := by omega
    have e0 : ((k : Int)).toNat = k := by omega
    have SL := Lib.hid (show stLe s k ∧ k ≤ 200 from ⟨REL.out.2, by omega⟩)
    replace SL := Lib.hid SL.out.1
    have hk2 : k ≤ 200 := by omega
    have cX : Ch Nil wr (wr.alloc (.cells #[.int .i64 x.k, .bool x.on, .int .i64 x.u.k, .int .i64 x.u.t, .int .i64 x.u.c, .int .i64 x.u.h, .int .u64 x.u.i, .int .u64 x.u.g, .int .u64 x.u.d, .int .u64 x.u.p, .int .u64 x.u.q, .int .i64 x.u.e] 57)) := (Ch.refl _ _).alloc _
    have bv : IsVs (wr.alloc (.cells #[.int .i64 x.k, .bool x.on, .int .i64 x.u.k, .int .i64 x.u.t, .int .i64 x.u.c, .int .i64 x.u.h, .int .u64 x.u.i, .int .u64 x.u.g, .int .u64 x.u.d, .int .u64 x.u.p, .int .u64 x.u.q, .int .i64 x.u.e] 57)) wr.heap.size [.int .i64 x.k, .bool x.on, .int .i64 x.u.k, .int .i64 x.u.t, .int .i64 x.u.c, .int .i64 x.u.h, .int .u64 x.u.i, .int .u64 x.u.g, .int .u64 x.u.d, .int .u64 x.u.p, .int .u64 x.u.q, .int .i64 x.u.e] := IsVs.new wr [.int .i64 x.k, .bool x.on, .int .i64 x.u.k, .int .i64 x.u.t, .int .i64 x.u.c, .int .i64 x.u.h, .int .u64 x.u.i, .int .u64 x.u.g, .int .u64 x.u.d, .int .u64 x.u.p, .int .u64 x.u.q, .int .i64 x.u.e] 57
    have NB : Hid (¬ FS F a1 wr.heap.size) := Lib.hid (fun e => by have := REL.out.1.f.lt e; omega)
    have K1 := Lib.hid (REL.out.1.quiet cX)
    have BX := Lib.hid bv
    clear hcell hx cX bv REL
    go_upto_block 2 with (fail)
    clear x0 x1 y0 y1 y2 y3 y4 y5 y6 y7 y8 y9
    generalize wr.alloc (.cells #[.int .i64 x.k, .bool x.on, .int .i64 x.u.k, .int .i64 x.u.t, .int .i64 x.u.c, .int .i64 x.u.h, .int .u64 x.u.i, .int .u64 x.u.g, .int .u64 x.u.d, .int .u64 x.u.p, .int .u64 x.u.q, .int .i64 x.u.e] 57) = W1 at K1 BX ⊢
    generalize wr.heap.size = bx at BX NB ⊢
    have b0 := BX.out.c 0 _ rfl
    go_cut [8, 9, 10, 11] from 44 to 86 (fun e8 e9 e10 e11 wc => ∃ er ib, e8 = .int .i64 er ∧ e9 = .bool ib ∧ FaM w F vb s x er ib a2 tc2 bx wc)
    case first =>
      obtain ⟨kd, on, u⟩ := x
      dsimp only at *
      by_cases h0 : kd = 0
      · subst h0
        go_wp2_with fail
        refine (enter_of K1.out.f.fl (v := s.i) (by have := SL.out.1; omega) K1.out.f.pi).mono ?_
        rintro e w2 ⟨rfl, k2, c2⟩
        have U := K1.out.f.up_i c2 k2
        have NX : Hid (FaM w F vb s ⟨0, on, u⟩ 0 false a2 tc2 bx w2) := Lib.hid ⟨by simp [actE ], by simp [actB ], ⟨a1, tc1, by
          have := K1.out.floor U.1 U.2 (fun _ h => .inl h)
          rw [show actS s ⟨0, on, u⟩ = { s with i := s.i + 1 } from by simp [actS]]
          exact this⟩, BX.out.kept U.2 NB.out⟩
        clear U c2 k2 K1
        go_wp2
        go_meet
        case rel => exact ⟨0, false, rfl, rfl, NX.out⟩
      by_cases h1 : kd = 1
      · clear h0
        subst h1
        by_cases hi : s.i = 0
        · have hi0 := Lib.hid hi
          clear hi
          go_wp2_with fail
          refine (leave_no K1.out.f.fl (v := s.i) (by have := SL.out.1; omega) hi0 K1.out.f.pi).mono ?_
          rintro e w2 ⟨rfl, k2, c2⟩
          have U := K1.out.f.up_i c2 k2
          have NX : Hid (FaM w F vb s ⟨1, on, u⟩ 6 false a2 tc2 bx w2) := Lib.hid ⟨by simp [actE , hi0.out], by simp [actB , hi0.out], ⟨a1, tc1, by
            have := K1.out.floor U.1 U.2 (fun _ h => .inl h)
            rw [show actS s ⟨1, on, u⟩ = { s with i := s.i } from by have := hi0.out; unfold actS; rw [if_neg (by simp), if_pos rfl]; cases s; simp at this ⊢; omega]
            exact this⟩, BX.out.kept U.2 NB.out⟩
          clear U c2 k2 K1
          go_wp2
          go_meet
          case rel => exact ⟨6, false, rfl, rfl, NX.out⟩
        · have hi0 := Lib.hid hi
          clear hi
          go_wp2_with fail
          refine (leave_yes K1.out.f.fl (v := s.i) (by have := SL.out.1; omega) (Lib.hid (by have := hi0.out; omega)) K1.out.f.pi).mono ?_
          rintro e w2 ⟨rfl, k2, c2⟩
          have U := K1.out.f.up_i c2 k2
          have NX : Hid (FaM w F vb s ⟨1, on, u⟩ 0 false a2 tc2 bx w2) := Lib.hid ⟨by simp [actE , hi0.out], by simp [actB , hi0.out], ⟨a1, tc1, by
            have := K1.out.floor U.1 U.2 (fun _ h => .inl h)
            rw [show actS s ⟨1, on, u⟩ = { s with i := s.i - 1 } from by simp [actS]]
            exact this⟩, BX.out.kept U.2 NB.out⟩
          clear U c2 k2 K1
          go_wp2
          go_meet
          case rel => exact ⟨0, false, rfl, rfl, NX.out⟩
      by_cases h2 : kd = 2
      · clear h0 h1
        subst h2
        have b1 := BX.out.c 1 _ rfl
        cases on with
        | true =>
          go_wp2_with fail
          refine (work_on K1.out.f.fl (v := s.b) (by have := SL.out.2.1; omega) K1.out.f.pb).mono ?_
          rintro e w2 ⟨rfl, k2, c2⟩
          have U := K1.out.f.up_b c2 k2
          have NX : Hid (FaM w F vb s ⟨2, true, u⟩ 0 false a2 tc2 bx w2) := Lib.hid ⟨by simp [actE ], by simp [actB ], ⟨a1, tc1, by
            have := K1.out.floor U.1 U.2 (fun _ h => .inl h)
            rw [show actS s ⟨2, true, u⟩ = { s with b := s.b + 1 } from by simp [actS]]
            exact this⟩, BX.out.kept U.2 NB.out⟩
          clear U c2 k2 K1
          go_wp2
          go_meet
          case rel => exact ⟨0, false, rfl, rfl, NX.out⟩
        | false =>
          by_cases hi : s.b = 0
          · have hi0 := Lib.hid hi
            clear hi
            go_wp2_with fail
            refine (work_no K1.out.f.fl (v := s.b) (by have := SL.out.2.1; omega) hi0 K1.out.f.pb).mono ?_
            rintro e w2 ⟨rfl, k2, c2⟩
            have U := K1.out.f.up_b c2 k2
            have NX : Hid (FaM w F vb s ⟨2, false, u⟩ 6 false a2 tc2 bx w2) := Lib.hid ⟨by simp [actE , hi0.out], by simp [actB , hi0.out], ⟨a1, tc1, by
              have := K1.out.floor U.1 U.2 (fun _ h => .inl h)
              rw [show actS s ⟨2, false, u⟩ = { s with b := s.b } from by have := hi0.out; unfold actS; rw [if_neg (by simp), if_neg (by simp), if_pos rfl, if_neg (by simp)]; cases s; simp at this ⊢; omega]
              exact this⟩, BX.out.kept U.2 NB.out⟩
            clear U c2 k2 K1
            go_wp2
            go_meet
            case rel => exact ⟨6, false, rfl, rfl, NX.out⟩
          · have hi0 := Lib.hid hi
            clear hi
            go_wp2_with fail
            refine (work_yes K1.out.f.fl (v := s.b) (by have := SL.out.2.1; omega) (Lib.hid (by have := hi0.out; omega)) K1.out.f.pb).mono ?_
            rintro e w2 ⟨rfl, k2, c2⟩
            have U := K1.out.f.up_b c2 k2
            have NX : Hid (FaM w F vb s ⟨2, false, u⟩ 0 false a2 tc2 bx w2) := Lib.hid ⟨by simp [actE , hi0.out], by simp [actB , hi0.out], ⟨a1, tc1, by
              have := K1.out.floor U.1 U.2 (fun _ h => .inl h)
              rw [show actS s ⟨2, false, u⟩ = { s with b := s.b - 1 } from by simp [actS]]
              exact this⟩, BX.out.kept U.2 NB.out⟩
            clear U c2 k2 K1
            go_wp2
            go_meet
            case rel => exact ⟨0, false, rfl, rfl, NX.out⟩
      by_cases h3 : kd = 3
      · clear h0 h1 h2
        subst h3
        obtain ⟨cl, hcl⟩ : ∃ cl, cl = s.cl := ⟨_, rfl⟩
        have hpc := K1.out.f.pc
        rw [← hcl] at hpc
        have HCL := Lib.hid hcl
        have HPC := Lib.hid hpc
        clear hcl hpc
        cases cl with
        | false =>
          go_wp2_with fail
          refine (shut_first K1.out.f.fl HPC.out).mono ?_
          rintro e w2 ⟨rfl, k2, c2⟩
          have U := K1.out.f.up_c c2 k2
          have NX : Hid (FaM w F vb s ⟨3, on, u⟩ 0 true a2 tc2 bx w2) := Lib.hid ⟨by simp [actE , ← HCL.out], by simp [actB , ← HCL.out], ⟨a1, tc1, by
            have := K1.out.floor U.1 U.2 (fun _ h => .inl h)
            rw [show actS s ⟨3, on, u⟩ = { s with cl := true } from by simp [actS]]
            exact this⟩, BX.out.kept U.2 NB.out⟩
          clear U c2 k2 K1
          go_wp2
          go_meet
          case rel => exact ⟨0, true, rfl, rfl, NX.out⟩
        | true =>
          go_wp2_with fail
          refine (shut_again K1.out.f.fl HPC.out).mono ?_
          rintro e w2 ⟨rfl, k2, c2⟩
          have U := K1.out.f.up_c c2 k2
          have NX : Hid (FaM w F vb s ⟨3, on, u⟩ 0 false a2 tc2 bx w2) := Lib.hid ⟨by simp [actE , ← HCL.out], by simp [actB , ← HCL.out], ⟨a1, tc1, by
            have := K1.out.floor U.1 U.2 (fun _ h => .inl h)
            rw [show actS s ⟨3, on, u⟩ = { s with cl := true } from by simp [actS]]
            exact this⟩, BX.out.kept U.2 NB.out⟩
          clear U c2 k2 K1
          go_wp2
          go_meet
          case rel => exact ⟨0, false, rfl, rfl, NX.out⟩
      by_cases h4 : kd = 4
      · clear h0 h1 h2 h3
        subst h4
        have q3 := K1.out.r.v.c 3 _ rfl
        obtain ⟨tt, htt⟩ : ∃ tt : Nat, tt = s.t := ⟨_, rfl⟩
        rw [← htt] at q3
        have HTT := Lib.hid htt
        have tb : tt ≤ 1000 := by have := SL.out.2.2.1; omega
        clear htt
        go_wp2_with fail
        clear q3
        refine (turn_of K1.out.f.fl (a := tt) (by omega) (by have := K1.out.f.pn; rwa [← HTT.out] at this)).mono ?_
        rintro e w2 ⟨rfl, k2, c2⟩
        have U := K1.out.f.up_t c2 k2
        have NX : Hid (FaM w F vb s ⟨4, on, u⟩ 0 false a2 tc2 bx w2) := Lib.hid ⟨by simp [actE ], by simp [actB ], ⟨a1, tc1, by
          have := K1.out.floor U.1 U.2 (fun _ h => .inl h)
          rw [show actS s ⟨4, on, u⟩ = { s with t := tt + 1 } from by rw [HTT.out]; simp [actS]]
          exact this⟩, BX.out.kept U.2 NB.out⟩
        obtain ⟨x3, q3⟩ : ∃ x3, x3 = ((tt : Nat) : Int) := ⟨_, rfl⟩
        have q4 : w2.cell? ⟨vb, 3, none⟩ = some (.int .u64 ((tt : Nat) : Int)) := by
          have := (K1.out.r.kept U.2 K1.out.ap).v.c 3 _ rfl
          rwa [← HTT.out] at this
        have q5 : ((tt : Int) + 1 != (tt : Int) + 1) = false := by simp
        clear U c2 k2 K1 q3
        go_wp2
        go_meet
        case rel => exact ⟨0, false, rfl, rfl, NX.out⟩
      by_cases h5 : kd = 5
      · clear h0 h1 h2 h3 h4
        subst h5
        obtain ⟨x0, x1, y0, y1, y2, y3, y4, y5, y6, y7, y8, y9⟩ := BX.out.cells12
        go_wp2_with fail
        clear x0 x1 y0 y1 y2 y3 y4 y5 y6 y7 y8 y9
        refine (note_fl K1.out.f (by have := SL.out.2.2.2; omega) u).mono ?_
        rintro e w2 ⟨a', tc', rfl, f2, c2, g2⟩
        have NX : Hid (FaM w F vb s ⟨5, on, u⟩ 0 false a2 tc2 bx w2) := Lib.hid ⟨by simp [actE], by simp [actB], ⟨a', tc', by
          have := K1.out.floor f2 c2 g2
          rw [show actS s ⟨5, on, u⟩ = { s with L := s.L ++ [u] } from by simp [actS]]
          exact this⟩, BX.out.kept c2 NB.out⟩
        clear f2 c2 g2 K1
        go_wp2
        go_meet
        case rel => exact ⟨0, false, rfl, rfl, NX.out⟩
      have NX : Hid (FaM w F vb s ⟨kd, on, u⟩ 0 false a2 tc2 bx W1) := Lib.hid ⟨by simp [actE, h1, h2], by simp [actB, h3], ⟨a1, tc1, by
        rw [show actS s ⟨kd, on, u⟩ = s from by simp [actS, h0, h1, h2, h3, h4, h5]]
        exact K1.out⟩, BX.out⟩
      have z0 : (kd == 0) = false := by rw [beq_eq_false_iff_ne]; exact h0
      have z1 : (kd == 1) = false := by rw [beq_eq_false_iff_ne]; exact h1
      have z2 : (kd == 2) = false := by rw [beq_eq_false_iff_ne]; exact h2
      have z3 : (kd == 3) = false := by rw [beq_eq_false_iff_ne]; exact h3
      have z4 : (kd == 4) = false := by rw [beq_eq_false_iff_ne]; exact h4
      have z5 : (kd == 5) = false := by rw [beq_eq_false_iff_ne]; exact h5
      clear h0 h1 h2 h3 h4 h5
      go_wp2
      go_meet
      case rel => exact ⟨0, false, rfl, rfl, NX.out⟩
    case rest =>
      obtain ⟨er, ib, rfl, rfl, hM⟩ := hcut
      have HM := Lib.hid hM
      clear hM
      obtain ⟨a4, tc4, hK0⟩ := HM.out.k
      have K2 := Lib.hid hK0
      clear hK0
      obtain ⟨x0, x1, y0, y1, y2, y3, y4, y5, y6, y7, y8, y9⟩ := HM.out.v.cells12
      go_wp2_with fail
      clear x0 x1 y0 y1 y2 y3 y4 y5 y6 y7 y8 y9
      refine (do_any K2.out.r x (by have := SL.out; unfold stLe at *; omega)).mono ?_
      rw [← HM.out.e, ← HM.out.b]
      rintro e w3 ⟨a3, tc3, rfl, r3, c3, g3⟩
      have K3 := Lib.hid (K2.out.ref r3 c3 g3)
      have SL1 := Lib.hid (actS_le SL.out x)
      obtain ⟨s1, hs1⟩ : ∃ s1, s1 = actS s x := ⟨_, rfl⟩
      rw [← hs1] at K3 SL1
      clear r3 c3 g3 K2 HM hs1
      obtain ⟨i1, b1, cl1, t1, L1⟩ := s1
      obtain ⟨nl, hnl⟩ : ∃ nl, nl = L1.length := ⟨_, rfl⟩
      have HNL := Lib.hid hnl
      have RC : ∀ {W : World}, Rf W vb ⟨i1, b1, cl1, t1, L1⟩ a3 tc3 → W.cell? ⟨vb, 0, none⟩ = some (.int .i64 (i1 : Nat)) ∧ W.cell? ⟨vb, 1, none⟩ = some (.int .i64 (b1 : Nat)) ∧ W.cell? ⟨vb, 2, none⟩ = some (.bool cl1) ∧ W.cell? ⟨vb, 3, none⟩ = some (.int .u64 (t1 : Nat)) ∧ W.cell? ⟨vb, 4, none⟩ = some (.slice a3 nl tc3) := fun h => ⟨h.v.c 0 _ rfl, h.v.c 1 _ rfl, h.v.c 2 _ rfl, h.v.c 3 _ rfl, by rw [hnl]; exact h.v.c 4 _ rfl⟩
      have hnb : nl ≤ 1000000 := by have := SL1.out.2.2.2; dsimp only at this; omega
      clear hnl
      go_upto_region 30 with (fail)
      have K4 := Lib.hid (K3.out.quiet (show Ch Nil w3 w3.drew from (Ch.refl _ _).drew))
      clear K3
      refine wp_region_held_drew (S := fun w' => w'.cell? ⟨vb, 0, none⟩ = some (.int .i64 (i1 : Nat)) ∧ w'.cell? ⟨vb, 1, none⟩ = some (.int .i64 (b1 : Nat)) ∧ w'.cell? ⟨vb, 2, none⟩ = some (.bool cl1) ∧ w'.cell? ⟨vb, 3, none⟩ = some (.int .u64 (t1 : Nat)) ∧ w'.cell? ⟨vb, 4, none⟩ = some (.slice a3 nl tc3)) (by kernel_rfl) (RC K4.out.r) (fun hHeld => ?_)
      generalize w3.drew = V at *
      refine take_at (v := ?_) 0 (some 92) rfl (by kernel_rfl) (by kernel_rfl) (by kernel_rfl) (by kernel_rfl) (fun _ _ _ h => h) (Or.inl ⟨by rfl, ?_⟩) (by assumption) ?_
      rotate_left
      · intro w hSw; (try dsimp only at hSw); go_simp; try (with_reducible rfl)
      (try simp only [Act.put, List.setIfInBounds_toArray, List.set_cons_zero, List.set_cons_succ])
      refine take_at (v := ?_) 1 (some 93) rfl (by kernel_rfl) (by kernel_rfl) (by kernel_rfl) (by kernel_rfl) (fun _ _ _ h => h) (Or.inl ⟨by rfl, ?_⟩) (by assumption) ?_
      rotate_left
      · intro w hSw; (try dsimp only at hSw); go_simp; try (with_reducible rfl)
      (try simp only [Act.put, List.setIfInBounds_toArray, List.set_cons_zero, List.set_cons_succ])
      refine take_at (v := ?_) 2 (some 94) rfl (by kernel_rfl) (by kernel_rfl) (by kernel_rfl) (by kernel_rfl) (fun _ _ _ h => h) (Or.inl ⟨by rfl, ?_⟩) (by assumption) ?_
      rotate_left
      · intro w hSw; (try dsimp only at hSw); go_simp; try (with_reducible rfl)
      (try simp only [Act.put, List.setIfInBounds_toArray, List.set_cons_zero, List.set_cons_succ])
      refine take_at (v := ?_) 3 (some 95) rfl (by kernel_rfl) (by kernel_rfl) (by kernel_rfl) (by kernel_rfl) (fun _ _ _ h => h) (Or.inl ⟨by rfl, ?_⟩) (by assumption) ?_
      rotate_left
      · intro w hSw; (try dsimp only at hSw); go_simp; try (with_reducible rfl)
      (try simp only [Act.put, List.setIfInBounds_toArray, List.set_cons_zero, List.set_cons_succ])
      refine take_at (v := ?_) 4 (some 96) rfl (by kernel_rfl) (by kernel_rfl) (by kernel_rfl) (by kernel_rfl) (fun _ _ _ h => h) (Or.inl ⟨by rfl, ?_⟩) (by assumption) ?_
      rotate_left
      · intro w hSw; (try dsimp only at hSw); go_simp; try (with_reducible rfl)
      (try simp only [Act.put, List.setIfInBounds_toArray, List.set_cons_zero, List.set_cons_succ])
      refine take_at (v := ?_) 5 (some 97) rfl (by kernel_rfl) (by kernel_rfl) (by kernel_rfl) (by kernel_rfl) (fun _ _ _ h => h) (Or.inl ⟨by rfl, ?_⟩) (by assumption) ?_
      rotate_left
      · intro w hSw; (try dsimp only at hSw); go_simp; try (with_reducible rfl)
      (try simp only [Act.put, List.setIfInBounds_toArray, List.set_cons_zero, List.set_cons_succ])
      refine take_at (v := ?_) 6 (some 98) rfl (by kernel_rfl) (by kernel_rfl) (by kernel_rfl) (by kernel_rfl) (fun _ _ _ h => h) (Or.inl ⟨by rfl, ?_⟩) (by assumption) ?_
      rotate_left
      · intro w hSw; (try dsimp only at hSw); go_simp; try (with_reducible rfl)
      (try simp only [Act.put, List.setIfInBounds_toArray, List.set_cons_zero, List.set_cons_succ])
      refine take_at (v := ?_) 7 (some 99) rfl (by kernel_rfl) (by kernel_rfl) (by kernel_rfl) (by kernel_rfl) (fun _ _ _ h => h) (Or.inl ⟨by rfl, ?_⟩) (by assumption) ?_
      rotate_left
      · intro w hSw; (try dsimp only at hSw); go_simp; try (with_reducible rfl)
      (try simp only [Act.put, List.setIfInBounds_toArray, List.set_cons_zero, List.set_cons_succ])
      refine take_at (v := ?_) 8 (some 100) rfl (by kernel_rfl) (by kernel_rfl) (by kernel_rfl) (by kernel_rfl) (fun _ _ _ h => h) (Or.inl ⟨by rfl, ?_⟩) (by assumption) ?_
      rotate_left
      · intro w hSw; (try dsimp only at hSw); go_simp; try (with_reducible rfl)
      (try simp only [Act.put, List.setIfInBounds_toArray, List.set_cons_zero, List.set_cons_succ])
      refine take_at (v := ?_) 9 (some 101) rfl (by kernel_rfl) (by kernel_rfl) (by kernel_rfl) (by kernel_rfl) (fun _ _ _ h => h) (Or.inl ⟨by rfl, ?_⟩) (by assumption) ?_
      rotate_left
      · intro w hSw; (try dsimp only at hSw); go_simp; try (with_reducible rfl)
      (try simp only [Act.put, List.setIfInBounds_toArray, List.set_cons_zero, List.set_cons_succ])
      refine take_at (v := ?_) 11 (some 103) rfl (by kernel_rfl) (by kernel_rfl) (by kernel_rfl) (by kernel_rfl) (fun _ _ _ h => h) (Or.inl ⟨by rfl, ?_⟩) (by assumption) ?_
      rotate_left
      · intro w hSw; (try dsimp only at hSw); go_simp; try (with_reducible rfl)
      (try simp only [Act.put, List.setIfInBounds_toArray, List.set_cons_zero, List.set_cons_succ])
      refine take_at (v := ?_) 12 (some 104) rfl (by kernel_rfl) (by kernel_rfl) (by kernel_rfl) (by kernel_rfl) (fun _ _ _ h => h) (Or.inl ⟨by rfl, ?_⟩) (by assumption) ?_
      rotate_left
      · intro w hSw; (try dsimp only at hSw); go_simp; try (with_reducible rfl)
      (try simp only [Act.put, List.setIfInBounds_toArray, List.set_cons_zero, List.set_cons_succ])
      refine take_at (v := ?_) 13 (some 105) rfl (by kernel_rfl) (by kernel_rfl) (by kernel_rfl) (by kernel_rfl) (fun _ _ _ h => h) (Or.inl ⟨by rfl, ?_⟩) (by assumption) ?_
      rotate_left
      · intro w hSw; (try dsimp only at hSw); go_simp; try (with_reducible rfl)
      (try simp only [Act.put, List.setIfInBounds_toArray, List.set_cons_zero, List.set_cons_succ])
      refine take_at (v := ?_) 14 (some 106) rfl (by kernel_rfl) (by kernel_rfl) (by kernel_rfl) (by kernel_rfl) (fun _ _ _ h => h) (Or.inl ⟨by rfl, ?_⟩) (by assumption) ?_
      rotate_left
      · intro w hSw; (try dsimp only at hSw); go_simp; try (with_reducible rfl)
      (try simp only [Act.put, List.setIfInBounds_toArray, List.set_cons_zero, List.set_cons_succ])
      refine wpAnyH_ready (rs := [10]) (by kernel_rfl) (by simp) ?_
      refine AllReadyH.cons rfl (fun K hK => ?_) AllReadyH.nil
      go_simp
      refine (inside_of K4.out.f.fl K4.out.f.pi).mono ?_
      rintro e w4 ⟨rfl, j4, c4⟩
      have K5 := Lib.hid (K4.out.read (b := 0) (K4.out.f.up_i c4 j4))
      clear j4 c4 K4
      clear hHeld
      refine hK.out _ _ (RC K5.out.r) (fun hHeld => ?_)
      clear hK K
      (try simp only [Act.put, List.setIfInBounds_toArray, List.set_cons_zero, List.set_cons_succ])
      refine take_at (v := ?_) 15 (some 107) rfl (by kernel_rfl) (by kernel_rfl) (by kernel_rfl) (by kernel_rfl) (fun _ _ _ h => h) (Or.inl ⟨by rfl, ?_⟩) (by assumption) ?_
      rotate_left
      · intro w hSw; (try dsimp only at hSw); go_simp; try (with_reducible rfl)
      (try simp only [Act.put, List.setIfInBounds_toArray, List.set_cons_zero, List.set_cons_succ])
      refine take_at (v := ?_) 16 (some 108) rfl (by kernel_rfl) (by kernel_rfl) (by kernel_rfl) (by kernel_rfl) (fun _ _ _ h => h) (Or.inl ⟨by rfl, ?_⟩) (by assumption) ?_
      rotate_left
      · intro w hSw; (try dsimp only at hSw); go_simp; try (with_reducible rfl)
      (try simp only [Act.put, List.setIfInBounds_toArray, List.set_cons_zero, List.set_cons_succ])
      refine take_at (v := ?_) 17 (some 109) rfl (by kernel_rfl) (by kernel_rfl) (by kernel_rfl) (by kernel_rfl) (fun _ _ _ h => h) (Or.inl ⟨by rfl, ?_⟩) (by assumption) ?_
      rotate_left
      · intro w hSw; (try dsimp only at hSw); go_simp; try (with_reducible rfl)
      (try simp only [Act.put, List.setIfInBounds_toArray, List.set_cons_zero, List.set_cons_succ])
      refine take_at (v := ?_) 18 (some 110) rfl (by kernel_rfl) (by kernel_rfl) (by kernel_rfl) (by kernel_rfl) (fun _ _ _ h => h) (Or.inl ⟨by rfl, ?_⟩) (by assumption) ?_
      rotate_left
      · intro w hSw; (try dsimp only at hSw); go_simp; try (with_reducible rfl)
      (try simp only [Act.put, List.setIfInBounds_toArray, List.set_cons_zero, List.set_cons_succ])
      refine take_at (v := ?_) 20 (some 112) rfl (by kernel_rfl) (by kernel_rfl) (by kernel_rfl) (by kernel_rfl) (fun _ _ _ h => h) (Or.inl ⟨by rfl, ?_⟩) (by assumption) ?_
      rotate_left
      · intro w hSw; (try dsimp only at hSw); go_simp; try (with_reducible rfl)
      (try simp only [Act.put, List.setIfInBounds_toArray, List.set_cons_zero, List.set_cons_succ])
      refine take_at (v := ?_) 21 (some 113) rfl (by kernel_rfl) (by kernel_rfl) (by kernel_rfl) (by kernel_rfl) (fun _ _ _ h => h) (Or.inl ⟨by rfl, ?_⟩) (by assumption) ?_
      rotate_left
      · intro w hSw; (try dsimp only at hSw); go_simp; try (with_reducible rfl)
      (try simp only [Act.put, List.setIfInBounds_toArray, List.set_cons_zero, List.set_cons_succ])
      refine take_at (v := ?_) 22 (some 114) rfl (by kernel_rfl) (by kernel_rfl) (by kernel_rfl) (by kernel_rfl) (fun _ _ _ h => h) (Or.inl ⟨by rfl, ?_⟩) (by assumption) ?_
      rotate_left
      · intro w hSw; (try dsimp only at hSw); go_simp; try (with_reducible rfl)
      (try simp only [Act.put, List.setIfInBounds_toArray, List.set_cons_zero, List.set_cons_succ])
      refine take_at (v := ?_) 23 (some 115) rfl (by kernel_rfl) (by kernel_rfl) (by kernel_rfl) (by kernel_rfl) (fun _ _ _ h => h) (Or.inl ⟨by rfl, ?_⟩) (by assumption) ?_
      rotate_left
      · intro w hSw; (try dsimp only at hSw); go_simp; try (with_reducible rfl)
      (try simp only [Act.put, List.setIfInBounds_toArray, List.set_cons_zero, List.set_cons_succ])
      refine wpAnyH_ready (rs := [19]) (by kernel_rfl) (by simp) ?_
      refine AllReadyH.cons rfl (fun K hK => ?_) AllReadyH.nil
      go_simp
      refine (busy_of K5.out.f.fl K5.out.f.pb).mono ?_
      rintro e w5 ⟨rfl, j4, c4⟩
      have K6 := Lib.hid (K5.out.read (b := 0) (K5.out.f.up_b c4 j4))
      clear j4 c4 K5
      clear hHeld
      refine hK.out _ _ (RC K6.out.r) (fun hHeld => ?_)
      clear hK K
      (try simp only [Act.put, List.setIfInBounds_toArray, List.set_cons_zero, List.set_cons_succ])
      refine take_at (v := ?_) 24 (some 116) rfl (by kernel_rfl) (by kernel_rfl) (by kernel_rfl) (by kernel_rfl) (fun _ _ _ h => h) (Or.inl ⟨by rfl, ?_⟩) (by assumption) ?_
      rotate_left
      · intro w hSw; (try dsimp only at hSw); go_simp; try (with_reducible rfl)
      (try simp only [Act.put, List.setIfInBounds_toArray, List.set_cons_zero, List.set_cons_succ])
      refine take_at (v := ?_) 25 (some 117) rfl (by kernel_rfl) (by kernel_rfl) (by kernel_rfl) (by kernel_rfl) (fun _ _ _ h => h) (Or.inl ⟨by rfl, ?_⟩) (by assumption) ?_
      rotate_left
      · intro w hSw; (try dsimp only at hSw); go_simp; try (with_reducible rfl)
      (try simp only [Act.put, List.setIfInBounds_toArray, List.set_cons_zero, List.set_cons_succ])
      refine take_at (v := ?_) 26 (some 118) rfl (by kernel_rfl) (by kernel_rfl) (by kernel_rfl) (by kernel_rfl) (fun _ _ _ h => h) (Or.inl ⟨by rfl, ?_⟩) (by assumption) ?_
      rotate_left
      · intro w hSw; (try dsimp only at hSw); go_simp; try (with_reducible rfl)
      (try simp only [Act.put, List.setIfInBounds_toArray, List.set_cons_zero, List.set_cons_succ])
      refine take_at (v := ?_) 27 (some 119) rfl (by kernel_rfl) (by kernel_rfl) (by kernel_rfl) (by kernel_rfl) (fun _ _ _ h => h) (Or.inl ⟨by rfl, ?_⟩) (by assumption) ?_
      rotate_left
      · intro w hSw; (try dsimp only at hSw); go_simp; try (with_reducible rfl)
      (try simp only [Act.put, List.setIfInBounds_toArray, List.set_cons_zero, List.set_cons_succ])
      refine take_at (v := ?_) 29 (some 121) rfl (by kernel_rfl) (by kernel_rfl) (by kernel_rfl) (by kernel_rfl) (fun _ _ _ h => h) (Or.inl ⟨by rfl, ?_⟩) (by assumption) ?_
      rotate_left
      · intro w hSw; (try dsimp only at hSw); go_simp; try (with_reducible rfl)
      (try simp only [Act.put, List.setIfInBounds_toArray, List.set_cons_zero, List.set_cons_succ])
      refine take_at (v := ?_) 30 (some 122) rfl (by kernel_rfl) (by kernel_rfl) (by kernel_rfl) (by kernel_rfl) (fun _ _ _ h => h) (Or.inl ⟨by rfl, ?_⟩) (by assumption) ?_
      rotate_left
      · intro w hSw; (try dsimp only at hSw); go_simp; try (with_reducible rfl)
      (try simp only [Act.put, List.setIfInBounds_toArray, List.set_cons_zero, List.set_cons_succ])
      refine take_at (v := ?_) 31 (some 123) rfl (by kernel_rfl) (by kernel_rfl) (by kernel_rfl) (by kernel_rfl) (fun _ _ _ h => h) (Or.inl ⟨by rfl, ?_⟩) (by assumption) ?_
      rotate_left
      · intro w hSw; (try dsimp only at hSw); go_simp; try (with_reducible rfl)
      (try simp only [Act.put, List.setIfInBounds_toArray, List.set_cons_zero, List.set_cons_succ])
      refine take_at (v := ?_) 32 (some 124) rfl (by kernel_rfl) (by kernel_rfl) (by kernel_rfl) (by kernel_rfl) (fun _ _ _ h => h) (Or.inl ⟨by rfl, ?_⟩) (by assumption) ?_
      rotate_left
      · intro w hSw; (try dsimp only at hSw); go_simp; try (with_reducible rfl)
      (try simp only [Act.put, List.setIfInBounds_toArray, List.set_cons_zero, List.set_cons_succ])
      refine wpAnyH_ready (rs := [28]) (by kernel_rfl) (by simp) ?_
      refine AllReadyH.cons rfl (fun K hK => ?_) AllReadyH.nil
      go_simp
      refine (closed_of K6.out.f.fl K6.out.f.pc).mono ?_
      rintro e w6 ⟨rfl, j4, c4⟩
      have K7 := Lib.hid (K6.out.read (b := 0) (K6.out.f.up_c c4 j4))
      clear j4 c4 K6
      clear hHeld
      refine hK.out _ _ (RC K7.out.r) (fun hHeld => ?_)
      clear hK K
      (try simp only [Act.put, List.setIfInBounds_toArray, List.set_cons_zero, List.set_cons_succ])
      refine take_at (v := ?_) 33 (some 125) rfl (by kernel_rfl) (by kernel_rfl) (by kernel_rfl) (by kernel_rfl) (fun _ _ _ h => h) (Or.inl ⟨by rfl, ?_⟩) (by assumption) ?_
      rotate_left
      · intro w hSw; (try dsimp only at hSw); go_simp; try (with_reducible rfl)
      (try simp only [Act.put, List.setIfInBounds_toArray, List.set_cons_zero, List.set_cons_succ])
      refine take_at (v := ?_) 34 (some 126) rfl (by kernel_rfl) (by kernel_rfl) (by kernel_rfl) (by kernel_rfl) (fun _ _ _ h => h) (Or.inl ⟨by rfl, ?_⟩) (by assumption) ?_
      rotate_left
      · intro w hSw; (try dsimp only at hSw); go_simp; try (with_reducible rfl)
      (try simp only [Act.put, List.setIfInBounds_toArray, List.set_cons_zero, List.set_cons_succ])
      refine take_at (v := ?_) 35 (some 127) rfl (by kernel_rfl) (by kernel_rfl) (by kernel_rfl) (by kernel_rfl) (fun _ _ _ h => h) (Or.inl ⟨by rfl, ?_⟩) (by assumption) ?_
      rotate_left
      · intro w hSw; (try dsimp only at hSw); go_simp; try (with_reducible rfl)
      (try simp only [Act.put, List.setIfInBounds_toArray, List.set_cons_zero, List.set_cons_succ])
      refine take_at (v := ?_) 36 (some 128) rfl (by kernel_rfl) (by kernel_rfl) (by kernel_rfl) (by kernel_rfl) (fun _ _ _ h => h) (Or.inl ⟨by rfl, ?_⟩) (by assumption) ?_
      rotate_left
      · intro w hSw; (try dsimp only at hSw); go_simp; try (with_reducible rfl)
      (try simp only [Act.put, List.setIfInBounds_toArray, List.set_cons_zero, List.set_cons_succ])
      refine take_at (v := ?_) 38 (some 130) rfl (by kernel_rfl) (by kernel_rfl) (by kernel_rfl) (by kernel_rfl) (fun _ _ _ h => h) (Or.inl ⟨by rfl, ?_⟩) (by assumption) ?_
      rotate_left
      · intro w hSw; (try dsimp only at hSw); go_simp; try (with_reducible rfl)
      (try simp only [Act.put, List.setIfInBounds_toArray, List.set_cons_zero, List.set_cons_succ])
      refine take_at (v := ?_) 39 (some 131) rfl (by kernel_rfl) (by kernel_rfl) (by kernel_rfl) (by kernel_rfl) (fun _ _ _ h => h) (Or.inl ⟨by rfl, ?_⟩) (by assumption) ?_
      rotate_left
      · intro w hSw; (try dsimp only at hSw); go_simp; try (with_reducible rfl)
      (try simp only [Act.put, List.setIfInBounds_toArray, List.set_cons_zero, List.set_cons_succ])
      refine take_at (v := ?_) 40 (some 132) rfl (by kernel_rfl) (by kernel_rfl) (by kernel_rfl) (by kernel_rfl) (fun _ _ _ h => h) (Or.inl ⟨by rfl, ?_⟩) (by assumption) ?_
      rotate_left
      · intro w hSw; (try dsimp only at hSw); go_simp; try (with_reducible rfl)
      (try simp only [Act.put, List.setIfInBounds_toArray, List.set_cons_zero, List.set_cons_succ])
      refine take_at (v := ?_) 41 (some 133) rfl (by kernel_rfl) (by kernel_rfl) (by kernel_rfl) (by kernel_rfl) (fun _ _ _ h => h) (Or.inl ⟨by rfl, ?_⟩) (by assumption) ?_
      rotate_left
      · intro w hSw; (try dsimp only at hSw); go_simp; try (with_reducible rfl)
      (try simp only [Act.put, List.setIfInBounds_toArray, List.set_cons_zero, List.set_cons_succ])
      refine wpAnyH_ready (rs := [37]) (by kernel_rfl) (by simp) ?_
      refine AllReadyH.cons rfl (fun K hK => ?_) AllReadyH.nil
      go_simp
      refine (now_of K7.out.f.fl K7.out.f.pn).mono ?_
      rintro e w7 ⟨rfl, j4, c4⟩
      have K8 := Lib.hid (K7.out.read (b := 0) (K7.out.f.up_t c4 j4))
      clear j4 c4 K7
      clear hHeld
      refine hK.out _ _ (RC K8.out.r) (fun hHeld => ?_)
      clear hK K
      (try simp only [Act.put, List.setIfInBounds_toArray, List.set_cons_zero, List.set_cons_succ])
      refine take_at (v := ?_) 42 (some 134) rfl (by kernel_rfl) (by kernel_rfl) (by kernel_rfl) (by kernel_rfl) (fun _ _ _ h => h) (Or.inl ⟨by rfl, ?_⟩) (by assumption) ?_
      rotate_left
      · intro w hSw; (try dsimp only at hSw); go_simp; try (with_reducible rfl)
      (try simp only [Act.put, List.setIfInBounds_toArray, List.set_cons_zero, List.set_cons_succ])
      refine take_at (v := ?_) 43 (some 135) rfl (by kernel_rfl) (by kernel_rfl) (by kernel_rfl) (by kernel_rfl) (fun _ _ _ h => h) (Or.inl ⟨by rfl, ?_⟩) (by assumption) ?_
      rotate_left
      · intro w hSw; (try dsimp only at hSw); go_simp; try (with_reducible rfl)
      (try simp only [Act.put, List.setIfInBounds_toArray, List.set_cons_zero, List.set_cons_succ])
      refine take_at (v := ?_) 44 (some 136) rfl (by kernel_rfl) (by kernel_rfl) (by kernel_rfl) (by kernel_rfl) (fun _ _ _ h => h) (Or.inl ⟨by rfl, ?_⟩) (by assumption) ?_
      rotate_left
      · intro w hSw; (try dsimp only at hSw); go_simp; try (with_reducible rfl)
      (try simp only [Act.put, List.setIfInBounds_toArray, List.set_cons_zero, List.set_cons_succ])
      refine take_at (v := ?_) 45 (some 137) rfl (by kernel_rfl) (by kernel_rfl) (by kernel_rfl) (by kernel_rfl) (fun _ _ _ h => h) (Or.inl ⟨by rfl, ?_⟩) (by assumption) ?_
      rotate_left
      · intro w hSw; (try dsimp only at hSw); go_simp; try (with_reducible rfl)
      (try simp only [Act.put, List.setIfInBounds_toArray, List.set_cons_zero, List.set_cons_succ])
      refine take_at (v := ?_) 47 (some 139) rfl (by kernel_rfl) (by kernel_rfl) (by kernel_rfl) (by kernel_rfl) (fun _ _ _ h => h) (Or.inl ⟨by rfl, ?_⟩) (by assumption) ?_
      rotate_left
      · intro w hSw; (try dsimp only at hSw); go_simp; try (with_reducible rfl)
      (try simp only [Act.put, List.setIfInBounds_toArray, List.set_cons_zero, List.set_cons_succ])
      refine take_at (v := ?_) 48 (some 140) rfl (by kernel_rfl) (by kernel_rfl) (by kernel_rfl) (by kernel_rfl) (fun _ _ _ h => h) (Or.inl ⟨by rfl, ?_⟩) (by assumption) ?_
      rotate_left
      · intro w hSw; (try dsimp only at hSw); go_simp; try (with_reducible rfl)
      (try simp only [Act.put, List.setIfInBounds_toArray, List.set_cons_zero, List.set_cons_succ])
      refine take_at (v := ?_) 49 (some 141) rfl (by kernel_rfl) (by kernel_rfl) (by kernel_rfl) (by kernel_rfl) (fun _ _ _ h => h) (Or.inl ⟨by rfl, ?_⟩) (by assumption) ?_
      rotate_left
      · intro w hSw; (try dsimp only at hSw); go_simp; try (with_reducible rfl)
      (try simp only [Act.put, List.setIfInBounds_toArray, List.set_cons_zero, List.set_cons_succ])
      refine take_at (v := ?_) 50 (some 142) rfl (by kernel_rfl) (by kernel_rfl) (by kernel_rfl) (by kernel_rfl) (fun _ _ _ h => h) (Or.inl ⟨by rfl, ?_⟩) (by assumption) ?_
      rotate_left
      · intro w hSw; (try dsimp only at hSw); go_simp; try (with_reducible rfl)
      (try simp only [Act.put, List.setIfInBounds_toArray, List.set_cons_zero, List.set_cons_succ])
      refine wpAnyH_ready (rs := [46]) (by kernel_rfl) (by simp) ?_
      refine AllReadyH.cons rfl (fun K hK => ?_) AllReadyH.nil
      go_simp
      refine (trace_of K8.out.f.fl K8.out.f.tr K8.out.f.ta nl HNL.out hnb).mono ?_
      rintro e w8 ⟨a5, c5, rfl, s5, c4⟩
      have K9 := Lib.hid (K8.out.quiet c4)
      have S5 := Lib.hid s5
      clear s5 c4 K8
      clear hHeld
      refine hK.out _ _ (RC K9.out.r) (fun hHeld => ?_)
      clear hK K
      (try simp only [Act.put, List.setIfInBounds_toArray, List.set_cons_zero, List.set_cons_succ])
      refine wpAnyH_ready (rs := [51]) (by kernel_rfl) (by simp) ?_
      refine AllReadyH.cons rfl (fun K hK => ?_) AllReadyH.nil
      go_simp
      refine (events_same S5.out (ERow.src K9.out.r.tr) HNL.out hnb).mono ?_
      rintro e w9 ⟨rfl, c4⟩
      have KA := Lib.hid (K9.out.quiet c4)
      clear c4 K9
      clear hHeld
      refine hK.out _ _ (RC KA.out.r) (fun hHeld => ?_)
      clear hK K
      (try simp only [Act.put, List.setIfInBounds_toArray, List.set_cons_zero, List.set_cons_succ])
      refine take_at (v := ?_) 52 (some 144) rfl (by kernel_rfl) (by kernel_rfl) (by kernel_rfl) (by kernel_rfl) (fun _ _ _ h => h) (Or.inl ⟨by rfl, ?_⟩) (by assumption) ?_
      rotate_left
      · intro w hSw; (try dsimp only at hSw); go_simp; try (with_reducible rfl)
      (try simp only [Act.put, List.setIfInBounds_toArray, List.set_cons_zero, List.set_cons_succ])
      refine take_at (v := ?_) 53 (some 145) rfl (by kernel_rfl) (by kernel_rfl) (by kernel_rfl) (by kernel_rfl) (fun _ _ _ h => h) (Or.inl ⟨by rfl, ?_⟩) (by assumption) ?_
      rotate_left
      · intro w hSw; (try dsimp only at hSw); go_simp; try (with_reducible rfl)
      (try simp only [Act.put, List.setIfInBounds_toArray, List.set_cons_zero, List.set_cons_succ])
      refine wpAnyH_done (by kernel_rfl) ?_ _
      clear hHeld RC
      go_wp2
      first | exact ⟨⟨_, _, _, _, _, rfl, rfl, rfl, rfl, rfl, rfl, ⟨KA.out, SL1.out⟩⟩, hlt⟩ | exact ⟨_, _, _, _, _, rfl, rfl, rfl, rfl, rfl, rfl, ⟨KA.out, SL1.out⟩⟩
  · obtain rfl : k = len := by omega
    go_wp2
    first | exact ⟨by first | rfl | trivial, ⟨_, _, _, _, _, rfl, rfl, rfl, rfl, rfl, rfl, REL.out⟩, by first | rfl | trivial⟩ | exact ⟨_, _, _, _, _, rfl, rfl, rfl, rfl, rfl, rfl, REL.out⟩ | exact ⟨⟨_, _, _, _, _, rfl, rfl, rfl, rfl, rfl, rfl, REL.out⟩, by first | rfl | trivial⟩ | exact ⟨by first | rfl | trivial, ⟨_, _, _, _, _, rfl, rfl, rfl, rfl, rfl, rfl, REL.out⟩⟩
theorem faA_loop (w : World) (F : Fb) (vb : Nat) (ad : Option Addr) (len cap : Nat) (Ls : List Ax) (hv : ASrc14 w ad Ls) (hl : Ls.length = len) (h200 : len ≤ 200) (a : Act) (wr : World) (hb : 0 ≤ len) (H : faAI w F vb ad len cap Ls 0 a wr) :
    Code.wp Try.prog (.loop (loopIn 0 Try.f4)) (Qx 0 (fun a' w' => faAI w F vb ad len cap Ls len a' w')) a wr := by
  refine wp_loop (fun a' wr => ∃ k, k ≤ len ∧ faAI w F vb ad len cap Ls k a' wr) (fun a' _ => len - (intOf (a'.tmps.getD 6 undef)).toNat) ⟨0, hb, H⟩ ?_
  rintro a' wr ⟨k, hk, h⟩
  refine wp_mono (faA_round w F vb ad len cap Ls hv hl h200 a' wr hk h) ?_
  intro e a2 w2 hp
  cases e with
  | normal =>
    refine ⟨⟨k + 1, by have := hp.2; omega, hp.1⟩, ?_⟩
    rw [faAI_ctr w F vb ad len cap Ls h, faAI_ctr w F vb ad len cap Ls hp.1]
    have := hp.2
    simp only [intOf, Int.toNat_natCast]
    omega
  | exit n => exact ⟨hp.1, hp.2.2 ▸ hp.2.1⟩
  | _ => exact hp.elim
set_option maxRecDepth 100000 in
set_option maxHeartbeats 0 in
theorem fa_end (w : World) (F : Fb) (vb : Nat) (ad : Option Addr) (len cap : Nat) (Ls : List Ax) (hv : ASrc14 w ad Ls) (hl : Ls.length = len) (h200 : len ≤ 200)  (a : Act) (wr : World) (H : faAI w F vb ad len cap Ls len a wr) :
    Code.wp Try.prog (aftIn 0 Try.f4) (bodyPost Try.prog Try.f4 (fun e w' => e = .returned (.bool true) ∧ Below w.heap.size w w')) a wr := by
  obtain ⟨t, ds⟩ := a
  obtain ⟨s, a1, tc1, a2, tc2, hd', hz, h0, h3, h5, h6, rel⟩ := H
  replace hd' : ds = [] := hd'
  subst hd'
  replace hz : t.size = 146 := hz
  replace h0 : t.getD 0 undef = .slice ad len cap := h0
  replace h3 : t.getD 3 undef = .pointer (some ⟨F.f, 0, none⟩) := h3
  replace h5 : t.getD 5 undef = .pointer (some ⟨vb, 0, none⟩) := h5
  replace h6 : t.getD 6 undef = .int .i64 (len : Nat) := h6
  have REL := Lib.hid rel
  clear rel
  refine openFr146 (P := fun t => t.getD 0 undef = .slice ad len cap → t.getD 3 undef = .pointer (some ⟨F.f, 0, none⟩) → t.getD 5 undef = .pointer (some ⟨vb, 0, none⟩) → t.getD 6 undef = .int .i64 (len : Nat) → Code.wp Try.prog (aftIn 0 Try.f4) (bodyPost Try.prog Try.f4 (fun e w' => e = .returned (.bool true) ∧ Below w.heap.size w w')) ⟨t, []⟩ wr) ?_ t hz h0 h3 h5 h6
  clear h0 h3 h5 h6 hz t
  intro c0 c1 c2 c3 c4 c5 c6 c7 c8 c9 c10 c11 c12 c13 c14 c15 c16 c17 c18 c19 c20 c21 c22 c23 c24 c25 c26 c27 c28 c29 c30 c31 c32 c33 c34 c35 c36 c37 c38 c39 c40 c41 c42 c43 c44 c45 c46 c47 c48 c49 c50 c51 c52 c53 c54 c55 c56 c57 c58 c59 c60 c61 c62 c63 c64 c65 c66 c67 c68 c69 c70 c71 c72 c73 c74 c75 c76 c77 c78 c79 c80 c81 c82 c83 c84 c85 c86 c87 c88 c89 c90 c91 c92 c93 c94 c95 c96 c97 c98 c99 c100 c101 c102 c103 c104 c105 c106 c107 c108 c109 c110 c111 c112 c113 c114 c115 c116 c117 c118 c119 c120 c121 c122 c123 c124 c125 c126 c127 c128 c129 c130 c131 c132 c133 c134 c135 c136 c137 c138 c139 c140 c141 c142 c143 c144 c145 h0 h3 h5 h6
  replace h0 : c0 = .slice ad len cap := h0
  replace h3 : c3 = .pointer (some ⟨F.f, 0, none⟩) := h3
  replace h5 : c5 = .pointer (some ⟨vb, 0, none⟩) := h5
  replace h6 : c6 = .int .i64 (len : Nat) := h6
  subst h0
  subst h3
  subst h5
  subst h6
  conv => arg 2; whnf
  go_wp2
  go_ret
  exact ⟨rfl, REL.out.1.c.below (Nat.le_refl _) (fun _ _ e => e.elim)⟩
end Go.Proofs.Ytkialefhjfoniaa
