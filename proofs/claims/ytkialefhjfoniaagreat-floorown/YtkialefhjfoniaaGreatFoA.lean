/-
  FloorOwn: the loop over the acts.
-/
import Derived.Test.YtkialefhjfoniaaGreatFoCode
import Derived.Test.YtkialefhjfoniaaGreatHeld
import Derived.Deep.QuietTactic
import Derived.BigQuiet
import Derived.Deep.Cut
import Derived.Deep.CutRange
import Derived.Deep.CutBlock
import Derived.RegionTactic
import Derived.BigRegion
namespace Go.Proofs.YtkialefhjfoniaaGreat
open Go.RowKit Verge
set_option linter.unusedVariables false
set_option linter.unusedSimpArgs false
attribute [local go_sem] Oper.semAt_some

/-- what holds at the head of the loop -/
def foAI (w wz : World) (F G : Fb) (m hi m2 h2 q : Nat) (ad : Option Addr) (len cap : Nat) (Ls : List Ax) (k : Nat) (a : Act) (wr : World) : Prop :=
  ∃ (s : St) (a1 : Option Addr) (tc1 : Nat), a.defers = [] ∧ a.tmps.size = 150 ∧ a.tmps.getD 0 undef = .slice ad len cap ∧ a.tmps.getD 1 undef = .int .u8 (q : Nat) ∧ a.tmps.getD 5 undef = .pointer (some ⟨F.f, 0, none⟩) ∧ a.tmps.getD 7 undef = .pointer (some ⟨G.f, 0, none⟩) ∧ a.tmps.getD 9 undef = .int .i64 (k : Nat) ∧ (OwA m hi wz F s a1 tc1 True True True True wr ∧ stLe14 s k)
theorem foAI_ctr {k : Nat} (w wz : World) (F G : Fb) (m hi m2 h2 q : Nat) (ad : Option Addr) (len cap : Nat) (Ls : List Ax) {a : Act} {wr : World} (H : foAI w wz F G m hi m2 h2 q ad len cap Ls k a wr) : a.tmps.getD 9 undef = .int .i64 (k : Nat) := by
  obtain ⟨s, a1, tc1, -, -, -, -, -, -, h, -⟩ := H
  exact h
set_option maxRecDepth 100000 in
set_option maxHeartbeats 0 in
theorem foA_round {k : Nat} (w wz : World) (F G : Fb) (m hi m2 h2 q : Nat) (ad : Option Addr) (len cap : Nat) (Ls : List Ax) (hv : ASrc14 w ad Ls) (hl : Ls.length = len) (h200 : len ≤ 200) (hc : Ch Nil w wz) (hm : w.heap.size ≤ m ∧ hi ≤ m2 ∧ hi ≤ wz.heap.size ∧ q < 256) (hG : OwA m2 h2 wz G ⟨0, 0, false, 0, []⟩ none 0 True True True True wz) (a : Act) (wr : World) (hk : k ≤ len) (H : foAI w wz F G m hi m2 h2 q ad len cap Ls k a wr) :
    Code.wp Tryz.prog (loopIn 0 Tryz.f3) (Exit.then (fun a' w' => foAI w wz F G m hi m2 h2 q ad len cap Ls (k + 1) a' w' ∧ k < len) (Qx 0 (fun a' w' => foAI w wz F G m hi m2 h2 q ad len cap Ls k a' w' ∧ k = len))) a wr := by
  obtain ⟨t, ds⟩ := a
  obtain ⟨s, a1, tc1, hd', hz, h0, h1, h5, h7, h9, rel⟩ := H
  replace hd' : ds = [] := hd'
  subst hd'
  replace hz : t.size = 150 := hz
  replace h0 : t.getD 0 undef = .slice ad len cap := h0
  replace h1 : t.getD 1 undef = .int .u8 (q : Nat) := h1
  replace h5 : t.getD 5 undef = .pointer (some ⟨F.f, 0, none⟩) := h5
  replace h7 : t.getD 7 undef = .pointer (some ⟨G.f, 0, none⟩) := h7
  replace h9 : t.getD 9 undef = .int .i64 (k : Nat) := h9
  have REL := Lib.hid rel
  clear rel
  refine openFr150 (P := fun t => t.getD 0 undef = .slice ad len cap → t.getD 1 undef = .int .u8 (q : Nat) → t.getD 5 undef = .pointer (some ⟨F.f, 0, none⟩) → t.getD 7 undef = .pointer (some ⟨G.f, 0, none⟩) → t.getD 9 undef = .int .i64 (k : Nat) → Code.wp Tryz.prog (loopIn 0 Tryz.f3) (Exit.then (fun a' w' => foAI w wz F G m hi m2 h2 q ad len cap Ls (k + 1) a' w' ∧ k < len) (Qx 0 (fun a' w' => foAI w wz F G m hi m2 h2 q ad len cap Ls k a' w' ∧ k = len))) ⟨t, []⟩ wr) ?_ t hz h0 h1 h5 h7 h9
  clear h0 h1 h5 h7 h9 hz t
  intro c0 c1 c2 c3 c4 c5 c6 c7 c8 c9 c10 c11 c12 c13 c14 c15 c16 c17 c18 c19 c20 c21 c22 c23 c24 c25 c26 c27 c28 c29 c30 c31 c32 c33 c34 c35 c36 c37 c38 c39 c40 c41 c42 c43 c44 c45 c46 c47 c48 c49 c50 c51 c52 c53 c54 c55 c56 c57 c58 c59 c60 c61 c62 c63 c64 c65 c66 c67 c68 c69 c70 c71 c72 c73 c74 c75 c76 c77 c78 c79 c80 c81 c82 c83 c84 c85 c86 c87 c88 c89 c90 c91 c92 c93 c94 c95 c96 c97 c98 c99 c100 c101 c102 c103 c104 c105 c106 c107 c108 c109 c110 c111 c112 c113 c114 c115 c116 c117 c118 c119 c120 c121 c122 c123 c124 c125 c126 c127 c128 c129 c130 c131 c132 c133 c134 c135 c136 c137 c138 c139 c140 c141 c142 c143 c144 c145 c146 c147 c148 c149 h0 h1 h5 h7 h9
  replace h0 : c0 = .slice ad len cap := h0
  replace h1 : c1 = .int .u8 (q : Nat) := h1
  replace h5 : c5 = .pointer (some ⟨F.f, 0, none⟩) := h5
  replace h7 : c7 = .pointer (some ⟨G.f, 0, none⟩) := h7
  replace h9 : c9 = .int .i64 (k : Nat) := h9
  subst h0
  subst h1
  subst h5
  subst h7
  subst h9
  conv => arg 2; whnf
  have HV := Lib.hid hv
  have HL := Lib.hid hl
  have HC := Lib.hid hc
  have HMM := Lib.hid hm
  clear hv hl hc hm hG
  by_cases hlt : k < len
  · obtain ⟨b, o, rfl, hcell⟩ := HV.out.form (by rw [HL.out]; omega)
    obtain ⟨x, hx⟩ : ∃ x, Ls[k]? = some x := ⟨_, List.getElem?_eq_getElem (by rw [HL.out]; exact hlt)⟩
    have hb := (hcell k x hx).lt
    obtain ⟨x0, x1, y0, y1, y2, y3, y4, y5, y6, y7, y8, y9⟩ := (((hcell k x hx).kept HC.out (fun e => e)).kept REL.out.1.c (fun e => by have := HMM.out.1; have e1 : m ≤ b := e.1; omega)).cells
    clear hb
    have hltz : (k : Int) < (len : Int) := by omega
    have hk0 : (0 : Int) ≤ (k : Int) := by omega
    have e0 : ((k : Int)).toNat = k := by omega
    have SL : Hid (stLe14 s k) := Lib.hid REL.out.2
    have SK : Hid (s.i ≤ 1000 ∧ s.b ≤ 1000 ∧ s.t ≤ 1000 ∧ s.L.length ≤ 1000) := Lib.hid (by have h := SL.out; unfold stLe14 at h; omega)
    have K1 := Lib.hid REL.out.1
    clear hcell hx REL
    obtain ⟨kd, on, u⟩ := x
    dsimp only at *
    by_cases h0 : kd = 0
    · subst h0
      go_wp2_with fail
      clear x0 x1 y0 y1 y2 y3 y4 y5 y6 y7 y8 y9
      refine (enter_of K1.out.f.fl (v := s.i) (by have := SK.out; omega) K1.out.f.pi).mono ?_
      rintro e w3 ⟨rfl, k2, c2⟩
      have NX : Hid (∃ s' a' tc', OwA m hi wz F s' a' tc' True True True True w3 ∧ stLe14 s' (k + 1)) := Lib.hid ⟨{ s with i := s.i + 1 }, a1, tc1, by have U := K1.out.f.up_i c2 k2; exact K1.out.floor U.1 U.2 (fun _ h => .inl h), by unfold stLe14; (try simp only [List.length_append, List.length_singleton]); (try dsimp only); have h := SL.out; have h' := SK.out; unfold stLe14 at h; omega⟩
      clear c2 K1
      go_wp2
      obtain ⟨s3, a3, tc3, h3⟩ := NX.out
      first | exact ⟨⟨s3, a3, tc3, rfl, rfl, rfl, rfl, rfl, rfl, rfl, h3⟩, hlt⟩ | exact ⟨s3, a3, tc3, rfl, rfl, rfl, rfl, rfl, rfl, rfl, h3⟩
    by_cases h1 : kd = 1
    · clear h0
      subst h1
      obtain ⟨vv, hvv⟩ : ∃ vv, vv = s.i := ⟨_, rfl⟩
      have HVV := Lib.hid hvv
      by_cases hi0 : s.i = 0
      · have HI := Lib.hid hi0
        clear hi0 hvv
        go_wp2_with fail
        clear x0 x1 y0 y1 y2 y3 y4 y5 y6 y7 y8 y9
        refine (leave_no K1.out.f.fl (v := s.i) (by have := SK.out; omega) HI K1.out.f.pi).mono ?_
        rintro e w3 ⟨rfl, k2, c2⟩
        have NX : Hid (∃ s' a' tc', OwA m hi wz F s' a' tc' True True True True w3 ∧ stLe14 s' (k + 1)) := Lib.hid ⟨{ s with i := s.i }, a1, tc1, by have U := K1.out.f.up_i c2 k2; exact K1.out.floor U.1 U.2 (fun _ h => .inl h), by unfold stLe14; (try simp only [List.length_append, List.length_singleton]); (try dsimp only); have h := SL.out; have h' := SK.out; unfold stLe14 at h; omega⟩
        clear c2 K1
        go_wp2
        obtain ⟨s3, a3, tc3, h3⟩ := NX.out
        first | exact ⟨⟨s3, a3, tc3, rfl, rfl, rfl, rfl, rfl, rfl, rfl, h3⟩, hlt⟩ | exact ⟨s3, a3, tc3, rfl, rfl, rfl, rfl, rfl, rfl, rfl, h3⟩
      · have HI : Hid (0 < s.i) := Lib.hid (by omega)
        clear hi0 hvv
        go_wp2_with fail
        clear x0 x1 y0 y1 y2 y3 y4 y5 y6 y7 y8 y9
        refine (leave_yes K1.out.f.fl (v := s.i) (by have := SK.out; omega) HI K1.out.f.pi).mono ?_
        rintro e w3 ⟨rfl, k2, c2⟩
        have NX : Hid (∃ s' a' tc', OwA m hi wz F s' a' tc' True True True True w3 ∧ stLe14 s' (k + 1)) := Lib.hid ⟨{ s with i := s.i - 1 }, a1, tc1, by have U := K1.out.f.up_i c2 k2; exact K1.out.floor U.1 U.2 (fun _ h => .inl h), by unfold stLe14; (try simp only [List.length_append, List.length_singleton]); (try dsimp only); have h := SL.out; have h' := SK.out; unfold stLe14 at h; omega⟩
        clear c2 K1
        go_wp2
        obtain ⟨s3, a3, tc3, h3⟩ := NX.out
        first | exact ⟨⟨s3, a3, tc3, rfl, rfl, rfl, rfl, rfl, rfl, rfl, h3⟩, hlt⟩ | exact ⟨s3, a3, tc3, rfl, rfl, rfl, rfl, rfl, rfl, rfl, h3⟩
    by_cases h2x : kd = 2
    · clear h0 h1
      subst h2x
      cases on with
      | true =>
        go_wp2_with fail
        clear x0 x1 y0 y1 y2 y3 y4 y5 y6 y7 y8 y9
        refine (work_on K1.out.f.fl (v := s.b) (by have := SK.out; omega) K1.out.f.pb).mono ?_
        rintro e w3 ⟨rfl, k2, c2⟩
        have NX : Hid (∃ s' a' tc', OwA m hi wz F s' a' tc' True True True True w3 ∧ stLe14 s' (k + 1)) := Lib.hid ⟨{ s with b := s.b + 1 }, a1, tc1, by have U := K1.out.f.up_b c2 k2; exact K1.out.floor U.1 U.2 (fun _ h => .inl h), by unfold stLe14; (try simp only [List.length_append, List.length_singleton]); (try dsimp only); have h := SL.out; have h' := SK.out; unfold stLe14 at h; omega⟩
        clear c2 K1
        go_wp2
        obtain ⟨s3, a3, tc3, h3⟩ := NX.out
        first | exact ⟨⟨s3, a3, tc3, rfl, rfl, rfl, rfl, rfl, rfl, rfl, h3⟩, hlt⟩ | exact ⟨s3, a3, tc3, rfl, rfl, rfl, rfl, rfl, rfl, rfl, h3⟩
      | false =>
        obtain ⟨vv, hvv⟩ : ∃ vv, vv = s.b := ⟨_, rfl⟩
        have HVV := Lib.hid hvv
        by_cases hi0 : s.b = 0
        · have HI := Lib.hid hi0
          clear hi0 hvv
          go_wp2_with fail
          clear x0 x1 y0 y1 y2 y3 y4 y5 y6 y7 y8 y9
          refine (work_no K1.out.f.fl (v := s.b) (by have := SK.out; omega) HI K1.out.f.pb).mono ?_
          rintro e w3 ⟨rfl, k2, c2⟩
          have NX : Hid (∃ s' a' tc', OwA m hi wz F s' a' tc' True True True True w3 ∧ stLe14 s' (k + 1)) := Lib.hid ⟨{ s with b := s.b }, a1, tc1, by have U := K1.out.f.up_b c2 k2; exact K1.out.floor U.1 U.2 (fun _ h => .inl h), by unfold stLe14; (try simp only [List.length_append, List.length_singleton]); (try dsimp only); have h := SL.out; have h' := SK.out; unfold stLe14 at h; omega⟩
          clear c2 K1
          go_wp2
          obtain ⟨s3, a3, tc3, h3⟩ := NX.out
          first | exact ⟨⟨s3, a3, tc3, rfl, rfl, rfl, rfl, rfl, rfl, rfl, h3⟩, hlt⟩ | exact ⟨s3, a3, tc3, rfl, rfl, rfl, rfl, rfl, rfl, rfl, h3⟩
        · have HI : Hid (0 < s.b) := Lib.hid (by omega)
          clear hi0 hvv
          go_wp2_with fail
          clear x0 x1 y0 y1 y2 y3 y4 y5 y6 y7 y8 y9
          refine (work_yes K1.out.f.fl (v := s.b) (by have := SK.out; omega) HI K1.out.f.pb).mono ?_
          rintro e w3 ⟨rfl, k2, c2⟩
          have NX : Hid (∃ s' a' tc', OwA m hi wz F s' a' tc' True True True True w3 ∧ stLe14 s' (k + 1)) := Lib.hid ⟨{ s with b := s.b - 1 }, a1, tc1, by have U := K1.out.f.up_b c2 k2; exact K1.out.floor U.1 U.2 (fun _ h => .inl h), by unfold stLe14; (try simp only [List.length_append, List.length_singleton]); (try dsimp only); have h := SL.out; have h' := SK.out; unfold stLe14 at h; omega⟩
          clear c2 K1
          go_wp2
          obtain ⟨s3, a3, tc3, h3⟩ := NX.out
          first | exact ⟨⟨s3, a3, tc3, rfl, rfl, rfl, rfl, rfl, rfl, rfl, h3⟩, hlt⟩ | exact ⟨s3, a3, tc3, rfl, rfl, rfl, rfl, rfl, rfl, rfl, h3⟩
    by_cases h3x : kd = 3
    · clear h0 h1 h2x
      subst h3x
      obtain ⟨cl, hcl⟩ : ∃ cl, cl = s.cl := ⟨_, rfl⟩
      have hpc := K1.out.f.pc
      rw [← hcl] at hpc
      have HPC := Lib.hid hpc
      clear hcl hpc
      cases cl with
      | false =>
        go_wp2_with fail
        clear x0 x1 y0 y1 y2 y3 y4 y5 y6 y7 y8 y9
        refine (shut_first K1.out.f.fl HPC.out).mono ?_
        rintro e w3 ⟨rfl, k2, c2⟩
        have NX : Hid (∃ s' a' tc', OwA m hi wz F s' a' tc' True True True True w3 ∧ stLe14 s' (k + 1)) := Lib.hid ⟨{ s with cl := true }, a1, tc1, by have U := K1.out.f.up_c c2 k2; exact K1.out.floor U.1 U.2 (fun _ h => .inl h), by unfold stLe14; (try simp only [List.length_append, List.length_singleton]); (try dsimp only); have h := SL.out; have h' := SK.out; unfold stLe14 at h; omega⟩
        clear c2 K1
        go_wp2
        obtain ⟨s3, a3, tc3, h3⟩ := NX.out
        first | exact ⟨⟨s3, a3, tc3, rfl, rfl, rfl, rfl, rfl, rfl, rfl, h3⟩, hlt⟩ | exact ⟨s3, a3, tc3, rfl, rfl, rfl, rfl, rfl, rfl, rfl, h3⟩
      | true =>
        go_wp2_with fail
        clear x0 x1 y0 y1 y2 y3 y4 y5 y6 y7 y8 y9
        refine (shut_again K1.out.f.fl HPC.out).mono ?_
        rintro e w3 ⟨rfl, k2, c2⟩
        have NX : Hid (∃ s' a' tc', OwA m hi wz F s' a' tc' True True True True w3 ∧ stLe14 s' (k + 1)) := Lib.hid ⟨{ s with cl := true }, a1, tc1, by have U := K1.out.f.up_c c2 k2; exact K1.out.floor U.1 U.2 (fun _ h => .inl h), by unfold stLe14; (try simp only [List.length_append, List.length_singleton]); (try dsimp only); have h := SL.out; have h' := SK.out; unfold stLe14 at h; omega⟩
        clear c2 K1
        go_wp2
        obtain ⟨s3, a3, tc3, h3⟩ := NX.out
        first | exact ⟨⟨s3, a3, tc3, rfl, rfl, rfl, rfl, rfl, rfl, rfl, h3⟩, hlt⟩ | exact ⟨s3, a3, tc3, rfl, rfl, rfl, rfl, rfl, rfl, rfl, h3⟩
    by_cases h4 : kd = 4
    · clear h0 h1 h2x h3x
      subst h4
      go_wp2_with fail
      clear x0 x1 y0 y1 y2 y3 y4 y5 y6 y7 y8 y9
      refine (turn_of K1.out.f.fl (a := s.t) (by have := SK.out; omega) K1.out.f.pn).mono ?_
      rintro e w3 ⟨rfl, k2, c2⟩
      have NX : Hid (∃ s' a' tc', OwA m hi wz F s' a' tc' True True True True w3 ∧ stLe14 s' (k + 1)) := Lib.hid ⟨{ s with t := s.t + 1 }, a1, tc1, by have U := K1.out.f.up_t c2 k2; exact K1.out.floor U.1 U.2 (fun _ h => .inl h), by unfold stLe14; (try simp only [List.length_append, List.length_singleton]); (try dsimp only); have h := SL.out; have h' := SK.out; unfold stLe14 at h; omega⟩
      clear c2 K1
      go_wp2
      obtain ⟨s3, a3, tc3, h3⟩ := NX.out
      first | exact ⟨⟨s3, a3, tc3, rfl, rfl, rfl, rfl, rfl, rfl, rfl, h3⟩, hlt⟩ | exact ⟨s3, a3, tc3, rfl, rfl, rfl, rfl, rfl, rfl, rfl, h3⟩
    by_cases h5 : kd = 5
    · clear h0 h1 h2x h3x h4
      subst h5
      go_wp2_with fail
      clear x0 x1 y0 y1 y2 y3 y4 y5 y6 y7 y8 y9
      refine (note_fl K1.out.f (by have := SK.out; omega) u).mono ?_
      rintro e w3 ⟨a', tc', rfl, f2, c2, g2⟩
      have NX : Hid (∃ s' a' tc', OwA m hi wz F s' a' tc' True True True True w3 ∧ stLe14 s' (k + 1)) := Lib.hid ⟨_, a', tc', K1.out.floor f2 c2 g2, by unfold stLe14; (try simp only [List.length_append, List.length_singleton]); (try dsimp only); have h := SL.out; have h' := SK.out; unfold stLe14 at h; omega⟩
      clear c2 K1
      go_wp2
      obtain ⟨s3, a3, tc3, h3⟩ := NX.out
      first | exact ⟨⟨s3, a3, tc3, rfl, rfl, rfl, rfl, rfl, rfl, rfl, h3⟩, hlt⟩ | exact ⟨s3, a3, tc3, rfl, rfl, rfl, rfl, rfl, rfl, rfl, h3⟩
    have NX : Hid (∃ s' a' tc', OwA m hi wz F s' a' tc' True True True True wr ∧ stLe14 s' (k + 1)) := Lib.hid ⟨s, a1, tc1, K1.out, by have := SL.out; unfold stLe14 at *; omega⟩
    have z0 : (kd == 0) = false := by rw [beq_eq_false_iff_ne]; exact h0
    have z1 : (kd == 1) = false := by rw [beq_eq_false_iff_ne]; exact h1
    have z2 : (kd == 2) = false := by rw [beq_eq_false_iff_ne]; exact h2x
    have z3 : (kd == 3) = false := by rw [beq_eq_false_iff_ne]; exact h3x
    have z4 : (kd == 4) = false := by rw [beq_eq_false_iff_ne]; exact h4
    have z5 : (kd == 5) = false := by rw [beq_eq_false_iff_ne]; exact h5
    clear h0 h1 h2x h3x h4 h5 K1
    go_wp2
    obtain ⟨s3, a3, tc3, h3⟩ := NX.out
    first | exact ⟨⟨s3, a3, tc3, rfl, rfl, rfl, rfl, rfl, rfl, rfl, h3⟩, hlt⟩ | exact ⟨s3, a3, tc3, rfl, rfl, rfl, rfl, rfl, rfl, rfl, h3⟩
  · obtain rfl : k = len := by omega
    go_wp2
    first | exact ⟨by first | rfl | trivial, ⟨_, _, _, rfl, rfl, rfl, rfl, rfl, rfl, rfl, REL.out⟩, by first | rfl | trivial⟩ | exact ⟨_, _, _, rfl, rfl, rfl, rfl, rfl, rfl, rfl, REL.out⟩ | exact ⟨⟨_, _, _, rfl, rfl, rfl, rfl, rfl, rfl, rfl, REL.out⟩, by first | rfl | trivial⟩ | exact ⟨by first | rfl | trivial, ⟨_, _, _, rfl, rfl, rfl, rfl, rfl, rfl, rfl, REL.out⟩⟩
theorem foA_loop (w wz : World) (F G : Fb) (m hi m2 h2 q : Nat) (ad : Option Addr) (len cap : Nat) (Ls : List Ax) (hv : ASrc14 w ad Ls) (hl : Ls.length = len) (h200 : len ≤ 200) (hc : Ch Nil w wz) (hm : w.heap.size ≤ m ∧ hi ≤ m2 ∧ hi ≤ wz.heap.size ∧ q < 256) (hG : OwA m2 h2 wz G ⟨0, 0, false, 0, []⟩ none 0 True True True True wz) (a : Act) (wr : World) (hb : 0 ≤ len) (H : foAI w wz F G m hi m2 h2 q ad len cap Ls 0 a wr) :
    Code.wp Tryz.prog (.loop (loopIn 0 Tryz.f3)) (Qx 0 (fun a' w' => foAI w wz F G m hi m2 h2 q ad len cap Ls len a' w')) a wr := by
  refine wp_loop (fun a' wr => ∃ k, k ≤ len ∧ foAI w wz F G m hi m2 h2 q ad len cap Ls k a' wr) (fun a' _ => len - (intOf (a'.tmps.getD 9 undef)).toNat) ⟨0, hb, H⟩ ?_
  rintro a' wr ⟨k, hk, h⟩
  refine wp_mono (foA_round w wz F G m hi m2 h2 q ad len cap Ls hv hl h200 hc hm hG a' wr hk h) ?_
  intro e a2 w2 hp
  cases e with
  | normal =>
    refine ⟨⟨k + 1, by have := hp.2; omega, hp.1⟩, ?_⟩
    rw [foAI_ctr w wz F G m hi m2 h2 q ad len cap Ls h, foAI_ctr w wz F G m hi m2 h2 q ad len cap Ls hp.1]
    have := hp.2
    simp only [intOf, Int.toNat_natCast]
    omega
  | exit n => exact ⟨hp.1, hp.2.2 ▸ hp.2.1⟩
  | _ => exact hp.elim
end Go.Proofs.YtkialefhjfoniaaGreat
