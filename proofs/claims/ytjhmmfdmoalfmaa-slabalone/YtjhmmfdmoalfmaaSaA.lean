/-
  SlabAlone: the loop of one request.
-/
import Derived.Test.YtjhmmfdmoalfmaaSaCode
import Derived.Test.YtjhmmfdmoalfmaaHeld
import Derived.Deep.QuietTactic
import Derived.BigQuiet
import Derived.Deep.Cut
import Derived.Deep.CutRange
import Derived.Deep.CutBlock
import Derived.RegionTactic
import Derived.BigRegion
namespace Go.Proofs.Ytjhmmfdmoalfmaa
open Go.RowKit Verge
set_option linter.unusedVariables false
set_option linter.unusedSimpArgs false
attribute [local go_sem] Oper.semAt_some

/-- what holds at the head of the loop -/
def saBI (w : World) (b rb n : Nat) (ad : Option Addr) (len cap : Nat) (zs : List Int) (i q cnt f m : Nat) (R : Nat → Rec) (k : Nat) (a : Act) (wr : World) : Prop :=
  ∃ (x : Nat), a.defers = [] ∧ a.tmps.size = 86 ∧ a.tmps.getD 1 undef = .slice ad len cap ∧ a.tmps.getD 5 undef = .int .i64 (n : Nat) ∧ a.tmps.getD 6 undef = .pointer (some ⟨b, 0, none⟩) ∧ a.tmps.getD 8 undef = .int .i64 (i : Nat) ∧ a.tmps.getD 10 undef = .pointer (some ⟨q, 0, none⟩) ∧ a.tmps.getD 11 undef = .int .i64 (x : Nat) ∧ a.tmps.getD 12 undef = .int .i64 (k : Nat) ∧ (ItR w wr b rb n cnt R q 0 k ∧ x = (itS n cnt R ⟨0, 0, 0, 0, 0, 0⟩ k).2.2.ss)
theorem saBI_ctr {k : Nat} (w : World) (b rb n : Nat) (ad : Option Addr) (len cap : Nat) (zs : List Int) (i q cnt f m : Nat) (R : Nat → Rec) {a : Act} {wr : World} (H : saBI w b rb n ad len cap zs i q cnt f m R k a wr) : a.tmps.getD 12 undef = .int .i64 (k : Nat) := by
  obtain ⟨x, -, -, -, -, -, -, -, -, h, -⟩ := H
  exact h
set_option maxRecDepth 100000 in
set_option maxHeartbeats 0 in
theorem saB_round {k : Nat} (w : World) (b rb n : Nat) (ad : Option Addr) (len cap : Nat) (zs : List Int) (i q cnt f m : Nat) (R : Nat → Rec) (hv : IsRow .u8 w ad len cap zs) (h200 : len ≤ 200) (n0 : 0 < n) (n1 : n ≤ 64) (hi : Inv n cnt R 0 m) (hm : m + 1 ≤ 900000) (hc : cnt < n) (hf : f < n) (f0 : busy (R f) = 0) (f1 : ∀ j, j < f → busy (R j) = 1) (a : Act) (wr : World) (hk : k ≤ (f + 3)) (H : saBI w b rb n ad len cap zs i q cnt f m R k a wr) :
    Code.wp Try.prog (loopIn 2 Try.f5) (Exit.then (fun a' w' => saBI w b rb n ad len cap zs i q cnt f m R (k + 1) a' w' ∧ k < (f + 3)) (Qx 2 (fun a' w' => saBI w b rb n ad len cap zs i q cnt f m R k a' w' ∧ k = (f + 3)))) a wr := by
  obtain ⟨t, ds⟩ := a
  obtain ⟨x, hd', hz, h1, h5, h6, h8, h10, h11, h12, rel⟩ := H
  replace hd' : ds = [] := hd'
  subst hd'
  replace hz : t.size = 86 := hz
  replace h1 : t.getD 1 undef = .slice ad len cap := h1
  replace h5 : t.getD 5 undef = .int .i64 (n : Nat) := h5
  replace h6 : t.getD 6 undef = .pointer (some ⟨b, 0, none⟩) := h6
  replace h8 : t.getD 8 undef = .int .i64 (i : Nat) := h8
  replace h10 : t.getD 10 undef = .pointer (some ⟨q, 0, none⟩) := h10
  replace h11 : t.getD 11 undef = .int .i64 (x : Nat) := h11
  replace h12 : t.getD 12 undef = .int .i64 (k : Nat) := h12
  have REL := Lib.hid rel
  clear rel
  refine openFr86 (P := fun t => t.getD 1 undef = .slice ad len cap → t.getD 5 undef = .int .i64 (n : Nat) → t.getD 6 undef = .pointer (some ⟨b, 0, none⟩) → t.getD 8 undef = .int .i64 (i : Nat) → t.getD 10 undef = .pointer (some ⟨q, 0, none⟩) → t.getD 11 undef = .int .i64 (x : Nat) → t.getD 12 undef = .int .i64 (k : Nat) → Code.wp Try.prog (loopIn 2 Try.f5) (Exit.then (fun a' w' => saBI w b rb n ad len cap zs i q cnt f m R (k + 1) a' w' ∧ k < (f + 3)) (Qx 2 (fun a' w' => saBI w b rb n ad len cap zs i q cnt f m R k a' w' ∧ k = (f + 3)))) ⟨t, []⟩ wr) ?_ t hz h1 h5 h6 h8 h10 h11 h12
  clear h1 h5 h6 h8 h10 h11 h12 hz t
  intro c0 c1 c2 c3 c4 c5 c6 c7 c8 c9 c10 c11 c12 c13 c14 c15 c16 c17 c18 c19 c20 c21 c22 c23 c24 c25 c26 c27 c28 c29 c30 c31 c32 c33 c34 c35 c36 c37 c38 c39 c40 c41 c42 c43 c44 c45 c46 c47 c48 c49 c50 c51 c52 c53 c54 c55 c56 c57 c58 c59 c60 c61 c62 c63 c64 c65 c66 c67 c68 c69 c70 c71 c72 c73 c74 c75 c76 c77 c78 c79 c80 c81 c82 c83 c84 c85 h1 h5 h6 h8 h10 h11 h12
  replace h1 : c1 = .slice ad len cap := h1
  replace h5 : c5 = .int .i64 (n : Nat) := h5
  replace h6 : c6 = .pointer (some ⟨b, 0, none⟩) := h6
  replace h8 : c8 = .int .i64 (i : Nat) := h8
  replace h10 : c10 = .pointer (some ⟨q, 0, none⟩) := h10
  replace h11 : c11 = .int .i64 (x : Nat) := h11
  replace h12 : c12 = .int .i64 (k : Nat) := h12
  subst h1
  subst h5
  subst h6
  subst h8
  subst h10
  subst h11
  subst h12
  conv => arg 2; whnf
  have e0 := it_work 0 hi (by omega) hc hf f0 f1 k
  have E0 := Lib.hid e0
  have FT := Lib.hid (it_fit 0 hi hm n1 n0 k)
  clear hv hi f0 f1 e0
  have hcz : (f : Int) < (n : Int) := by omega
  by_cases hlt : k < f + 3
  · have x0 : x = 0 := by
      rw [REL.out.2, E0.out]
      unfold itAt
      split
      · rfl
      · split
        · rfl
        · rw [if_pos (by omega)]
    subst x0
    have hkz : (k : Int) ≤ (n : Int) + 2 := by omega
    go_wp2_with fail
    refine (step_fit REL.out.1.sq FT.out).mono ?_
    rintro e w5 ⟨rfl, k5, c5⟩
    have NX := Lib.hid (REL.out.1.next k5 c5)
    obtain ⟨y, hy⟩ : ∃ y, y = (stepM n (itS n cnt R ⟨0, 0, 0, 0, 0, 0⟩ k).1 (itS n cnt R ⟨0, 0, 0, 0, 0, 0⟩ k).2.1 (itS n cnt R ⟨0, 0, 0, 0, 0, 0⟩ k).2.2).2.2.ss := ⟨_, rfl⟩
    have HY := Lib.hid hy
    rw [← hy]
    clear hy k5 c5 REL
    go_wp2
    first | exact ⟨⟨y, rfl, rfl, rfl, rfl, rfl, rfl, rfl, rfl, rfl, ⟨NX.out, HY.out⟩⟩, hlt⟩ | exact ⟨y, rfl, rfl, rfl, rfl, rfl, rfl, rfl, rfl, rfl, ⟨NX.out, HY.out⟩⟩
  · obtain rfl : k = f + 3 := by omega
    have x0 : x = 2 := by
      rw [REL.out.2, E0.out]
      unfold itAt
      rw [if_neg (by omega), if_neg (by omega), if_neg (by omega)]
    subst x0
    go_wp2
    exact ⟨by first | rfl | trivial, ⟨2, rfl, rfl, rfl, rfl, rfl, rfl, rfl, rfl, rfl, REL.out⟩, by first | rfl | trivial⟩
theorem saB_loop (w : World) (b rb n : Nat) (ad : Option Addr) (len cap : Nat) (zs : List Int) (i q cnt f m : Nat) (R : Nat → Rec) (hv : IsRow .u8 w ad len cap zs) (h200 : len ≤ 200) (n0 : 0 < n) (n1 : n ≤ 64) (hi : Inv n cnt R 0 m) (hm : m + 1 ≤ 900000) (hc : cnt < n) (hf : f < n) (f0 : busy (R f) = 0) (f1 : ∀ j, j < f → busy (R j) = 1) (a : Act) (wr : World) (hb : 1 ≤ (f + 3)) (H : saBI w b rb n ad len cap zs i q cnt f m R 1 a wr) :
    Code.wp Try.prog (.loop (loopIn 2 Try.f5)) (Qx 2 (fun a' w' => saBI w b rb n ad len cap zs i q cnt f m R (f + 3) a' w')) a wr := by
  refine wp_loop (fun a' wr => ∃ k, k ≤ (f + 3) ∧ saBI w b rb n ad len cap zs i q cnt f m R k a' wr) (fun a' _ => (f + 3) - (intOf (a'.tmps.getD 12 undef)).toNat) ⟨1, hb, H⟩ ?_
  rintro a' wr ⟨k, hk, h⟩
  refine wp_mono (saB_round w b rb n ad len cap zs i q cnt f m R hv h200 n0 n1 hi hm hc hf f0 f1 a' wr hk h) ?_
  intro e a2 w2 hp
  cases e with
  | normal =>
    refine ⟨⟨k + 1, by have := hp.2; omega, hp.1⟩, ?_⟩
    rw [saBI_ctr w b rb n ad len cap zs i q cnt f m R h, saBI_ctr w b rb n ad len cap zs i q cnt f m R hp.1]
    have := hp.2
    simp only [intOf, Int.toNat_natCast]
    omega
  | exit n => exact ⟨hp.1, hp.2.2 ▸ hp.2.1⟩
  | _ => exact hp.elim
/-- what holds at the head of the loop -/
def saAI (w : World) (b rb n : Nat) (ad : Option Addr) (len cap : Nat) (zs : List Int) (k : Nat) (a : Act) (wr : World) : Prop :=
  ∃ (cnt : Nat) (R : Nat → Rec), a.defers = [] ∧ a.tmps.size = 86 ∧ a.tmps.getD 1 undef = .slice ad len cap ∧ a.tmps.getD 5 undef = .int .i64 (n : Nat) ∧ a.tmps.getD 6 undef = .pointer (some ⟨b, 0, none⟩) ∧ a.tmps.getD 8 undef = .int .i64 (k : Nat) ∧ SlR w wr b rb n cnt R k
theorem saAI_ctr {k : Nat} (w : World) (b rb n : Nat) (ad : Option Addr) (len cap : Nat) (zs : List Int) {a : Act} {wr : World} (H : saAI w b rb n ad len cap zs k a wr) : a.tmps.getD 8 undef = .int .i64 (k : Nat) := by
  obtain ⟨cnt, R, -, -, -, -, -, h, -⟩ := H
  exact h
set_option maxRecDepth 100000 in
set_option maxHeartbeats 0 in
theorem saA_round {k : Nat} (w : World) (b rb n : Nat) (ad : Option Addr) (len cap : Nat) (zs : List Int) (hv : IsRow .u8 w ad len cap zs) (h200 : len ≤ 200) (n0 : 0 < n) (n1 : n ≤ 64) (a : Act) (wr : World) (hk : k ≤ len) (H : saAI w b rb n ad len cap zs k a wr) :
    Code.wp Try.prog (loopIn 0 Try.f5) (Exit.then (fun a' w' => saAI w b rb n ad len cap zs (k + 1) a' w' ∧ k < len) (Qx 0 (fun a' w' => saAI w b rb n ad len cap zs k a' w' ∧ k = len))) a wr := by
  obtain ⟨t, ds⟩ := a
  obtain ⟨cnt, R, hd', hz, h1, h5, h6, h8, rel⟩ := H
  replace hd' : ds = [] := hd'
  subst hd'
  replace hz : t.size = 86 := hz
  replace h1 : t.getD 1 undef = .slice ad len cap := h1
  replace h5 : t.getD 5 undef = .int .i64 (n : Nat) := h5
  replace h6 : t.getD 6 undef = .pointer (some ⟨b, 0, none⟩) := h6
  replace h8 : t.getD 8 undef = .int .i64 (k : Nat) := h8
  have REL := Lib.hid rel
  clear rel
  refine openFr86 (P := fun t => t.getD 1 undef = .slice ad len cap → t.getD 5 undef = .int .i64 (n : Nat) → t.getD 6 undef = .pointer (some ⟨b, 0, none⟩) → t.getD 8 undef = .int .i64 (k : Nat) → Code.wp Try.prog (loopIn 0 Try.f5) (Exit.then (fun a' w' => saAI w b rb n ad len cap zs (k + 1) a' w' ∧ k < len) (Qx 0 (fun a' w' => saAI w b rb n ad len cap zs k a' w' ∧ k = len))) ⟨t, []⟩ wr) ?_ t hz h1 h5 h6 h8
  clear h1 h5 h6 h8 hz t
  intro c0 c1 c2 c3 c4 c5 c6 c7 c8 c9 c10 c11 c12 c13 c14 c15 c16 c17 c18 c19 c20 c21 c22 c23 c24 c25 c26 c27 c28 c29 c30 c31 c32 c33 c34 c35 c36 c37 c38 c39 c40 c41 c42 c43 c44 c45 c46 c47 c48 c49 c50 c51 c52 c53 c54 c55 c56 c57 c58 c59 c60 c61 c62 c63 c64 c65 c66 c67 c68 c69 c70 c71 c72 c73 c74 c75 c76 c77 c78 c79 c80 c81 c82 c83 c84 c85 h1 h5 h6 h8
  replace h1 : c1 = .slice ad len cap := h1
  replace h5 : c5 = .int .i64 (n : Nat) := h5
  replace h6 : c6 = .pointer (some ⟨b, 0, none⟩) := h6
  replace h8 : c8 = .int .i64 (k : Nat) := h8
  subst h1
  subst h5
  subst h6
  subst h8
  conv => arg 2; whnf
  have hsm := hv.small
  have HV := Lib.hid hv
  clear hv
  by_cases hlt : k < len
  · obtain ⟨xa, rfl, hc, hwf⟩ := HV.out.item hlt
    obtain ⟨z1, z2⟩ := bounds_u8 hwf
    have q1 := REL.out.c.keeps hc (fun e => e)
    obtain ⟨zz, hdi⟩ := Int.eq_ofNat_of_zero_le z1
    rw [hdi] at q1 z2
    have hkz : (k : Int) < (len : Int) := by omega
    have hkz0 : (0 : Int) ≤ (k : Int) := by omega
    clear hc hwf hdi z1
    by_cases h128 : 128 ≤ zz
    · have hzz : (128 : Int) ≤ (zz : Int) := by omega
      have n00 : ¬ n = 0 := by omega
      have hj := Nat.mod_lt zz n0
      have tm := tmod_nat zz n
      obtain ⟨j, hjj⟩ : ∃ j, j = zz % n := ⟨_, rfl⟩
      rw [← hjj] at hj tm
      have em : (zz : Int) % (n : Int) = (j : Int) := by rw [hjj, Int.natCast_emod]
      have HJ := Lib.hid hj
      clear hj hjj
      go_wp2_with fail
      refine (free_any j REL.out.s REL.out.i (by omega) HJ.out).mono ?_
      rintro e w5 ⟨cnt1, R1, x1, rfl, s5, i5, -, c5⟩
      replace REL := Lib.hid (REL.out.two s5 i5 c5)
      clear s5 i5 c5 q1 tm em HJ
      clear R cnt
      go_wp2_with fail
      refine (count_of REL.out.s).mono ?_
      rintro e w6 ⟨rfl, s6, c6⟩
      have REL6 := Lib.hid (REL.out.two s6 REL.out.i (Ch_two1 c6))
      clear s6 c6
      go_wp2_with fail
      refine (begin_sq 0 REL6.out.s).mono ?_
      rintro e w7 ⟨q, rfl, hq, k7, c7, z7⟩
      have K7 := Lib.hid k7
      have REL7 := Lib.hid (REL6.out.quiet c7)
      have HQ : Hid (w.heap.size ≤ q) := Lib.hid (by have := REL6.out.c.size; omega)
      clear k7 c7 z7 hq REL6 REL
      by_cases hfull : cnt1 = n
      · have z1 : ((cnt1 : Int) == (n : Int)) = true := by rw [beq_iff_eq]; omega
        have HF := Lib.hid hfull
        clear hfull
        go_wp2_with fail
        refine (step_full K7.out rfl rfl HF.out).mono ?_
        rintro e w8 ⟨rfl, k8, c8⟩
        have NX : Hid (SlR w w8 b rb n cnt1 R1 (k + 1)) := Lib.hid ⟨k8.s, REL7.out.i.more (Nat.le_succ k), REL7.out.c.then c8 (fun i hi e => by have := REL7.out.hb; have := REL7.out.hr; have := HQ.out; rcases e with e | e | e <;> omega), REL7.out.hb, REL7.out.hr⟩
        clear k8 c8 K7 REL7
        go_wp2
        first | exact ⟨⟨_, _, rfl, rfl, rfl, rfl, rfl, rfl, NX.out⟩, hlt⟩ | exact ⟨_, _, rfl, rfl, rfl, rfl, rfl, rfl, NX.out⟩
      · have z1 : ((cnt1 : Int) == (n : Int)) = false := by rw [beq_eq_false_iff_ne]; omega
        have hcl : cnt1 < n := by have := REL7.out.i.le; omega
        have st := step_look K7.out rfl rfl hfull
        have ST := Lib.hid st
        clear st hfull
        go_wp2_with fail
        refine ST.out.mono ?_
        rintro e w8 ⟨rfl, k8, c8⟩
        have i1 : itS n cnt1 R1 ⟨0, 0, 0, 0, 0, 0⟩ 1 = (cnt1, R1, ⟨0, 1, 0, cnt1, 0, 0⟩) := by
          show stepM n cnt1 R1 ⟨0, 0, 0, 0, 0, 0⟩ = _
          unfold stepM
          rw [if_neg (by simp), if_pos rfl, if_neg (by omega)]
        obtain ⟨f, hf, f0, f1⟩ := first_free R1 n (by have := REL7.out.i.us; omega)
        have START : Hid (ItR w w8 b rb n cnt1 R1 q 0 1 ∧ 0 = (itS n cnt1 R1 ⟨0, 0, 0, 0, 0, 0⟩ 1).2.2.ss) := Lib.hid (by
          rw [i1]
          exact ⟨⟨by rw [i1]; exact k8, REL7.out.c.then c8 (fun i hi e => by have := REL7.out.hb; have := REL7.out.hr; have := HQ.out; rcases e with e | e | e <;> omega), REL7.out.hb, REL7.out.hr, HQ.out⟩, rfl⟩)
        have II := Lib.hid REL7.out.i
        have F0 := Lib.hid f0
        have F1 := Lib.hid f1
        clear k8 c8 K7 REL7 ST i1 f0 f1 HQ
        go_wp2
        refine wp_mono (saB_loop w b rb n (some xa) len cap zs k q cnt1 f k R1 HV.out h200 n0 n1 II.out (by omega) hcl hf F0.out F1.out _ _ (by omega) ?hI) ?_
        case hI => exact ⟨0, rfl, rfl, rfl, rfl, rfl, rfl, rfl, rfl, rfl, START.out⟩
        clear START
        intro e a' w9 hp
        obtain ⟨rfl, H⟩ := Qx_inv hp
        clear hp
        obtain ⟨t, ds⟩ := a'
        obtain ⟨x, hd', hz, h1, h5, h6, h8, h10, h11, h12, rel⟩ := H
        replace hd' : ds = [] := hd'
        subst hd'
        replace hz : t.size = 86 := hz
        replace h1 : t.getD 1 undef = .slice (some xa) len cap := h1
        replace h5 : t.getD 5 undef = .int .i64 (n : Nat) := h5
        replace h6 : t.getD 6 undef = .pointer (some ⟨b, 0, none⟩) := h6
        replace h8 : t.getD 8 undef = .int .i64 (k : Nat) := h8
        replace h10 : t.getD 10 undef = .pointer (some ⟨q, 0, none⟩) := h10
        replace h11 : t.getD 11 undef = .int .i64 (x : Nat) := h11
        replace h12 : t.getD 12 undef = .int .i64 ((f + 3) : Nat) := h12
        have REL := Lib.hid rel
        clear rel
        refine openFr86 (P := fun t => t.getD 1 undef = .slice (some xa) len cap → t.getD 5 undef = .int .i64 (n : Nat) → t.getD 6 undef = .pointer (some ⟨b, 0, none⟩) → t.getD 8 undef = .int .i64 (k : Nat) → t.getD 10 undef = .pointer (some ⟨q, 0, none⟩) → t.getD 11 undef = .int .i64 (x : Nat) → t.getD 12 undef = .int .i64 ((f + 3) : Nat) → Exit.inBlock 2 _ (.exit 2) ⟨t, []⟩ w9) ?_ t hz h1 h5 h6 h8 h10 h11 h12
        clear h1 h5 h6 h8 h10 h11 h12 hz t
        intro c0 c1 c2 c3 c4 c5 c6 c7 c8 c9 c10 c11 c12 c13 c14 c15 c16 c17 c18 c19 c20 c21 c22 c23 c24 c25 c26 c27 c28 c29 c30 c31 c32 c33 c34 c35 c36 c37 c38 c39 c40 c41 c42 c43 c44 c45 c46 c47 c48 c49 c50 c51 c52 c53 c54 c55 c56 c57 c58 c59 c60 c61 c62 c63 c64 c65 c66 c67 c68 c69 c70 c71 c72 c73 c74 c75 c76 c77 c78 c79 c80 c81 c82 c83 c84 c85 h1 h5 h6 h8 h10 h11 h12
        replace h1 : c1 = .slice (some xa) len cap := h1
        replace h5 : c5 = .int .i64 (n : Nat) := h5
        replace h6 : c6 = .pointer (some ⟨b, 0, none⟩) := h6
        replace h8 : c8 = .int .i64 (k : Nat) := h8
        replace h10 : c10 = .pointer (some ⟨q, 0, none⟩) := h10
        replace h11 : c11 = .int .i64 (x : Nat) := h11
        replace h12 : c12 = .int .i64 ((f + 3) : Nat) := h12
        subst h1
        subst h5
        subst h6
        subst h8
        subst h10
        subst h11
        subst h12
        have e0 := it_work 0 II.out (by omega) hcl hf F0.out F1.out (f + 3)
        have e1 : itAt n cnt1 R1 0 f (f + 3) = (cnt1 + 1, upR R1 f ⟨256 * ((R1 f).gv + 1) + 1, (R1 f).gv + 1, 0⟩, ⟨0, 2, 2, cnt1, f, ((R1 f).gv + 1) * 64 + f⟩) := by
          unfold itAt
          rw [if_neg (by omega), if_neg (by omega), if_neg (by omega)]
        rw [e1] at e0
        have x0 : x = 2 := by rw [REL.out.2, e0]
        subst x0
        have h9 := REL.out.1.sq.s
        rw [e0] at h9
        have i1 : Inv n (cnt1 + 1) R1 1 k := ⟨II.out.ok, II.out.gv, by have := II.out.us; omega, by omega⟩
        have NX : Hid (SlR w w9 b rb n (cnt1 + 1) (upR R1 f ⟨256 * ((R1 f).gv + 1) + 1, (R1 f).gv + 1, 0⟩) (k + 1)) := Lib.hid ⟨h9, i1.given (lk := 0) hf F0.out 0, REL.out.1.c, REL.out.1.hb, REL.out.1.hr⟩
        clear e0 e1 h9 i1 REL
        have hz : (f : Int) + 3 ≤ (n : Int) + 2 := by omega
        go_wp2
        first | exact ⟨⟨_, _, rfl, rfl, rfl, rfl, rfl, rfl, NX.out⟩, hlt⟩ | exact ⟨_, _, rfl, rfl, rfl, rfl, rfl, rfl, NX.out⟩
    · have hzz : (zz : Int) < 128 := by omega
      go_wp2_with fail
      refine (count_of REL.out.s).mono ?_
      rintro e w6 ⟨rfl, s6, c6⟩
      have REL6 := Lib.hid (REL.out.two s6 REL.out.i (Ch_two1 c6))
      clear s6 c6
      go_wp2_with fail
      refine (begin_sq 0 REL6.out.s).mono ?_
      rintro e w7 ⟨q, rfl, hq, k7, c7, z7⟩
      have K7 := Lib.hid k7
      have REL7 := Lib.hid (REL6.out.quiet c7)
      have HQ : Hid (w.heap.size ≤ q) := Lib.hid (by have := REL6.out.c.size; omega)
      clear k7 c7 z7 hq REL6 REL
      by_cases hfull : cnt = n
      · have z1 : ((cnt : Int) == (n : Int)) = true := by rw [beq_iff_eq]; omega
        have HF := Lib.hid hfull
        clear hfull
        go_wp2_with fail
        refine (step_full K7.out rfl rfl HF.out).mono ?_
        rintro e w8 ⟨rfl, k8, c8⟩
        have NX : Hid (SlR w w8 b rb n cnt R (k + 1)) := Lib.hid ⟨k8.s, REL7.out.i.more (Nat.le_succ k), REL7.out.c.then c8 (fun i hi e => by have := REL7.out.hb; have := REL7.out.hr; have := HQ.out; rcases e with e | e | e <;> omega), REL7.out.hb, REL7.out.hr⟩
        clear k8 c8 K7 REL7
        go_wp2
        first | exact ⟨⟨_, _, rfl, rfl, rfl, rfl, rfl, rfl, NX.out⟩, hlt⟩ | exact ⟨_, _, rfl, rfl, rfl, rfl, rfl, rfl, NX.out⟩
      · have z1 : ((cnt : Int) == (n : Int)) = false := by rw [beq_eq_false_iff_ne]; omega
        have hcl : cnt < n := by have := REL7.out.i.le; omega
        have st := step_look K7.out rfl rfl hfull
        have ST := Lib.hid st
        clear st hfull
        go_wp2_with fail
        refine ST.out.mono ?_
        rintro e w8 ⟨rfl, k8, c8⟩
        have i1 : itS n cnt R ⟨0, 0, 0, 0, 0, 0⟩ 1 = (cnt, R, ⟨0, 1, 0, cnt, 0, 0⟩) := by
          show stepM n cnt R ⟨0, 0, 0, 0, 0, 0⟩ = _
          unfold stepM
          rw [if_neg (by simp), if_pos rfl, if_neg (by omega)]
        obtain ⟨f, hf, f0, f1⟩ := first_free R n (by have := REL7.out.i.us; omega)
        have START : Hid (ItR w w8 b rb n cnt R q 0 1 ∧ 0 = (itS n cnt R ⟨0, 0, 0, 0, 0, 0⟩ 1).2.2.ss) := Lib.hid (by
          rw [i1]
          exact ⟨⟨by rw [i1]; exact k8, REL7.out.c.then c8 (fun i hi e => by have := REL7.out.hb; have := REL7.out.hr; have := HQ.out; rcases e with e | e | e <;> omega), REL7.out.hb, REL7.out.hr, HQ.out⟩, rfl⟩)
        have II := Lib.hid REL7.out.i
        have F0 := Lib.hid f0
        have F1 := Lib.hid f1
        clear k8 c8 K7 REL7 ST i1 f0 f1 HQ
        go_wp2
        refine wp_mono (saB_loop w b rb n (some xa) len cap zs k q cnt f k R HV.out h200 n0 n1 II.out (by omega) hcl hf F0.out F1.out _ _ (by omega) ?hI) ?_
        case hI => exact ⟨0, rfl, rfl, rfl, rfl, rfl, rfl, rfl, rfl, rfl, START.out⟩
        clear START
        intro e a' w9 hp
        obtain ⟨rfl, H⟩ := Qx_inv hp
        clear hp
        obtain ⟨t, ds⟩ := a'
        obtain ⟨x, hd', hz, h1, h5, h6, h8, h10, h11, h12, rel⟩ := H
        replace hd' : ds = [] := hd'
        subst hd'
        replace hz : t.size = 86 := hz
        replace h1 : t.getD 1 undef = .slice (some xa) len cap := h1
        replace h5 : t.getD 5 undef = .int .i64 (n : Nat) := h5
        replace h6 : t.getD 6 undef = .pointer (some ⟨b, 0, none⟩) := h6
        replace h8 : t.getD 8 undef = .int .i64 (k : Nat) := h8
        replace h10 : t.getD 10 undef = .pointer (some ⟨q, 0, none⟩) := h10
        replace h11 : t.getD 11 undef = .int .i64 (x : Nat) := h11
        replace h12 : t.getD 12 undef = .int .i64 ((f + 3) : Nat) := h12
        have REL := Lib.hid rel
        clear rel
        refine openFr86 (P := fun t => t.getD 1 undef = .slice (some xa) len cap → t.getD 5 undef = .int .i64 (n : Nat) → t.getD 6 undef = .pointer (some ⟨b, 0, none⟩) → t.getD 8 undef = .int .i64 (k : Nat) → t.getD 10 undef = .pointer (some ⟨q, 0, none⟩) → t.getD 11 undef = .int .i64 (x : Nat) → t.getD 12 undef = .int .i64 ((f + 3) : Nat) → Exit.inBlock 2 _ (.exit 2) ⟨t, []⟩ w9) ?_ t hz h1 h5 h6 h8 h10 h11 h12
        clear h1 h5 h6 h8 h10 h11 h12 hz t
        intro c0 c1 c2 c3 c4 c5 c6 c7 c8 c9 c10 c11 c12 c13 c14 c15 c16 c17 c18 c19 c20 c21 c22 c23 c24 c25 c26 c27 c28 c29 c30 c31 c32 c33 c34 c35 c36 c37 c38 c39 c40 c41 c42 c43 c44 c45 c46 c47 c48 c49 c50 c51 c52 c53 c54 c55 c56 c57 c58 c59 c60 c61 c62 c63 c64 c65 c66 c67 c68 c69 c70 c71 c72 c73 c74 c75 c76 c77 c78 c79 c80 c81 c82 c83 c84 c85 h1 h5 h6 h8 h10 h11 h12
        replace h1 : c1 = .slice (some xa) len cap := h1
        replace h5 : c5 = .int .i64 (n : Nat) := h5
        replace h6 : c6 = .pointer (some ⟨b, 0, none⟩) := h6
        replace h8 : c8 = .int .i64 (k : Nat) := h8
        replace h10 : c10 = .pointer (some ⟨q, 0, none⟩) := h10
        replace h11 : c11 = .int .i64 (x : Nat) := h11
        replace h12 : c12 = .int .i64 ((f + 3) : Nat) := h12
        subst h1
        subst h5
        subst h6
        subst h8
        subst h10
        subst h11
        subst h12
        have e0 := it_work 0 II.out (by omega) hcl hf F0.out F1.out (f + 3)
        have e1 : itAt n cnt R 0 f (f + 3) = (cnt + 1, upR R f ⟨256 * ((R f).gv + 1) + 1, (R f).gv + 1, 0⟩, ⟨0, 2, 2, cnt, f, ((R f).gv + 1) * 64 + f⟩) := by
          unfold itAt
          rw [if_neg (by omega), if_neg (by omega), if_neg (by omega)]
        rw [e1] at e0
        have x0 : x = 2 := by rw [REL.out.2, e0]
        subst x0
        have h9 := REL.out.1.sq.s
        rw [e0] at h9
        have i1 : Inv n (cnt + 1) R 1 k := ⟨II.out.ok, II.out.gv, by have := II.out.us; omega, by omega⟩
        have NX : Hid (SlR w w9 b rb n (cnt + 1) (upR R f ⟨256 * ((R f).gv + 1) + 1, (R f).gv + 1, 0⟩) (k + 1)) := Lib.hid ⟨h9, i1.given (lk := 0) hf F0.out 0, REL.out.1.c, REL.out.1.hb, REL.out.1.hr⟩
        clear e0 e1 h9 i1 REL
        have hz : (f : Int) + 3 ≤ (n : Int) + 2 := by omega
        go_wp2
        first | exact ⟨⟨_, _, rfl, rfl, rfl, rfl, rfl, rfl, NX.out⟩, hlt⟩ | exact ⟨_, _, rfl, rfl, rfl, rfl, rfl, rfl, NX.out⟩
  · obtain rfl : k = len := by omega
    go_wp2
    exact ⟨by first | rfl | trivial, ⟨_, _, rfl, rfl, rfl, rfl, rfl, rfl, REL.out⟩, by first | rfl | trivial⟩
theorem saA_loop (w : World) (b rb n : Nat) (ad : Option Addr) (len cap : Nat) (zs : List Int) (hv : IsRow .u8 w ad len cap zs) (h200 : len ≤ 200) (n0 : 0 < n) (n1 : n ≤ 64) (a : Act) (wr : World) (hb : 0 ≤ len) (H : saAI w b rb n ad len cap zs 0 a wr) :
    Code.wp Try.prog (.loop (loopIn 0 Try.f5)) (Qx 0 (fun a' w' => saAI w b rb n ad len cap zs len a' w')) a wr := by
  refine wp_loop (fun a' wr => ∃ k, k ≤ len ∧ saAI w b rb n ad len cap zs k a' wr) (fun a' _ => len - (intOf (a'.tmps.getD 8 undef)).toNat) ⟨0, hb, H⟩ ?_
  rintro a' wr ⟨k, hk, h⟩
  refine wp_mono (saA_round w b rb n ad len cap zs hv h200 n0 n1 a' wr hk h) ?_
  intro e a2 w2 hp
  cases e with
  | normal =>
    refine ⟨⟨k + 1, by have := hp.2; omega, hp.1⟩, ?_⟩
    rw [saAI_ctr w b rb n ad len cap zs h, saAI_ctr w b rb n ad len cap zs hp.1]
    have := hp.2
    simp only [intOf, Int.toNat_natCast]
    omega
  | exit n => exact ⟨hp.1, hp.2.2 ▸ hp.2.1⟩
  | _ => exact hp.elim
set_option maxRecDepth 100000 in
set_option maxHeartbeats 0 in
theorem sa_end (w : World) (b rb n : Nat) (ad : Option Addr) (len cap : Nat) (zs : List Int) (hv : IsRow .u8 w ad len cap zs) (h200 : len ≤ 200) (n0 : 0 < n) (n1 : n ≤ 64)  (a : Act) (wr : World) (H : saAI w b rb n ad len cap zs len a wr) :
    Code.wp Try.prog (aftIn 0 Try.f5) (bodyPost Try.prog Try.f5 (fun e w' => e = .returned (.bool true) ∧ Below w.heap.size w w')) a wr := by
  obtain ⟨t, ds⟩ := a
  obtain ⟨cnt, R, hd', hz, h1, h5, h6, h8, rel⟩ := H
  replace hd' : ds = [] := hd'
  subst hd'
  replace hz : t.size = 86 := hz
  replace h1 : t.getD 1 undef = .slice ad len cap := h1
  replace h5 : t.getD 5 undef = .int .i64 (n : Nat) := h5
  replace h6 : t.getD 6 undef = .pointer (some ⟨b, 0, none⟩) := h6
  replace h8 : t.getD 8 undef = .int .i64 (len : Nat) := h8
  have REL := Lib.hid rel
  clear rel
  refine openFr86 (P := fun t => t.getD 1 undef = .slice ad len cap → t.getD 5 undef = .int .i64 (n : Nat) → t.getD 6 undef = .pointer (some ⟨b, 0, none⟩) → t.getD 8 undef = .int .i64 (len : Nat) → Code.wp Try.prog (aftIn 0 Try.f5) (bodyPost Try.prog Try.f5 (fun e w' => e = .returned (.bool true) ∧ Below w.heap.size w w')) ⟨t, []⟩ wr) ?_ t hz h1 h5 h6 h8
  clear h1 h5 h6 h8 hz t
  intro c0 c1 c2 c3 c4 c5 c6 c7 c8 c9 c10 c11 c12 c13 c14 c15 c16 c17 c18 c19 c20 c21 c22 c23 c24 c25 c26 c27 c28 c29 c30 c31 c32 c33 c34 c35 c36 c37 c38 c39 c40 c41 c42 c43 c44 c45 c46 c47 c48 c49 c50 c51 c52 c53 c54 c55 c56 c57 c58 c59 c60 c61 c62 c63 c64 c65 c66 c67 c68 c69 c70 c71 c72 c73 c74 c75 c76 c77 c78 c79 c80 c81 c82 c83 c84 c85 h1 h5 h6 h8
  replace h1 : c1 = .slice ad len cap := h1
  replace h5 : c5 = .int .i64 (n : Nat) := h5
  replace h6 : c6 = .pointer (some ⟨b, 0, none⟩) := h6
  replace h8 : c8 = .int .i64 (len : Nat) := h8
  subst h1
  subst h5
  subst h6
  subst h8
  conv => arg 2; whnf
  clear hv
  go_wp2
  go_ret
  exact ⟨rfl, REL.out.c.below (Nat.le_refl _) (fun _ _ e => e.elim)⟩
end Go.Proofs.Ytjhmmfdmoalfmaa
