/-
  LockAlone: the loop over the acts.
-/
import Derived.Test.YtcfidamhenkdiaaLoCode
import Derived.Test.YtcfidamhenkdiaaHeld
import Derived.Deep.QuietTactic
import Derived.BigQuiet
import Derived.Deep.Cut
import Derived.Deep.CutRange
import Derived.Deep.CutBlock
import Derived.RegionTactic
import Derived.BigRegion
namespace Go.Proofs.Ytcfidamhenkdiaa
open Go.RowKit
set_option linter.unusedVariables false
set_option linter.unusedSimpArgs false
attribute [local go_sem] Oper.semAt_some

/-- who has it, if somebody has it -/
def Has (q : Lk) (has : Int) : Prop := q.t = true → q.o = has ∧ 0 ≤ q.o
def LoR (w W : World) (b : Nat) (q : Lk) (has : Int) (m : Nat) : Prop := LkR w W b q m ∧ Has q has
/-- what holds at the head of the loop -/
def loAI (w : World) (b : Nat) (ad : Option Addr) (len cap : Nat) (k : Nat) (a : Act) (wr : World) : Prop :=
  ∃ (q : Lk) (has : Int), a.defers = [] ∧ a.tmps.size = 99 ∧ a.tmps.getD 0 undef = .slice ad len cap ∧ a.tmps.getD 3 undef = .pointer (some ⟨b, 0, none⟩) ∧ a.tmps.getD 4 undef = .int .i64 has ∧ a.tmps.getD 5 undef = .bool q.t ∧ a.tmps.getD 6 undef = .int .i64 (k : Nat) ∧ LoR w wr b q has k
theorem loAI_ctr {k : Nat} (w : World) (b : Nat) (ad : Option Addr) (len cap : Nat) {a : Act} {wr : World} (H : loAI w b ad len cap k a wr) : a.tmps.getD 6 undef = .int .i64 (k : Nat) := by
  obtain ⟨q, has, -, -, -, -, -, -, h, -⟩ := H
  exact h
set_option maxRecDepth 100000 in
set_option maxHeartbeats 0 in
theorem loA_round {k : Nat} (w : World) (b : Nat) (ad : Option Addr) (len cap : Nat) (hv : IsTab [.i .i64, .b] w ad len cap) (h200 : len ≤ 200) (a : Act) (wr : World) (hk : k ≤ len) (H : loAI w b ad len cap k a wr) :
    Code.wp Try.prog (loopIn 0 Try.f4) (Exit.then (fun a' w' => loAI w b ad len cap (k + 1) a' w' ∧ k < len) (QxR 0 (fun a' w' => loAI w b ad len cap k a' w' ∧ k = len) (RetT 2 w))) a wr := by
  obtain ⟨t, ds⟩ := a
  obtain ⟨q, has, hd', hz, h0, h3, h4, h5, h6, rel⟩ := H
  replace hd' : ds = [] := hd'
  subst hd'
  replace hz : t.size = 99 := hz
  replace h0 : t.getD 0 undef = .slice ad len cap := h0
  replace h3 : t.getD 3 undef = .pointer (some ⟨b, 0, none⟩) := h3
  replace h4 : t.getD 4 undef = .int .i64 has := h4
  replace h5 : t.getD 5 undef = .bool q.t := h5
  replace h6 : t.getD 6 undef = .int .i64 (k : Nat) := h6
  have REL := Lib.hid rel
  clear rel
  refine openFr99 (P := fun t => t.getD 0 undef = .slice ad len cap → t.getD 3 undef = .pointer (some ⟨b, 0, none⟩) → t.getD 4 undef = .int .i64 has → t.getD 5 undef = .bool q.t → t.getD 6 undef = .int .i64 (k : Nat) → Code.wp Try.prog (loopIn 0 Try.f4) (Exit.then (fun a' w' => loAI w b ad len cap (k + 1) a' w' ∧ k < len) (QxR 0 (fun a' w' => loAI w b ad len cap k a' w' ∧ k = len) (RetT 2 w))) ⟨t, []⟩ wr) ?_ t hz h0 h3 h4 h5 h6
  clear h0 h3 h4 h5 h6 hz t
  intro c0 c1 c2 c3 c4 c5 c6 c7 c8 c9 c10 c11 c12 c13 c14 c15 c16 c17 c18 c19 c20 c21 c22 c23 c24 c25 c26 c27 c28 c29 c30 c31 c32 c33 c34 c35 c36 c37 c38 c39 c40 c41 c42 c43 c44 c45 c46 c47 c48 c49 c50 c51 c52 c53 c54 c55 c56 c57 c58 c59 c60 c61 c62 c63 c64 c65 c66 c67 c68 c69 c70 c71 c72 c73 c74 c75 c76 c77 c78 c79 c80 c81 c82 c83 c84 c85 c86 c87 c88 c89 c90 c91 c92 c93 c94 c95 c96 c97 c98 h0 h3 h4 h5 h6
  replace h0 : c0 = .slice ad len cap := h0
  replace h3 : c3 = .pointer (some ⟨b, 0, none⟩) := h3
  replace h4 : c4 = .int .i64 has := h4
  replace h5 : c5 = .bool q.t := h5
  replace h6 : c6 = .int .i64 (k : Nat) := h6
  subst h0
  subst h3
  subst h4
  subst h5
  subst h6
  conv => arg 2; whnf
  by_cases hlt : k < len
  · obtain ⟨x, who, lv, hx, cp1, cp2, q0, q1, b1, b2⟩ := tab_act10 hv hlt
    subst hx
    replace q0 := REL.out.1.c.keeps q0 (fun e => e)
    replace q1 := REL.out.1.c.keeps q1 (fun e => e)
    have hltz : (k : Int) < (len : Int) := by omega
    have e0 : ((k : Int)).toNat = k := by omega
    have hk0 : (0 : Int) ≤ (k : Int) := by omega
    have RELB := Lib.hid (REL.out.1.turned (m' := k) (REL.out.1.l.kept (S := Nil) ((Ch.refl Nil wr).alloc (Obj.cells #[.int .i64 who, .bool lv] 30)) (fun e => e)) ((Ch.refl _ _).alloc _) REL.out.1.n)
    have J := REL.out.2
    have p0 : (wr.alloc (Obj.cells #[.int .i64 who, .bool lv] 30)).cell? ⟨wr.heap.size, 0, none⟩ = some (.int .i64 who) := by simp [go_sem]
    have p1 : (wr.alloc (Obj.cells #[.int .i64 who, .bool lv] 30)).cell? ⟨wr.heap.size, 1, none⟩ = some (.bool lv) := by simp [go_sem]
    have nb : wr.heap.size ≠ b := by have := REL.out.1.l.lt; omega
    clear REL
    obtain ⟨o, t, n⟩ := q
    have hnb : n ≤ k := RELB.out.n
    go_upto_region 13 with (fail)
    clear q0 q1
    obtain ⟨bb, hbb⟩ : ∃ bb, bb = wr.heap.size := ⟨_, rfl⟩
    generalize wr.alloc (Obj.cells #[.int .i64 who, .bool lv] 30) = W0 at RELB p0 p1 ⊢
    rw [← hbb] at p0 p1 nb ⊢
    clear hbb
    have q0 := p0
    have q1 := p1
    clear p0 p1
    by_cases hbig : 1099511627776 < who
    · go_wp2
      exact ⟨rfl, rfl, RELB.out.c⟩
    · have hsm : who ≤ 1099511627776 := by omega
      cases lv
      · have TR := Lib.hid (try_of who RELB.out.l (by show n ≤ 1000000; omega))
        cases t
        · by_cases h0 : 0 ≤ who
          · have so : opn false who = true := by unfold opn; simp [h0]
            have lk : tryK ⟨o, false, n⟩ who = ⟨who, true, n + 1⟩ := tryK_yes so
            have w0 : ¬ who < 0 := by omega
            replace TR : Hid _ := TR
            go_wp2_with fail
            refine TR.out.mono ?_
            rintro e w5 ⟨rfl, h5, c5⟩
            rw [lk] at h5
            rw [show opn (Lk.mk o false n).t who = true from so]
            have NX := Lib.hid (RELB.out.turned (m' := k + 1) h5 c5 (by show n + 1 ≤ k + 1; omega))
            have JX : Hid (Has ⟨who, true, n + 1⟩ who) := Lib.hid (fun _ => ⟨rfl, h0⟩)
            replace q0 := c5.keeps q0 nb
            have o9 : (who != who) = false := by simp
            clear h5 c5 TR RELB q1
            go_upto_region 25 with (fail)
            clear q0
            go_wp2_with fail
            refine (owner_of NX.out.l).mono ?_
            rintro e w6 ⟨rfl, h6, c6⟩
            have NY := Lib.hid (NX.out.turned (m' := k + 1) h6 c6 NX.out.n)
            clear h6 c6 NX
            go_wp2
            first | exact ⟨⟨⟨who, true, n + 1⟩, who, rfl, rfl, rfl, rfl, rfl, rfl, rfl, ⟨NY.out, JX.out⟩⟩, hlt⟩ | exact ⟨⟨who, true, n + 1⟩, who, rfl, rfl, rfl, rfl, rfl, rfl, rfl, ⟨NY.out, JX.out⟩⟩
          · have so : opn false who = false := by unfold opn; simp; omega
            have lk : tryK ⟨o, false, n⟩ who = ⟨o, false, n⟩ := tryK_no so
            go_wp2_with fail
            refine TR.out.mono ?_
            rintro e w5 ⟨rfl, h5, c5⟩
            rw [lk] at h5
            rw [show opn (Lk.mk o false n).t who = false from so]
            have NX := Lib.hid (RELB.out.turned (m' := k + 1) h5 c5 (by show n ≤ k + 1; omega))
            have JX : Hid (Has ⟨o, false, n⟩ has) := Lib.hid (fun e => by simp at e)
            replace q0 := c5.keeps q0 nb
            clear h5 c5 TR RELB q1
            go_upto_region 25 with (fail)
            clear q0
            go_wp2_with fail
            refine (owner_of NX.out.l).mono ?_
            rintro e w6 ⟨rfl, h6, c6⟩
            have NY := Lib.hid (NX.out.turned (m' := k + 1) h6 c6 NX.out.n)
            clear h6 c6 NX
            go_wp2
            first | exact ⟨⟨⟨o, false, n⟩, has, rfl, rfl, rfl, rfl, rfl, rfl, rfl, ⟨NY.out, JX.out⟩⟩, hlt⟩ | exact ⟨⟨o, false, n⟩, has, rfl, rfl, rfl, rfl, rfl, rfl, rfl, ⟨NY.out, JX.out⟩⟩
        · obtain ⟨rfl, o0⟩ := J rfl
          have so : opn true who = false := by unfold opn; simp
          have lk : tryK ⟨o, true, n⟩ who = ⟨o, true, n⟩ := tryK_no so
          go_wp2_with fail
          refine TR.out.mono ?_
          rintro e w5 ⟨rfl, h5, c5⟩
          rw [lk] at h5
          rw [show opn (Lk.mk o true n).t who = false from so]
          have NX := Lib.hid (RELB.out.turned (m' := k + 1) h5 c5 (by show n ≤ k + 1; omega))
          have JX : Hid (Has ⟨o, true, n⟩ o) := Lib.hid (fun _ => ⟨rfl, o0⟩)
          replace q0 := c5.keeps q0 nb
          have o9 : (o != o) = false := by simp
          clear h5 c5 TR RELB q1
          go_upto_region 25 with (fail)
          clear q0
          go_wp2_with fail
          refine (owner_of NX.out.l).mono ?_
          rintro e w6 ⟨rfl, h6, c6⟩
          have NY := Lib.hid (NX.out.turned (m' := k + 1) h6 c6 NX.out.n)
          clear h6 c6 NX
          go_wp2
          first | exact ⟨⟨⟨o, true, n⟩, o, rfl, rfl, rfl, rfl, rfl, rfl, rfl, ⟨NY.out, JX.out⟩⟩, hlt⟩ | exact ⟨⟨o, true, n⟩, o, rfl, rfl, rfl, rfl, rfl, rfl, rfl, ⟨NY.out, JX.out⟩⟩
      · have TR := Lib.hid (leave_of who RELB.out.l)
        obtain ⟨z, hzz⟩ : ∃ z, leaveE ⟨o, t, n⟩ who = z := ⟨_, rfl⟩
        rw [hzz] at TR
        cases t
        · have z0 : (z == 0) = false := by
            rw [← hzz, beq_eq_false_iff_ne]; unfold leaveE lvs; simp; split <;> omega
          have lk : leaveK ⟨o, false, n⟩ who = ⟨o, false, n⟩ := leaveK_no (by unfold goes lvs; simp)
          clear hzz
          go_wp2_with fail
          refine TR.out.mono ?_
          rintro e w5 ⟨rfl, h5, c5⟩
          rw [lk] at h5
          have NX := Lib.hid (RELB.out.turned (m' := k + 1) h5 c5 (by show n ≤ k + 1; omega))
          have JX : Hid (Has ⟨o, false, n⟩ has) := Lib.hid (fun e => by simp at e)
          clear h5 c5 TR RELB q0 q1
          go_wp2_with fail
          refine (owner_of NX.out.l).mono ?_
          rintro e w6 ⟨rfl, h6, c6⟩
          have NY := Lib.hid (NX.out.turned (m' := k + 1) h6 c6 NX.out.n)
          clear h6 c6 NX
          go_wp2
          first | exact ⟨⟨⟨o, false, n⟩, has, rfl, rfl, rfl, rfl, rfl, rfl, rfl, ⟨NY.out, JX.out⟩⟩, hlt⟩ | exact ⟨⟨o, false, n⟩, has, rfl, rfl, rfl, rfl, rfl, rfl, rfl, ⟨NY.out, JX.out⟩⟩
        · obtain ⟨rfl, o0⟩ := J rfl
          by_cases ho : o = who
          · subst ho
            have z0 : (z == 0) = true := by
              rw [← hzz, beq_iff_eq]; unfold leaveE lvs; simp; omega
            have lk : leaveK ⟨o, true, n⟩ o = ⟨0, false, n⟩ := leaveK_yes (by unfold goes lvs; simp [o0])
            have oo : (o == o) = true := by simp
            clear hzz
            go_wp2_with fail
            refine TR.out.mono ?_
            rintro e w5 ⟨rfl, h5, c5⟩
            rw [lk] at h5
            have NX := Lib.hid (RELB.out.turned (m' := k + 1) h5 c5 (by show n ≤ k + 1; omega))
            have JX : Hid (Has ⟨0, false, n⟩ o) := Lib.hid (fun e => by simp at e)
            replace q0 := c5.keeps q0 nb
            clear h5 c5 TR RELB q1
            go_upto_region 25 with (fail)
            clear q0
            go_wp2_with fail
            refine (owner_of NX.out.l).mono ?_
            rintro e w6 ⟨rfl, h6, c6⟩
            have NY := Lib.hid (NX.out.turned (m' := k + 1) h6 c6 NX.out.n)
            clear h6 c6 NX
            go_wp2
            first | exact ⟨⟨⟨0, false, n⟩, o, rfl, rfl, rfl, rfl, rfl, rfl, rfl, ⟨NY.out, JX.out⟩⟩, hlt⟩ | exact ⟨⟨0, false, n⟩, o, rfl, rfl, rfl, rfl, rfl, rfl, rfl, ⟨NY.out, JX.out⟩⟩
          · have z0 : (z == 0) = false := by
              rw [← hzz, beq_eq_false_iff_ne]; unfold leaveE lvs; simp [ho]; split <;> omega
            have lk : leaveK ⟨o, true, n⟩ who = ⟨o, true, n⟩ := leaveK_no (by unfold goes lvs; simp [ho])
            have oo : (o == who) = false := by rw [beq_eq_false_iff_ne]; exact ho
            clear hzz
            go_wp2_with fail
            refine TR.out.mono ?_
            rintro e w5 ⟨rfl, h5, c5⟩
            rw [lk] at h5
            have NX := Lib.hid (RELB.out.turned (m' := k + 1) h5 c5 (by show n ≤ k + 1; omega))
            have JX : Hid (Has ⟨o, true, n⟩ o) := Lib.hid (fun _ => ⟨rfl, o0⟩)
            replace q0 := c5.keeps q0 nb
            have o9 : (o != o) = false := by simp
            clear h5 c5 TR RELB q1
            go_upto_region 25 with (fail)
            clear q0
            go_wp2_with fail
            refine (owner_of NX.out.l).mono ?_
            rintro e w6 ⟨rfl, h6, c6⟩
            have NY := Lib.hid (NX.out.turned (m' := k + 1) h6 c6 NX.out.n)
            clear h6 c6 NX
            go_wp2
            first | exact ⟨⟨⟨o, true, n⟩, o, rfl, rfl, rfl, rfl, rfl, rfl, rfl, ⟨NY.out, JX.out⟩⟩, hlt⟩ | exact ⟨⟨o, true, n⟩, o, rfl, rfl, rfl, rfl, rfl, rfl, rfl, ⟨NY.out, JX.out⟩⟩
  · have hge : ¬ (k : Int) < (len : Int) := by omega
    obtain rfl : k = len := by omega
    go_wp2
    first | exact ⟨by first | rfl | trivial, ⟨_, _, rfl, rfl, rfl, rfl, rfl, rfl, rfl, REL.out⟩, by first | rfl | trivial⟩ | exact ⟨by first | rfl | trivial, ⟨_, _, rfl, rfl, rfl, rfl, rfl, rfl, rfl, REL.out⟩⟩ | exact ⟨_, _, rfl, rfl, rfl, rfl, rfl, rfl, rfl, REL.out⟩ | exact ⟨⟨_, _, rfl, rfl, rfl, rfl, rfl, rfl, rfl, REL.out⟩, by first | rfl | trivial⟩
theorem loA_loop (w : World) (b : Nat) (ad : Option Addr) (len cap : Nat) (hv : IsTab [.i .i64, .b] w ad len cap) (h200 : len ≤ 200) (a : Act) (wr : World) (hb : 0 ≤ len) (H : loAI w b ad len cap 0 a wr) :
    Code.wp Try.prog (.loop (loopIn 0 Try.f4)) (QxR 0 (fun a' w' => loAI w b ad len cap len a' w') (RetT 2 w)) a wr := by
  refine wp_loop (fun a' wr => ∃ k, k ≤ len ∧ loAI w b ad len cap k a' wr) (fun a' _ => len - (intOf (a'.tmps.getD 6 undef)).toNat) ⟨0, hb, H⟩ ?_
  rintro a' wr ⟨k, hk, h⟩
  refine wp_mono (loA_round w b ad len cap hv h200 a' wr hk h) ?_
  intro e a2 w2 hp
  cases e with
  | normal =>
    refine ⟨⟨k + 1, by have := hp.2; omega, hp.1⟩, ?_⟩
    rw [loAI_ctr w b ad len cap h, loAI_ctr w b ad len cap hp.1]
    have := hp.2
    simp only [intOf, Int.toNat_natCast]
    omega
  | exit n => exact ⟨hp.1, hp.2.2 ▸ hp.2.1⟩
  | ret => exact hp
  | _ => exact hp.elim
set_option maxRecDepth 100000 in
set_option maxHeartbeats 0 in
theorem lo_end (w : World) (b : Nat) (ad : Option Addr) (len cap : Nat) (hv : IsTab [.i .i64, .b] w ad len cap) (h200 : len ≤ 200)  (a : Act) (wr : World) (H : loAI w b ad len cap len a wr) :
    Code.wp Try.prog (aftIn 0 Try.f4) (bodyPost Try.prog Try.f4 (fun e w' => e = .returned (.bool true) ∧ Below w.heap.size w w')) a wr := by
  obtain ⟨t, ds⟩ := a
  obtain ⟨q, has, hd', hz, h0, h3, h4, h5, h6, rel⟩ := H
  replace hd' : ds = [] := hd'
  subst hd'
  replace hz : t.size = 99 := hz
  replace h0 : t.getD 0 undef = .slice ad len cap := h0
  replace h3 : t.getD 3 undef = .pointer (some ⟨b, 0, none⟩) := h3
  replace h4 : t.getD 4 undef = .int .i64 has := h4
  replace h5 : t.getD 5 undef = .bool q.t := h5
  replace h6 : t.getD 6 undef = .int .i64 (len : Nat) := h6
  have REL := Lib.hid rel
  clear rel
  refine openFr99 (P := fun t => t.getD 0 undef = .slice ad len cap → t.getD 3 undef = .pointer (some ⟨b, 0, none⟩) → t.getD 4 undef = .int .i64 has → t.getD 5 undef = .bool q.t → t.getD 6 undef = .int .i64 (len : Nat) → Code.wp Try.prog (aftIn 0 Try.f4) (bodyPost Try.prog Try.f4 (fun e w' => e = .returned (.bool true) ∧ Below w.heap.size w w')) ⟨t, []⟩ wr) ?_ t hz h0 h3 h4 h5 h6
  clear h0 h3 h4 h5 h6 hz t
  intro c0 c1 c2 c3 c4 c5 c6 c7 c8 c9 c10 c11 c12 c13 c14 c15 c16 c17 c18 c19 c20 c21 c22 c23 c24 c25 c26 c27 c28 c29 c30 c31 c32 c33 c34 c35 c36 c37 c38 c39 c40 c41 c42 c43 c44 c45 c46 c47 c48 c49 c50 c51 c52 c53 c54 c55 c56 c57 c58 c59 c60 c61 c62 c63 c64 c65 c66 c67 c68 c69 c70 c71 c72 c73 c74 c75 c76 c77 c78 c79 c80 c81 c82 c83 c84 c85 c86 c87 c88 c89 c90 c91 c92 c93 c94 c95 c96 c97 c98 h0 h3 h4 h5 h6
  replace h0 : c0 = .slice ad len cap := h0
  replace h3 : c3 = .pointer (some ⟨b, 0, none⟩) := h3
  replace h4 : c4 = .int .i64 has := h4
  replace h5 : c5 = .bool q.t := h5
  replace h6 : c6 = .int .i64 (len : Nat) := h6
  subst h0
  subst h3
  subst h4
  subst h5
  subst h6
  conv => arg 2; whnf
  go_wp2
  go_ret
  exact ⟨rfl, REL.out.1.c.below (Nat.le_refl _) (fun _ _ e => e.elim)⟩
end Go.Proofs.Ytcfidamhenkdiaa
