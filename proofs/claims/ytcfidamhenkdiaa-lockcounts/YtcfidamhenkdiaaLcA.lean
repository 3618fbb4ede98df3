/-
  LockCounts: the loop over the acts.
-/
import Derived.Test.YtcfidamhenkdiaaLcCode
import Derived.Test.YtcfidamhenkdiaaHeld
import Derived.Deep.QuietTactic
import Derived.BigQuiet
import Derived.Deep.Cut
import Derived.Deep.CutRange
import Derived.Deep.CutBlock
import Derived.RegionTactic
import Derived.BigRegion
namespace Go.Proofs.Ytcfidamhenkdiaa
open Go.RowKit
set_option linter.unusedVariables false
set_option linter.unusedSimpArgs false
attribute [local go_sem] Oper.semAt_some

/-- what holds at the head of the loop -/
def lcAI (w : World) (b : Nat) (ad : Option Addr) (len cap : Nat) (k : Nat) (a : Act) (wr : World) : Prop :=
  ∃ (q : Lk), a.defers = [] ∧ a.tmps.size = 51 ∧ a.tmps.getD 0 undef = .slice ad len cap ∧ a.tmps.getD 3 undef = .pointer (some ⟨b, 0, none⟩) ∧ a.tmps.getD 4 undef = .int .i64 (q.n : Nat) ∧ a.tmps.getD 5 undef = .int .i64 (k : Nat) ∧ LkR w wr b q k
theorem lcAI_ctr {k : Nat} (w : World) (b : Nat) (ad : Option Addr) (len cap : Nat) {a : Act} {wr : World} (H : lcAI w b ad len cap k a wr) : a.tmps.getD 5 undef = .int .i64 (k : Nat) := by
  obtain ⟨q, -, -, -, -, -, h, -⟩ := H
  exact h
set_option maxRecDepth 100000 in
set_option maxHeartbeats 0 in
theorem lcA_round {k : Nat} (w : World) (b : Nat) (ad : Option Addr) (len cap : Nat) (hv : IsTab [.i .i64, .b] w ad len cap) (h200 : len ≤ 200) (a : Act) (wr : World) (hk : k ≤ len) (H : lcAI w b ad len cap k a wr) :
    Code.wp Try.prog (loopIn 0 Try.f6) (Exit.then (fun a' w' => lcAI w b ad len cap (k + 1) a' w' ∧ k < len) (QxR 0 (fun a' w' => lcAI w b ad len cap k a' w' ∧ k = len) (RetT 2 w))) a wr := by
  obtain ⟨t, ds⟩ := a
  obtain ⟨q, hd', hz, h0, h3, h4, h5, rel⟩ := H
  replace hd' : ds = [] := hd'
  subst hd'
  replace hz : t.size = 51 := hz
  replace h0 : t.getD 0 undef = .slice ad len cap := h0
  replace h3 : t.getD 3 undef = .pointer (some ⟨b, 0, none⟩) := h3
  replace h4 : t.getD 4 undef = .int .i64 (q.n : Nat) := h4
  replace h5 : t.getD 5 undef = .int .i64 (k : Nat) := h5
  have REL := Lib.hid rel
  clear rel
  refine openFr51 (P := fun t => t.getD 0 undef = .slice ad len cap → t.getD 3 undef = .pointer (some ⟨b, 0, none⟩) → t.getD 4 undef = .int .i64 (q.n : Nat) → t.getD 5 undef = .int .i64 (k : Nat) → Code.wp Try.prog (loopIn 0 Try.f6) (Exit.then (fun a' w' => lcAI w b ad len cap (k + 1) a' w' ∧ k < len) (QxR 0 (fun a' w' => lcAI w b ad len cap k a' w' ∧ k = len) (RetT 2 w))) ⟨t, []⟩ wr) ?_ t hz h0 h3 h4 h5
  clear h0 h3 h4 h5 hz t
  intro c0 c1 c2 c3 c4 c5 c6 c7 c8 c9 c10 c11 c12 c13 c14 c15 c16 c17 c18 c19 c20 c21 c22 c23 c24 c25 c26 c27 c28 c29 c30 c31 c32 c33 c34 c35 c36 c37 c38 c39 c40 c41 c42 c43 c44 c45 c46 c47 c48 c49 c50 h0 h3 h4 h5
  replace h0 : c0 = .slice ad len cap := h0
  replace h3 : c3 = .pointer (some ⟨b, 0, none⟩) := h3
  replace h4 : c4 = .int .i64 (q.n : Nat) := h4
  replace h5 : c5 = .int .i64 (k : Nat) := h5
  subst h0
  subst h3
  subst h4
  subst h5
  conv => arg 2; whnf
  by_cases hlt : k < len
  · obtain ⟨x, who, lv, hx, cp1, cp2, q0, q1, b1, b2⟩ := tab_act10 hv hlt
    subst hx
    replace q0 := REL.out.c.keeps q0 (fun e => e)
    replace q1 := REL.out.c.keeps q1 (fun e => e)
    have hltz : (k : Int) < (len : Int) := by omega
    have e0 : ((k : Int)).toNat = k := by omega
    have hk0 : (0 : Int) ≤ (k : Int) := by omega
    have hnb := REL.out.n
    by_cases hbig : 1099511627776 < who
    · go_wp2
      exact ⟨rfl, rfl, REL.out.c⟩
    · have hsm : who ≤ 1099511627776 := by omega
      cases lv
      · have TR := Lib.hid (try_of who REL.out.l (by omega))
        obtain ⟨so, hso⟩ : ∃ so, opn q.t who = so := ⟨_, rfl⟩
        rw [hso] at TR
        go_wp2_with fail
        refine TR.out.mono ?_
        rintro e w5 ⟨rfl, h5, c5⟩
        clear TR q0 q1
        cases so
        · rw [tryK_no hso] at h5
          have NX := Lib.hid (REL.out.turned (m' := k + 1) h5 c5 (by omega))
          clear h5 c5 hso
          go_wp2_with fail
          refine (turns_of NX.out.l).mono ?_
          rintro e w6 ⟨rfl, h6, c6⟩
          have NY := Lib.hid (NX.out.turned (m' := k + 1) h6 c6 NX.out.n)
          have yz : ∀ z : Nat, ((z : Int) != (z : Int)) = false := fun z => by rw [bne_eq_false_iff_eq]
          clear h6 c6 NX
          go_wp2
          first | exact ⟨⟨_, rfl, rfl, rfl, rfl, rfl, rfl, NY.out⟩, hlt⟩ | exact ⟨_, rfl, rfl, rfl, rfl, rfl, rfl, NY.out⟩
        · rw [tryK_yes hso] at h5
          have NX := Lib.hid (REL.out.turned (m' := k + 1) h5 c5 (by show q.n + 1 ≤ k + 1; omega))
          clear h5 c5 hso
          go_wp2_with fail
          refine (turns_of NX.out.l).mono ?_
          rintro e w6 ⟨rfl, h6, c6⟩
          have NY := Lib.hid (NX.out.turned (m' := k + 1) h6 c6 NX.out.n)
          have yz : ∀ z : Nat, ((z : Int) != (z : Int)) = false := fun z => by rw [bne_eq_false_iff_eq]
          clear h6 c6 NX
          go_wp2
          first | exact ⟨⟨_, rfl, rfl, rfl, rfl, rfl, rfl, NY.out⟩, hlt⟩ | exact ⟨_, rfl, rfl, rfl, rfl, rfl, rfl, NY.out⟩
      · have TR := Lib.hid (leave_of who REL.out.l)
        go_wp2_with fail
        refine TR.out.mono ?_
        rintro e w5 ⟨rfl, h5, c5⟩
        clear TR q0 q1
        have NX := Lib.hid (REL.out.turned (m' := k + 1) h5 c5 (by rw [leaveK_n]; omega))
        have LN : (leaveK q who).n = q.n := leaveK_n q who
        clear h5 c5
        go_wp2_with fail
        refine (turns_of NX.out.l).mono ?_
        rintro e w6 ⟨rfl, h6, c6⟩
        have NY := Lib.hid (NX.out.turned (m' := k + 1) h6 c6 NX.out.n)
        have yz : ∀ z : Nat, ((z : Int) != (z : Int)) = false := fun z => by rw [bne_eq_false_iff_eq]
        clear h6 c6 NX
        rw [LN]
        go_wp2
        refine ⟨⟨leaveK q who, rfl, rfl, rfl, rfl, ?_, rfl, NY.out⟩, hlt⟩
        rw [LN]; rfl
  · have hge : ¬ (k : Int) < (len : Int) := by omega
    obtain rfl : k = len := by omega
    go_wp2
    first | exact ⟨by first | rfl | trivial, ⟨_, rfl, rfl, rfl, rfl, rfl, rfl, REL.out⟩, by first | rfl | trivial⟩ | exact ⟨by first | rfl | trivial, ⟨_, rfl, rfl, rfl, rfl, rfl, rfl, REL.out⟩⟩ | exact ⟨_, rfl, rfl, rfl, rfl, rfl, rfl, REL.out⟩ | exact ⟨⟨_, rfl, rfl, rfl, rfl, rfl, rfl, REL.out⟩, by first | rfl | trivial⟩
theorem lcA_loop (w : World) (b : Nat) (ad : Option Addr) (len cap : Nat) (hv : IsTab [.i .i64, .b] w ad len cap) (h200 : len ≤ 200) (a : Act) (wr : World) (hb : 0 ≤ len) (H : lcAI w b ad len cap 0 a wr) :
    Code.wp Try.prog (.loop (loopIn 0 Try.f6)) (QxR 0 (fun a' w' => lcAI w b ad len cap len a' w') (RetT 2 w)) a wr := by
  refine wp_loop (fun a' wr => ∃ k, k ≤ len ∧ lcAI w b ad len cap k a' wr) (fun a' _ => len - (intOf (a'.tmps.getD 5 undef)).toNat) ⟨0, hb, H⟩ ?_
  rintro a' wr ⟨k, hk, h⟩
  refine wp_mono (lcA_round w b ad len cap hv h200 a' wr hk h) ?_
  intro e a2 w2 hp
  cases e with
  | normal =>
    refine ⟨⟨k + 1, by have := hp.2; omega, hp.1⟩, ?_⟩
    rw [lcAI_ctr w b ad len cap h, lcAI_ctr w b ad len cap hp.1]
    have := hp.2
    simp only [intOf, Int.toNat_natCast]
    omega
  | exit n => exact ⟨hp.1, hp.2.2 ▸ hp.2.1⟩
  | ret => exact hp
  | _ => exact hp.elim
set_option maxRecDepth 100000 in
set_option maxHeartbeats 0 in
theorem lc_end (w : World) (b : Nat) (ad : Option Addr) (len cap : Nat) (hv : IsTab [.i .i64, .b] w ad len cap) (h200 : len ≤ 200)  (a : Act) (wr : World) (H : lcAI w b ad len cap len a wr) :
    Code.wp Try.prog (aftIn 0 Try.f6) (bodyPost Try.prog Try.f6 (fun e w' => e = .returned (.bool true) ∧ Below w.heap.size w w')) a wr := by
  obtain ⟨t, ds⟩ := a
  obtain ⟨q, hd', hz, h0, h3, h4, h5, rel⟩ := H
  replace hd' : ds = [] := hd'
  subst hd'
  replace hz : t.size = 51 := hz
  replace h0 : t.getD 0 undef = .slice ad len cap := h0
  replace h3 : t.getD 3 undef = .pointer (some ⟨b, 0, none⟩) := h3
  replace h4 : t.getD 4 undef = .int .i64 (q.n : Nat) := h4
  replace h5 : t.getD 5 undef = .int .i64 (len : Nat) := h5
  have REL := Lib.hid rel
  clear rel
  refine openFr51 (P := fun t => t.getD 0 undef = .slice ad len cap → t.getD 3 undef = .pointer (some ⟨b, 0, none⟩) → t.getD 4 undef = .int .i64 (q.n : Nat) → t.getD 5 undef = .int .i64 (len : Nat) → Code.wp Try.prog (aftIn 0 Try.f6) (bodyPost Try.prog Try.f6 (fun e w' => e = .returned (.bool true) ∧ Below w.heap.size w w')) ⟨t, []⟩ wr) ?_ t hz h0 h3 h4 h5
  clear h0 h3 h4 h5 hz t
  intro c0 c1 c2 c3 c4 c5 c6 c7 c8 c9 c10 c11 c12 c13 c14 c15 c16 c17 c18 c19 c20 c21 c22 c23 c24 c25 c26 c27 c28 c29 c30 c31 c32 c33 c34 c35 c36 c37 c38 c39 c40 c41 c42 c43 c44 c45 c46 c47 c48 c49 c50 h0 h3 h4 h5
  replace h0 : c0 = .slice ad len cap := h0
  replace h3 : c3 = .pointer (some ⟨b, 0, none⟩) := h3
  replace h4 : c4 = .int .i64 (q.n : Nat) := h4
  replace h5 : c5 = .int .i64 (len : Nat) := h5
  subst h0
  subst h3
  subst h4
  subst h5
  conv => arg 2; whnf
  go_wp2
  go_ret
  exact ⟨rfl, REL.out.c.below (Nat.le_refl _) (fun _ _ e => e.elim)⟩
end Go.Proofs.Ytcfidamhenkdiaa
