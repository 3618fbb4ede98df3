/-
  PipeMost: the loop over the picks.
-/
import Derived.Test.YtpddiphknpplcaaPmCode
import Derived.Test.YtpddiphknpplcaaHeld
import Derived.Deep.QuietTactic
import Derived.BigQuiet
import Derived.Deep.Cut
import Derived.Deep.CutRange
import Derived.Deep.CutBlock
import Derived.RegionTactic
import Derived.BigRegion
namespace Go.Proofs.Ytpddiphknpplcaa
open Go.RowKit Verge PI
set_option linter.unusedVariables false
set_option linter.unusedSimpArgs false
attribute [local go_sem] Oper.semAt_some

/-- the pipe in the loop: as many things as rounds at most; the spill is no greater than the greatest -/
structure PmR (w wr : World) (pb cb n : Nat) (q : List Int) (m : Nat) (S : Nat → Prop) (k : Nat) : Prop where
  p : PRS w wr pb cb n q m false S
  b : q.length ≤ k
  u : m ≤ k
  s : q.length - n ≤ m
/-- what holds at the head of the loop -/
def pmAI (w : World) (pb cb n : Nat) (ad : Option Addr) (len cap : Nat) (B : Nat → Bool) (k : Nat) (a : Act) (wr : World) : Prop :=
  ∃ (q : List Int) (m : Nat) (S : Nat → Prop), a.defers = [] ∧ a.tmps.size = 59 ∧ a.tmps.getD 1 undef = .slice ad len cap ∧ a.tmps.getD 5 undef = .pointer (some ⟨pb, 0, none⟩) ∧ a.tmps.getD 7 undef = .int .i64 (m : Nat) ∧ a.tmps.getD 8 undef = .int .i64 (k : Nat) ∧ PmR w wr pb cb n q m S k
theorem pmAI_ctr {k : Nat} (w : World) (pb cb n : Nat) (ad : Option Addr) (len cap : Nat) (B : Nat → Bool) {a : Act} {wr : World} (H : pmAI w pb cb n ad len cap B k a wr) : a.tmps.getD 8 undef = .int .i64 (k : Nat) := by
  obtain ⟨q, m, S, -, -, -, -, -, h, -⟩ := H
  exact h
set_option maxRecDepth 100000 in
set_option maxHeartbeats 0 in
theorem pmA_round {k : Nat} (w : World) (pb cb n : Nat) (ad : Option Addr) (len cap : Nat) (B : Nat → Bool) (hv : IsBools w ad len cap B) (h200 : len ≤ 200) (hn1 : 1 ≤ n) (hn2 : n ≤ 16) (a : Act) (wr : World) (hk : k ≤ len) (H : pmAI w pb cb n ad len cap B k a wr) :
    Code.wp Try.prog (loopIn 0 Try.f6) (Exit.then (fun a' w' => pmAI w pb cb n ad len cap B (k + 1) a' w' ∧ k < len) (Qx 0 (fun a' w' => pmAI w pb cb n ad len cap B k a' w' ∧ k = len))) a wr := by
  obtain ⟨t, ds⟩ := a
  obtain ⟨q, m, S, hd', hz, h1, h5, h7, h8, rel⟩ := H
  replace hd' : ds = [] := hd'
  subst hd'
  replace hz : t.size = 59 := hz
  replace h1 : t.getD 1 undef = .slice ad len cap := h1
  replace h5 : t.getD 5 undef = .pointer (some ⟨pb, 0, none⟩) := h5
  replace h7 : t.getD 7 undef = .int .i64 (m : Nat) := h7
  replace h8 : t.getD 8 undef = .int .i64 (k : Nat) := h8
  have REL := Lib.hid rel
  clear rel
  refine openFr59 (P := fun t => t.getD 1 undef = .slice ad len cap → t.getD 5 undef = .pointer (some ⟨pb, 0, none⟩) → t.getD 7 undef = .int .i64 (m : Nat) → t.getD 8 undef = .int .i64 (k : Nat) → Code.wp Try.prog (loopIn 0 Try.f6) (Exit.then (fun a' w' => pmAI w pb cb n ad len cap B (k + 1) a' w' ∧ k < len) (Qx 0 (fun a' w' => pmAI w pb cb n ad len cap B k a' w' ∧ k = len))) ⟨t, []⟩ wr) ?_ t hz h1 h5 h7 h8
  clear h1 h5 h7 h8 hz t
  intro c0 c1 c2 c3 c4 c5 c6 c7 c8 c9 c10 c11 c12 c13 c14 c15 c16 c17 c18 c19 c20 c21 c22 c23 c24 c25 c26 c27 c28 c29 c30 c31 c32 c33 c34 c35 c36 c37 c38 c39 c40 c41 c42 c43 c44 c45 c46 c47 c48 c49 c50 c51 c52 c53 c54 c55 c56 c57 c58 h1 h5 h7 h8
  replace h1 : c1 = .slice ad len cap := h1
  replace h5 : c5 = .pointer (some ⟨pb, 0, none⟩) := h5
  replace h7 : c7 = .int .i64 (m : Nat) := h7
  replace h8 : c8 = .int .i64 (k : Nat) := h8
  subst h1
  subst h5
  subst h7
  subst h8
  conv => arg 2; whnf
  by_cases hlt : k < len
  · obtain ⟨x, hx, cp1, cp2, q0⟩ := hv.item hlt
    subst hx
    replace q0 := REL.out.p.c.keeps q0 (fun e => e)
    have hltz : (k : Int) < (len : Int) := by omega
    have e0 : ((k : Int)).toNat = k := by omega
    have hk0 : (0 : Int) ≤ (k : Int) := by omega
    cases hB : B k with
    | false =>
      rw [hB] at q0
      obtain ⟨P, hb, hm, hs⟩ := REL.out
      cases q with
      | nil =>
        have TK := Lib.hid P.takeNone
        have P1 := Lib.hid P
        clear P
        go_wp2_with fail
        refine TK.out.mono ?_
        rintro e w5 ⟨rfl, rfl⟩
        clear TK q0
        have NX : Hid (PmR w wr pb cb n [] m S (k + 1)) := Lib.hid ⟨P1.out, by simp, by omega, hs⟩
        have MZ : Hid (max m (([] : List Int).length - n) = m) := Lib.hid (by simp)
        obtain ⟨z, hz⟩ : ∃ z : Nat, ([] : List Int).length - n = z := ⟨_, rfl⟩
        obtain ⟨l5, hl5⟩ : ∃ l : Nat, ([] : List Int).length = l := ⟨_, rfl⟩
        obtain ⟨m5, hm5⟩ : ∃ m5 : Nat, m5 = m := ⟨_, rfl⟩
        have hmx : (if (m : Int) < (z : Int) then (z : Int) else (m : Int)) = (m5 : Int) := by
          rw [hm5, ← hz]; have := MZ.out; split <;> omega
        have hmx2 : (if m < z then (z : Int) else (m : Int)) = (m5 : Int) := by
          rw [hm5, ← hz]; have := MZ.out; split <;> omega
        rw [← hm5] at NX
        have SP := Lib.hid NX.out.p.spilled
        rw [hz] at SP
        have HM5 := Lib.hid hm5
        clear hm5 hz
        go_wp2_with fail
        refine SP.out.mono ?_
        rintro e w6 ⟨rfl, rfl⟩
        clear SP
        go_wp2_with fail
        refine NX.out.p.most.mono ?_
        rintro e w6 ⟨rfl, rfl⟩
        have yz : ∀ z : Nat, ((z : Int) != (z : Int)) = false := fun z => by rw [bne_eq_false_iff_eq]
        go_wp2_with fail
        have hql := NX.out.b
        have AL := Lib.hid (NX.out.p.all hn2 (by omega))
        rw [hl5] at AL
        refine AL.out.mono ?_
        rintro e w6 ⟨a6, cp6, rfl, row6, own6, p6, nx6⟩
        have N6 := Lib.hid p6
        clear row6 own6 p6 nx6 AL
        go_wp2_with fail
        have LE := Lib.hid (N6.out.len (by omega))
        rw [hl5] at LE
        refine LE.out.mono ?_
        rintro e w7 ⟨rfl, p7, nx7⟩
        have N7 : Hid (PmR w w7 pb cb n ([] : List Int) m5 S (k + 1)) := Lib.hid ⟨p7, NX.out.b, NX.out.u, NX.out.s⟩
        clear p7 nx7 LE
        go_wp2
        first | exact ⟨⟨([] : List Int), m5, S, rfl, rfl, rfl, rfl, rfl, rfl, N7.out⟩, hlt⟩ | exact ⟨([] : List Int), m5, S, rfl, rfl, rfl, rfl, rfl, rfl, N7.out⟩
      | cons x q =>
        simp only [List.length_cons] at hb hs
        have TK := Lib.hid (P.take hn1 (by omega))
        clear P
        go_wp2_with fail
        refine TK.out.mono ?_
        rintro e w5 ⟨rfl, S5, p5, nx5⟩
        clear TK q0
        have NX : Hid (PmR w w5 pb cb n q m S5 (k + 1)) := Lib.hid ⟨p5, by omega, by omega, by omega⟩
        have MZ : Hid (max m (q.length - n) = m) := Lib.hid (by omega)
        clear p5 nx5
        obtain ⟨z, hz⟩ : ∃ z : Nat, q.length - n = z := ⟨_, rfl⟩
        obtain ⟨l5, hl5⟩ : ∃ l : Nat, q.length = l := ⟨_, rfl⟩
        obtain ⟨m5, hm5⟩ : ∃ m5 : Nat, m5 = m := ⟨_, rfl⟩
        have hmx : (if (m : Int) < (z : Int) then (z : Int) else (m : Int)) = (m5 : Int) := by
          rw [hm5, ← hz]; have := MZ.out; split <;> omega
        have hmx2 : (if m < z then (z : Int) else (m : Int)) = (m5 : Int) := by
          rw [hm5, ← hz]; have := MZ.out; split <;> omega
        rw [← hm5] at NX
        have SP := Lib.hid NX.out.p.spilled
        rw [hz] at SP
        have HM5 := Lib.hid hm5
        clear hm5 hz
        go_wp2_with fail
        refine SP.out.mono ?_
        rintro e w6 ⟨rfl, rfl⟩
        clear SP
        go_wp2_with fail
        refine NX.out.p.most.mono ?_
        rintro e w6 ⟨rfl, rfl⟩
        have yz : ∀ z : Nat, ((z : Int) != (z : Int)) = false := fun z => by rw [bne_eq_false_iff_eq]
        go_wp2_with fail
        have hql := NX.out.b
        have AL := Lib.hid (NX.out.p.all hn2 (by omega))
        rw [hl5] at AL
        refine AL.out.mono ?_
        rintro e w6 ⟨a6, cp6, rfl, row6, own6, p6, nx6⟩
        have N6 := Lib.hid p6
        clear row6 own6 p6 nx6 AL
        go_wp2_with fail
        have LE := Lib.hid (N6.out.len (by omega))
        rw [hl5] at LE
        refine LE.out.mono ?_
        rintro e w7 ⟨rfl, p7, nx7⟩
        have N7 : Hid (PmR w w7 pb cb n q m5 S5 (k + 1)) := Lib.hid ⟨p7, NX.out.b, NX.out.u, NX.out.s⟩
        clear p7 nx7 LE
        go_wp2
        first | exact ⟨⟨q, m5, S5, rfl, rfl, rfl, rfl, rfl, rfl, N7.out⟩, hlt⟩ | exact ⟨q, m5, S5, rfl, rfl, rfl, rfl, rfl, rfl, N7.out⟩
    | true =>
      rw [hB] at q0
      obtain ⟨P, hb, hm, hs⟩ := REL.out
      have TK := Lib.hid (P.put (k : Int) (by omega) (by omega))
      clear P
      go_wp2_with fail
      refine TK.out.mono ?_
      rintro e w5 ⟨rfl, S5, p5, nx5⟩
      clear TK q0
      have NX : Hid (PmR w w5 pb cb n (q ++ [(k : Int)]) (max m (q.length + 1 - n)) S5 (k + 1)) := Lib.hid ⟨p5, by simp; omega, by omega, by simp; omega⟩
      have MZ : Hid (max m ((q ++ [(k : Int)]).length - n) = max m (q.length + 1 - n)) := Lib.hid (by simp)
      clear p5 nx5
      obtain ⟨z, hz⟩ : ∃ z : Nat, (q ++ [(k : Int)]).length - n = z := ⟨_, rfl⟩
      obtain ⟨l5, hl5⟩ : ∃ l : Nat, (q ++ [(k : Int)]).length = l := ⟨_, rfl⟩
      obtain ⟨m5, hm5⟩ : ∃ m5 : Nat, m5 = (max m (q.length + 1 - n)) := ⟨_, rfl⟩
      have hmx : (if (m : Int) < (z : Int) then (z : Int) else (m : Int)) = (m5 : Int) := by
        rw [hm5, ← hz]; have := MZ.out; split <;> omega
      have hmx2 : (if m < z then (z : Int) else (m : Int)) = (m5 : Int) := by
        rw [hm5, ← hz]; have := MZ.out; split <;> omega
      rw [← hm5] at NX
      have SP := Lib.hid NX.out.p.spilled
      rw [hz] at SP
      have HM5 := Lib.hid hm5
      clear hm5 hz
      go_wp2_with fail
      refine SP.out.mono ?_
      rintro e w6 ⟨rfl, rfl⟩
      clear SP
      go_wp2_with fail
      refine NX.out.p.most.mono ?_
      rintro e w6 ⟨rfl, rfl⟩
      have yz : ∀ z : Nat, ((z : Int) != (z : Int)) = false := fun z => by rw [bne_eq_false_iff_eq]
      go_wp2_with fail
      have hql := NX.out.b
      have AL := Lib.hid (NX.out.p.all hn2 (by omega))
      rw [hl5] at AL
      refine AL.out.mono ?_
      rintro e w6 ⟨a6, cp6, rfl, row6, own6, p6, nx6⟩
      have N6 := Lib.hid p6
      clear row6 own6 p6 nx6 AL
      go_wp2_with fail
      have LE := Lib.hid (N6.out.len (by omega))
      rw [hl5] at LE
      refine LE.out.mono ?_
      rintro e w7 ⟨rfl, p7, nx7⟩
      have N7 : Hid (PmR w w7 pb cb n (q ++ [(k : Int)]) m5 S5 (k + 1)) := Lib.hid ⟨p7, NX.out.b, NX.out.u, NX.out.s⟩
      clear p7 nx7 LE
      go_wp2
      first | exact ⟨⟨(q ++ [(k : Int)]), m5, S5, rfl, rfl, rfl, rfl, rfl, rfl, N7.out⟩, hlt⟩ | exact ⟨(q ++ [(k : Int)]), m5, S5, rfl, rfl, rfl, rfl, rfl, rfl, N7.out⟩
  · have hge : ¬ (k : Int) < (len : Int) := by omega
    obtain rfl : k = len := by omega
    go_wp2
    first | exact ⟨by first | rfl | trivial, ⟨_, _, _, rfl, rfl, rfl, rfl, rfl, rfl, REL.out⟩, by first | rfl | trivial⟩ | exact ⟨by first | rfl | trivial, ⟨_, _, _, rfl, rfl, rfl, rfl, rfl, rfl, REL.out⟩⟩ | exact ⟨_, _, _, rfl, rfl, rfl, rfl, rfl, rfl, REL.out⟩ | exact ⟨⟨_, _, _, rfl, rfl, rfl, rfl, rfl, rfl, REL.out⟩, by first | rfl | trivial⟩
theorem pmA_loop (w : World) (pb cb n : Nat) (ad : Option Addr) (len cap : Nat) (B : Nat → Bool) (hv : IsBools w ad len cap B) (h200 : len ≤ 200) (hn1 : 1 ≤ n) (hn2 : n ≤ 16) (a : Act) (wr : World) (hb : 0 ≤ len) (H : pmAI w pb cb n ad len cap B 0 a wr) :
    Code.wp Try.prog (.loop (loopIn 0 Try.f6)) (Qx 0 (fun a' w' => pmAI w pb cb n ad len cap B len a' w')) a wr := by
  refine wp_loop (fun a' wr => ∃ k, k ≤ len ∧ pmAI w pb cb n ad len cap B k a' wr) (fun a' _ => len - (intOf (a'.tmps.getD 8 undef)).toNat) ⟨0, hb, H⟩ ?_
  rintro a' wr ⟨k, hk, h⟩
  refine wp_mono (pmA_round w pb cb n ad len cap B hv h200 hn1 hn2 a' wr hk h) ?_
  intro e a2 w2 hp
  cases e with
  | normal =>
    refine ⟨⟨k + 1, by have := hp.2; omega, hp.1⟩, ?_⟩
    rw [pmAI_ctr w pb cb n ad len cap B h, pmAI_ctr w pb cb n ad len cap B hp.1]
    have := hp.2
    simp only [intOf, Int.toNat_natCast]
    omega
  | exit n => exact ⟨hp.1, hp.2.2 ▸ hp.2.1⟩
  | _ => exact hp.elim
set_option maxRecDepth 100000 in
set_option maxHeartbeats 0 in
theorem pm_end (w : World) (pb cb n : Nat) (ad : Option Addr) (len cap : Nat) (B : Nat → Bool) (hv : IsBools w ad len cap B) (h200 : len ≤ 200) (hn1 : 1 ≤ n) (hn2 : n ≤ 16)  (a : Act) (wr : World) (H : pmAI w pb cb n ad len cap B len a wr) :
    Code.wp Try.prog (aftIn 0 Try.f6) (bodyPost Try.prog Try.f6 (fun e w' => e = .returned (.bool true) ∧ Below w.heap.size w w')) a wr := by
  obtain ⟨t, ds⟩ := a
  obtain ⟨q, m, S, hd', hz, h1, h5, h7, h8, rel⟩ := H
  replace hd' : ds = [] := hd'
  subst hd'
  replace hz : t.size = 59 := hz
  replace h1 : t.getD 1 undef = .slice ad len cap := h1
  replace h5 : t.getD 5 undef = .pointer (some ⟨pb, 0, none⟩) := h5
  replace h7 : t.getD 7 undef = .int .i64 (m : Nat) := h7
  replace h8 : t.getD 8 undef = .int .i64 (len : Nat) := h8
  have REL := Lib.hid rel
  clear rel
  refine openFr59 (P := fun t => t.getD 1 undef = .slice ad len cap → t.getD 5 undef = .pointer (some ⟨pb, 0, none⟩) → t.getD 7 undef = .int .i64 (m : Nat) → t.getD 8 undef = .int .i64 (len : Nat) → Code.wp Try.prog (aftIn 0 Try.f6) (bodyPost Try.prog Try.f6 (fun e w' => e = .returned (.bool true) ∧ Below w.heap.size w w')) ⟨t, []⟩ wr) ?_ t hz h1 h5 h7 h8
  clear h1 h5 h7 h8 hz t
  intro c0 c1 c2 c3 c4 c5 c6 c7 c8 c9 c10 c11 c12 c13 c14 c15 c16 c17 c18 c19 c20 c21 c22 c23 c24 c25 c26 c27 c28 c29 c30 c31 c32 c33 c34 c35 c36 c37 c38 c39 c40 c41 c42 c43 c44 c45 c46 c47 c48 c49 c50 c51 c52 c53 c54 c55 c56 c57 c58 h1 h5 h7 h8
  replace h1 : c1 = .slice ad len cap := h1
  replace h5 : c5 = .pointer (some ⟨pb, 0, none⟩) := h5
  replace h7 : c7 = .int .i64 (m : Nat) := h7
  replace h8 : c8 = .int .i64 (len : Nat) := h8
  subst h1
  subst h5
  subst h7
  subst h8
  conv => arg 2; whnf
  go_wp2
  go_ret
  exact ⟨rfl, REL.out.p.c.below (Nat.le_refl _) (fun _ _ e => e.elim)⟩
end Go.Proofs.Ytpddiphknpplcaa
