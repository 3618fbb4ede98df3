/-
  SlabRoom: the loop that counts what is not free.
-/
import Derived.Test.YtjhmmfdmoalfmaaSmCode
import Derived.Test.YtjhmmfdmoalfmaaHeld
import Derived.Deep.QuietTactic
import Derived.BigQuiet
import Derived.Deep.Cut
import Derived.Deep.CutRange
import Derived.Deep.CutBlock
import Derived.RegionTactic
import Derived.BigRegion
namespace Go.Proofs.Ytjhmmfdmoalfmaa
open Go.RowKit Verge
set_option linter.unusedVariables false
set_option linter.unusedSimpArgs false
attribute [local go_sem] Oper.semAt_some

/-- what holds at the head of the loop -/
def smCI (w : World) (b rb n mb : Nat) (ad : Option Addr) (len cap : Nat) (zs : List Int) (i : Nat) (cnt : Nat) (R : Nat → Rec) (np : Nat) (B : Nat → Nat) (Q : Nat → Rq) (ae : Option Addr) (ce cm : Nat) (F : Nat → Bool) (k : Nat) (a : Act) (wr : World) : Prop :=
  ∃ (x : Nat), a.defers = [] ∧ a.tmps.size = 148 ∧ a.tmps.getD 1 undef = .slice ad len cap ∧ a.tmps.getD 5 undef = .int .i64 (n : Nat) ∧ a.tmps.getD 6 undef = .pointer (some ⟨b, 0, none⟩) ∧ a.tmps.getD 8 undef = .slice ae np ce ∧ a.tmps.getD 9 undef = .map (some mb) ∧ a.tmps.getD 10 undef = .int .i64 (i : Nat) ∧ a.tmps.getD 16 undef = .int .i64 (x : Nat) ∧ a.tmps.getD 17 undef = .int .i64 (k : Nat) ∧ (RmR w wr b rb n cnt R np B Q ae ce mb cm F (i + 1) ∧ x = used R k)
theorem smCI_ctr {k : Nat} (w : World) (b rb n mb : Nat) (ad : Option Addr) (len cap : Nat) (zs : List Int) (i : Nat) (cnt : Nat) (R : Nat → Rec) (np : Nat) (B : Nat → Nat) (Q : Nat → Rq) (ae : Option Addr) (ce cm : Nat) (F : Nat → Bool) {a : Act} {wr : World} (H : smCI w b rb n mb ad len cap zs i cnt R np B Q ae ce cm F k a wr) : a.tmps.getD 17 undef = .int .i64 (k : Nat) := by
  obtain ⟨x, -, -, -, -, -, -, -, -, -, h, -⟩ := H
  exact h
set_option maxRecDepth 100000 in
set_option maxHeartbeats 0 in
theorem smC_round {k : Nat} (w : World) (b rb n mb : Nat) (ad : Option Addr) (len cap : Nat) (zs : List Int) (i : Nat) (cnt : Nat) (R : Nat → Rec) (np : Nat) (B : Nat → Nat) (Q : Nat → Rq) (ae : Option Addr) (ce cm : Nat) (F : Nat → Bool) (hv : IsRow .u8 w ad len cap zs) (h200 : len ≤ 200) (n1 : n ≤ 8) (hil : i < 200) (a : Act) (wr : World) (hk : k ≤ n) (H : smCI w b rb n mb ad len cap zs i cnt R np B Q ae ce cm F k a wr) :
    Code.wp Try.prog (loopIn 3 Try.f4) (Exit.then (fun a' w' => smCI w b rb n mb ad len cap zs i cnt R np B Q ae ce cm F (k + 1) a' w' ∧ k < n) (Qx 3 (fun a' w' => smCI w b rb n mb ad len cap zs i cnt R np B Q ae ce cm F k a' w' ∧ k = n))) a wr := by
  obtain ⟨t, ds⟩ := a
  obtain ⟨x, hd', hz, h1, h5, h6, h8, h9, h10, h16, h17, rel⟩ := H
  replace hd' : ds = [] := hd'
  subst hd'
  replace hz : t.size = 148 := hz
  replace h1 : t.getD 1 undef = .slice ad len cap := h1
  replace h5 : t.getD 5 undef = .int .i64 (n : Nat) := h5
  replace h6 : t.getD 6 undef = .pointer (some ⟨b, 0, none⟩) := h6
  replace h8 : t.getD 8 undef = .slice ae np ce := h8
  replace h9 : t.getD 9 undef = .map (some mb) := h9
  replace h10 : t.getD 10 undef = .int .i64 (i : Nat) := h10
  replace h16 : t.getD 16 undef = .int .i64 (x : Nat) := h16
  replace h17 : t.getD 17 undef = .int .i64 (k : Nat) := h17
  have REL := Lib.hid rel
  clear rel
  refine openFr148 (P := fun t => t.getD 1 undef = .slice ad len cap → t.getD 5 undef = .int .i64 (n : Nat) → t.getD 6 undef = .pointer (some ⟨b, 0, none⟩) → t.getD 8 undef = .slice ae np ce → t.getD 9 undef = .map (some mb) → t.getD 10 undef = .int .i64 (i : Nat) → t.getD 16 undef = .int .i64 (x : Nat) → t.getD 17 undef = .int .i64 (k : Nat) → Code.wp Try.prog (loopIn 3 Try.f4) (Exit.then (fun a' w' => smCI w b rb n mb ad len cap zs i cnt R np B Q ae ce cm F (k + 1) a' w' ∧ k < n) (Qx 3 (fun a' w' => smCI w b rb n mb ad len cap zs i cnt R np B Q ae ce cm F k a' w' ∧ k = n))) ⟨t, []⟩ wr) ?_ t hz h1 h5 h6 h8 h9 h10 h16 h17
  clear h1 h5 h6 h8 h9 h10 h16 h17 hz t
  intro c0 c1 c2 c3 c4 c5 c6 c7 c8 c9 c10 c11 c12 c13 c14 c15 c16 c17 c18 c19 c20 c21 c22 c23 c24 c25 c26 c27 c28 c29 c30 c31 c32 c33 c34 c35 c36 c37 c38 c39 c40 c41 c42 c43 c44 c45 c46 c47 c48 c49 c50 c51 c52 c53 c54 c55 c56 c57 c58 c59 c60 c61 c62 c63 c64 c65 c66 c67 c68 c69 c70 c71 c72 c73 c74 c75 c76 c77 c78 c79 c80 c81 c82 c83 c84 c85 c86 c87 c88 c89 c90 c91 c92 c93 c94 c95 c96 c97 c98 c99 c100 c101 c102 c103 c104 c105 c106 c107 c108 c109 c110 c111 c112 c113 c114 c115 c116 c117 c118 c119 c120 c121 c122 c123 c124 c125 c126 c127 c128 c129 c130 c131 c132 c133 c134 c135 c136 c137 c138 c139 c140 c141 c142 c143 c144 c145 c146 c147 h1 h5 h6 h8 h9 h10 h16 h17
  replace h1 : c1 = .slice ad len cap := h1
  replace h5 : c5 = .int .i64 (n : Nat) := h5
  replace h6 : c6 = .pointer (some ⟨b, 0, none⟩) := h6
  replace h8 : c8 = .slice ae np ce := h8
  replace h9 : c9 = .map (some mb) := h9
  replace h10 : c10 = .int .i64 (i : Nat) := h10
  replace h16 : c16 = .int .i64 (x : Nat) := h16
  replace h17 : c17 = .int .i64 (k : Nat) := h17
  subst h1
  subst h5
  subst h6
  subst h8
  subst h9
  subst h10
  subst h16
  subst h17
  conv => arg 2; whnf
  clear hv
  by_cases hlt : k < n
  · have hkz : (k : Int) < (n : Int) := by omega
    have hul := used_le R k
    have hxb : x ≤ 8 := by have := REL.out.2; omega
    have st := state_ok (R k) (REL.out.1.i.ok k hlt) (by have := REL.out.1.i.gv k hlt; omega)
    have us : used R (k + 1) = used R k + busy (R k) := rfl
    rcases busy_cases (R k) with hb | hb
    · rw [hb] at st us
      have ST := Lib.hid st
      have US := Lib.hid us
      clear st us hb hul
      go_wp2_with fail
      refine (word_in k REL.out.1.s hlt).mono ?_
      rintro e w5 ⟨rfl, s5, c5⟩
      have R5 := Lib.hid (REL.out.1.two s5 REL.out.1.i (Nat.le_refl _) (fun _ => Nat.le_refl _) (Ch_two2 c5))
      have X5 := Lib.hid REL.out.2
      clear s5 c5 REL
      go_wp2_with fail
      refine (ST.out w5).mono ?_
      rintro e w6 ⟨rfl, rfl⟩
      go_wp2
      first | exact ⟨⟨x, rfl, rfl, rfl, rfl, rfl, rfl, rfl, rfl, rfl, rfl, ⟨R5.out, by rw [US.out]; exact X5.out⟩⟩, hlt⟩ | exact ⟨x, rfl, rfl, rfl, rfl, rfl, rfl, rfl, rfl, rfl, rfl, ⟨R5.out, by rw [US.out]; exact X5.out⟩⟩
    · rw [hb] at st us
      have ST := Lib.hid st
      have US := Lib.hid us
      clear st us hb hul
      go_wp2_with fail
      refine (word_in k REL.out.1.s hlt).mono ?_
      rintro e w5 ⟨rfl, s5, c5⟩
      have R5 := Lib.hid (REL.out.1.two s5 REL.out.1.i (Nat.le_refl _) (fun _ => Nat.le_refl _) (Ch_two2 c5))
      have X5 := Lib.hid REL.out.2
      clear s5 c5 REL
      go_wp2_with fail
      refine (ST.out w5).mono ?_
      rintro e w6 ⟨rfl, rfl⟩
      go_wp2
      first | exact ⟨⟨x + 1, rfl, rfl, rfl, rfl, rfl, rfl, rfl, rfl, rfl, rfl, ⟨R5.out, by rw [US.out, X5.out]⟩⟩, hlt⟩ | exact ⟨x + 1, rfl, rfl, rfl, rfl, rfl, rfl, rfl, rfl, rfl, rfl, ⟨R5.out, by rw [US.out, X5.out]⟩⟩
  · obtain rfl : k = n := by omega
    have hkz : ¬ (k : Int) < (k : Int) := by omega
    go_wp2
    first | exact ⟨by first | rfl | trivial, ⟨x, rfl, rfl, rfl, rfl, rfl, rfl, rfl, rfl, rfl, rfl, REL.out⟩, by first | rfl | trivial⟩ | exact ⟨x, rfl, rfl, rfl, rfl, rfl, rfl, rfl, rfl, rfl, rfl, REL.out⟩ | exact ⟨⟨x, rfl, rfl, rfl, rfl, rfl, rfl, rfl, rfl, rfl, rfl, REL.out⟩, by first | rfl | trivial⟩ | exact ⟨by first | rfl | trivial, ⟨x, rfl, rfl, rfl, rfl, rfl, rfl, rfl, rfl, rfl, rfl, REL.out⟩⟩
theorem smC_loop (w : World) (b rb n mb : Nat) (ad : Option Addr) (len cap : Nat) (zs : List Int) (i : Nat) (cnt : Nat) (R : Nat → Rec) (np : Nat) (B : Nat → Nat) (Q : Nat → Rq) (ae : Option Addr) (ce cm : Nat) (F : Nat → Bool) (hv : IsRow .u8 w ad len cap zs) (h200 : len ≤ 200) (n1 : n ≤ 8) (hil : i < 200) (a : Act) (wr : World) (hb : 0 ≤ n) (H : smCI w b rb n mb ad len cap zs i cnt R np B Q ae ce cm F 0 a wr) :
    Code.wp Try.prog (.loop (loopIn 3 Try.f4)) (Qx 3 (fun a' w' => smCI w b rb n mb ad len cap zs i cnt R np B Q ae ce cm F n a' w')) a wr := by
  refine wp_loop (fun a' wr => ∃ k, k ≤ n ∧ smCI w b rb n mb ad len cap zs i cnt R np B Q ae ce cm F k a' wr) (fun a' _ => n - (intOf (a'.tmps.getD 17 undef)).toNat) ⟨0, hb, H⟩ ?_
  rintro a' wr ⟨k, hk, h⟩
  refine wp_mono (smC_round w b rb n mb ad len cap zs i cnt R np B Q ae ce cm F hv h200 n1 hil a' wr hk h) ?_
  intro e a2 w2 hp
  cases e with
  | normal =>
    refine ⟨⟨k + 1, by have := hp.2; omega, hp.1⟩, ?_⟩
    rw [smCI_ctr w b rb n mb ad len cap zs i cnt R np B Q ae ce cm F h, smCI_ctr w b rb n mb ad len cap zs i cnt R np B Q ae ce cm F hp.1]
    have := hp.2
    simp only [intOf, Int.toNat_natCast]
    omega
  | exit n => exact ⟨hp.1, hp.2.2 ▸ hp.2.1⟩
  | _ => exact hp.elim
end Go.Proofs.Ytjhmmfdmoalfmaa
