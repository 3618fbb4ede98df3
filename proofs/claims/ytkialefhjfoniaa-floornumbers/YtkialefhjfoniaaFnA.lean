/-
  FloorNumbers: the newest numbers of each slot; the loop of one request.
-/
import Derived.Test.YtkialefhjfoniaaFnCode
import Derived.Test.YtkialefhjfoniaaHeld
import Derived.Deep.QuietTactic
import Derived.BigQuiet
import Derived.Deep.Cut
import Derived.Deep.CutRange
import Derived.Deep.CutBlock
import Derived.RegionTactic
import Derived.BigRegion
namespace Go.Proofs.Ytkialefhjfoniaa
open Go.RowKit Verge
set_option linter.unusedVariables false
set_option linter.unusedSimpArgs false
attribute [local go_sem] Oper.semAt_some

/-- the newest number of a slot -/
def lastF (R : Nat → Rec) (j : Nat) : Nat := if (R j).gv = 0 then 0 else 64 * (R j).gv + j
/-- where the floor and the map lie beside the slab -/
structure NumH (w : World) (F : Fb) (mb : Nat) : Prop where
  f1 : F.f ≠ F.sb
  f2 : F.f ≠ F.srb
  m1 : mb ≠ F.sb
  m2 : mb ≠ F.srb
  fm : F.f ≠ mb
  lo : w.heap.size ≤ mb
structure NumK (W : World) (F : Fb) (mb : Nat) (R : Nat → Rec) (k : Nat) : Prop where
  f : IsF W F none 0 0
  m : ∃ mm, mm ≤ k ∧ MapI W mb mm (lastF R)
theorem NumK.kept {S : Nat → Prop} {W W' : World} {F : Fb} {mb k : Nat} {R : Nat → Rec} (h : NumK W F mb R k) (c : Ch S W W') (h1 : ¬ S F.f) (h2 : ¬ S mb) : NumK W' F mb R k := by
  obtain ⟨mm, hm, h3⟩ := h.m
  exact ⟨h.f.kept c h1, mm, hm, h3.kept c h2⟩
theorem NumK.congr {W : World} {F : Fb} {mb k k' : Nat} {R R' : Nat → Rec} (h : NumK W F mb R k) (e : ∀ j, (R' j).gv = (R j).gv) (hk : k ≤ k') : NumK W F mb R' k' := by
  obtain ⟨mm, hm, h3⟩ := h.m
  have : lastF R' = lastF R := by funext j; unfold lastF; rw [e j]
  exact ⟨h.f, mm, by omega, by rw [this]; exact h3⟩
theorem NumK.two {W W' w : World} {F : Fb} {mb k : Nat} {R : Nat → Rec} (h : NumK W F mb R k) (H : NumH w F mb) (c : Ch (Two F.sb F.srb) W W') : NumK W' F mb R k :=
  h.kept c (fun e => by have h1 := H.f1; have h2 := H.f2; rcases e with e | e <;> contradiction) (fun e => by have h1 := H.m1; have h2 := H.m2; rcases e with e | e <;> contradiction)
/-- when a request ends -/
theorem it_stop (n cnt : Nat) (R : Nat → Rec) (q0 : Rq) : ∀ m, ∃ bd, bd ≤ m ∧ (∀ j, j < bd → (itS n cnt R q0 j).2.2.ss = 0) ∧ ((itS n cnt R q0 bd).2.2.ss ≠ 0 ∨ bd = m) ∧ itS n cnt R q0 bd = itS n cnt R q0 m
  | 0 => ⟨0, Nat.le_refl _, fun j hj => by omega, .inr rfl, rfl⟩
  | m + 1 => by
    obtain ⟨bd, h1, h2, h3, h4⟩ := it_stop n cnt R q0 m
    by_cases e : (itS n cnt R q0 bd).2.2.ss = 0
    · have hb : bd = m := by rcases h3 with h3 | h3; exact absurd e h3; exact h3
      subst hb
      refine ⟨bd + 1, Nat.le_refl _, fun j hj => ?_, .inr rfl, rfl⟩
      by_cases ej : j = bd
      · rw [ej]; exact e
      · exact h2 j (by omega)
    · refine ⟨bd, by omega, h2, .inl e, ?_⟩
      rw [h4] at e ⊢
      show itS n cnt R q0 m = stepM n (itS n cnt R q0 m).1 (itS n cnt R q0 m).2.1 (itS n cnt R q0 m).2.2
      unfold stepM
      rw [if_pos e]
theorem nx_finish0 (g : Nat) (per : Bool) (hg : g ≤ 4294967295) : (nxW (256 * g) 9 per).2 ≠ 0 := by
  have h1 : okW (256 * g) = true := by rw [okW_true]; omega
  have h2 : (256 * g) % 8 = 0 := by omega
  unfold nxW
  rw [if_neg (by rw [h1]; simp), if_neg (by omega), h2, if_pos (by simp [mayF])]
  simp
/-- what holds at the head of the loop -/
def fnBI (w : World) (F : Fb) (n mb : Nat) (si : Int) (ad : Option Addr) (len cap : Nat) (zs : List Int) (i q cnt m bd : Nat) (R : Nat → Rec) (k : Nat) (a : Act) (wr : World) : Prop :=
  ∃ (x : Nat), a.defers = [] ∧ a.tmps.size = 149 ∧ a.tmps.getD 1 undef = .slice ad len cap ∧ a.tmps.getD 2 undef = .int .i64 si ∧ a.tmps.getD 7 undef = .int .i64 (n : Nat) ∧ a.tmps.getD 8 undef = .pointer (some ⟨F.f, 0, none⟩) ∧ a.tmps.getD 10 undef = .map (some mb) ∧ a.tmps.getD 11 undef = .int .i64 (i : Nat) ∧ a.tmps.getD 12 undef = .pointer (some ⟨q, 0, none⟩) ∧ a.tmps.getD 13 undef = .int .i64 (x : Nat) ∧ a.tmps.getD 14 undef = .int .i64 (k : Nat) ∧ ((ItR w wr F.sb F.srb n cnt R q 0 k ∧ NumK wr F mb R i) ∧ x = (itS n cnt R ⟨0, 0, 0, 0, 0, 0⟩ k).2.2.ss)
theorem fnBI_ctr {k : Nat} (w : World) (F : Fb) (n mb : Nat) (si : Int) (ad : Option Addr) (len cap : Nat) (zs : List Int) (i q cnt m bd : Nat) (R : Nat → Rec) {a : Act} {wr : World} (H : fnBI w F n mb si ad len cap zs i q cnt m bd R k a wr) : a.tmps.getD 14 undef = .int .i64 (k : Nat) := by
  obtain ⟨x, -, -, -, -, -, -, -, -, -, -, h, -⟩ := H
  exact h
set_option maxRecDepth 100000 in
set_option maxHeartbeats 0 in
theorem fnB_round {k : Nat} (w : World) (F : Fb) (n mb : Nat) (si : Int) (ad : Option Addr) (len cap : Nat) (zs : List Int) (i q cnt m bd : Nat) (R : Nat → Rec) (hv : IsRow .u8 w ad len cap zs) (h60 : len ≤ 60) (n0 : 0 < n) (n1 : n ≤ 5) (hlb : NumH w F mb) (hi : Inv n cnt R 0 m) (hm : m + 1 ≤ 900000) (hql : q ≠ F.f ∧ q ≠ mb) (hbd : bd ≤ n + 2) (hb0 : ∀ j, j < bd → (itS n cnt R ⟨0, 0, 0, 0, 0, 0⟩ j).2.2.ss = 0) (hb1 : (itS n cnt R ⟨0, 0, 0, 0, 0, 0⟩ bd).2.2.ss ≠ 0 ∨ bd = n + 2) (a : Act) (wr : World) (hk : k ≤ bd) (H : fnBI w F n mb si ad len cap zs i q cnt m bd R k a wr) :
    Code.wp Try.prog (loopIn 2 Try.f6) (Exit.then (fun a' w' => fnBI w F n mb si ad len cap zs i q cnt m bd R (k + 1) a' w' ∧ k < bd) (Qx 2 (fun a' w' => fnBI w F n mb si ad len cap zs i q cnt m bd R k a' w' ∧ k = bd))) a wr := by
  obtain ⟨t, ds⟩ := a
  obtain ⟨x, hd', hz, h1, h2, h7, h8, h10, h11, h12, h13, h14, rel⟩ := H
  replace hd' : ds = [] := hd'
  subst hd'
  replace hz : t.size = 149 := hz
  replace h1 : t.getD 1 undef = .slice ad len cap := h1
  replace h2 : t.getD 2 undef = .int .i64 si := h2
  replace h7 : t.getD 7 undef = .int .i64 (n : Nat) := h7
  replace h8 : t.getD 8 undef = .pointer (some ⟨F.f, 0, none⟩) := h8
  replace h10 : t.getD 10 undef = .map (some mb) := h10
  replace h11 : t.getD 11 undef = .int .i64 (i : Nat) := h11
  replace h12 : t.getD 12 undef = .pointer (some ⟨q, 0, none⟩) := h12
  replace h13 : t.getD 13 undef = .int .i64 (x : Nat) := h13
  replace h14 : t.getD 14 undef = .int .i64 (k : Nat) := h14
  have REL := Lib.hid rel
  clear rel
  refine openFr149 (P := fun t => t.getD 1 undef = .slice ad len cap → t.getD 2 undef = .int .i64 si → t.getD 7 undef = .int .i64 (n : Nat) → t.getD 8 undef = .pointer (some ⟨F.f, 0, none⟩) → t.getD 10 undef = .map (some mb) → t.getD 11 undef = .int .i64 (i : Nat) → t.getD 12 undef = .pointer (some ⟨q, 0, none⟩) → t.getD 13 undef = .int .i64 (x : Nat) → t.getD 14 undef = .int .i64 (k : Nat) → Code.wp Try.prog (loopIn 2 Try.f6) (Exit.then (fun a' w' => fnBI w F n mb si ad len cap zs i q cnt m bd R (k + 1) a' w' ∧ k < bd) (Qx 2 (fun a' w' => fnBI w F n mb si ad len cap zs i q cnt m bd R k a' w' ∧ k = bd))) ⟨t, []⟩ wr) ?_ t hz h1 h2 h7 h8 h10 h11 h12 h13 h14
  clear h1 h2 h7 h8 h10 h11 h12 h13 h14 hz t
  intro c0 c1 c2 c3 c4 c5 c6 c7 c8 c9 c10 c11 c12 c13 c14 c15 c16 c17 c18 c19 c20 c21 c22 c23 c24 c25 c26 c27 c28 c29 c30 c31 c32 c33 c34 c35 c36 c37 c38 c39 c40 c41 c42 c43 c44 c45 c46 c47 c48 c49 c50 c51 c52 c53 c54 c55 c56 c57 c58 c59 c60 c61 c62 c63 c64 c65 c66 c67 c68 c69 c70 c71 c72 c73 c74 c75 c76 c77 c78 c79 c80 c81 c82 c83 c84 c85 c86 c87 c88 c89 c90 c91 c92 c93 c94 c95 c96 c97 c98 c99 c100 c101 c102 c103 c104 c105 c106 c107 c108 c109 c110 c111 c112 c113 c114 c115 c116 c117 c118 c119 c120 c121 c122 c123 c124 c125 c126 c127 c128 c129 c130 c131 c132 c133 c134 c135 c136 c137 c138 c139 c140 c141 c142 c143 c144 c145 c146 c147 c148 h1 h2 h7 h8 h10 h11 h12 h13 h14
  replace h1 : c1 = .slice ad len cap := h1
  replace h2 : c2 = .int .i64 si := h2
  replace h7 : c7 = .int .i64 (n : Nat) := h7
  replace h8 : c8 = .pointer (some ⟨F.f, 0, none⟩) := h8
  replace h10 : c10 = .map (some mb) := h10
  replace h11 : c11 = .int .i64 (i : Nat) := h11
  replace h12 : c12 = .pointer (some ⟨q, 0, none⟩) := h12
  replace h13 : c13 = .int .i64 (x : Nat) := h13
  replace h14 : c14 = .int .i64 (k : Nat) := h14
  subst h1
  subst h2
  subst h7
  subst h8
  subst h10
  subst h11
  subst h12
  subst h13
  subst h14
  conv => arg 2; whnf
  have FT := Lib.hid (it_fit 0 hi hm (by omega) n0 k)
  have HL := Lib.hid hlb
  have HQ := Lib.hid hql
  have HB1 := Lib.hid hb1
  have HB0 := Lib.hid hb0
  clear hv hi hlb hql hb1 hb0
  by_cases hlt : k < bd
  · have hkz : (k : Int) < (n : Int) + 2 := by omega
    have x0 : x = 0 := by rw [REL.out.2, HB0.out k hlt]
    subst x0
    go_wp2_with fail
    refine (step_fit REL.out.1.1.sq FT.out).mono ?_
    rintro e w5 ⟨rfl, k5, c5⟩
    have NX := Lib.hid (REL.out.1.1.next k5 c5)
    have NL := Lib.hid (REL.out.1.2.kept c5 (fun e => by have h1 := HQ.out.1; have h2 := HL.out.f1; have h3 := HL.out.f2; rcases e with e | e | e <;> omega) (fun e => by have h1 := HQ.out.2; have h2 := HL.out.m1; have h3 := HL.out.m2; rcases e with e | e | e <;> omega))
    obtain ⟨y, hy⟩ : ∃ y, y = (stepM n (itS n cnt R ⟨0, 0, 0, 0, 0, 0⟩ k).1 (itS n cnt R ⟨0, 0, 0, 0, 0, 0⟩ k).2.1 (itS n cnt R ⟨0, 0, 0, 0, 0, 0⟩ k).2.2).2.2.ss := ⟨_, rfl⟩
    have HY := Lib.hid hy
    rw [← hy]
    clear hy k5 c5 REL
    go_wp2
    first | exact ⟨⟨y, rfl, rfl, rfl, rfl, rfl, rfl, rfl, rfl, rfl, rfl, rfl, ⟨⟨NX.out, NL.out⟩, HY.out⟩⟩, hlt⟩ | exact ⟨y, rfl, rfl, rfl, rfl, rfl, rfl, rfl, rfl, rfl, rfl, rfl, ⟨⟨NX.out, NL.out⟩, HY.out⟩⟩
  · obtain rfl : k = bd := by omega
    by_cases hkn : k < n + 2
    · have hkz : (k : Int) < (n : Int) + 2 := by omega
      have x0 : ((x : Int) == 0) = false := by
        rw [beq_eq_false_iff_ne]
        have h1 := REL.out.2
        rcases HB1.out with h | h
        · omega
        · omega
      go_wp2
      first | exact ⟨by first | rfl | trivial, ⟨x, rfl, rfl, rfl, rfl, rfl, rfl, rfl, rfl, rfl, rfl, rfl, REL.out⟩, by first | rfl | trivial⟩ | exact ⟨x, rfl, rfl, rfl, rfl, rfl, rfl, rfl, rfl, rfl, rfl, rfl, REL.out⟩ | exact ⟨⟨x, rfl, rfl, rfl, rfl, rfl, rfl, rfl, rfl, rfl, rfl, rfl, REL.out⟩, by first | rfl | trivial⟩ | exact ⟨by first | rfl | trivial, ⟨x, rfl, rfl, rfl, rfl, rfl, rfl, rfl, rfl, rfl, rfl, rfl, REL.out⟩⟩
    · have hkz : ¬ (k : Int) < (n : Int) + 2 := by omega
      go_wp2
      first | exact ⟨by first | rfl | trivial, ⟨x, rfl, rfl, rfl, rfl, rfl, rfl, rfl, rfl, rfl, rfl, rfl, REL.out⟩, by first | rfl | trivial⟩ | exact ⟨x, rfl, rfl, rfl, rfl, rfl, rfl, rfl, rfl, rfl, rfl, rfl, REL.out⟩ | exact ⟨⟨x, rfl, rfl, rfl, rfl, rfl, rfl, rfl, rfl, rfl, rfl, rfl, REL.out⟩, by first | rfl | trivial⟩ | exact ⟨by first | rfl | trivial, ⟨x, rfl, rfl, rfl, rfl, rfl, rfl, rfl, rfl, rfl, rfl, rfl, REL.out⟩⟩
theorem fnB_loop (w : World) (F : Fb) (n mb : Nat) (si : Int) (ad : Option Addr) (len cap : Nat) (zs : List Int) (i q cnt m bd : Nat) (R : Nat → Rec) (hv : IsRow .u8 w ad len cap zs) (h60 : len ≤ 60) (n0 : 0 < n) (n1 : n ≤ 5) (hlb : NumH w F mb) (hi : Inv n cnt R 0 m) (hm : m + 1 ≤ 900000) (hql : q ≠ F.f ∧ q ≠ mb) (hbd : bd ≤ n + 2) (hb0 : ∀ j, j < bd → (itS n cnt R ⟨0, 0, 0, 0, 0, 0⟩ j).2.2.ss = 0) (hb1 : (itS n cnt R ⟨0, 0, 0, 0, 0, 0⟩ bd).2.2.ss ≠ 0 ∨ bd = n + 2) (a : Act) (wr : World) (hb : 0 ≤ bd) (H : fnBI w F n mb si ad len cap zs i q cnt m bd R 0 a wr) :
    Code.wp Try.prog (.loop (loopIn 2 Try.f6)) (Qx 2 (fun a' w' => fnBI w F n mb si ad len cap zs i q cnt m bd R bd a' w')) a wr := by
  refine wp_loop (fun a' wr => ∃ k, k ≤ bd ∧ fnBI w F n mb si ad len cap zs i q cnt m bd R k a' wr) (fun a' _ => bd - (intOf (a'.tmps.getD 14 undef)).toNat) ⟨0, hb, H⟩ ?_
  rintro a' wr ⟨k, hk, h⟩
  refine wp_mono (fnB_round w F n mb si ad len cap zs i q cnt m bd R hv h60 n0 n1 hlb hi hm hql hbd hb0 hb1 a' wr hk h) ?_
  intro e a2 w2 hp
  cases e with
  | normal =>
    refine ⟨⟨k + 1, by have := hp.2; omega, hp.1⟩, ?_⟩
    rw [fnBI_ctr w F n mb si ad len cap zs i q cnt m bd R h, fnBI_ctr w F n mb si ad len cap zs i q cnt m bd R hp.1]
    have := hp.2
    simp only [intOf, Int.toNat_natCast]
    omega
  | exit n => exact ⟨hp.1, hp.2.2 ▸ hp.2.1⟩
  | _ => exact hp.elim
end Go.Proofs.Ytkialefhjfoniaa
