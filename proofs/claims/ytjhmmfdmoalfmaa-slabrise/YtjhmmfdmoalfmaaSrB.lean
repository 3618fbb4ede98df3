/-
  SlabRise: the outer loop; the end.
-/
import Derived.Test.YtjhmmfdmoalfmaaSrA
import Derived.Test.YtjhmmfdmoalfmaaHeld
import Derived.Deep.QuietTactic
import Derived.BigQuiet
import Derived.Deep.Cut
import Derived.Deep.CutRange
import Derived.Deep.CutBlock
import Derived.RegionTactic
import Derived.BigRegion
namespace Go.Proofs.Ytjhmmfdmoalfmaa
open Go.RowKit Verge
set_option linter.unusedVariables false
set_option linter.unusedSimpArgs false
attribute [local go_sem] Oper.semAt_some

/-- what holds at the head of the loop -/
def srAI (w : World) (b rb n lb : Nat) (ad : Option Addr) (len cap : Nat) (zs : List Int) (k : Nat) (a : Act) (wr : World) : Prop :=
  ∃ (cnt : Nat) (R : Nat → Rec), a.defers = [] ∧ a.tmps.size = 138 ∧ a.tmps.getD 1 undef = .slice ad len cap ∧ a.tmps.getD 5 undef = .int .i64 (n : Nat) ∧ a.tmps.getD 6 undef = .pointer (some ⟨b, 0, none⟩) ∧ a.tmps.getD 8 undef = .pointer (some ⟨lb, 0, none⟩) ∧ a.tmps.getD 9 undef = .int .i64 (k : Nat) ∧ (SlR w wr b rb n cnt R k ∧ Lst wr lb R)
theorem srAI_ctr {k : Nat} (w : World) (b rb n lb : Nat) (ad : Option Addr) (len cap : Nat) (zs : List Int) {a : Act} {wr : World} (H : srAI w b rb n lb ad len cap zs k a wr) : a.tmps.getD 9 undef = .int .i64 (k : Nat) := by
  obtain ⟨cnt, R, -, -, -, -, -, -, h, -⟩ := H
  exact h
set_option maxRecDepth 100000 in
set_option maxHeartbeats 0 in
theorem srA_round {k : Nat} (w : World) (b rb n lb : Nat) (ad : Option Addr) (len cap : Nat) (zs : List Int) (hv : IsRow .u8 w ad len cap zs) (h100 : len ≤ 100) (n0 : 0 < n) (n1 : n ≤ 8) (hlb : w.heap.size ≤ lb ∧ lb ≠ b ∧ lb ≠ rb) (a : Act) (wr : World) (hk : k ≤ len) (H : srAI w b rb n lb ad len cap zs k a wr) :
    Code.wp Try.prog (loopIn 0 Try.f8) (Exit.then (fun a' w' => srAI w b rb n lb ad len cap zs (k + 1) a' w' ∧ k < len) (Qx 0 (fun a' w' => srAI w b rb n lb ad len cap zs k a' w' ∧ k = len))) a wr := by
  obtain ⟨t, ds⟩ := a
  obtain ⟨cnt, R, hd', hz, h1, h5, h6, h8, h9, rel⟩ := H
  replace hd' : ds = [] := hd'
  subst hd'
  replace hz : t.size = 138 := hz
  replace h1 : t.getD 1 undef = .slice ad len cap := h1
  replace h5 : t.getD 5 undef = .int .i64 (n : Nat) := h5
  replace h6 : t.getD 6 undef = .pointer (some ⟨b, 0, none⟩) := h6
  replace h8 : t.getD 8 undef = .pointer (some ⟨lb, 0, none⟩) := h8
  replace h9 : t.getD 9 undef = .int .i64 (k : Nat) := h9
  have REL := Lib.hid rel
  clear rel
  refine openFr138 (P := fun t => t.getD 1 undef = .slice ad len cap → t.getD 5 undef = .int .i64 (n : Nat) → t.getD 6 undef = .pointer (some ⟨b, 0, none⟩) → t.getD 8 undef = .pointer (some ⟨lb, 0, none⟩) → t.getD 9 undef = .int .i64 (k : Nat) → Code.wp Try.prog (loopIn 0 Try.f8) (Exit.then (fun a' w' => srAI w b rb n lb ad len cap zs (k + 1) a' w' ∧ k < len) (Qx 0 (fun a' w' => srAI w b rb n lb ad len cap zs k a' w' ∧ k = len))) ⟨t, []⟩ wr) ?_ t hz h1 h5 h6 h8 h9
  clear h1 h5 h6 h8 h9 hz t
  intro c0 c1 c2 c3 c4 c5 c6 c7 c8 c9 c10 c11 c12 c13 c14 c15 c16 c17 c18 c19 c20 c21 c22 c23 c24 c25 c26 c27 c28 c29 c30 c31 c32 c33 c34 c35 c36 c37 c38 c39 c40 c41 c42 c43 c44 c45 c46 c47 c48 c49 c50 c51 c52 c53 c54 c55 c56 c57 c58 c59 c60 c61 c62 c63 c64 c65 c66 c67 c68 c69 c70 c71 c72 c73 c74 c75 c76 c77 c78 c79 c80 c81 c82 c83 c84 c85 c86 c87 c88 c89 c90 c91 c92 c93 c94 c95 c96 c97 c98 c99 c100 c101 c102 c103 c104 c105 c106 c107 c108 c109 c110 c111 c112 c113 c114 c115 c116 c117 c118 c119 c120 c121 c122 c123 c124 c125 c126 c127 c128 c129 c130 c131 c132 c133 c134 c135 c136 c137 h1 h5 h6 h8 h9
  replace h1 : c1 = .slice ad len cap := h1
  replace h5 : c5 = .int .i64 (n : Nat) := h5
  replace h6 : c6 = .pointer (some ⟨b, 0, none⟩) := h6
  replace h8 : c8 = .pointer (some ⟨lb, 0, none⟩) := h8
  replace h9 : c9 = .int .i64 (k : Nat) := h9
  subst h1
  subst h5
  subst h6
  subst h8
  subst h9
  conv => arg 2; whnf
  have hsm := hv.small
  have HV := Lib.hid hv
  have HL := Lib.hid hlb
  clear hv hlb
  by_cases hlt : k < len
  · obtain ⟨xa, rfl, hc, hwf⟩ := HV.out.item hlt
    obtain ⟨z1, z2⟩ := bounds_u8 hwf
    obtain ⟨zz, hdi⟩ := Int.eq_ofNat_of_zero_le z1
    rw [hdi] at hc z2
    have HC := Lib.hid hc
    have hkz : (k : Int) < (len : Int) := by omega
    have hkz0 : (0 : Int) ≤ (k : Int) := by omega
    clear hc hwf hdi z1
    have n00 : ¬ n = 0 := by omega
    have hj := Nat.mod_lt zz n0
    have tm := tmod_nat zz n
    obtain ⟨j, hjj⟩ : ∃ j, j = zz % n := ⟨_, rfl⟩
    rw [← hjj] at hj tm
    have em : (zz : Int) % (n : Int) = (j : Int) := by rw [hjj, Int.natCast_emod]
    have HJ := Lib.hid hj
    clear hj hjj
    go_wp2_with fail
    refine (begin_sq 0 REL.out.1.s).mono ?_
    rintro e w7 ⟨q, rfl, hq, k7, c7, z7⟩
    have HQ : Hid (w.heap.size ≤ q) := Lib.hid (by have := REL.out.1.c.size; omega)
    have hql : q ≠ lb := by have := lt_of_cell (REL.out.2.c 0 (by omega)); (try dsimp only at this); omega
    have START : Hid (ItR w w7 b rb n cnt R q 0 0 ∧ Lst w7 lb R) := Lib.hid ⟨⟨k7, REL.out.1.c.trans c7, REL.out.1.hb, REL.out.1.hr, HQ.out⟩, REL.out.2.kept c7 (fun e => e)⟩
    have II := Lib.hid REL.out.1.i
    have HQL := Lib.hid hql
    clear k7 c7 z7 hq REL hql
    go_wp2
    refine wp_mono (srB_loop w b rb n lb (some xa) len cap zs k q cnt k R HV.out h100 n0 n1 HL.out II.out (by omega) HQL.out _ _ (by omega) ?hI) ?_
    case hI => exact ⟨rfl, rfl, rfl, rfl, rfl, rfl, rfl, rfl, rfl, START.out⟩
    clear START
    intro e a' w8 hp
    obtain ⟨rfl, H⟩ := Qx_inv hp
    clear hp
    obtain ⟨t, ds⟩ := a'
    obtain ⟨hd', hz, h1, h5, h6, h8, h9, h10, h11, rel⟩ := H
    replace hd' : ds = [] := hd'
    subst hd'
    replace hz : t.size = 138 := hz
    replace h1 : t.getD 1 undef = .slice (some xa) len cap := h1
    replace h5 : t.getD 5 undef = .int .i64 (n : Nat) := h5
    replace h6 : t.getD 6 undef = .pointer (some ⟨b, 0, none⟩) := h6
    replace h8 : t.getD 8 undef = .pointer (some ⟨lb, 0, none⟩) := h8
    replace h9 : t.getD 9 undef = .int .i64 (k : Nat) := h9
    replace h10 : t.getD 10 undef = .pointer (some ⟨q, 0, none⟩) := h10
    replace h11 : t.getD 11 undef = .int .i64 ((n + 2) : Nat) := h11
    have REL := Lib.hid rel
    clear rel
    refine openFr138 (P := fun t => t.getD 1 undef = .slice (some xa) len cap → t.getD 5 undef = .int .i64 (n : Nat) → t.getD 6 undef = .pointer (some ⟨b, 0, none⟩) → t.getD 8 undef = .pointer (some ⟨lb, 0, none⟩) → t.getD 9 undef = .int .i64 (k : Nat) → t.getD 10 undef = .pointer (some ⟨q, 0, none⟩) → t.getD 11 undef = .int .i64 ((n + 2) : Nat) → Exit.inBlock 2 _ (.exit 2) ⟨t, []⟩ w8) ?_ t hz h1 h5 h6 h8 h9 h10 h11
    clear h1 h5 h6 h8 h9 h10 h11 hz t
    intro c0 c1 c2 c3 c4 c5 c6 c7 c8 c9 c10 c11 c12 c13 c14 c15 c16 c17 c18 c19 c20 c21 c22 c23 c24 c25 c26 c27 c28 c29 c30 c31 c32 c33 c34 c35 c36 c37 c38 c39 c40 c41 c42 c43 c44 c45 c46 c47 c48 c49 c50 c51 c52 c53 c54 c55 c56 c57 c58 c59 c60 c61 c62 c63 c64 c65 c66 c67 c68 c69 c70 c71 c72 c73 c74 c75 c76 c77 c78 c79 c80 c81 c82 c83 c84 c85 c86 c87 c88 c89 c90 c91 c92 c93 c94 c95 c96 c97 c98 c99 c100 c101 c102 c103 c104 c105 c106 c107 c108 c109 c110 c111 c112 c113 c114 c115 c116 c117 c118 c119 c120 c121 c122 c123 c124 c125 c126 c127 c128 c129 c130 c131 c132 c133 c134 c135 c136 c137 h1 h5 h6 h8 h9 h10 h11
    replace h1 : c1 = .slice (some xa) len cap := h1
    replace h5 : c5 = .int .i64 (n : Nat) := h5
    replace h6 : c6 = .pointer (some ⟨b, 0, none⟩) := h6
    replace h8 : c8 = .pointer (some ⟨lb, 0, none⟩) := h8
    replace h9 : c9 = .int .i64 (k : Nat) := h9
    replace h10 : c10 = .pointer (some ⟨q, 0, none⟩) := h10
    replace h11 : c11 = .int .i64 ((n + 2) : Nat) := h11
    subst h1
    subst h5
    subst h6
    subst h8
    subst h9
    subst h10
    subst h11

    have hE := it_end 0 II.out (by omega : k + 1 ≤ 900000) (n + 2) (Nat.le_refl _)
    rcases hE with ⟨hc, hE⟩ | ⟨f, hf, f0, hE, i9⟩
    · have h9 := REL.out.1.sq
      rw [hE] at h9
      have K9 := Lib.hid h9
      have RELX : Hid (SlR w w8 b rb n cnt R (k + 1)) := Lib.hid ⟨h9.s, II.out.more (Nat.le_succ k), REL.out.1.c, REL.out.1.hb, REL.out.1.hr⟩
      have LX := Lib.hid REL.out.2
      have ID := Lib.hid (id_of h9.rq)
      clear hE h9 REL hc
      go_wp2_with fail
      refine ID.out.mono ?_
      rintro e w9 ⟨rfl, rfl⟩
      clear ID
      rw [if_neg (by simp), if_neg (by simp)]
      have q1 := RELX.out.c.keeps HC.out (fun e => e)
      go_wp2_with fail
      refine (free_any j RELX.out.s RELX.out.i (by omega) HJ.out).mono ?_
      rintro e w7 ⟨cnt1, R1, x1, rfl, s7, i7, g7, c7⟩
      have RY := Lib.hid (RELX.out.two s7 i7 c7)
      have LY := Lib.hid ((LX.out.kept c7 (fun e => by have h2 := HL.out; rcases e with e | e <;> omega)).congr g7)
      clear s7 i7 g7 c7 RELX LX q1
      go_wp2
      refine wp_mono (srC_loop w b rb n lb (some xa) len cap zs k cnt1 (k + 1) R1 HV.out h100 n0 n1 HL.out (by omega) _ _ (by omega) ?hI) ?_
      case hI => exact ⟨rfl, rfl, rfl, rfl, rfl, rfl, rfl, rfl, ⟨RY.out, LY.out⟩⟩
      clear RY LY
      intro e a' w9 hp
      obtain ⟨rfl, H⟩ := Qx_inv hp
      clear hp
      obtain ⟨t, ds⟩ := a'
      obtain ⟨hd', hz, h1, h5, h6, h8, h9, h15, rel⟩ := H
      replace hd' : ds = [] := hd'
      subst hd'
      replace hz : t.size = 138 := hz
      replace h1 : t.getD 1 undef = .slice (some xa) len cap := h1
      replace h5 : t.getD 5 undef = .int .i64 (n : Nat) := h5
      replace h6 : t.getD 6 undef = .pointer (some ⟨b, 0, none⟩) := h6
      replace h8 : t.getD 8 undef = .pointer (some ⟨lb, 0, none⟩) := h8
      replace h9 : t.getD 9 undef = .int .i64 (k : Nat) := h9
      replace h15 : t.getD 15 undef = .int .i64 (n : Nat) := h15
      have REL := Lib.hid rel
      clear rel
      refine openFr138 (P := fun t => t.getD 1 undef = .slice (some xa) len cap → t.getD 5 undef = .int .i64 (n : Nat) → t.getD 6 undef = .pointer (some ⟨b, 0, none⟩) → t.getD 8 undef = .pointer (some ⟨lb, 0, none⟩) → t.getD 9 undef = .int .i64 (k : Nat) → t.getD 15 undef = .int .i64 (n : Nat) → Exit.inBlock 4 _ (.exit 4) ⟨t, []⟩ w9) ?_ t hz h1 h5 h6 h8 h9 h15
      clear h1 h5 h6 h8 h9 h15 hz t
      intro c0 c1 c2 c3 c4 c5 c6 c7 c8 c9 c10 c11 c12 c13 c14 c15 c16 c17 c18 c19 c20 c21 c22 c23 c24 c25 c26 c27 c28 c29 c30 c31 c32 c33 c34 c35 c36 c37 c38 c39 c40 c41 c42 c43 c44 c45 c46 c47 c48 c49 c50 c51 c52 c53 c54 c55 c56 c57 c58 c59 c60 c61 c62 c63 c64 c65 c66 c67 c68 c69 c70 c71 c72 c73 c74 c75 c76 c77 c78 c79 c80 c81 c82 c83 c84 c85 c86 c87 c88 c89 c90 c91 c92 c93 c94 c95 c96 c97 c98 c99 c100 c101 c102 c103 c104 c105 c106 c107 c108 c109 c110 c111 c112 c113 c114 c115 c116 c117 c118 c119 c120 c121 c122 c123 c124 c125 c126 c127 c128 c129 c130 c131 c132 c133 c134 c135 c136 c137 h1 h5 h6 h8 h9 h15
      replace h1 : c1 = .slice (some xa) len cap := h1
      replace h5 : c5 = .int .i64 (n : Nat) := h5
      replace h6 : c6 = .pointer (some ⟨b, 0, none⟩) := h6
      replace h8 : c8 = .pointer (some ⟨lb, 0, none⟩) := h8
      replace h9 : c9 = .int .i64 (k : Nat) := h9
      replace h15 : c15 = .int .i64 (n : Nat) := h15
      subst h1
      subst h5
      subst h6
      subst h8
      subst h9
      subst h15
      go_wp2
      first | exact ⟨⟨_, _, rfl, rfl, rfl, rfl, rfl, rfl, rfl, REL.out⟩, hlt⟩ | exact ⟨_, _, rfl, rfl, rfl, rfl, rfl, rfl, rfl, REL.out⟩
    · have h9 := REL.out.1.sq
      rw [hE] at h9
      obtain ⟨g, hgg⟩ : ∃ g, g = (R f).gv := ⟨_, rfl⟩
      have G := Lib.hid hgg
      have hg := II.out.gv f hf
      rw [← hgg] at hg
      obtain ⟨id, hid⟩ : ∃ id, id = (g + 1) * 64 + f := ⟨_, rfl⟩
      have K9 := Lib.hid h9
      have ID := id_of h9.rq
      dsimp only at ID
      rw [if_pos rfl, if_pos rfl, ← hgg, ← hid] at ID
      replace ID := Lib.hid ID
      have RX := Lib.hid REL.out.1
      have LX0 := Lib.hid REL.out.2
      have q1 := REL.out.2.c f (by omega)
      have f1 := REL.out.2.f f (by omega)
      have IN := Lib.hid i9
      have idm : ((id : Int)) % 64 = (f : Int) := by omega
      have idt : ((id : Int)).tmod 64 = (f : Int) := by rw [show (64 : Int) = ((64 : Nat) : Int) from rfl, tmod_nat]; omega
      have idb : (id : Int) ≤ 1000000 := by omega
      have hfz : (f : Int) < (n : Int) := by omega
      have hf8 : (f : Int) < 8 := by omega
      have hfz0 : (0 : Int) ≤ (f : Int) := by omega
      have e0 : ((f : Int)).toNat = f := by omega
      have LXS : Lst (w8.setCell ⟨lb, f, none⟩ (.int .u64 (id : Nat))) lb (upR R f ⟨256 * ((R f).gv + 1) + 1, (R f).gv + 1, 0⟩) := LX0.out.set (by omega) ⟨256 * ((R f).gv + 1) + 1, (R f).gv + 1, 0⟩ rfl id (by show id = 64 * ((R f).gv + 1) + f; omega)
      have cS : Ch (One lb) w8 (w8.setCell ⟨lb, f, none⟩ (.int .u64 (id : Nat))) := (Ch.refl _ _).setB _ _
      have LX := Lib.hid LXS
      have RELX : Hid (SlR w (w8.setCell ⟨lb, f, none⟩ (.int .u64 (id : Nat))) b rb n (cnt + 1) (upR R f ⟨256 * ((R f).gv + 1) + 1, (R f).gv + 1, 0⟩) (k + 1)) := Lib.hid ⟨h9.s.kept cS (fun e => by have := HL.out; omega) (fun e => by have := HL.out; omega), IN.out, RX.out.c.then cS (fun i hi e => by have := HL.out; change i = _ at e; omega), RX.out.hb, RX.out.hr⟩
      unfold lastN at q1
      rw [← hgg] at q1
      clear hE h9 REL i9 LXS cS hgg RX LX0
      by_cases g0 : g = 0
      · rw [if_pos g0] at q1
        replace q1 : w8.cell? ⟨lb, f, none⟩ = some (.int .u64 0) := q1
        have i1 : (id : Int) = 64 + (f : Int) := by omega
        have i2 : ((id : Int) != 64 + (f : Int)) = false := by rw [bne_eq_false_iff_eq]; omega
        have I1 := Lib.hid i1
        clear i1 hid
        go_wp2_with fail
        refine ID.out.mono ?_
        rintro e w9 ⟨rfl, rfl⟩
        clear ID
        go_upto_region 24 with (fail)
        clear q1 f1 i2
        generalize w8.setCell ⟨lb, f, none⟩ (.int .u64 (id : Nat)) = W at RELX LX ⊢
        have q1 := RELX.out.c.keeps HC.out (fun e => e)
        go_wp2_with fail
        refine (free_any j RELX.out.s RELX.out.i (by omega) HJ.out).mono ?_
        rintro e w7 ⟨cnt1, R1, x1, rfl, s7, i7, g7, c7⟩
        have RY := Lib.hid (RELX.out.two s7 i7 c7)
        have LY := Lib.hid ((LX.out.kept c7 (fun e => by have h2 := HL.out; rcases e with e | e <;> omega)).congr g7)
        clear s7 i7 g7 c7 RELX LX q1
        go_wp2
        refine wp_mono (srC_loop w b rb n lb (some xa) len cap zs k cnt1 (k + 1) R1 HV.out h100 n0 n1 HL.out (by omega) _ _ (by omega) ?hI) ?_
        case hI => exact ⟨rfl, rfl, rfl, rfl, rfl, rfl, rfl, rfl, ⟨RY.out, LY.out⟩⟩
        clear RY LY
        intro e a' w9 hp
        obtain ⟨rfl, H⟩ := Qx_inv hp
        clear hp
        obtain ⟨t, ds⟩ := a'
        obtain ⟨hd', hz, h1, h5, h6, h8, h9, h15, rel⟩ := H
        replace hd' : ds = [] := hd'
        subst hd'
        replace hz : t.size = 138 := hz
        replace h1 : t.getD 1 undef = .slice (some xa) len cap := h1
        replace h5 : t.getD 5 undef = .int .i64 (n : Nat) := h5
        replace h6 : t.getD 6 undef = .pointer (some ⟨b, 0, none⟩) := h6
        replace h8 : t.getD 8 undef = .pointer (some ⟨lb, 0, none⟩) := h8
        replace h9 : t.getD 9 undef = .int .i64 (k : Nat) := h9
        replace h15 : t.getD 15 undef = .int .i64 (n : Nat) := h15
        have REL := Lib.hid rel
        clear rel
        refine openFr138 (P := fun t => t.getD 1 undef = .slice (some xa) len cap → t.getD 5 undef = .int .i64 (n : Nat) → t.getD 6 undef = .pointer (some ⟨b, 0, none⟩) → t.getD 8 undef = .pointer (some ⟨lb, 0, none⟩) → t.getD 9 undef = .int .i64 (k : Nat) → t.getD 15 undef = .int .i64 (n : Nat) → Exit.inBlock 4 _ (.exit 4) ⟨t, []⟩ w9) ?_ t hz h1 h5 h6 h8 h9 h15
        clear h1 h5 h6 h8 h9 h15 hz t
        intro c0 c1 c2 c3 c4 c5 c6 c7 c8 c9 c10 c11 c12 c13 c14 c15 c16 c17 c18 c19 c20 c21 c22 c23 c24 c25 c26 c27 c28 c29 c30 c31 c32 c33 c34 c35 c36 c37 c38 c39 c40 c41 c42 c43 c44 c45 c46 c47 c48 c49 c50 c51 c52 c53 c54 c55 c56 c57 c58 c59 c60 c61 c62 c63 c64 c65 c66 c67 c68 c69 c70 c71 c72 c73 c74 c75 c76 c77 c78 c79 c80 c81 c82 c83 c84 c85 c86 c87 c88 c89 c90 c91 c92 c93 c94 c95 c96 c97 c98 c99 c100 c101 c102 c103 c104 c105 c106 c107 c108 c109 c110 c111 c112 c113 c114 c115 c116 c117 c118 c119 c120 c121 c122 c123 c124 c125 c126 c127 c128 c129 c130 c131 c132 c133 c134 c135 c136 c137 h1 h5 h6 h8 h9 h15
        replace h1 : c1 = .slice (some xa) len cap := h1
        replace h5 : c5 = .int .i64 (n : Nat) := h5
        replace h6 : c6 = .pointer (some ⟨b, 0, none⟩) := h6
        replace h8 : c8 = .pointer (some ⟨lb, 0, none⟩) := h8
        replace h9 : c9 = .int .i64 (k : Nat) := h9
        replace h15 : c15 = .int .i64 (n : Nat) := h15
        subst h1
        subst h5
        subst h6
        subst h8
        subst h9
        subst h15
        go_wp2
        first | exact ⟨⟨_, _, rfl, rfl, rfl, rfl, rfl, rfl, rfl, REL.out⟩, hlt⟩ | exact ⟨_, _, rfl, rfl, rfl, rfl, rfl, rfl, rfl, REL.out⟩
      · rw [if_neg g0] at q1
        obtain ⟨v, hv⟩ : ∃ v, v = 64 * g + f := ⟨_, rfl⟩
        rw [← hv] at q1
        have v0 : ((v : Int) != 0) = true := by rw [bne_iff_ne]; omega
        have v1 : ((v : Int) == 0) = false := by rw [beq_eq_false_iff_ne]; omega
        have vb : (v : Int) ≤ 1000000 := by omega
        have i2 : ((id : Int) != (v : Int) + 64) = false := by rw [bne_eq_false_iff_eq]; omega
        clear hv hid
        go_wp2_with fail
        refine ID.out.mono ?_
        rintro e w9 ⟨rfl, rfl⟩
        clear ID
        go_upto_region 24 with (fail)
        clear q1 f1 i2
        generalize w8.setCell ⟨lb, f, none⟩ (.int .u64 (id : Nat)) = W at RELX LX ⊢
        have q1 := RELX.out.c.keeps HC.out (fun e => e)
        go_wp2_with fail
        refine (free_any j RELX.out.s RELX.out.i (by omega) HJ.out).mono ?_
        rintro e w7 ⟨cnt1, R1, x1, rfl, s7, i7, g7, c7⟩
        have RY := Lib.hid (RELX.out.two s7 i7 c7)
        have LY := Lib.hid ((LX.out.kept c7 (fun e => by have h2 := HL.out; rcases e with e | e <;> omega)).congr g7)
        clear s7 i7 g7 c7 RELX LX q1
        go_wp2
        refine wp_mono (srC_loop w b rb n lb (some xa) len cap zs k cnt1 (k + 1) R1 HV.out h100 n0 n1 HL.out (by omega) _ _ (by omega) ?hI) ?_
        case hI => exact ⟨rfl, rfl, rfl, rfl, rfl, rfl, rfl, rfl, ⟨RY.out, LY.out⟩⟩
        clear RY LY
        intro e a' w9 hp
        obtain ⟨rfl, H⟩ := Qx_inv hp
        clear hp
        obtain ⟨t, ds⟩ := a'
        obtain ⟨hd', hz, h1, h5, h6, h8, h9, h15, rel⟩ := H
        replace hd' : ds = [] := hd'
        subst hd'
        replace hz : t.size = 138 := hz
        replace h1 : t.getD 1 undef = .slice (some xa) len cap := h1
        replace h5 : t.getD 5 undef = .int .i64 (n : Nat) := h5
        replace h6 : t.getD 6 undef = .pointer (some ⟨b, 0, none⟩) := h6
        replace h8 : t.getD 8 undef = .pointer (some ⟨lb, 0, none⟩) := h8
        replace h9 : t.getD 9 undef = .int .i64 (k : Nat) := h9
        replace h15 : t.getD 15 undef = .int .i64 (n : Nat) := h15
        have REL := Lib.hid rel
        clear rel
        refine openFr138 (P := fun t => t.getD 1 undef = .slice (some xa) len cap → t.getD 5 undef = .int .i64 (n : Nat) → t.getD 6 undef = .pointer (some ⟨b, 0, none⟩) → t.getD 8 undef = .pointer (some ⟨lb, 0, none⟩) → t.getD 9 undef = .int .i64 (k : Nat) → t.getD 15 undef = .int .i64 (n : Nat) → Exit.inBlock 4 _ (.exit 4) ⟨t, []⟩ w9) ?_ t hz h1 h5 h6 h8 h9 h15
        clear h1 h5 h6 h8 h9 h15 hz t
        intro c0 c1 c2 c3 c4 c5 c6 c7 c8 c9 c10 c11 c12 c13 c14 c15 c16 c17 c18 c19 c20 c21 c22 c23 c24 c25 c26 c27 c28 c29 c30 c31 c32 c33 c34 c35 c36 c37 c38 c39 c40 c41 c42 c43 c44 c45 c46 c47 c48 c49 c50 c51 c52 c53 c54 c55 c56 c57 c58 c59 c60 c61 c62 c63 c64 c65 c66 c67 c68 c69 c70 c71 c72 c73 c74 c75 c76 c77 c78 c79 c80 c81 c82 c83 c84 c85 c86 c87 c88 c89 c90 c91 c92 c93 c94 c95 c96 c97 c98 c99 c100 c101 c102 c103 c104 c105 c106 c107 c108 c109 c110 c111 c112 c113 c114 c115 c116 c117 c118 c119 c120 c121 c122 c123 c124 c125 c126 c127 c128 c129 c130 c131 c132 c133 c134 c135 c136 c137 h1 h5 h6 h8 h9 h15
        replace h1 : c1 = .slice (some xa) len cap := h1
        replace h5 : c5 = .int .i64 (n : Nat) := h5
        replace h6 : c6 = .pointer (some ⟨b, 0, none⟩) := h6
        replace h8 : c8 = .pointer (some ⟨lb, 0, none⟩) := h8
        replace h9 : c9 = .int .i64 (k : Nat) := h9
        replace h15 : c15 = .int .i64 (n : Nat) := h15
        subst h1
        subst h5
        subst h6
        subst h8
        subst h9
        subst h15
        go_wp2
        first | exact ⟨⟨_, _, rfl, rfl, rfl, rfl, rfl, rfl, rfl, REL.out⟩, hlt⟩ | exact ⟨_, _, rfl, rfl, rfl, rfl, rfl, rfl, rfl, REL.out⟩
  · obtain rfl : k = len := by omega
    go_wp2
    first | exact ⟨by first | rfl | trivial, ⟨_, _, rfl, rfl, rfl, rfl, rfl, rfl, rfl, REL.out⟩, by first | rfl | trivial⟩ | exact ⟨_, _, rfl, rfl, rfl, rfl, rfl, rfl, rfl, REL.out⟩ | exact ⟨⟨_, _, rfl, rfl, rfl, rfl, rfl, rfl, rfl, REL.out⟩, by first | rfl | trivial⟩ | exact ⟨by first | rfl | trivial, ⟨_, _, rfl, rfl, rfl, rfl, rfl, rfl, rfl, REL.out⟩⟩
theorem srA_loop (w : World) (b rb n lb : Nat) (ad : Option Addr) (len cap : Nat) (zs : List Int) (hv : IsRow .u8 w ad len cap zs) (h100 : len ≤ 100) (n0 : 0 < n) (n1 : n ≤ 8) (hlb : w.heap.size ≤ lb ∧ lb ≠ b ∧ lb ≠ rb) (a : Act) (wr : World) (hb : 0 ≤ len) (H : srAI w b rb n lb ad len cap zs 0 a wr) :
    Code.wp Try.prog (.loop (loopIn 0 Try.f8)) (Qx 0 (fun a' w' => srAI w b rb n lb ad len cap zs len a' w')) a wr := by
  refine wp_loop (fun a' wr => ∃ k, k ≤ len ∧ srAI w b rb n lb ad len cap zs k a' wr) (fun a' _ => len - (intOf (a'.tmps.getD 9 undef)).toNat) ⟨0, hb, H⟩ ?_
  rintro a' wr ⟨k, hk, h⟩
  refine wp_mono (srA_round w b rb n lb ad len cap zs hv h100 n0 n1 hlb a' wr hk h) ?_
  intro e a2 w2 hp
  cases e with
  | normal =>
    refine ⟨⟨k + 1, by have := hp.2; omega, hp.1⟩, ?_⟩
    rw [srAI_ctr w b rb n lb ad len cap zs h, srAI_ctr w b rb n lb ad len cap zs hp.1]
    have := hp.2
    simp only [intOf, Int.toNat_natCast]
    omega
  | exit n => exact ⟨hp.1, hp.2.2 ▸ hp.2.1⟩
  | _ => exact hp.elim
set_option maxRecDepth 100000 in
set_option maxHeartbeats 0 in
theorem sr_end (w : World) (b rb n lb : Nat) (ad : Option Addr) (len cap : Nat) (zs : List Int) (hv : IsRow .u8 w ad len cap zs) (h100 : len ≤ 100) (n0 : 0 < n) (n1 : n ≤ 8) (hlb : w.heap.size ≤ lb ∧ lb ≠ b ∧ lb ≠ rb)  (a : Act) (wr : World) (H : srAI w b rb n lb ad len cap zs len a wr) :
    Code.wp Try.prog (aftIn 0 Try.f8) (bodyPost Try.prog Try.f8 (fun e w' => e = .returned (.bool true) ∧ Below w.heap.size w w')) a wr := by
  obtain ⟨t, ds⟩ := a
  obtain ⟨cnt, R, hd', hz, h1, h5, h6, h8, h9, rel⟩ := H
  replace hd' : ds = [] := hd'
  subst hd'
  replace hz : t.size = 138 := hz
  replace h1 : t.getD 1 undef = .slice ad len cap := h1
  replace h5 : t.getD 5 undef = .int .i64 (n : Nat) := h5
  replace h6 : t.getD 6 undef = .pointer (some ⟨b, 0, none⟩) := h6
  replace h8 : t.getD 8 undef = .pointer (some ⟨lb, 0, none⟩) := h8
  replace h9 : t.getD 9 undef = .int .i64 (len : Nat) := h9
  have REL := Lib.hid rel
  clear rel
  refine openFr138 (P := fun t => t.getD 1 undef = .slice ad len cap → t.getD 5 undef = .int .i64 (n : Nat) → t.getD 6 undef = .pointer (some ⟨b, 0, none⟩) → t.getD 8 undef = .pointer (some ⟨lb, 0, none⟩) → t.getD 9 undef = .int .i64 (len : Nat) → Code.wp Try.prog (aftIn 0 Try.f8) (bodyPost Try.prog Try.f8 (fun e w' => e = .returned (.bool true) ∧ Below w.heap.size w w')) ⟨t, []⟩ wr) ?_ t hz h1 h5 h6 h8 h9
  clear h1 h5 h6 h8 h9 hz t
  intro c0 c1 c2 c3 c4 c5 c6 c7 c8 c9 c10 c11 c12 c13 c14 c15 c16 c17 c18 c19 c20 c21 c22 c23 c24 c25 c26 c27 c28 c29 c30 c31 c32 c33 c34 c35 c36 c37 c38 c39 c40 c41 c42 c43 c44 c45 c46 c47 c48 c49 c50 c51 c52 c53 c54 c55 c56 c57 c58 c59 c60 c61 c62 c63 c64 c65 c66 c67 c68 c69 c70 c71 c72 c73 c74 c75 c76 c77 c78 c79 c80 c81 c82 c83 c84 c85 c86 c87 c88 c89 c90 c91 c92 c93 c94 c95 c96 c97 c98 c99 c100 c101 c102 c103 c104 c105 c106 c107 c108 c109 c110 c111 c112 c113 c114 c115 c116 c117 c118 c119 c120 c121 c122 c123 c124 c125 c126 c127 c128 c129 c130 c131 c132 c133 c134 c135 c136 c137 h1 h5 h6 h8 h9
  replace h1 : c1 = .slice ad len cap := h1
  replace h5 : c5 = .int .i64 (n : Nat) := h5
  replace h6 : c6 = .pointer (some ⟨b, 0, none⟩) := h6
  replace h8 : c8 = .pointer (some ⟨lb, 0, none⟩) := h8
  replace h9 : c9 = .int .i64 (len : Nat) := h9
  subst h1
  subst h5
  subst h6
  subst h8
  subst h9
  conv => arg 2; whnf
  clear hv
  go_wp2
  go_ret
  exact ⟨rfl, REL.out.1.c.below (Nat.le_refl _) (fun _ _ e => e.elim)⟩
end Go.Proofs.Ytjhmmfdmoalfmaa
