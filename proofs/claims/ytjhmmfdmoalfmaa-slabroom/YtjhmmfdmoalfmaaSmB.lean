/-
  SlabRoom: the outer loop; the end.
-/
import Derived.Test.YtjhmmfdmoalfmaaSmA
import Derived.Test.YtjhmmfdmoalfmaaHeld
import Derived.Deep.QuietTactic
import Derived.BigQuiet
import Derived.Deep.Cut
import Derived.Deep.CutRange
import Derived.Deep.CutBlock
import Derived.RegionTactic
import Derived.BigRegion
namespace Go.Proofs.Ytjhmmfdmoalfmaa
open Go.RowKit Verge
set_option linter.unusedVariables false
set_option linter.unusedSimpArgs false
attribute [local go_sem] Oper.semAt_some

/-- what holds at the head of the loop -/
def smAI (w : World) (b rb n mb : Nat) (ad : Option Addr) (len cap : Nat) (zs : List Int) (k : Nat) (a : Act) (wr : World) : Prop :=
  ∃ (cnt : Nat) (R : Nat → Rec) (np : Nat) (B : Nat → Nat) (Q : Nat → Rq) (ae : Option Addr) (ce cm : Nat) (F : Nat → Bool), a.defers = [] ∧ a.tmps.size = 148 ∧ a.tmps.getD 1 undef = .slice ad len cap ∧ a.tmps.getD 5 undef = .int .i64 (n : Nat) ∧ a.tmps.getD 6 undef = .pointer (some ⟨b, 0, none⟩) ∧ a.tmps.getD 8 undef = .slice ae np ce ∧ a.tmps.getD 9 undef = .map (some mb) ∧ a.tmps.getD 10 undef = .int .i64 (k : Nat) ∧ RmR w wr b rb n cnt R np B Q ae ce mb cm F k
theorem smAI_ctr {k : Nat} (w : World) (b rb n mb : Nat) (ad : Option Addr) (len cap : Nat) (zs : List Int) {a : Act} {wr : World} (H : smAI w b rb n mb ad len cap zs k a wr) : a.tmps.getD 10 undef = .int .i64 (k : Nat) := by
  obtain ⟨cnt, R, np, B, Q, ae, ce, cm, F, -, -, -, -, -, -, -, h, -⟩ := H
  exact h
set_option maxRecDepth 100000 in
set_option maxHeartbeats 0 in
theorem smA_round {k : Nat} (w : World) (b rb n mb : Nat) (ad : Option Addr) (len cap : Nat) (zs : List Int) (hv : IsRow .u8 w ad len cap zs) (h200 : len ≤ 200) (n1 : n ≤ 8) (a : Act) (wr : World) (hk : k ≤ len) (H : smAI w b rb n mb ad len cap zs k a wr) :
    Code.wp Try.prog (loopIn 0 Try.f4) (Exit.then (fun a' w' => smAI w b rb n mb ad len cap zs (k + 1) a' w' ∧ k < len) (Qx 0 (fun a' w' => smAI w b rb n mb ad len cap zs k a' w' ∧ k = len))) a wr := by
  obtain ⟨t, ds⟩ := a
  obtain ⟨cnt, R, np, B, Q, ae, ce, cm, F, hd', hz, h1, h5, h6, h8, h9, h10, rel⟩ := H
  replace hd' : ds = [] := hd'
  subst hd'
  replace hz : t.size = 148 := hz
  replace h1 : t.getD 1 undef = .slice ad len cap := h1
  replace h5 : t.getD 5 undef = .int .i64 (n : Nat) := h5
  replace h6 : t.getD 6 undef = .pointer (some ⟨b, 0, none⟩) := h6
  replace h8 : t.getD 8 undef = .slice ae np ce := h8
  replace h9 : t.getD 9 undef = .map (some mb) := h9
  replace h10 : t.getD 10 undef = .int .i64 (k : Nat) := h10
  have REL := Lib.hid rel
  clear rel
  refine openFr148 (P := fun t => t.getD 1 undef = .slice ad len cap → t.getD 5 undef = .int .i64 (n : Nat) → t.getD 6 undef = .pointer (some ⟨b, 0, none⟩) → t.getD 8 undef = .slice ae np ce → t.getD 9 undef = .map (some mb) → t.getD 10 undef = .int .i64 (k : Nat) → Code.wp Try.prog (loopIn 0 Try.f4) (Exit.then (fun a' w' => smAI w b rb n mb ad len cap zs (k + 1) a' w' ∧ k < len) (Qx 0 (fun a' w' => smAI w b rb n mb ad len cap zs k a' w' ∧ k = len))) ⟨t, []⟩ wr) ?_ t hz h1 h5 h6 h8 h9 h10
  clear h1 h5 h6 h8 h9 h10 hz t
  intro c0 c1 c2 c3 c4 c5 c6 c7 c8 c9 c10 c11 c12 c13 c14 c15 c16 c17 c18 c19 c20 c21 c22 c23 c24 c25 c26 c27 c28 c29 c30 c31 c32 c33 c34 c35 c36 c37 c38 c39 c40 c41 c42 c43 c44 c45 c46 c47 c48 c49 c50 c51 c52 c53 c54 c55 c56 c57 c58 c59 c60 c61 c62 c63 c64 c65 c66 c67 c68 c69 c70 c71 c72 c73 c74 c75 c76 c77 c78 c79 c80 c81 c82 c83 c84 c85 c86 c87 c88 c89 c90 c91 c92 c93 c94 c95 c96 c97 c98 c99 c100 c101 c102 c103 c104 c105 c106 c107 c108 c109 c110 c111 c112 c113 c114 c115 c116 c117 c118 c119 c120 c121 c122 c123 c124 c125 c126 c127 c128 c129 c130 c131 c132 c133 c134 c135 c136 c137 c138 c139 c140 c141 c142 c143 c144 c145 c146 c147 h1 h5 h6 h8 h9 h10
  replace h1 : c1 = .slice ad len cap := h1
  replace h5 : c5 = .int .i64 (n : Nat) := h5
  replace h6 : c6 = .pointer (some ⟨b, 0, none⟩) := h6
  replace h8 : c8 = .slice ae np ce := h8
  replace h9 : c9 = .map (some mb) := h9
  replace h10 : c10 = .int .i64 (k : Nat) := h10
  subst h1
  subst h5
  subst h6
  subst h8
  subst h9
  subst h10
  conv => arg 2; whnf
  have hsm := hv.small
  have HV := Lib.hid hv
  clear hv
  by_cases hlt : k < len
  · obtain ⟨xa, rfl, hc, hwf⟩ := HV.out.item hlt
    obtain ⟨z1, z2⟩ := bounds_u8 hwf
    have q1 := REL.out.c.keeps hc (fun e => e)
    obtain ⟨zz, hdi⟩ := Int.eq_ofNat_of_zero_le z1
    rw [hdi] at q1 z2
    have hkz : (k : Int) < (len : Int) := by omega
    have hkz0 : (0 : Int) ≤ (k : Int) := by omega
    clear hc hwf hdi z1
    have n0 := REL.out.s.n0
    have npb := REL.out.nm
    by_cases h50 : zz < 50
    · have hzz : (zz : Int) < 50 := by omega
      have tm := tmod_nat zz 2
      obtain ⟨pd, hpd⟩ : ∃ pd, pd = zz % 2 := ⟨_, rfl⟩
      rw [← hpd] at tm
      replace tm : ((zz : Int)).tmod 2 = (pd : Int) := tm
      have em : (zz : Int) % 2 = (pd : Int) := by rw [hpd, Int.natCast_emod]; rfl
      have pdb : (pd : Int) ≤ 1 := by omega
      clear hpd
      go_wp2_with fail
      refine (begin_sq pd REL.out.s).mono ?_
      rintro e w5 ⟨q, rfl, hq, k5, c5, z5⟩
      have K5 := Lib.hid k5
      have C5 := Lib.hid c5
      have HQ := Lib.hid hq
      have Z5 := Lib.hid z5
      have E7 := Lib.hid (Row.kept (S := Nil) (REL.out.e.kept c5 (fun _ _ e => e)) ((Ch.refl Nil w5).alloc (Obj.cells #[.pointer (some ⟨q, 0, none⟩)] 34)) (fun _ _ e => e))
      have V1 : Hid (∀ i, i < np * 1 → ptF (upN B np q) i = ptF B i) := Lib.hid (fun i hi => by unfold ptF; rw [upN_other _ _ (by omega)])
      have V2 : Hid (∀ (j : Nat) (u : Value), ([.pointer (some ⟨q, 0, none⟩)] : List Value)[j]? = some u → ptF (upN B np q) (np * 1 + j) = u) := Lib.hid (by
        intro j u hu
        obtain rfl : j = 0 := (by cases j; rfl; simp at hu)
        simp at hu
        subst hu
        unfold ptF
        rw [Nat.mul_one, Nat.add_zero, upN_same])
      clear k5 c5 hq z5
      go_wp2_with (at_builtin; refine append_row _ rfl _ _ _ rfl 34 (.pointer none) 1 8 Try.underlying31 (by kernel_rfl) rfl (by omega) (by omega) rfl E7.out (by omega) w5.heap.size 1 [.pointer (some ⟨q, 0, none⟩)] 34 rfl rfl (heap_alloc_new w5 _) (by simp [Value.oneCell']) (ptF (upN B np q)) V1.out V2.out _ rfl ?_)
      intro ga ca w6 row6 ch6 at6 lt6
      have c6 : Ch (OwnS ae) w5 w6 := (((Ch.refl Nil w5).alloc _).mono (fun _ _ e => e.elim)).trans ch6
      have RELX := Lib.hid (REL.out.grow (m' := k + 1) HQ.out K5.out C5.out Z5.out row6 c6 (by rcases at6 with h | h; exact .inl h; exact .inr (by (try simp at h); omega)) (Nat.le_refl _))
      clear row6 ch6 at6 lt6 c6 E7 V1 V2 K5 C5 HQ Z5 REL q1 tm em
      go_wp2
      refine wp_mono (smC_loop w b rb n mb (some xa) len cap zs k cnt R (np + 1) (upN B np q) (upQ Q np ⟨pd, 0, 0, 0, 0, 0⟩) (some ⟨ga, 0, none⟩) ca cm F HV.out h200 n1 (by omega) _ _ (by omega) ?hI) ?_
      case hI => exact ⟨0, rfl, rfl, rfl, rfl, rfl, rfl, rfl, rfl, rfl, rfl, ⟨RELX.out, rfl⟩⟩
      clear RELX
      intro e a' w9 hp
      obtain ⟨rfl, H⟩ := Qx_inv hp
      clear hp
      obtain ⟨t, ds⟩ := a'
      obtain ⟨x, hd', hz, h1, h5, h6, h8, h9, h10, h16, h17, rel⟩ := H
      replace hd' : ds = [] := hd'
      subst hd'
      replace hz : t.size = 148 := hz
      replace h1 : t.getD 1 undef = .slice (some xa) len cap := h1
      replace h5 : t.getD 5 undef = .int .i64 (n : Nat) := h5
      replace h6 : t.getD 6 undef = .pointer (some ⟨b, 0, none⟩) := h6
      replace h8 : t.getD 8 undef = .slice (some ⟨ga, 0, none⟩) (np + 1) ca := h8
      replace h9 : t.getD 9 undef = .map (some mb) := h9
      replace h10 : t.getD 10 undef = .int .i64 (k : Nat) := h10
      replace h16 : t.getD 16 undef = .int .i64 (x : Nat) := h16
      replace h17 : t.getD 17 undef = .int .i64 (n : Nat) := h17
      have REL := Lib.hid rel
      clear rel
      refine openFr148 (P := fun t => t.getD 1 undef = .slice (some xa) len cap → t.getD 5 undef = .int .i64 (n : Nat) → t.getD 6 undef = .pointer (some ⟨b, 0, none⟩) → t.getD 8 undef = .slice (some ⟨ga, 0, none⟩) (np + 1) ca → t.getD 9 undef = .map (some mb) → t.getD 10 undef = .int .i64 (k : Nat) → t.getD 16 undef = .int .i64 (x : Nat) → t.getD 17 undef = .int .i64 (n : Nat) → Exit.inBlock 3 _ (.exit 3) ⟨t, []⟩ w9) ?_ t hz h1 h5 h6 h8 h9 h10 h16 h17
      clear h1 h5 h6 h8 h9 h10 h16 h17 hz t
      intro c0 c1 c2 c3 c4 c5 c6 c7 c8 c9 c10 c11 c12 c13 c14 c15 c16 c17 c18 c19 c20 c21 c22 c23 c24 c25 c26 c27 c28 c29 c30 c31 c32 c33 c34 c35 c36 c37 c38 c39 c40 c41 c42 c43 c44 c45 c46 c47 c48 c49 c50 c51 c52 c53 c54 c55 c56 c57 c58 c59 c60 c61 c62 c63 c64 c65 c66 c67 c68 c69 c70 c71 c72 c73 c74 c75 c76 c77 c78 c79 c80 c81 c82 c83 c84 c85 c86 c87 c88 c89 c90 c91 c92 c93 c94 c95 c96 c97 c98 c99 c100 c101 c102 c103 c104 c105 c106 c107 c108 c109 c110 c111 c112 c113 c114 c115 c116 c117 c118 c119 c120 c121 c122 c123 c124 c125 c126 c127 c128 c129 c130 c131 c132 c133 c134 c135 c136 c137 c138 c139 c140 c141 c142 c143 c144 c145 c146 c147 h1 h5 h6 h8 h9 h10 h16 h17
      replace h1 : c1 = .slice (some xa) len cap := h1
      replace h5 : c5 = .int .i64 (n : Nat) := h5
      replace h6 : c6 = .pointer (some ⟨b, 0, none⟩) := h6
      replace h8 : c8 = .slice (some ⟨ga, 0, none⟩) (np + 1) ca := h8
      replace h9 : c9 = .map (some mb) := h9
      replace h10 : c10 = .int .i64 (k : Nat) := h10
      replace h16 : c16 = .int .i64 (x : Nat) := h16
      replace h17 : c17 = .int .i64 (n : Nat) := h17
      subst h1
      subst h5
      subst h6
      subst h8
      subst h9
      subst h10
      subst h16
      subst h17
      have ui := REL.out.1.i.us
      have ul := REL.out.1.i.le
      have hxu := REL.out.2
      have hxc : (x : Int) ≤ ((cnt : Nat) : Int) := by omega
      have hcn : ((cnt : Nat) : Int) ≤ (n : Int) := by omega
      obtain ⟨cc, hcc⟩ : ∃ cc, cc = cnt := ⟨_, rfl⟩
      rw [← hcc] at hxc hcn
      have CC := Lib.hid hcc
      clear ui ul hxu hcc
      go_wp2_with fail
      refine (count_of REL.out.1.s).mono ?_
      rintro e w10 ⟨rfl, s10, c10⟩
      have R10 := Lib.hid (REL.out.1.two s10 REL.out.1.i (Nat.le_refl _) (fun _ => Nat.le_refl _) (Ch_two1 c10))
      rw [← CC.out]
      clear s10 c10 REL
      go_wp2_with fail
      refine (count_of R10.out.s).mono ?_
      rintro e w11 ⟨rfl, s11, c11⟩
      have R11 := Lib.hid (R10.out.two s11 R10.out.i (Nat.le_refl _) (fun _ => Nat.le_refl _) (Ch_two1 c11))
      rw [← CC.out]
      clear s11 c11 R10
      go_wp2
      first | exact ⟨⟨_, _, _, _, _, _, _, _, _, rfl, rfl, rfl, rfl, rfl, rfl, rfl, rfl, R11.out⟩, hlt⟩ | exact ⟨_, _, _, _, _, _, _, _, _, rfl, rfl, rfl, rfl, rfl, rfl, rfl, rfl, R11.out⟩
    · by_cases h80 : zz < 80
      · have hzz : (50 : Int) ≤ (zz : Int) := by omega
        have hzz2 : (zz : Int) < 80 := by omega
        have n00 : ¬ n = 0 := by omega
        have hj := Nat.mod_lt zz n0
        have tm := tmod_nat zz n
        obtain ⟨j, hjj⟩ : ∃ j, j = zz % n := ⟨_, rfl⟩
        rw [← hjj] at hj tm
        have em : (zz : Int) % (n : Int) = (j : Int) := by rw [hjj, Int.natCast_emod]
        have HJ := Lib.hid hj
        clear hj hjj
        go_wp2_with fail
        refine (free_any j REL.out.s REL.out.i (by omega) HJ.out).mono ?_
        rintro e w5 ⟨cnt1, R1, x1, rfl, s5, i5, g5, c5⟩
        have RELX := Lib.hid (REL.out.two (m' := k + 1) s5 (i5.more (Nat.le_succ k)) (Nat.le_succ k) (fun k => by rw [g5 k]; exact Nat.le_refl _) c5)
        clear s5 i5 g5 c5 q1 tm em HJ REL
        go_wp2
        refine wp_mono (smC_loop w b rb n mb (some xa) len cap zs k cnt1 R1 np B Q ae ce cm F HV.out h200 n1 (by omega) _ _ (by omega) ?hI) ?_
        case hI => exact ⟨0, rfl, rfl, rfl, rfl, rfl, rfl, rfl, rfl, rfl, rfl, ⟨RELX.out, rfl⟩⟩
        clear RELX
        intro e a' w9 hp
        obtain ⟨rfl, H⟩ := Qx_inv hp
        clear hp
        obtain ⟨t, ds⟩ := a'
        obtain ⟨x, hd', hz, h1, h5, h6, h8, h9, h10, h16, h17, rel⟩ := H
        replace hd' : ds = [] := hd'
        subst hd'
        replace hz : t.size = 148 := hz
        replace h1 : t.getD 1 undef = .slice (some xa) len cap := h1
        replace h5 : t.getD 5 undef = .int .i64 (n : Nat) := h5
        replace h6 : t.getD 6 undef = .pointer (some ⟨b, 0, none⟩) := h6
        replace h8 : t.getD 8 undef = .slice ae np ce := h8
        replace h9 : t.getD 9 undef = .map (some mb) := h9
        replace h10 : t.getD 10 undef = .int .i64 (k : Nat) := h10
        replace h16 : t.getD 16 undef = .int .i64 (x : Nat) := h16
        replace h17 : t.getD 17 undef = .int .i64 (n : Nat) := h17
        have REL := Lib.hid rel
        clear rel
        refine openFr148 (P := fun t => t.getD 1 undef = .slice (some xa) len cap → t.getD 5 undef = .int .i64 (n : Nat) → t.getD 6 undef = .pointer (some ⟨b, 0, none⟩) → t.getD 8 undef = .slice ae np ce → t.getD 9 undef = .map (some mb) → t.getD 10 undef = .int .i64 (k : Nat) → t.getD 16 undef = .int .i64 (x : Nat) → t.getD 17 undef = .int .i64 (n : Nat) → Exit.inBlock 3 _ (.exit 3) ⟨t, []⟩ w9) ?_ t hz h1 h5 h6 h8 h9 h10 h16 h17
        clear h1 h5 h6 h8 h9 h10 h16 h17 hz t
        intro c0 c1 c2 c3 c4 c5 c6 c7 c8 c9 c10 c11 c12 c13 c14 c15 c16 c17 c18 c19 c20 c21 c22 c23 c24 c25 c26 c27 c28 c29 c30 c31 c32 c33 c34 c35 c36 c37 c38 c39 c40 c41 c42 c43 c44 c45 c46 c47 c48 c49 c50 c51 c52 c53 c54 c55 c56 c57 c58 c59 c60 c61 c62 c63 c64 c65 c66 c67 c68 c69 c70 c71 c72 c73 c74 c75 c76 c77 c78 c79 c80 c81 c82 c83 c84 c85 c86 c87 c88 c89 c90 c91 c92 c93 c94 c95 c96 c97 c98 c99 c100 c101 c102 c103 c104 c105 c106 c107 c108 c109 c110 c111 c112 c113 c114 c115 c116 c117 c118 c119 c120 c121 c122 c123 c124 c125 c126 c127 c128 c129 c130 c131 c132 c133 c134 c135 c136 c137 c138 c139 c140 c141 c142 c143 c144 c145 c146 c147 h1 h5 h6 h8 h9 h10 h16 h17
        replace h1 : c1 = .slice (some xa) len cap := h1
        replace h5 : c5 = .int .i64 (n : Nat) := h5
        replace h6 : c6 = .pointer (some ⟨b, 0, none⟩) := h6
        replace h8 : c8 = .slice ae np ce := h8
        replace h9 : c9 = .map (some mb) := h9
        replace h10 : c10 = .int .i64 (k : Nat) := h10
        replace h16 : c16 = .int .i64 (x : Nat) := h16
        replace h17 : c17 = .int .i64 (n : Nat) := h17
        subst h1
        subst h5
        subst h6
        subst h8
        subst h9
        subst h10
        subst h16
        subst h17
        have ui := REL.out.1.i.us
        have ul := REL.out.1.i.le
        have hxu := REL.out.2
        have hxc : (x : Int) ≤ ((cnt1 : Nat) : Int) := by omega
        have hcn : ((cnt1 : Nat) : Int) ≤ (n : Int) := by omega
        obtain ⟨cc, hcc⟩ : ∃ cc, cc = cnt1 := ⟨_, rfl⟩
        rw [← hcc] at hxc hcn
        have CC := Lib.hid hcc
        clear ui ul hxu hcc
        go_wp2_with fail
        refine (count_of REL.out.1.s).mono ?_
        rintro e w10 ⟨rfl, s10, c10⟩
        have R10 := Lib.hid (REL.out.1.two s10 REL.out.1.i (Nat.le_refl _) (fun _ => Nat.le_refl _) (Ch_two1 c10))
        rw [← CC.out]
        clear s10 c10 REL
        go_wp2_with fail
        refine (count_of R10.out.s).mono ?_
        rintro e w11 ⟨rfl, s11, c11⟩
        have R11 := Lib.hid (R10.out.two s11 R10.out.i (Nat.le_refl _) (fun _ => Nat.le_refl _) (Ch_two1 c11))
        rw [← CC.out]
        clear s11 c11 R10
        go_wp2
        first | exact ⟨⟨_, _, _, _, _, _, _, _, _, rfl, rfl, rfl, rfl, rfl, rfl, rfl, rfl, R11.out⟩, hlt⟩ | exact ⟨_, _, _, _, _, _, _, _, _, rfl, rfl, rfl, rfl, rfl, rfl, rfl, rfl, R11.out⟩
      · have hzz : (80 : Int) ≤ (zz : Int) := by omega
        have hzz2 : (50 : Int) ≤ (zz : Int) := by omega
        by_cases hnp : np = 0
        · subst hnp
          have RELX := Lib.hid (REL.out.more (Nat.le_succ k))
          clear REL
          go_wp2
          refine wp_mono (smC_loop w b rb n mb (some xa) len cap zs k cnt R 0 B Q ae ce cm F HV.out h200 n1 (by omega) _ _ (by omega) ?hI) ?_
          case hI => exact ⟨0, rfl, rfl, rfl, rfl, rfl, rfl, rfl, rfl, rfl, rfl, ⟨RELX.out, rfl⟩⟩
          clear RELX
          intro e a' w9 hp
          obtain ⟨rfl, H⟩ := Qx_inv hp
          clear hp
          obtain ⟨t, ds⟩ := a'
          obtain ⟨x, hd', hz, h1, h5, h6, h8, h9, h10, h16, h17, rel⟩ := H
          replace hd' : ds = [] := hd'
          subst hd'
          replace hz : t.size = 148 := hz
          replace h1 : t.getD 1 undef = .slice (some xa) len cap := h1
          replace h5 : t.getD 5 undef = .int .i64 (n : Nat) := h5
          replace h6 : t.getD 6 undef = .pointer (some ⟨b, 0, none⟩) := h6
          replace h8 : t.getD 8 undef = .slice ae 0 ce := h8
          replace h9 : t.getD 9 undef = .map (some mb) := h9
          replace h10 : t.getD 10 undef = .int .i64 (k : Nat) := h10
          replace h16 : t.getD 16 undef = .int .i64 (x : Nat) := h16
          replace h17 : t.getD 17 undef = .int .i64 (n : Nat) := h17
          have REL := Lib.hid rel
          clear rel
          refine openFr148 (P := fun t => t.getD 1 undef = .slice (some xa) len cap → t.getD 5 undef = .int .i64 (n : Nat) → t.getD 6 undef = .pointer (some ⟨b, 0, none⟩) → t.getD 8 undef = .slice ae 0 ce → t.getD 9 undef = .map (some mb) → t.getD 10 undef = .int .i64 (k : Nat) → t.getD 16 undef = .int .i64 (x : Nat) → t.getD 17 undef = .int .i64 (n : Nat) → Exit.inBlock 3 _ (.exit 3) ⟨t, []⟩ w9) ?_ t hz h1 h5 h6 h8 h9 h10 h16 h17
          clear h1 h5 h6 h8 h9 h10 h16 h17 hz t
          intro c0 c1 c2 c3 c4 c5 c6 c7 c8 c9 c10 c11 c12 c13 c14 c15 c16 c17 c18 c19 c20 c21 c22 c23 c24 c25 c26 c27 c28 c29 c30 c31 c32 c33 c34 c35 c36 c37 c38 c39 c40 c41 c42 c43 c44 c45 c46 c47 c48 c49 c50 c51 c52 c53 c54 c55 c56 c57 c58 c59 c60 c61 c62 c63 c64 c65 c66 c67 c68 c69 c70 c71 c72 c73 c74 c75 c76 c77 c78 c79 c80 c81 c82 c83 c84 c85 c86 c87 c88 c89 c90 c91 c92 c93 c94 c95 c96 c97 c98 c99 c100 c101 c102 c103 c104 c105 c106 c107 c108 c109 c110 c111 c112 c113 c114 c115 c116 c117 c118 c119 c120 c121 c122 c123 c124 c125 c126 c127 c128 c129 c130 c131 c132 c133 c134 c135 c136 c137 c138 c139 c140 c141 c142 c143 c144 c145 c146 c147 h1 h5 h6 h8 h9 h10 h16 h17
          replace h1 : c1 = .slice (some xa) len cap := h1
          replace h5 : c5 = .int .i64 (n : Nat) := h5
          replace h6 : c6 = .pointer (some ⟨b, 0, none⟩) := h6
          replace h8 : c8 = .slice ae 0 ce := h8
          replace h9 : c9 = .map (some mb) := h9
          replace h10 : c10 = .int .i64 (k : Nat) := h10
          replace h16 : c16 = .int .i64 (x : Nat) := h16
          replace h17 : c17 = .int .i64 (n : Nat) := h17
          subst h1
          subst h5
          subst h6
          subst h8
          subst h9
          subst h10
          subst h16
          subst h17
          have ui := REL.out.1.i.us
          have ul := REL.out.1.i.le
          have hxu := REL.out.2
          have hxc : (x : Int) ≤ ((cnt : Nat) : Int) := by omega
          have hcn : ((cnt : Nat) : Int) ≤ (n : Int) := by omega
          obtain ⟨cc, hcc⟩ : ∃ cc, cc = cnt := ⟨_, rfl⟩
          rw [← hcc] at hxc hcn
          have CC := Lib.hid hcc
          clear ui ul hxu hcc
          go_wp2_with fail
          refine (count_of REL.out.1.s).mono ?_
          rintro e w10 ⟨rfl, s10, c10⟩
          have R10 := Lib.hid (REL.out.1.two s10 REL.out.1.i (Nat.le_refl _) (fun _ => Nat.le_refl _) (Ch_two1 c10))
          rw [← CC.out]
          clear s10 c10 REL
          go_wp2_with fail
          refine (count_of R10.out.s).mono ?_
          rintro e w11 ⟨rfl, s11, c11⟩
          have R11 := Lib.hid (R10.out.two s11 R10.out.i (Nat.le_refl _) (fun _ => Nat.le_refl _) (Ch_two1 c11))
          rw [← CC.out]
          clear s11 c11 R10
          go_wp2
          first | exact ⟨⟨_, _, _, _, _, _, _, _, _, rfl, rfl, rfl, rfl, rfl, rfl, rfl, rfl, R11.out⟩, hlt⟩ | exact ⟨_, _, _, _, _, _, _, _, _, rfl, rfl, rfl, rfl, rfl, rfl, rfl, rfl, R11.out⟩
        · have np0 : 0 < np := by omega
          have npz : (0 : Int) < (np : Int) := by omega
          have np00 : ¬ (np : Int) = 0 := by omega
          have np000 : ¬ np = 0 := by omega
          have hj := Nat.mod_lt zz np0
          have tm := tmod_nat zz np
          obtain ⟨j, hjj⟩ : ∃ j, j = zz % np := ⟨_, rfl⟩
          rw [← hjj] at hj tm
          have em : (zz : Int) % (np : Int) = (j : Int) := by rw [hjj, Int.natCast_emod]
          clear hjj
          have hjz : (j : Int) < (np : Int) := by omega
          have hjz0 : (0 : Int) ≤ (j : Int) := by omega
          have e0 : ((j : Int)).toNat = j := by omega
          obtain ⟨ga, rfl, -⟩ := REL.out.e.form np0
          have lc := REL.out.e.len_cap
          have LP : Hid (wr.cell? ⟨ga, j, none⟩ = some (.pointer (some ⟨B j, 0, none⟩))) := Lib.hid (REL.out.e.cell j (by omega))
          have lp := LP.out
          have SP := Lib.hid (step_stp (L := looks Q np - lk (Q j)) (r := Q j) (cnt := cnt) (R := R) (n := n) (m := k) (by
            have h1 := looks_up Q j (Q j) np hj
            have h2 : lk (Q j) ≤ looks Q np := by
              have h3 := looks_up Q j ⟨0, 0, 1, 0, 0, 0⟩ np hj
              have h4 : lk ⟨0, 0, 1, 0, 0, 0⟩ = 0 := by simp [lk]
              omega
            rw [show looks Q np - lk (Q j) + lk (Q j) = looks Q np by omega]
            exact REL.out.i) (REL.out.k j hj) (by omega) (by omega) n0)
          obtain ⟨sN, hsN⟩ : ∃ sN, sN = stepM n cnt R (Q j) := ⟨_, rfl⟩
          have STP := step_fit (s := (cnt, R, Q j)) (REL.out.sq hj) ((REL.out.k j hj).fit REL.out.i (by omega))
          dsimp only at STP
          rw [← hsN] at STP SP
          have ID1 := id_of (REL.out.q j hj)
          replace STP := Lib.hid STP
          clear hsN
          have LI : Hid (looks Q np - lk (Q j) + lk sN.2.2 = looks (upQ Q j sN.2.2) np) := Lib.hid (by
            have h1 := looks_up Q j sN.2.2 np hj
            have h2 : lk (Q j) ≤ looks Q np := by
              have h3 := looks_up Q j ⟨0, 0, 1, 0, 0, 0⟩ np hj
              have h4 : lk ⟨0, 0, 1, 0, 0, 0⟩ = 0 := by simp [lk]
              omega
            omega)
          by_cases s2 : (Q j).ss = 2
          · rw [if_pos s2, if_pos s2] at ID1
            replace ID1 := Lib.hid ID1
            have S2 := Lib.hid s2
            obtain ⟨v1, hv1⟩ : ∃ v1, v1 = (Q j).id := ⟨_, rfl⟩
            rw [← hv1] at ID1
            clear s2 hv1
            go_wp2_with fail
            refine ID1.out.mono ?_
            rintro e w5 ⟨rfl, rfl⟩
            go_wp2_with fail
            refine STP.out.mono ?_
            rintro e w5 ⟨rfl, k5, c5⟩
            have R5 := Lib.hid (REL.out.step (m' := k + 1) hj k5 c5 (by rw [← LI.out]; exact SP.out.inv) SP.out.ok (Nat.le_succ k) SP.out.gv)
            obtain ⟨y5, hy5⟩ : ∃ y5, y5 = sN.2.2.ss := ⟨_, rfl⟩
            rw [← hy5]
            have lp5 := R5.out.e.cell j (by omega)
            replace lp5 : w5.cell? ⟨ga, j, none⟩ = some (.pointer (some ⟨B j, 0, none⟩)) := lp5
            have ID2 := id_of k5.rq
            rw [if_pos (by rw [SP.out.idle S2.out]; exact S2.out), if_pos (by rw [SP.out.idle S2.out]; exact S2.out)] at ID2
            replace ID2 := Lib.hid ID2
            clear k5 c5 hy5 lp REL STP ID1 LP
            go_wp2_with fail
            refine ID2.out.mono ?_
            rintro e w6 ⟨rfl, rfl⟩
            obtain ⟨v2, hv2⟩ : ∃ v2, v2 = sN.2.2.id := ⟨_, rfl⟩
            rw [← hv2]
            clear hv2 ID2 lp5
            have RELX := R5
            clear R5
            go_wp2
            refine wp_mono (smC_loop w b rb n mb (some xa) len cap zs k sN.1 sN.2.1 np B (upQ Q j sN.2.2) (some ⟨ga, 0, none⟩) ce cm F HV.out h200 n1 (by omega) _ _ (by omega) ?hI) ?_
            case hI => exact ⟨0, rfl, rfl, rfl, rfl, rfl, rfl, rfl, rfl, rfl, rfl, ⟨RELX.out, rfl⟩⟩
            clear RELX
            intro e a' w9 hp
            obtain ⟨rfl, H⟩ := Qx_inv hp
            clear hp
            obtain ⟨t, ds⟩ := a'
            obtain ⟨x, hd', hz, h1, h5, h6, h8, h9, h10, h16, h17, rel⟩ := H
            replace hd' : ds = [] := hd'
            subst hd'
            replace hz : t.size = 148 := hz
            replace h1 : t.getD 1 undef = .slice (some xa) len cap := h1
            replace h5 : t.getD 5 undef = .int .i64 (n : Nat) := h5
            replace h6 : t.getD 6 undef = .pointer (some ⟨b, 0, none⟩) := h6
            replace h8 : t.getD 8 undef = .slice (some ⟨ga, 0, none⟩) np ce := h8
            replace h9 : t.getD 9 undef = .map (some mb) := h9
            replace h10 : t.getD 10 undef = .int .i64 (k : Nat) := h10
            replace h16 : t.getD 16 undef = .int .i64 (x : Nat) := h16
            replace h17 : t.getD 17 undef = .int .i64 (n : Nat) := h17
            have REL := Lib.hid rel
            clear rel
            refine openFr148 (P := fun t => t.getD 1 undef = .slice (some xa) len cap → t.getD 5 undef = .int .i64 (n : Nat) → t.getD 6 undef = .pointer (some ⟨b, 0, none⟩) → t.getD 8 undef = .slice (some ⟨ga, 0, none⟩) np ce → t.getD 9 undef = .map (some mb) → t.getD 10 undef = .int .i64 (k : Nat) → t.getD 16 undef = .int .i64 (x : Nat) → t.getD 17 undef = .int .i64 (n : Nat) → Exit.inBlock 3 _ (.exit 3) ⟨t, []⟩ w9) ?_ t hz h1 h5 h6 h8 h9 h10 h16 h17
            clear h1 h5 h6 h8 h9 h10 h16 h17 hz t
            intro c0 c1 c2 c3 c4 c5 c6 c7 c8 c9 c10 c11 c12 c13 c14 c15 c16 c17 c18 c19 c20 c21 c22 c23 c24 c25 c26 c27 c28 c29 c30 c31 c32 c33 c34 c35 c36 c37 c38 c39 c40 c41 c42 c43 c44 c45 c46 c47 c48 c49 c50 c51 c52 c53 c54 c55 c56 c57 c58 c59 c60 c61 c62 c63 c64 c65 c66 c67 c68 c69 c70 c71 c72 c73 c74 c75 c76 c77 c78 c79 c80 c81 c82 c83 c84 c85 c86 c87 c88 c89 c90 c91 c92 c93 c94 c95 c96 c97 c98 c99 c100 c101 c102 c103 c104 c105 c106 c107 c108 c109 c110 c111 c112 c113 c114 c115 c116 c117 c118 c119 c120 c121 c122 c123 c124 c125 c126 c127 c128 c129 c130 c131 c132 c133 c134 c135 c136 c137 c138 c139 c140 c141 c142 c143 c144 c145 c146 c147 h1 h5 h6 h8 h9 h10 h16 h17
            replace h1 : c1 = .slice (some xa) len cap := h1
            replace h5 : c5 = .int .i64 (n : Nat) := h5
            replace h6 : c6 = .pointer (some ⟨b, 0, none⟩) := h6
            replace h8 : c8 = .slice (some ⟨ga, 0, none⟩) np ce := h8
            replace h9 : c9 = .map (some mb) := h9
            replace h10 : c10 = .int .i64 (k : Nat) := h10
            replace h16 : c16 = .int .i64 (x : Nat) := h16
            replace h17 : c17 = .int .i64 (n : Nat) := h17
            subst h1
            subst h5
            subst h6
            subst h8
            subst h9
            subst h10
            subst h16
            subst h17
            have ui := REL.out.1.i.us
            have ul := REL.out.1.i.le
            have hxu := REL.out.2
            have hxc : (x : Int) ≤ ((sN.1 : Nat) : Int) := by omega
            have hcn : ((sN.1 : Nat) : Int) ≤ (n : Int) := by omega
            obtain ⟨cc, hcc⟩ : ∃ cc, cc = sN.1 := ⟨_, rfl⟩
            rw [← hcc] at hxc hcn
            have CC := Lib.hid hcc
            clear ui ul hxu hcc
            go_wp2_with fail
            refine (count_of REL.out.1.s).mono ?_
            rintro e w10 ⟨rfl, s10, c10⟩
            have R10 := Lib.hid (REL.out.1.two s10 REL.out.1.i (Nat.le_refl _) (fun _ => Nat.le_refl _) (Ch_two1 c10))
            rw [← CC.out]
            clear s10 c10 REL
            go_wp2_with fail
            refine (count_of R10.out.s).mono ?_
            rintro e w11 ⟨rfl, s11, c11⟩
            have R11 := Lib.hid (R10.out.two s11 R10.out.i (Nat.le_refl _) (fun _ => Nat.le_refl _) (Ch_two1 c11))
            rw [← CC.out]
            clear s11 c11 R10
            go_wp2
            first | exact ⟨⟨_, _, _, _, _, _, _, _, _, rfl, rfl, rfl, rfl, rfl, rfl, rfl, rfl, R11.out⟩, hlt⟩ | exact ⟨_, _, _, _, _, _, _, _, _, rfl, rfl, rfl, rfl, rfl, rfl, rfl, rfl, R11.out⟩
          · rw [if_neg s2, if_neg s2] at ID1
            replace ID1 := Lib.hid ID1
            have S2 := Lib.hid s2
            clear s2
            go_wp2_with fail
            refine ID1.out.mono ?_
            rintro e w5 ⟨rfl, rfl⟩
            go_wp2_with fail
            refine STP.out.mono ?_
            rintro e w5 ⟨rfl, k5, c5⟩
            have R5 := Lib.hid (REL.out.step (m' := k + 1) hj k5 c5 (by rw [← LI.out]; exact SP.out.inv) SP.out.ok (Nat.le_succ k) SP.out.gv)
            have FOLD := Lib.hid REL.out.ff
            have CMB : Hid (cm ≤ k) := Lib.hid REL.out.fm
            obtain ⟨y5, hy5⟩ : ∃ y5, y5 = sN.2.2.ss := ⟨_, rfl⟩
            rw [← hy5]
            have lp5 := R5.out.e.cell j (by omega)
            replace lp5 : w5.cell? ⟨ga, j, none⟩ = some (.pointer (some ⟨B j, 0, none⟩)) := lp5
            have ID2 := id_of k5.rq
            by_cases t2 : sN.2.2.ss = 2
            · rw [if_pos t2, if_pos t2] at ID2
              obtain ⟨f, hf, hfi, hfg⟩ := SP.out.held S2.out t2
              obtain ⟨id, hid⟩ : ∃ id, id = sN.2.2.id := ⟨_, rfl⟩
              have hidb := SP.out.ok.id
              rw [← hid] at ID2 hfi hidb
              replace ID2 := Lib.hid ID2
              have em1 : id / 64 = (R f).gv + 1 := by omega
              have em2 : id % 64 = f := by omega
              have hF : F id = false := by
                cases hx : F id with
                | false => rfl
                | true =>
                  exfalso
                  have := FOLD.out id hidb hx
                  have h3 := this.2.2
                  rw [em1, em2] at h3
                  omega
              have GV : Hid (givenId n sN.2.1 id) := Lib.hid ⟨by rw [em2]; exact hf, by omega, by rw [em1, em2, hfg]; exact Nat.le_refl _⟩
              have MY : Hid (mineId n sN.2.1 id = true) := Lib.hid (by
                unfold mineId
                rw [em1, em2, if_pos hf, hfg]
                exact decide_eq_true ⟨by omega, rfl⟩)
              have LK := R5.out.f.look id hidb
              rw [hF] at LK
              obtain ⟨w7, hput, m7, c7⟩ := R5.out.f.put id hidb (by have := CMB.out; omega)
              have RELX := Lib.hid (R5.out.saw GV.out m7 c7 (by have := CMB.out; omega))
              clear k5 c5 hy5 lp REL STP ID1 LP t2 hf hfi hfg hid em1 em2 hF m7 c7 GV FOLD CMB
              go_wp2_with fail
              refine ID2.out.mono ?_
              rintro e w6 ⟨rfl, rfl⟩
              clear lp5 ID2
              go_wp2_with fail
              refine (mine_of id (by omega) R5.out.s).mono ?_
              rintro e w6 ⟨rfl, rfl⟩
              rw [MY.out]
              clear R5 MY
              go_wp2
              refine wp_mono (smC_loop w b rb n mb (some xa) len cap zs k sN.1 sN.2.1 np B (upQ Q j sN.2.2) (some ⟨ga, 0, none⟩) ce (cm + 1) (upd F id true) HV.out h200 n1 (by omega) _ _ (by omega) ?hI) ?_
              case hI => exact ⟨0, rfl, rfl, rfl, rfl, rfl, rfl, rfl, rfl, rfl, rfl, ⟨RELX.out, rfl⟩⟩
              clear RELX
              intro e a' w9 hp
              obtain ⟨rfl, H⟩ := Qx_inv hp
              clear hp
              obtain ⟨t, ds⟩ := a'
              obtain ⟨x, hd', hz, h1, h5, h6, h8, h9, h10, h16, h17, rel⟩ := H
              replace hd' : ds = [] := hd'
              subst hd'
              replace hz : t.size = 148 := hz
              replace h1 : t.getD 1 undef = .slice (some xa) len cap := h1
              replace h5 : t.getD 5 undef = .int .i64 (n : Nat) := h5
              replace h6 : t.getD 6 undef = .pointer (some ⟨b, 0, none⟩) := h6
              replace h8 : t.getD 8 undef = .slice (some ⟨ga, 0, none⟩) np ce := h8
              replace h9 : t.getD 9 undef = .map (some mb) := h9
              replace h10 : t.getD 10 undef = .int .i64 (k : Nat) := h10
              replace h16 : t.getD 16 undef = .int .i64 (x : Nat) := h16
              replace h17 : t.getD 17 undef = .int .i64 (n : Nat) := h17
              have REL := Lib.hid rel
              clear rel
              refine openFr148 (P := fun t => t.getD 1 undef = .slice (some xa) len cap → t.getD 5 undef = .int .i64 (n : Nat) → t.getD 6 undef = .pointer (some ⟨b, 0, none⟩) → t.getD 8 undef = .slice (some ⟨ga, 0, none⟩) np ce → t.getD 9 undef = .map (some mb) → t.getD 10 undef = .int .i64 (k : Nat) → t.getD 16 undef = .int .i64 (x : Nat) → t.getD 17 undef = .int .i64 (n : Nat) → Exit.inBlock 3 _ (.exit 3) ⟨t, []⟩ w9) ?_ t hz h1 h5 h6 h8 h9 h10 h16 h17
              clear h1 h5 h6 h8 h9 h10 h16 h17 hz t
              intro c0 c1 c2 c3 c4 c5 c6 c7 c8 c9 c10 c11 c12 c13 c14 c15 c16 c17 c18 c19 c20 c21 c22 c23 c24 c25 c26 c27 c28 c29 c30 c31 c32 c33 c34 c35 c36 c37 c38 c39 c40 c41 c42 c43 c44 c45 c46 c47 c48 c49 c50 c51 c52 c53 c54 c55 c56 c57 c58 c59 c60 c61 c62 c63 c64 c65 c66 c67 c68 c69 c70 c71 c72 c73 c74 c75 c76 c77 c78 c79 c80 c81 c82 c83 c84 c85 c86 c87 c88 c89 c90 c91 c92 c93 c94 c95 c96 c97 c98 c99 c100 c101 c102 c103 c104 c105 c106 c107 c108 c109 c110 c111 c112 c113 c114 c115 c116 c117 c118 c119 c120 c121 c122 c123 c124 c125 c126 c127 c128 c129 c130 c131 c132 c133 c134 c135 c136 c137 c138 c139 c140 c141 c142 c143 c144 c145 c146 c147 h1 h5 h6 h8 h9 h10 h16 h17
              replace h1 : c1 = .slice (some xa) len cap := h1
              replace h5 : c5 = .int .i64 (n : Nat) := h5
              replace h6 : c6 = .pointer (some ⟨b, 0, none⟩) := h6
              replace h8 : c8 = .slice (some ⟨ga, 0, none⟩) np ce := h8
              replace h9 : c9 = .map (some mb) := h9
              replace h10 : c10 = .int .i64 (k : Nat) := h10
              replace h16 : c16 = .int .i64 (x : Nat) := h16
              replace h17 : c17 = .int .i64 (n : Nat) := h17
              subst h1
              subst h5
              subst h6
              subst h8
              subst h9
              subst h10
              subst h16
              subst h17
              have ui := REL.out.1.i.us
              have ul := REL.out.1.i.le
              have hxu := REL.out.2
              have hxc : (x : Int) ≤ ((sN.1 : Nat) : Int) := by omega
              have hcn : ((sN.1 : Nat) : Int) ≤ (n : Int) := by omega
              obtain ⟨cc, hcc⟩ : ∃ cc, cc = sN.1 := ⟨_, rfl⟩
              rw [← hcc] at hxc hcn
              have CC := Lib.hid hcc
              clear ui ul hxu hcc
              go_wp2_with fail
              refine (count_of REL.out.1.s).mono ?_
              rintro e w10 ⟨rfl, s10, c10⟩
              have R10 := Lib.hid (REL.out.1.two s10 REL.out.1.i (Nat.le_refl _) (fun _ => Nat.le_refl _) (Ch_two1 c10))
              rw [← CC.out]
              clear s10 c10 REL
              go_wp2_with fail
              refine (count_of R10.out.s).mono ?_
              rintro e w11 ⟨rfl, s11, c11⟩
              have R11 := Lib.hid (R10.out.two s11 R10.out.i (Nat.le_refl _) (fun _ => Nat.le_refl _) (Ch_two1 c11))
              rw [← CC.out]
              clear s11 c11 R10
              go_wp2
              first | exact ⟨⟨_, _, _, _, _, _, _, _, _, rfl, rfl, rfl, rfl, rfl, rfl, rfl, rfl, R11.out⟩, hlt⟩ | exact ⟨_, _, _, _, _, _, _, _, _, rfl, rfl, rfl, rfl, rfl, rfl, rfl, rfl, R11.out⟩
            · rw [if_neg t2, if_neg t2] at ID2
              replace ID2 := Lib.hid ID2
              clear k5 c5 hy5 lp REL STP ID1 LP t2 FOLD CMB
              go_wp2_with fail
              refine ID2.out.mono ?_
              rintro e w6 ⟨rfl, rfl⟩
              clear ID2 lp5
              have RELX := R5
              clear R5
              go_wp2
              refine wp_mono (smC_loop w b rb n mb (some xa) len cap zs k sN.1 sN.2.1 np B (upQ Q j sN.2.2) (some ⟨ga, 0, none⟩) ce cm F HV.out h200 n1 (by omega) _ _ (by omega) ?hI) ?_
              case hI => exact ⟨0, rfl, rfl, rfl, rfl, rfl, rfl, rfl, rfl, rfl, rfl, ⟨RELX.out, rfl⟩⟩
              clear RELX
              intro e a' w9 hp
              obtain ⟨rfl, H⟩ := Qx_inv hp
              clear hp
              obtain ⟨t, ds⟩ := a'
              obtain ⟨x, hd', hz, h1, h5, h6, h8, h9, h10, h16, h17, rel⟩ := H
              replace hd' : ds = [] := hd'
              subst hd'
              replace hz : t.size = 148 := hz
              replace h1 : t.getD 1 undef = .slice (some xa) len cap := h1
              replace h5 : t.getD 5 undef = .int .i64 (n : Nat) := h5
              replace h6 : t.getD 6 undef = .pointer (some ⟨b, 0, none⟩) := h6
              replace h8 : t.getD 8 undef = .slice (some ⟨ga, 0, none⟩) np ce := h8
              replace h9 : t.getD 9 undef = .map (some mb) := h9
              replace h10 : t.getD 10 undef = .int .i64 (k : Nat) := h10
              replace h16 : t.getD 16 undef = .int .i64 (x : Nat) := h16
              replace h17 : t.getD 17 undef = .int .i64 (n : Nat) := h17
              have REL := Lib.hid rel
              clear rel
              refine openFr148 (P := fun t => t.getD 1 undef = .slice (some xa) len cap → t.getD 5 undef = .int .i64 (n : Nat) → t.getD 6 undef = .pointer (some ⟨b, 0, none⟩) → t.getD 8 undef = .slice (some ⟨ga, 0, none⟩) np ce → t.getD 9 undef = .map (some mb) → t.getD 10 undef = .int .i64 (k : Nat) → t.getD 16 undef = .int .i64 (x : Nat) → t.getD 17 undef = .int .i64 (n : Nat) → Exit.inBlock 3 _ (.exit 3) ⟨t, []⟩ w9) ?_ t hz h1 h5 h6 h8 h9 h10 h16 h17
              clear h1 h5 h6 h8 h9 h10 h16 h17 hz t
              intro c0 c1 c2 c3 c4 c5 c6 c7 c8 c9 c10 c11 c12 c13 c14 c15 c16 c17 c18 c19 c20 c21 c22 c23 c24 c25 c26 c27 c28 c29 c30 c31 c32 c33 c34 c35 c36 c37 c38 c39 c40 c41 c42 c43 c44 c45 c46 c47 c48 c49 c50 c51 c52 c53 c54 c55 c56 c57 c58 c59 c60 c61 c62 c63 c64 c65 c66 c67 c68 c69 c70 c71 c72 c73 c74 c75 c76 c77 c78 c79 c80 c81 c82 c83 c84 c85 c86 c87 c88 c89 c90 c91 c92 c93 c94 c95 c96 c97 c98 c99 c100 c101 c102 c103 c104 c105 c106 c107 c108 c109 c110 c111 c112 c113 c114 c115 c116 c117 c118 c119 c120 c121 c122 c123 c124 c125 c126 c127 c128 c129 c130 c131 c132 c133 c134 c135 c136 c137 c138 c139 c140 c141 c142 c143 c144 c145 c146 c147 h1 h5 h6 h8 h9 h10 h16 h17
              replace h1 : c1 = .slice (some xa) len cap := h1
              replace h5 : c5 = .int .i64 (n : Nat) := h5
              replace h6 : c6 = .pointer (some ⟨b, 0, none⟩) := h6
              replace h8 : c8 = .slice (some ⟨ga, 0, none⟩) np ce := h8
              replace h9 : c9 = .map (some mb) := h9
              replace h10 : c10 = .int .i64 (k : Nat) := h10
              replace h16 : c16 = .int .i64 (x : Nat) := h16
              replace h17 : c17 = .int .i64 (n : Nat) := h17
              subst h1
              subst h5
              subst h6
              subst h8
              subst h9
              subst h10
              subst h16
              subst h17
              have ui := REL.out.1.i.us
              have ul := REL.out.1.i.le
              have hxu := REL.out.2
              have hxc : (x : Int) ≤ ((sN.1 : Nat) : Int) := by omega
              have hcn : ((sN.1 : Nat) : Int) ≤ (n : Int) := by omega
              obtain ⟨cc, hcc⟩ : ∃ cc, cc = sN.1 := ⟨_, rfl⟩
              rw [← hcc] at hxc hcn
              have CC := Lib.hid hcc
              clear ui ul hxu hcc
              go_wp2_with fail
              refine (count_of REL.out.1.s).mono ?_
              rintro e w10 ⟨rfl, s10, c10⟩
              have R10 := Lib.hid (REL.out.1.two s10 REL.out.1.i (Nat.le_refl _) (fun _ => Nat.le_refl _) (Ch_two1 c10))
              rw [← CC.out]
              clear s10 c10 REL
              go_wp2_with fail
              refine (count_of R10.out.s).mono ?_
              rintro e w11 ⟨rfl, s11, c11⟩
              have R11 := Lib.hid (R10.out.two s11 R10.out.i (Nat.le_refl _) (fun _ => Nat.le_refl _) (Ch_two1 c11))
              rw [← CC.out]
              clear s11 c11 R10
              go_wp2
              first | exact ⟨⟨_, _, _, _, _, _, _, _, _, rfl, rfl, rfl, rfl, rfl, rfl, rfl, rfl, R11.out⟩, hlt⟩ | exact ⟨_, _, _, _, _, _, _, _, _, rfl, rfl, rfl, rfl, rfl, rfl, rfl, rfl, R11.out⟩
  · obtain rfl : k = len := by omega
    go_wp2
    first | exact ⟨by first | rfl | trivial, ⟨_, _, _, _, _, _, _, _, _, rfl, rfl, rfl, rfl, rfl, rfl, rfl, rfl, REL.out⟩, by first | rfl | trivial⟩ | exact ⟨_, _, _, _, _, _, _, _, _, rfl, rfl, rfl, rfl, rfl, rfl, rfl, rfl, REL.out⟩ | exact ⟨⟨_, _, _, _, _, _, _, _, _, rfl, rfl, rfl, rfl, rfl, rfl, rfl, rfl, REL.out⟩, by first | rfl | trivial⟩ | exact ⟨by first | rfl | trivial, ⟨_, _, _, _, _, _, _, _, _, rfl, rfl, rfl, rfl, rfl, rfl, rfl, rfl, REL.out⟩⟩
theorem smA_loop (w : World) (b rb n mb : Nat) (ad : Option Addr) (len cap : Nat) (zs : List Int) (hv : IsRow .u8 w ad len cap zs) (h200 : len ≤ 200) (n1 : n ≤ 8) (a : Act) (wr : World) (hb : 0 ≤ len) (H : smAI w b rb n mb ad len cap zs 0 a wr) :
    Code.wp Try.prog (.loop (loopIn 0 Try.f4)) (Qx 0 (fun a' w' => smAI w b rb n mb ad len cap zs len a' w')) a wr := by
  refine wp_loop (fun a' wr => ∃ k, k ≤ len ∧ smAI w b rb n mb ad len cap zs k a' wr) (fun a' _ => len - (intOf (a'.tmps.getD 10 undef)).toNat) ⟨0, hb, H⟩ ?_
  rintro a' wr ⟨k, hk, h⟩
  refine wp_mono (smA_round w b rb n mb ad len cap zs hv h200 n1 a' wr hk h) ?_
  intro e a2 w2 hp
  cases e with
  | normal =>
    refine ⟨⟨k + 1, by have := hp.2; omega, hp.1⟩, ?_⟩
    rw [smAI_ctr w b rb n mb ad len cap zs h, smAI_ctr w b rb n mb ad len cap zs hp.1]
    have := hp.2
    simp only [intOf, Int.toNat_natCast]
    omega
  | exit n => exact ⟨hp.1, hp.2.2 ▸ hp.2.1⟩
  | _ => exact hp.elim
set_option maxRecDepth 100000 in
set_option maxHeartbeats 0 in
theorem sm_end (w : World) (b rb n mb : Nat) (ad : Option Addr) (len cap : Nat) (zs : List Int) (hv : IsRow .u8 w ad len cap zs) (h200 : len ≤ 200) (n1 : n ≤ 8)  (a : Act) (wr : World) (H : smAI w b rb n mb ad len cap zs len a wr) :
    Code.wp Try.prog (aftIn 0 Try.f4) (bodyPost Try.prog Try.f4 (fun e w' => e = .returned (.bool true) ∧ Below w.heap.size w w')) a wr := by
  obtain ⟨t, ds⟩ := a
  obtain ⟨cnt, R, np, B, Q, ae, ce, cm, F, hd', hz, h1, h5, h6, h8, h9, h10, rel⟩ := H
  replace hd' : ds = [] := hd'
  subst hd'
  replace hz : t.size = 148 := hz
  replace h1 : t.getD 1 undef = .slice ad len cap := h1
  replace h5 : t.getD 5 undef = .int .i64 (n : Nat) := h5
  replace h6 : t.getD 6 undef = .pointer (some ⟨b, 0, none⟩) := h6
  replace h8 : t.getD 8 undef = .slice ae np ce := h8
  replace h9 : t.getD 9 undef = .map (some mb) := h9
  replace h10 : t.getD 10 undef = .int .i64 (len : Nat) := h10
  have REL := Lib.hid rel
  clear rel
  refine openFr148 (P := fun t => t.getD 1 undef = .slice ad len cap → t.getD 5 undef = .int .i64 (n : Nat) → t.getD 6 undef = .pointer (some ⟨b, 0, none⟩) → t.getD 8 undef = .slice ae np ce → t.getD 9 undef = .map (some mb) → t.getD 10 undef = .int .i64 (len : Nat) → Code.wp Try.prog (aftIn 0 Try.f4) (bodyPost Try.prog Try.f4 (fun e w' => e = .returned (.bool true) ∧ Below w.heap.size w w')) ⟨t, []⟩ wr) ?_ t hz h1 h5 h6 h8 h9 h10
  clear h1 h5 h6 h8 h9 h10 hz t
  intro c0 c1 c2 c3 c4 c5 c6 c7 c8 c9 c10 c11 c12 c13 c14 c15 c16 c17 c18 c19 c20 c21 c22 c23 c24 c25 c26 c27 c28 c29 c30 c31 c32 c33 c34 c35 c36 c37 c38 c39 c40 c41 c42 c43 c44 c45 c46 c47 c48 c49 c50 c51 c52 c53 c54 c55 c56 c57 c58 c59 c60 c61 c62 c63 c64 c65 c66 c67 c68 c69 c70 c71 c72 c73 c74 c75 c76 c77 c78 c79 c80 c81 c82 c83 c84 c85 c86 c87 c88 c89 c90 c91 c92 c93 c94 c95 c96 c97 c98 c99 c100 c101 c102 c103 c104 c105 c106 c107 c108 c109 c110 c111 c112 c113 c114 c115 c116 c117 c118 c119 c120 c121 c122 c123 c124 c125 c126 c127 c128 c129 c130 c131 c132 c133 c134 c135 c136 c137 c138 c139 c140 c141 c142 c143 c144 c145 c146 c147 h1 h5 h6 h8 h9 h10
  replace h1 : c1 = .slice ad len cap := h1
  replace h5 : c5 = .int .i64 (n : Nat) := h5
  replace h6 : c6 = .pointer (some ⟨b, 0, none⟩) := h6
  replace h8 : c8 = .slice ae np ce := h8
  replace h9 : c9 = .map (some mb) := h9
  replace h10 : c10 = .int .i64 (len : Nat) := h10
  subst h1
  subst h5
  subst h6
  subst h8
  subst h9
  subst h10
  conv => arg 2; whnf
  clear hv
  go_wp2
  go_ret
  exact ⟨rfl, REL.out.c.below (Nat.le_refl _) (fun _ _ e => e.elim)⟩
end Go.Proofs.Ytjhmmfdmoalfmaa
