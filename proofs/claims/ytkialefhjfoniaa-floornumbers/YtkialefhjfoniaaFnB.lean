/-
  FloorNumbers: the outer loop; the end.
-/
import Derived.Test.YtkialefhjfoniaaFnA
import Derived.Test.YtkialefhjfoniaaHeld
import Derived.Deep.QuietTactic
import Derived.BigQuiet
import Derived.Deep.Cut
import Derived.Deep.CutRange
import Derived.Deep.CutBlock
import Derived.RegionTactic
import Derived.BigRegion
namespace Go.Proofs.Ytkialefhjfoniaa
open Go.RowKit Verge
set_option linter.unusedVariables false
set_option linter.unusedSimpArgs false
attribute [local go_sem] Oper.semAt_some

/-- what holds at the head of the loop -/
def fnAI (w : World) (F : Fb) (n mb : Nat) (si : Int) (ad : Option Addr) (len cap : Nat) (zs : List Int) (k : Nat) (a : Act) (wr : World) : Prop :=
  ∃ (cnt : Nat) (R : Nat → Rec), a.defers = [] ∧ a.tmps.size = 149 ∧ a.tmps.getD 1 undef = .slice ad len cap ∧ a.tmps.getD 2 undef = .int .i64 si ∧ a.tmps.getD 7 undef = .int .i64 (n : Nat) ∧ a.tmps.getD 8 undef = .pointer (some ⟨F.f, 0, none⟩) ∧ a.tmps.getD 10 undef = .map (some mb) ∧ a.tmps.getD 11 undef = .int .i64 (k : Nat) ∧ (SlR w wr F.sb F.srb n cnt R k ∧ NumK wr F mb R k)
theorem fnAI_ctr {k : Nat} (w : World) (F : Fb) (n mb : Nat) (si : Int) (ad : Option Addr) (len cap : Nat) (zs : List Int) {a : Act} {wr : World} (H : fnAI w F n mb si ad len cap zs k a wr) : a.tmps.getD 11 undef = .int .i64 (k : Nat) := by
  obtain ⟨cnt, R, -, -, -, -, -, -, -, h, -⟩ := H
  exact h
set_option maxRecDepth 100000 in
set_option maxHeartbeats 0 in
theorem fnA_round {k : Nat} (w : World) (F : Fb) (n mb : Nat) (si : Int) (ad : Option Addr) (len cap : Nat) (zs : List Int) (hv : IsRow .u8 w ad len cap zs) (h60 : len ≤ 60) (n0 : 0 < n) (n1 : n ≤ 5) (hlb : NumH w F mb) (a : Act) (wr : World) (hk : k ≤ len) (H : fnAI w F n mb si ad len cap zs k a wr) :
    Code.wp Try.prog (loopIn 0 Try.f6) (Exit.then (fun a' w' => fnAI w F n mb si ad len cap zs (k + 1) a' w' ∧ k < len) (Qx 0 (fun a' w' => fnAI w F n mb si ad len cap zs k a' w' ∧ k = len))) a wr := by
  obtain ⟨t, ds⟩ := a
  obtain ⟨cnt, R, hd', hz, h1, h2, h7, h8, h10, h11, rel⟩ := H
  replace hd' : ds = [] := hd'
  subst hd'
  replace hz : t.size = 149 := hz
  replace h1 : t.getD 1 undef = .slice ad len cap := h1
  replace h2 : t.getD 2 undef = .int .i64 si := h2
  replace h7 : t.getD 7 undef = .int .i64 (n : Nat) := h7
  replace h8 : t.getD 8 undef = .pointer (some ⟨F.f, 0, none⟩) := h8
  replace h10 : t.getD 10 undef = .map (some mb) := h10
  replace h11 : t.getD 11 undef = .int .i64 (k : Nat) := h11
  have REL := Lib.hid rel
  clear rel
  refine openFr149 (P := fun t => t.getD 1 undef = .slice ad len cap → t.getD 2 undef = .int .i64 si → t.getD 7 undef = .int .i64 (n : Nat) → t.getD 8 undef = .pointer (some ⟨F.f, 0, none⟩) → t.getD 10 undef = .map (some mb) → t.getD 11 undef = .int .i64 (k : Nat) → Code.wp Try.prog (loopIn 0 Try.f6) (Exit.then (fun a' w' => fnAI w F n mb si ad len cap zs (k + 1) a' w' ∧ k < len) (Qx 0 (fun a' w' => fnAI w F n mb si ad len cap zs k a' w' ∧ k = len))) ⟨t, []⟩ wr) ?_ t hz h1 h2 h7 h8 h10 h11
  clear h1 h2 h7 h8 h10 h11 hz t
  intro c0 c1 c2 c3 c4 c5 c6 c7 c8 c9 c10 c11 c12 c13 c14 c15 c16 c17 c18 c19 c20 c21 c22 c23 c24 c25 c26 c27 c28 c29 c30 c31 c32 c33 c34 c35 c36 c37 c38 c39 c40 c41 c42 c43 c44 c45 c46 c47 c48 c49 c50 c51 c52 c53 c54 c55 c56 c57 c58 c59 c60 c61 c62 c63 c64 c65 c66 c67 c68 c69 c70 c71 c72 c73 c74 c75 c76 c77 c78 c79 c80 c81 c82 c83 c84 c85 c86 c87 c88 c89 c90 c91 c92 c93 c94 c95 c96 c97 c98 c99 c100 c101 c102 c103 c104 c105 c106 c107 c108 c109 c110 c111 c112 c113 c114 c115 c116 c117 c118 c119 c120 c121 c122 c123 c124 c125 c126 c127 c128 c129 c130 c131 c132 c133 c134 c135 c136 c137 c138 c139 c140 c141 c142 c143 c144 c145 c146 c147 c148 h1 h2 h7 h8 h10 h11
  replace h1 : c1 = .slice ad len cap := h1
  replace h2 : c2 = .int .i64 si := h2
  replace h7 : c7 = .int .i64 (n : Nat) := h7
  replace h8 : c8 = .pointer (some ⟨F.f, 0, none⟩) := h8
  replace h10 : c10 = .map (some mb) := h10
  replace h11 : c11 = .int .i64 (k : Nat) := h11
  subst h1
  subst h2
  subst h7
  subst h8
  subst h10
  subst h11
  conv => arg 2; whnf
  have hsm := hv.small
  have HV := Lib.hid hv
  have HL := Lib.hid hlb
  clear hv hlb
  by_cases hlt : k < len
  · obtain ⟨xa, rfl, hc, hwf⟩ := HV.out.item hlt
    obtain ⟨z1, z2⟩ := bounds_u8 hwf
    obtain ⟨zz, hdi⟩ := Int.eq_ofNat_of_zero_le z1
    rw [hdi] at hc z2
    have HC := Lib.hid hc
    have hkz : (k : Int) < (len : Int) := by omega
    have hkz0 : (0 : Int) ≤ (k : Int) := by omega
    clear hc hwf hdi z1
    have n00 : ¬ n = 0 := by omega
    have hj := Nat.mod_lt zz n0
    have tm := tmod_nat zz n
    obtain ⟨j, hjj⟩ : ∃ j, j = zz % n := ⟨_, rfl⟩
    rw [← hjj] at hj tm
    have em : (zz : Int) % (n : Int) = (j : Int) := by rw [hjj, Int.natCast_emod]
    have HJ := Lib.hid hj
    clear hj hjj
    go_wp2_with fail
    refine (slab_of REL.out.2.f).mono ?_
    rintro e w6 ⟨rfl, c6⟩
    have REL6 := Lib.hid (And.intro (REL.out.1.quiet c6) (REL.out.2.kept c6 (fun e => e) (fun e => e)))
    clear c6 REL
    go_wp2_with fail
    refine (begin_sq 0 REL6.out.1.s).mono ?_
    rintro e w7 ⟨q, rfl, hq, k7, c7, z7⟩
    have HQ : Hid (w.heap.size ≤ q) := Lib.hid (by have := REL6.out.1.c.size; omega)
    have hql : q ≠ F.f ∧ q ≠ mb := by
      have h1 := REL6.out.2.f.lt
      obtain ⟨mm, -, h2⟩ := REL6.out.2.m
      have h3 := h2.lt
      omega
    obtain ⟨bd, b1, b2, b3, b4⟩ := it_stop n cnt R ⟨0, 0, 0, 0, 0, 0⟩ (n + 2)
    have START : Hid ((ItR w w7 F.sb F.srb n cnt R q 0 0 ∧ NumK w7 F mb R k) ∧ 0 = (itS n cnt R ⟨0, 0, 0, 0, 0, 0⟩ 0).2.2.ss) := Lib.hid ⟨⟨⟨k7, REL6.out.1.c.trans c7, REL6.out.1.hb, REL6.out.1.hr, HQ.out⟩, REL6.out.2.kept c7 (fun e => e) (fun e => e)⟩, rfl⟩
    have II := Lib.hid REL6.out.1.i
    have HQL := Lib.hid hql
    have BD := Lib.hid (And.intro b1 (And.intro b2 (And.intro b3 b4)))
    clear k7 c7 z7 hq REL6 hql b1 b2 b3 b4
    go_wp2
    refine wp_mono (fnB_loop w F n mb si (some xa) len cap zs k q cnt k bd R HV.out h60 n0 n1 HL.out II.out (by omega) HQL.out BD.out.1 BD.out.2.1 BD.out.2.2.1 _ _ (by omega) ?hI) ?_
    case hI => exact ⟨0, rfl, rfl, rfl, rfl, rfl, rfl, rfl, rfl, rfl, rfl, rfl, START.out⟩
    clear START
    intro e a' w8 hp
    obtain ⟨rfl, H⟩ := Qx_inv hp
    clear hp
    obtain ⟨t, ds⟩ := a'
    obtain ⟨x9, hd', hz, h1, h2, h7, h8, h10, h11, h12, h13, h14, rel⟩ := H
    replace hd' : ds = [] := hd'
    subst hd'
    replace hz : t.size = 149 := hz
    replace h1 : t.getD 1 undef = .slice (some xa) len cap := h1
    replace h2 : t.getD 2 undef = .int .i64 si := h2
    replace h7 : t.getD 7 undef = .int .i64 (n : Nat) := h7
    replace h8 : t.getD 8 undef = .pointer (some ⟨F.f, 0, none⟩) := h8
    replace h10 : t.getD 10 undef = .map (some mb) := h10
    replace h11 : t.getD 11 undef = .int .i64 (k : Nat) := h11
    replace h12 : t.getD 12 undef = .pointer (some ⟨q, 0, none⟩) := h12
    replace h13 : t.getD 13 undef = .int .i64 (x9 : Nat) := h13
    replace h14 : t.getD 14 undef = .int .i64 (bd : Nat) := h14
    have REL := Lib.hid rel
    clear rel
    refine openFr149 (P := fun t => t.getD 1 undef = .slice (some xa) len cap → t.getD 2 undef = .int .i64 si → t.getD 7 undef = .int .i64 (n : Nat) → t.getD 8 undef = .pointer (some ⟨F.f, 0, none⟩) → t.getD 10 undef = .map (some mb) → t.getD 11 undef = .int .i64 (k : Nat) → t.getD 12 undef = .pointer (some ⟨q, 0, none⟩) → t.getD 13 undef = .int .i64 (x9 : Nat) → t.getD 14 undef = .int .i64 (bd : Nat) → Exit.inBlock 2 _ (.exit 2) ⟨t, []⟩ w8) ?_ t hz h1 h2 h7 h8 h10 h11 h12 h13 h14
    clear h1 h2 h7 h8 h10 h11 h12 h13 h14 hz t
    intro c0 c1 c2 c3 c4 c5 c6 c7 c8 c9 c10 c11 c12 c13 c14 c15 c16 c17 c18 c19 c20 c21 c22 c23 c24 c25 c26 c27 c28 c29 c30 c31 c32 c33 c34 c35 c36 c37 c38 c39 c40 c41 c42 c43 c44 c45 c46 c47 c48 c49 c50 c51 c52 c53 c54 c55 c56 c57 c58 c59 c60 c61 c62 c63 c64 c65 c66 c67 c68 c69 c70 c71 c72 c73 c74 c75 c76 c77 c78 c79 c80 c81 c82 c83 c84 c85 c86 c87 c88 c89 c90 c91 c92 c93 c94 c95 c96 c97 c98 c99 c100 c101 c102 c103 c104 c105 c106 c107 c108 c109 c110 c111 c112 c113 c114 c115 c116 c117 c118 c119 c120 c121 c122 c123 c124 c125 c126 c127 c128 c129 c130 c131 c132 c133 c134 c135 c136 c137 c138 c139 c140 c141 c142 c143 c144 c145 c146 c147 c148 h1 h2 h7 h8 h10 h11 h12 h13 h14
    replace h1 : c1 = .slice (some xa) len cap := h1
    replace h2 : c2 = .int .i64 si := h2
    replace h7 : c7 = .int .i64 (n : Nat) := h7
    replace h8 : c8 = .pointer (some ⟨F.f, 0, none⟩) := h8
    replace h10 : c10 = .map (some mb) := h10
    replace h11 : c11 = .int .i64 (k : Nat) := h11
    replace h12 : c12 = .pointer (some ⟨q, 0, none⟩) := h12
    replace h13 : c13 = .int .i64 (x9 : Nat) := h13
    replace h14 : c14 = .int .i64 (bd : Nat) := h14
    subst h1
    subst h2
    subst h7
    subst h8
    subst h10
    subst h11
    subst h12
    subst h13
    subst h14

    have hE := it_end 0 II.out (by omega : k + 1 ≤ 900000) (n + 2) (Nat.le_refl _)
    rw [← BD.out.2.2.2] at hE
    rcases hE with ⟨hc, hE⟩ | ⟨f, hf, f0, hE, i9⟩
    · have h9 := REL.out.1.1.sq
      rw [hE] at h9
      have RELX : Hid (SlR w w8 F.sb F.srb n cnt R (k + 1)) := Lib.hid ⟨h9.s, II.out.more (Nat.le_succ k), REL.out.1.1.c, REL.out.1.1.hb, REL.out.1.1.hr⟩
      have KX := Lib.hid (REL.out.1.2.congr (fun _ => rfl) (Nat.le_succ k))
      have ID := Lib.hid (id_of h9.rq)
      clear hE h9 REL hc
      go_wp2_with fail
      refine ID.out.mono ?_
      rintro e wz ⟨rfl, rfl⟩
      clear ID
      rw [if_neg (by simp), if_neg (by simp)]
      have q1 := RELX.out.c.keeps HC.out (fun e => e)
      have hgv : (R j).gv ≤ 900000 := Nat.le_trans (RELX.out.i.gv j HJ.out) (by omega)
      have HGV := Lib.hid hgv
      have HOK := Lib.hid (RELX.out.i.ok j HJ.out)
      clear hgv
      go_wp2_with fail
      clear q1
      refine (slab_of KX.out.f).mono ?_
      rintro e w9 ⟨rfl, c9⟩
      have RY := Lib.hid (RELX.out.quiet c9)
      have KY := Lib.hid (KX.out.kept c9 (fun e => e) (fun e => e))
      clear c9 RELX KX
      go_wp2_with fail
      refine (word_in j RY.out.s HJ.out).mono ?_
      rintro e wa ⟨rfl, s1, c1⟩
      have RZ := Lib.hid (RY.out.two s1 RY.out.i (Ch_two2 c1))
      have KZ := Lib.hid (KY.out.two HL.out (Ch_two2 c1))
      clear s1 c1 RY KY
      obtain ⟨v, hv⟩ : ∃ v, v = (R j).wd := ⟨_, rfl⟩
      have HVW := Lib.hid hv
      have hvb : v < 18446744073709551616 := by rw [hv]; exact HOK.out.lt HGV.out (Nat.le_refl _)
      rw [← hv]
      have HVB := Lib.hid hvb
      clear hv hvb
      go_wp2_with fail
      refine (slab_of KZ.out.f).mono ?_
      rintro e wb ⟨rfl, c2⟩
      have R2 := Lib.hid (RZ.out.quiet c2)
      have K2 := Lib.hid (KZ.out.kept c2 (fun e => e) (fun e => e))
      clear c2 RZ KZ
      go_wp2_with fail
      rcases busy_cases (R j) with hb | hb
      · have e0 := HOK.out.busy0 hb
        have hx : (nxZ v 9 ((R j).pd != 0)).2 ≠ 0 := by rw [HVW.out, e0]; exact nx_finish0 _ _ (by have := HGV.out; omega)
        obtain ⟨er, her⟩ : ∃ er, er = (nxZ v 9 ((R j).pd != 0)).2 := ⟨_, rfl⟩
        have erz : ((er : Int) == 0) = false := by rw [beq_eq_false_iff_ne]; omega
        refine (try_err j v 9 R2.out.s HJ.out HVB.out hx).mono ?_
        rw [← her]
        rintro e wc ⟨rfl, s3, c3⟩
        have NX := Lib.hid (And.intro (R2.out.two s3 R2.out.i (Ch_two2 c3)) (K2.out.two HL.out (Ch_two2 c3)))
        clear s3 c3 R2 K2 hx her hb e0
        go_wp2
        first | exact ⟨⟨_, _, rfl, rfl, rfl, rfl, rfl, rfl, rfl, rfl, NX.out⟩, hlt⟩ | exact ⟨_, _, rfl, rfl, rfl, rfl, rfl, rfl, rfl, rfl, NX.out⟩
      · have e0 := HOK.out.busy1 hb
        have e1 : nxZ v 9 ((R j).pd != 0) = (256 * (R j).gv, 0) := by rw [HVW.out, e0]; exact nx_finish1 _ _ (by have := HGV.out; omega)
        have ht := try_go j v 9 R2.out.s HJ.out HVB.out (by rw [e1]) HVW.out.symm
        rw [e1] at ht
        refine ht.mono ?_
        clear ht
        rintro e wc ⟨rfl, s3, c3⟩
        have K3 := Lib.hid (K2.out.two HL.out (Ch_two2 c3))
        have S3 := Lib.hid s3
        have i3 := R2.out.i.freed HJ.out hb 0
        have I3 := Lib.hid (R2.out.i.freed HJ.out hb (R j).pd)
        have CW := Lib.hid (R2.out.c.then (Ch_two2 (b := F.sb) c3) (fun i hi e => by have := R2.out.hb; have := R2.out.hr; rcases e with e | e <;> omega))
        have HBR := Lib.hid (And.intro R2.out.hb R2.out.hr)
        have s2 := state_ok ⟨256 * (R j).gv, (R j).gv, (R j).pd⟩ (.inl rfl) HGV.out
        rw [busy_of0 rfl] at s2
        have ST2 := Lib.hid s2
        have hc := R2.out.i.pos HJ.out hb
        have hcl : cnt ≤ 1000000 := by have := R2.out.i.le; omega
        have LC := Lib.hid (if_pos hc : (if 0 < cnt then (0 : Int) else 6) = 0)
        have HCL := Lib.hid hcl
        clear s3 c3 e0 e1 i3 s2 hc hcl R2 K2 hb
        go_wp2_with fail
        refine (ST2.out _).mono ?_
        rintro e wd ⟨rfl, rfl⟩
        go_wp2_with fail
        refine (slab_of K3.out.f).mono ?_
        rintro e we ⟨rfl, c4⟩
        have S4 := Lib.hid (S3.out.quiet c4)
        have K4 := Lib.hid (K3.out.kept c4 (fun e => e) (fun e => e))
        have C4 := Lib.hid (CW.out.trans c4)
        clear c4 S3 K3 CW
        go_wp2_with fail
        refine (drop_of S4.out HCL.out).mono ?_
        rintro e wf ⟨rfl, s5, c5⟩
        rw [LC.out]
        have NX : Hid (SlR w wf F.sb F.srb n (cnt - 1) (upR R j ⟨256 * (R j).gv, (R j).gv, (R j).pd⟩) (k + 1) ∧ NumK wf F mb (upR R j ⟨256 * (R j).gv, (R j).gv, (R j).pd⟩) (k + 1)) := Lib.hid ⟨⟨s5, I3.out, C4.out.then c5 (fun i hi e => by have := HBR.out.1; have e' : i = F.sb := e; omega), HBR.out.1, HBR.out.2⟩, (K4.out.two HL.out (Ch_two1 c5)).congr (fun i => by
          by_cases e : i = j
          · subst e; rw [upR_same]
          · rw [upR_other _ _ e]) (Nat.le_refl _)⟩
        clear s5 c5 S4 K4 C4
        go_wp2
        first | exact ⟨⟨_, _, rfl, rfl, rfl, rfl, rfl, rfl, rfl, rfl, NX.out⟩, hlt⟩ | exact ⟨_, _, rfl, rfl, rfl, rfl, rfl, rfl, rfl, rfl, NX.out⟩
    · have h9 := REL.out.1.1.sq
      rw [hE] at h9
      obtain ⟨id, hid⟩ : ∃ id, id = ((R f).gv + 1) * 64 + f := ⟨_, rfl⟩
      have hg := II.out.gv f hf
      have ID := id_of h9.rq
      dsimp only at ID
      rw [if_pos rfl, if_pos rfl, ← hid] at ID
      replace ID := Lib.hid ID
      obtain ⟨mm, hmm, h3⟩ := REL.out.1.2.m
      obtain ⟨wm, hput, hM, cM⟩ := h3.put f id (by omega) (by omega) (by omega) (lastF (upR R f ⟨256 * ((R f).gv + 1) + 1, (R f).gv + 1, 0⟩)) (by unfold lastF; rw [upR_same, if_neg (by simp), hid]; simp only; omega) (fun j hj => by unfold lastF; rw [upR_other _ _ hj])
      have idm : ((id : Int)) % 64 = (f : Int) := by omega
      have idt : ((id : Int)).tmod 64 = (f : Int) := by rw [show (64 : Int) = ((64 : Nat) : Int) from rfl, tmod_nat]; omega
      have idb : (id : Int) ≤ 1000000000 := by omega
      have hfz0 : (0 : Int) ≤ (f : Int) := by omega
      have hfb : (f : Int) ≤ 64 := by omega
      have RELX : Hid (SlR w wm F.sb F.srb n (cnt + 1) (upR R f ⟨256 * ((R f).gv + 1) + 1, (R f).gv + 1, 0⟩) (k + 1)) := Lib.hid ⟨h9.s.kept cM (fun e => HL.out.m1 (show F.sb = mb from e).symm) (fun e => HL.out.m2 (show F.srb = mb from e).symm), i9, REL.out.1.1.c.then cM (fun i hi e => by have := HL.out.lo; have e' : i = mb := e; omega), REL.out.1.1.hb, REL.out.1.1.hr⟩
      have KX : Hid (NumK wm F mb (upR R f ⟨256 * ((R f).gv + 1) + 1, (R f).gv + 1, 0⟩) (k + 1)) := Lib.hid ⟨REL.out.1.2.f.kept cM (fun e => HL.out.fm e), mm + 1, by omega, hM⟩
      clear hE h9 REL i9 hid hg h3 hM cM hmm f0
      obtain ⟨RR, hRR⟩ : ∃ RR, RR = upR R f ⟨256 * ((R f).gv + 1) + 1, (R f).gv + 1, 0⟩ := ⟨_, rfl⟩
      obtain ⟨cn, hcn⟩ : ∃ cn, cn = cnt + 1 := ⟨_, rfl⟩
      rw [← hRR, ← hcn] at RELX
      rw [← hRR] at KX
      clear hRR hcn
      go_wp2_with fail
      refine ID.out.mono ?_
      rintro e wz ⟨rfl, rfl⟩
      clear ID
      go_upto_region 22 with (fail)
      clear hput
      have q1 := RELX.out.c.keeps HC.out (fun e => e)
      have hgv : (RR j).gv ≤ 900000 := Nat.le_trans (RELX.out.i.gv j HJ.out) (by omega)
      have HGV := Lib.hid hgv
      have HOK := Lib.hid (RELX.out.i.ok j HJ.out)
      clear hgv
      go_wp2_with fail
      clear q1
      refine (slab_of KX.out.f).mono ?_
      rintro e w9 ⟨rfl, c9⟩
      have RY := Lib.hid (RELX.out.quiet c9)
      have KY := Lib.hid (KX.out.kept c9 (fun e => e) (fun e => e))
      clear c9 RELX KX
      go_wp2_with fail
      refine (word_in j RY.out.s HJ.out).mono ?_
      rintro e wa ⟨rfl, s1, c1⟩
      have RZ := Lib.hid (RY.out.two s1 RY.out.i (Ch_two2 c1))
      have KZ := Lib.hid (KY.out.two HL.out (Ch_two2 c1))
      clear s1 c1 RY KY
      obtain ⟨v, hv⟩ : ∃ v, v = (RR j).wd := ⟨_, rfl⟩
      have HVW := Lib.hid hv
      have hvb : v < 18446744073709551616 := by rw [hv]; exact HOK.out.lt HGV.out (Nat.le_refl _)
      rw [← hv]
      have HVB := Lib.hid hvb
      clear hv hvb
      go_wp2_with fail
      refine (slab_of KZ.out.f).mono ?_
      rintro e wb ⟨rfl, c2⟩
      have R2 := Lib.hid (RZ.out.quiet c2)
      have K2 := Lib.hid (KZ.out.kept c2 (fun e => e) (fun e => e))
      clear c2 RZ KZ
      go_wp2_with fail
      rcases busy_cases (RR j) with hb | hb
      · have e0 := HOK.out.busy0 hb
        have hx : (nxZ v 9 ((RR j).pd != 0)).2 ≠ 0 := by rw [HVW.out, e0]; exact nx_finish0 _ _ (by have := HGV.out; omega)
        obtain ⟨er, her⟩ : ∃ er, er = (nxZ v 9 ((RR j).pd != 0)).2 := ⟨_, rfl⟩
        have erz : ((er : Int) == 0) = false := by rw [beq_eq_false_iff_ne]; omega
        refine (try_err j v 9 R2.out.s HJ.out HVB.out hx).mono ?_
        rw [← her]
        rintro e wc ⟨rfl, s3, c3⟩
        have NX := Lib.hid (And.intro (R2.out.two s3 R2.out.i (Ch_two2 c3)) (K2.out.two HL.out (Ch_two2 c3)))
        clear s3 c3 R2 K2 hx her hb e0
        go_wp2
        first | exact ⟨⟨_, _, rfl, rfl, rfl, rfl, rfl, rfl, rfl, rfl, NX.out⟩, hlt⟩ | exact ⟨_, _, rfl, rfl, rfl, rfl, rfl, rfl, rfl, rfl, NX.out⟩
      · have e0 := HOK.out.busy1 hb
        have e1 : nxZ v 9 ((RR j).pd != 0) = (256 * (RR j).gv, 0) := by rw [HVW.out, e0]; exact nx_finish1 _ _ (by have := HGV.out; omega)
        have ht := try_go j v 9 R2.out.s HJ.out HVB.out (by rw [e1]) HVW.out.symm
        rw [e1] at ht
        refine ht.mono ?_
        clear ht
        rintro e wc ⟨rfl, s3, c3⟩
        have K3 := Lib.hid (K2.out.two HL.out (Ch_two2 c3))
        have S3 := Lib.hid s3
        have i3 := R2.out.i.freed HJ.out hb 0
        have I3 := Lib.hid (R2.out.i.freed HJ.out hb (RR j).pd)
        have CW := Lib.hid (R2.out.c.then (Ch_two2 (b := F.sb) c3) (fun i hi e => by have := R2.out.hb; have := R2.out.hr; rcases e with e | e <;> omega))
        have HBR := Lib.hid (And.intro R2.out.hb R2.out.hr)
        have s2 := state_ok ⟨256 * (RR j).gv, (RR j).gv, (RR j).pd⟩ (.inl rfl) HGV.out
        rw [busy_of0 rfl] at s2
        have ST2 := Lib.hid s2
        have hc := R2.out.i.pos HJ.out hb
        have hcl : cn ≤ 1000000 := by have := R2.out.i.le; omega
        have LC := Lib.hid (if_pos hc : (if 0 < cn then (0 : Int) else 6) = 0)
        have HCL := Lib.hid hcl
        clear s3 c3 e0 e1 i3 s2 hc hcl R2 K2 hb
        go_wp2_with fail
        refine (ST2.out _).mono ?_
        rintro e wd ⟨rfl, rfl⟩
        go_wp2_with fail
        refine (slab_of K3.out.f).mono ?_
        rintro e we ⟨rfl, c4⟩
        have S4 := Lib.hid (S3.out.quiet c4)
        have K4 := Lib.hid (K3.out.kept c4 (fun e => e) (fun e => e))
        have C4 := Lib.hid (CW.out.trans c4)
        clear c4 S3 K3 CW
        go_wp2_with fail
        refine (drop_of S4.out HCL.out).mono ?_
        rintro e wf ⟨rfl, s5, c5⟩
        rw [LC.out]
        have NX : Hid (SlR w wf F.sb F.srb n (cn - 1) (upR RR j ⟨256 * (RR j).gv, (RR j).gv, (RR j).pd⟩) (k + 1) ∧ NumK wf F mb (upR RR j ⟨256 * (RR j).gv, (RR j).gv, (RR j).pd⟩) (k + 1)) := Lib.hid ⟨⟨s5, I3.out, C4.out.then c5 (fun i hi e => by have := HBR.out.1; have e' : i = F.sb := e; omega), HBR.out.1, HBR.out.2⟩, (K4.out.two HL.out (Ch_two1 c5)).congr (fun i => by
          by_cases e : i = j
          · subst e; rw [upR_same]
          · rw [upR_other _ _ e]) (Nat.le_refl _)⟩
        clear s5 c5 S4 K4 C4
        go_wp2
        first | exact ⟨⟨_, _, rfl, rfl, rfl, rfl, rfl, rfl, rfl, rfl, NX.out⟩, hlt⟩ | exact ⟨_, _, rfl, rfl, rfl, rfl, rfl, rfl, rfl, rfl, NX.out⟩
  · obtain rfl : k = len := by omega
    go_wp2
    first | exact ⟨by first | rfl | trivial, ⟨_, _, rfl, rfl, rfl, rfl, rfl, rfl, rfl, rfl, REL.out⟩, by first | rfl | trivial⟩ | exact ⟨_, _, rfl, rfl, rfl, rfl, rfl, rfl, rfl, rfl, REL.out⟩ | exact ⟨⟨_, _, rfl, rfl, rfl, rfl, rfl, rfl, rfl, rfl, REL.out⟩, by first | rfl | trivial⟩ | exact ⟨by first | rfl | trivial, ⟨_, _, rfl, rfl, rfl, rfl, rfl, rfl, rfl, rfl, REL.out⟩⟩
theorem fnA_loop (w : World) (F : Fb) (n mb : Nat) (si : Int) (ad : Option Addr) (len cap : Nat) (zs : List Int) (hv : IsRow .u8 w ad len cap zs) (h60 : len ≤ 60) (n0 : 0 < n) (n1 : n ≤ 5) (hlb : NumH w F mb) (a : Act) (wr : World) (hb : 0 ≤ len) (H : fnAI w F n mb si ad len cap zs 0 a wr) :
    Code.wp Try.prog (.loop (loopIn 0 Try.f6)) (Qx 0 (fun a' w' => fnAI w F n mb si ad len cap zs len a' w')) a wr := by
  refine wp_loop (fun a' wr => ∃ k, k ≤ len ∧ fnAI w F n mb si ad len cap zs k a' wr) (fun a' _ => len - (intOf (a'.tmps.getD 11 undef)).toNat) ⟨0, hb, H⟩ ?_
  rintro a' wr ⟨k, hk, h⟩
  refine wp_mono (fnA_round w F n mb si ad len cap zs hv h60 n0 n1 hlb a' wr hk h) ?_
  intro e a2 w2 hp
  cases e with
  | normal =>
    refine ⟨⟨k + 1, by have := hp.2; omega, hp.1⟩, ?_⟩
    rw [fnAI_ctr w F n mb si ad len cap zs h, fnAI_ctr w F n mb si ad len cap zs hp.1]
    have := hp.2
    simp only [intOf, Int.toNat_natCast]
    omega
  | exit n => exact ⟨hp.1, hp.2.2 ▸ hp.2.1⟩
  | _ => exact hp.elim
set_option maxRecDepth 100000 in
set_option maxHeartbeats 0 in
theorem fn_end (w : World) (F : Fb) (n mb : Nat) (si : Int) (ad : Option Addr) (len cap : Nat) (zs : List Int) (hv : IsRow .u8 w ad len cap zs) (h60 : len ≤ 60) (n0 : 0 < n) (n1 : n ≤ 5) (hlb : NumH w F mb) (hcc : F.c.c = (n : Int)) (a : Act) (wr : World) (H : fnAI w F n mb si ad len cap zs len a wr) :
    Code.wp Try.prog (aftIn 0 Try.f6) (bodyPost Try.prog Try.f6 (fun e w' => e = .returned (.bool true) ∧ Below w.heap.size w w')) a wr := by
  obtain ⟨t, ds⟩ := a
  obtain ⟨cnt, R, hd', hz, h1, h2, h7, h8, h10, h11, rel⟩ := H
  replace hd' : ds = [] := hd'
  subst hd'
  replace hz : t.size = 149 := hz
  replace h1 : t.getD 1 undef = .slice ad len cap := h1
  replace h2 : t.getD 2 undef = .int .i64 si := h2
  replace h7 : t.getD 7 undef = .int .i64 (n : Nat) := h7
  replace h8 : t.getD 8 undef = .pointer (some ⟨F.f, 0, none⟩) := h8
  replace h10 : t.getD 10 undef = .map (some mb) := h10
  replace h11 : t.getD 11 undef = .int .i64 (len : Nat) := h11
  have REL := Lib.hid rel
  clear rel
  refine openFr149 (P := fun t => t.getD 1 undef = .slice ad len cap → t.getD 2 undef = .int .i64 si → t.getD 7 undef = .int .i64 (n : Nat) → t.getD 8 undef = .pointer (some ⟨F.f, 0, none⟩) → t.getD 10 undef = .map (some mb) → t.getD 11 undef = .int .i64 (len : Nat) → Code.wp Try.prog (aftIn 0 Try.f6) (bodyPost Try.prog Try.f6 (fun e w' => e = .returned (.bool true) ∧ Below w.heap.size w w')) ⟨t, []⟩ wr) ?_ t hz h1 h2 h7 h8 h10 h11
  clear h1 h2 h7 h8 h10 h11 hz t
  intro c0 c1 c2 c3 c4 c5 c6 c7 c8 c9 c10 c11 c12 c13 c14 c15 c16 c17 c18 c19 c20 c21 c22 c23 c24 c25 c26 c27 c28 c29 c30 c31 c32 c33 c34 c35 c36 c37 c38 c39 c40 c41 c42 c43 c44 c45 c46 c47 c48 c49 c50 c51 c52 c53 c54 c55 c56 c57 c58 c59 c60 c61 c62 c63 c64 c65 c66 c67 c68 c69 c70 c71 c72 c73 c74 c75 c76 c77 c78 c79 c80 c81 c82 c83 c84 c85 c86 c87 c88 c89 c90 c91 c92 c93 c94 c95 c96 c97 c98 c99 c100 c101 c102 c103 c104 c105 c106 c107 c108 c109 c110 c111 c112 c113 c114 c115 c116 c117 c118 c119 c120 c121 c122 c123 c124 c125 c126 c127 c128 c129 c130 c131 c132 c133 c134 c135 c136 c137 c138 c139 c140 c141 c142 c143 c144 c145 c146 c147 c148 h1 h2 h7 h8 h10 h11
  replace h1 : c1 = .slice ad len cap := h1
  replace h2 : c2 = .int .i64 si := h2
  replace h7 : c7 = .int .i64 (n : Nat) := h7
  replace h8 : c8 = .pointer (some ⟨F.f, 0, none⟩) := h8
  replace h10 : c10 = .map (some mb) := h10
  replace h11 : c11 = .int .i64 (len : Nat) := h11
  subst h1
  subst h2
  subst h7
  subst h8
  subst h10
  subst h11
  conv => arg 2; whnf
  clear hv
  have hgv : ∀ j, j < n → (R j).gv ≤ 900000 := fun j hj => Nat.le_trans (REL.out.1.i.gv j hj) (by omega)
  have HGV := Lib.hid hgv
  clear hgv
  by_cases hs : si < 0 ∨ (n : Int) ≤ si
  · have HS := Lib.hid hs
    by_cases hs0 : si < 0
    · clear hs
      go_wp2_with fail
      refine (number_out REL.out.2.f hcc si HS.out).mono ?_
      rintro e w9 ⟨rfl, rfl⟩
      go_wp2
      go_ret
      exact ⟨rfl, REL.out.1.c.below (Nat.le_refl _) (fun _ _ e => e.elim)⟩
    · have hs1 : (n : Int) ≤ si := by omega
      clear hs
      go_wp2_with fail
      refine (number_out REL.out.2.f hcc si HS.out).mono ?_
      rintro e w9 ⟨rfl, rfl⟩
      go_wp2
      go_ret
      exact ⟨rfl, REL.out.1.c.below (Nat.le_refl _) (fun _ _ e => e.elim)⟩
  · obtain ⟨q, rfl⟩ : ∃ q : Nat, si = q := ⟨si.toNat, by omega⟩
    have hq : q < n := by omega
    have hqz : (q : Int) < (n : Int) := by omega
    have hqz0 : (0 : Int) ≤ (q : Int) := by omega
    obtain ⟨mm, -, h3⟩ := REL.out.2.m
    have hl := h3.look q (by omega)
    have HCC := Lib.hid hcc
    have nu := number_in REL.out.2.f REL.out.1.s hcc q hq (HGV.out q hq)
    by_cases g0 : (R q).gv = 0
    · have e0 : lastF R q = 0 := by unfold lastF; rw [if_pos g0]
      rw [e0] at hl
      rw [if_pos g0, if_pos g0] at nu
      have NU := Lib.hid nu
      clear nu g0 h3 hs e0 hcc
      go_wp2_with fail
      refine NU.out.mono ?_
      rintro e w9 ⟨rfl, rfl⟩
      go_wp2
      go_ret
      exact ⟨rfl, REL.out.1.c.below (Nat.le_refl _) (fun _ _ e => e.elim)⟩
    · have e0 : lastF R q = 64 * (R q).gv + q := by unfold lastF; rw [if_neg g0]
      rw [e0] at hl
      rw [if_neg g0, if_neg g0] at nu
      obtain ⟨x, hx⟩ : ∃ x, x = 64 * (R q).gv + q := ⟨_, rfl⟩
      rw [← hx] at hl nu
      have xz : ((x : Int) == 0) = false := by rw [beq_eq_false_iff_ne]; omega
      have NU := Lib.hid nu
      clear nu g0 h3 hs e0 hcc hx
      go_wp2_with fail
      refine NU.out.mono ?_
      rintro e w9 ⟨rfl, rfl⟩
      go_wp2
      go_ret
      exact ⟨rfl, REL.out.1.c.below (Nat.le_refl _) (fun _ _ e => e.elim)⟩
end Go.Proofs.Ytkialefhjfoniaa
