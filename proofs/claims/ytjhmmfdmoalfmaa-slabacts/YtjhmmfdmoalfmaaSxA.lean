/-
  SlabActs: the loop over the acts; the end.
-/
import Derived.Test.YtjhmmfdmoalfmaaSxCode
import Derived.Test.YtjhmmfdmoalfmaaHeld
import Derived.Deep.QuietTactic
import Derived.BigQuiet
import Derived.Deep.Cut
import Derived.Deep.CutRange
import Derived.Deep.CutBlock
import Derived.RegionTactic
import Derived.BigRegion
namespace Go.Proofs.Ytjhmmfdmoalfmaa
open Go.RowKit Verge
set_option linter.unusedVariables false
set_option linter.unusedSimpArgs false
attribute [local go_sem] Oper.semAt_some

/-- what holds at the head of the loop -/
def sxAI (w : World) (b rb vb lb n : Nat) (ad : Option Addr) (len cap id : Nat) (slot : Int) (k : Nat) (a : Act) (wr : World) : Prop :=
  ∃ (cnt : Nat) (R : Nat → Rec) (np : Nat) (B : Nat → Nat) (Q : Nat → Rq) (ae : Option Addr) (ce : Nat) (ar : Option Addr) (cr : Nat), a.defers = [] ∧ a.tmps.size = 241 ∧ a.tmps.getD 0 undef = .int .i64 (n : Nat) ∧ a.tmps.getD 1 undef = .slice ad len cap ∧ a.tmps.getD 2 undef = .int .u64 (id : Nat) ∧ a.tmps.getD 3 undef = .int .i64 slot ∧ a.tmps.getD 9 undef = .pointer (some ⟨b, 0, none⟩) ∧ a.tmps.getD 11 undef = .pointer (some ⟨vb, 0, none⟩) ∧ a.tmps.getD 12 undef = .slice ae np ce ∧ a.tmps.getD 13 undef = .int .i64 (k : Nat) ∧ SaR w wr b rb vb lb n cnt R np B Q ae ce ar cr k
theorem sxAI_ctr {k : Nat} (w : World) (b rb vb lb n : Nat) (ad : Option Addr) (len cap id : Nat) (slot : Int) {a : Act} {wr : World} (H : sxAI w b rb vb lb n ad len cap id slot k a wr) : a.tmps.getD 13 undef = .int .i64 (k : Nat) := by
  obtain ⟨cnt, R, np, B, Q, ae, ce, ar, cr, -, -, -, -, -, -, -, -, -, h, -⟩ := H
  exact h
set_option maxRecDepth 100000 in
set_option maxHeartbeats 0 in
theorem sxA_round {k : Nat} (w : World) (b rb vb lb n : Nat) (ad : Option Addr) (len cap id : Nat) (slot : Int) (hv : IsTab [.i .i64, .i .i64, .i .i64, .i .u64] w ad len cap) (h200 : len ≤ 200) (n1 : n ≤ 64) (hid : id < 18446744073709551616) (a : Act) (wr : World) (hk : k ≤ len) (H : sxAI w b rb vb lb n ad len cap id slot k a wr) :
    Code.wp Try.prog (loopIn 0 Try.f3) (Exit.then (fun a' w' => sxAI w b rb vb lb n ad len cap id slot (k + 1) a' w' ∧ k < len) (Qx 0 (fun a' w' => sxAI w b rb vb lb n ad len cap id slot k a' w' ∧ k = len))) a wr := by
  obtain ⟨t, ds⟩ := a
  obtain ⟨cnt, R, np, B, Q, ae, ce, ar, cr, hd', hz, h0, h1, h2, h3, h9, h11, h12, h13, rel⟩ := H
  replace hd' : ds = [] := hd'
  subst hd'
  replace hz : t.size = 241 := hz
  replace h0 : t.getD 0 undef = .int .i64 (n : Nat) := h0
  replace h1 : t.getD 1 undef = .slice ad len cap := h1
  replace h2 : t.getD 2 undef = .int .u64 (id : Nat) := h2
  replace h3 : t.getD 3 undef = .int .i64 slot := h3
  replace h9 : t.getD 9 undef = .pointer (some ⟨b, 0, none⟩) := h9
  replace h11 : t.getD 11 undef = .pointer (some ⟨vb, 0, none⟩) := h11
  replace h12 : t.getD 12 undef = .slice ae np ce := h12
  replace h13 : t.getD 13 undef = .int .i64 (k : Nat) := h13
  have REL := Lib.hid rel
  clear rel
  refine openFr241 (P := fun t => t.getD 0 undef = .int .i64 (n : Nat) → t.getD 1 undef = .slice ad len cap → t.getD 2 undef = .int .u64 (id : Nat) → t.getD 3 undef = .int .i64 slot → t.getD 9 undef = .pointer (some ⟨b, 0, none⟩) → t.getD 11 undef = .pointer (some ⟨vb, 0, none⟩) → t.getD 12 undef = .slice ae np ce → t.getD 13 undef = .int .i64 (k : Nat) → Code.wp Try.prog (loopIn 0 Try.f3) (Exit.then (fun a' w' => sxAI w b rb vb lb n ad len cap id slot (k + 1) a' w' ∧ k < len) (Qx 0 (fun a' w' => sxAI w b rb vb lb n ad len cap id slot k a' w' ∧ k = len))) ⟨t, []⟩ wr) ?_ t hz h0 h1 h2 h3 h9 h11 h12 h13
  clear h0 h1 h2 h3 h9 h11 h12 h13 hz t
  intro c0 c1 c2 c3 c4 c5 c6 c7 c8 c9 c10 c11 c12 c13 c14 c15 c16 c17 c18 c19 c20 c21 c22 c23 c24 c25 c26 c27 c28 c29 c30 c31 c32 c33 c34 c35 c36 c37 c38 c39 c40 c41 c42 c43 c44 c45 c46 c47 c48 c49 c50 c51 c52 c53 c54 c55 c56 c57 c58 c59 c60 c61 c62 c63 c64 c65 c66 c67 c68 c69 c70 c71 c72 c73 c74 c75 c76 c77 c78 c79 c80 c81 c82 c83 c84 c85 c86 c87 c88 c89 c90 c91 c92 c93 c94 c95 c96 c97 c98 c99 c100 c101 c102 c103 c104 c105 c106 c107 c108 c109 c110 c111 c112 c113 c114 c115 c116 c117 c118 c119 c120 c121 c122 c123 c124 c125 c126 c127 c128 c129 c130 c131 c132 c133 c134 c135 c136 c137 c138 c139 c140 c141 c142 c143 c144 c145 c146 c147 c148 c149 c150 c151 c152 c153 c154 c155 c156 c157 c158 c159 c160 c161 c162 c163 c164 c165 c166 c167 c168 c169 c170 c171 c172 c173 c174 c175 c176 c177 c178 c179 c180 c181 c182 c183 c184 c185 c186 c187 c188 c189 c190 c191 c192 c193 c194 c195 c196 c197 c198 c199 c200 c201 c202 c203 c204 c205 c206 c207 c208 c209 c210 c211 c212 c213 c214 c215 c216 c217 c218 c219 c220 c221 c222 c223 c224 c225 c226 c227 c228 c229 c230 c231 c232 c233 c234 c235 c236 c237 c238 c239 c240 h0 h1 h2 h3 h9 h11 h12 h13
  replace h0 : c0 = .int .i64 (n : Nat) := h0
  replace h1 : c1 = .slice ad len cap := h1
  replace h2 : c2 = .int .u64 (id : Nat) := h2
  replace h3 : c3 = .int .i64 slot := h3
  replace h9 : c9 = .pointer (some ⟨b, 0, none⟩) := h9
  replace h11 : c11 = .pointer (some ⟨vb, 0, none⟩) := h11
  replace h12 : c12 = .slice ae np ce := h12
  replace h13 : c13 = .int .i64 (k : Nat) := h13
  subst h0
  subst h1
  subst h2
  subst h3
  subst h9
  subst h11
  subst h12
  subst h13
  conv => arg 2; whnf
  by_cases hlt : k < len
  · have hsm := hv.small
    obtain ⟨xa, y0, y1, y2, d3, rfl, hc1, hc2, q0, q1, q2, q3, hd3, hy1b⟩ := tab_act9 hv hlt
    have p0 := REL.out.c.keeps q0 (fun e => e)
    have p1 := REL.out.c.keeps q1 (fun e => e)
    have p2 := REL.out.c.keeps q2 (fun e => e)
    have p3 := REL.out.c.keeps q3 (fun e => e)
    have hkz : (k : Int) < (len : Int) := by omega
    have hkz0 : (0 : Int) ≤ (k : Int) := by omega
    have npb := REL.out.i.nm
    clear hv q0 q1 q2 q3
    have cA : Ch Nil wr (wr.alloc (.cells #[.int .i64 y0, .int .i64 y1, .int .i64 y2, .int .u64 (d3 : Nat)] 33)) := (Ch.refl _ _).alloc _
    have RELB := Lib.hid (REL.out.quiet cA)
    have BOX : Hid ((wr.alloc (.cells #[.int .i64 y0, .int .i64 y1, .int .i64 y2, .int .u64 (d3 : Nat)] 33)).cell? ⟨wr.heap.size, 0, none⟩ = some (.int .i64 y0) ∧ (wr.alloc (.cells #[.int .i64 y0, .int .i64 y1, .int .i64 y2, .int .u64 (d3 : Nat)] 33)).cell? ⟨wr.heap.size, 1, none⟩ = some (.int .i64 y1) ∧ (wr.alloc (.cells #[.int .i64 y0, .int .i64 y1, .int .i64 y2, .int .u64 (d3 : Nat)] 33)).cell? ⟨wr.heap.size, 2, none⟩ = some (.int .i64 y2) ∧ (wr.alloc (.cells #[.int .i64 y0, .int .i64 y1, .int .i64 y2, .int .u64 (d3 : Nat)] 33)).cell? ⟨wr.heap.size, 3, none⟩ = some (.int .u64 (d3 : Nat)) ∧ wr.heap.size ≠ b ∧ wr.heap.size ≠ rb) := Lib.hid ⟨by simp [go_sem], by simp [go_sem], by simp [go_sem], by simp [go_sem], by have := REL.out.s.lt; omega, by have := REL.out.s.lt2; omega⟩
    clear cA REL
    go_upto_region 16 with (fail)
    clear p0 p1 p2 p3
    generalize wr.alloc (.cells #[.int .i64 y0, .int .i64 y1, .int .i64 y2, .int .u64 (d3 : Nat)] 33) = W0 at RELB BOX ⊢
    obtain ⟨bb, hbb⟩ : ∃ bb, bb = wr.heap.size := ⟨_, rfl⟩
    rw [← hbb] at BOX ⊢
    clear hbb
    have q0 := BOX.out.1
    have q1 := BOX.out.2.1
    have q2 := BOX.out.2.2.1
    have q3 := BOX.out.2.2.2.1
    by_cases h0 : y0 = 0
    · subst h0
      obtain ⟨mm, hm1⟩ := nat_of_max9 y1
      have hm2 : max 0 y1 = (mm : Int) := by have hh := hm1; split at hh <;> omega
      have tm := tmod_nat mm 3
      have hpb := Nat.mod_lt mm (show 0 < 3 by decide)
      obtain ⟨pd, hpd⟩ : ∃ pd, pd = mm % 3 := ⟨_, rfl⟩
      rw [← hpd] at tm hpb
      replace tm : ((mm : Int)).tmod 3 = (pd : Int) := tm
      have em : (mm : Int) % 3 = (pd : Int) := by rw [hpd, Int.natCast_emod]; rfl
      clear hpd
      go_wp2_with fail
      refine (begin_sq pd RELB.out.s).mono ?_
      rintro e w5 ⟨q, rfl, hq, k5, c5, z5⟩
      have K5 := Lib.hid k5
      have C5 := Lib.hid c5
      have HQ := Lib.hid hq
      have Z5 := Lib.hid z5
      have E7 := Lib.hid (Row.kept (S := Nil) (RELB.out.e.kept c5 (fun _ _ e => e)) ((Ch.refl Nil w5).alloc (Obj.cells #[.pointer (some ⟨q, 0, none⟩)] 34)) (fun _ _ e => e))
      have V1 : Hid (∀ i, i < np * 1 → ptF (upN B np q) i = ptF B i) := Lib.hid (fun i hi => by unfold ptF; rw [upN_other _ _ (by omega)])
      have V2 : Hid (∀ (j : Nat) (u : Value), ([.pointer (some ⟨q, 0, none⟩)] : List Value)[j]? = some u → ptF (upN B np q) (np * 1 + j) = u) := Lib.hid (by
        intro j u hu
        obtain rfl : j = 0 := (by cases j; rfl; simp at hu)
        simp at hu
        subst hu
        unfold ptF
        rw [Nat.mul_one, Nat.add_zero, upN_same])
      clear k5 c5 hq z5
      go_wp2_with (at_builtin; refine append_row _ rfl _ _ _ rfl 34 (.pointer none) 1 8 Try.underlying31 (by kernel_rfl) rfl (by omega) (by omega) rfl E7.out (by omega) w5.heap.size 1 [.pointer (some ⟨q, 0, none⟩)] 34 rfl rfl (heap_alloc_new w5 _) (by simp [Value.oneCell']) (ptF (upN B np q)) V1.out V2.out _ rfl ?_)
      intro ga ca w6 row6 ch6 at6 lt6
      have c6 : Ch (OwnS ae) w5 w6 := (((Ch.refl Nil w5).alloc _).mono (fun _ _ e => e.elim)).trans ch6
      have AT6 : Hid (OwnS ae ga ∨ w5.heap.size ≤ ga) := Lib.hid (by rcases at6 with h | h; exact .inl h; exact .inr (by (try simp at h); omega))
      have ROW6 := Lib.hid row6
      have C6 := Lib.hid c6
      have nvb : ¬ OwnS ae vb := fun e => (RELB.out.eo vb e).2.2.2 (.inl rfl)
      have r6 := c6.keeps (C5.out.keeps RELB.out.v.r (fun e => e)) nvb
      have l5 : vb < w5.heap.size := by have := RELB.out.v.lt (.inl rfl : VS vb lb ar vb); have := C5.out.size; omega
      have f6 := (c6.frozen (p := ⟨vb, 2, none⟩) l5 nvb).trans ((C5.out.frozen (p := ⟨vb, 2, none⟩) (RELB.out.v.lt (.inl rfl : VS vb lb ar vb)) (fun e => e)).trans RELB.out.v.fr)
      have Q6 := Lib.hid ((RELB.out.v.q.kept C5.out (fun _ _ e => e)).kept c6 (fun j hj e => (RELB.out.eo j e).2.2.2 (.inr (.inr hj))))
      have l6 : vb < w6.heap.size := by have := c6.size; omega
      clear row6 ch6 at6 lt6 c6 E7 V1 V2
      have E8 := Lib.hid (Row.kept (S := Nil) Q6.out ((Ch.refl Nil w6).alloc (Obj.cells #[.int .i64 0, .int .i64 0, .int .i64 0, .int .u64 0, .int .u64 (pd : Nat)] 41)) (fun _ _ e => e))
      have V3 : Hid (∀ i, i < np * 5 → rqV (upQ Q np ⟨pd, 0, 0, 0, 0, 0⟩) i = rqV Q i) := Lib.hid (fun i hi => by unfold rqV; rw [upQ_other _ _ (by omega)])
      have V4 : Hid (∀ (j : Nat) (u : Value), ([.int .i64 0, .int .i64 0, .int .i64 0, .int .u64 0, .int .u64 (pd : Nat)] : List Value)[j]? = some u → rqV (upQ Q np ⟨pd, 0, 0, 0, 0, 0⟩) (np * 5 + j) = u) := Lib.hid (by
        intro j u hu
        have hj : j < 5 := by
          have := (List.getElem?_eq_some_iff.1 hu).1
          simpa using this
        rw [rqV_at _ _ _ hj, upQ_same]
        rcases (by omega : j = 0 ∨ j = 1 ∨ j = 2 ∨ j = 3 ∨ j = 4) with rfl | rfl | rfl | rfl | rfl <;> simp at hu <;> subst hu <;> rfl)
      have npc := Q6.out.len_cap
      go_wp2_with (at_builtin; refine append_row _ rfl _ _ _ rfl 41 (.agg #[.int .i64 0, .int .i64 0, .int .i64 0, .int .u64 0, .int .u64 0]) 5 40 Try.underlying36 (by kernel_rfl) rfl (by omega) (by omega) rfl E8.out (by omega) w6.heap.size 1 [.int .i64 0, .int .i64 0, .int .i64 0, .int .u64 0, .int .u64 (pd : Nat)] 41 rfl rfl (heap_alloc_new w6 _) (by simp [Value.oneCell']) (rqV (upQ Q np ⟨pd, 0, 0, 0, 0, 0⟩)) V3.out V4.out _ rfl ?_)
      intro gr cr7 w7 row7 ch7 at7 lt7
      have c7 : Ch (OwnS ar) w6 w7 := (((Ch.refl Nil w6).alloc _).mono (fun _ _ e => e.elim)).trans ch7
      have r7 := c7.keeps r6 RELB.out.v.nv
      have f7 := (c7.frozen (p := ⟨vb, 2, none⟩) l6 RELB.out.v.nv).trans f6
      have RELX := Lib.hid (RELB.out.grow (m' := k + 1) HQ.out K5.out C5.out Z5.out ROW6.out C6.out AT6.out row7 c7 (by rcases at7 with h | h; exact .inl h; exact .inr (by (try simp at h); omega)) (Nat.le_refl _))
      clear row7 ch7 at7 lt7 c7 E8 V3 V4 K5 C5 HQ Z5 ROW6 C6 AT6 Q6 r6 f6 l5 l6 nvb npc
      go_upto_region 40 with (fail)
      clear r7 f7
      generalize w7.setCell ⟨vb, 2, none⟩ (.slice (some ⟨gr, 0, none⟩) (np + 1) cr7) = w8 at RELX ⊢
      go_wp2_with fail
      refine (slSame_any _ b rb vb lb n _ _ _ _ _ _ slot id hid (fun j hj => (RELX.out.vo j hj).2) n1 RELX.out.s RELX.out.v).mono ?_
      rintro e w9 ⟨rfl, s9, v9, c9⟩
      have NX := Lib.hid (RELX.out.tried s9 c9 v9 (Ch.refl _ _) RELX.out.i)
      clear s9 v9 c9 RELX
      go_wp2
      first | exact ⟨⟨_, _, _, _, _, _, _, _, _, rfl, rfl, rfl, rfl, rfl, rfl, rfl, rfl, rfl, rfl, NX.out⟩, hlt⟩ | exact ⟨_, _, _, _, _, _, _, _, _, rfl, rfl, rfl, rfl, rfl, rfl, rfl, rfl, rfl, rfl, NX.out⟩
    · have hb0 : (y0 == 0) = false := by rw [beq_eq_false_iff_ne]; exact h0
      by_cases h1 : y0 = 1
      · subst h1
        by_cases hnp : np = 0
        · subst hnp
          have RELX := Lib.hid (RELB.out.more (Nat.le_succ k))
          go_wp2_with fail
          refine (slSame_any _ b rb vb lb n _ _ _ _ _ _ slot id hid (fun j hj => (RELX.out.vo j hj).2) n1 RELX.out.s RELX.out.v).mono ?_
          rintro e w9 ⟨rfl, s9, v9, c9⟩
          have NX := Lib.hid (RELX.out.tried s9 c9 v9 (Ch.refl _ _) RELX.out.i)
          clear s9 v9 c9 RELX
          go_wp2
          first | exact ⟨⟨_, _, _, _, _, _, _, _, _, rfl, rfl, rfl, rfl, rfl, rfl, rfl, rfl, rfl, rfl, NX.out⟩, hlt⟩ | exact ⟨_, _, _, _, _, _, _, _, _, rfl, rfl, rfl, rfl, rfl, rfl, rfl, rfl, rfl, rfl, NX.out⟩
        · skip
          obtain ⟨mm, hm1⟩ := nat_of_max9 y1
          have hm2 : max 0 y1 = (mm : Int) := by have hh := hm1; split at hh <;> omega
          have np0 : 0 < np := by omega
          have npz : (0 : Int) < (np : Int) := by omega
          have np000 : ¬ np = 0 := by omega
          have hj := Nat.mod_lt mm np0
          have tm := tmod_nat mm np
          obtain ⟨j, hjj⟩ : ∃ j, j = mm % np := ⟨_, rfl⟩
          rw [← hjj] at hj tm
          have em : (mm : Int) % (np : Int) = (j : Int) := by rw [hjj, Int.natCast_emod]
          clear hjj
          have hjz : (j : Int) < (np : Int) := by omega
          have hjz0 : (0 : Int) ≤ (j : Int) := by omega
          have e0 : ((j : Int)).toNat = j := by omega
          obtain ⟨ga, hga, -⟩ := RELB.out.e.form np0
          subst hga
          have lc := RELB.out.e.len_cap
          obtain ⟨sN, hsN⟩ : ∃ sN, sN = stepM n cnt R (Q j) := ⟨_, rfl⟩
          have RST := refStep_any RELB.out.v RELB.out.i (by omega) hj
          rw [← hsN] at RST
          replace RST := Lib.hid RST
          have II := RELB.out.i.step hj (by omega) n1 RELB.out.s.n0
          rw [← hsN] at II
          replace II := Lib.hid II
          have SN := Lib.hid hsN
          have ss2 : sN.2.2.ss ≤ 2 := by have := (II.out.q j hj).2; rw [upQ_same] at this; exact this
          clear hsN
          obtain ⟨ss, hss⟩ : ∃ ss, ss = sN.2.2.ss := ⟨_, rfl⟩
          rw [← hss] at RST ss2
          have SS := Lib.hid hss
          clear hss
          go_wp2_with fail
          refine RST.out.mono ?_
          rintro e w5 ⟨rfl, v5, c5⟩
          have V5 := Lib.hid v5
          have C5 := Lib.hid c5
          have nbv : ¬ VS vb lb ar b := fun e => (RELB.out.vo b e).2.1 rfl
          have nrv : ¬ VS vb lb ar rb := fun e => (RELB.out.vo rb e).2.2 rfl
          have SQ5 : SQ w5 (B j) b rb n cnt R (Q j) := ⟨RELB.out.s.kept c5 nbv nrv, (RELB.out.q j hj).kept c5 (RELB.out.o j hj).2.2.2.1, (RELB.out.o j hj).2.1, (RELB.out.o j hj).2.2.1⟩
          have okj := (RELB.out.i.q j hj).1
          have STP := step_any SQ5 okj.st okj.seen okj.slot (fun k hk => RELB.out.i.lt hk) (fun i hi => by have := RELB.out.i.gv i hi; omega)
          rw [← SN.out, ← SS.out] at STP
          replace STP := Lib.hid STP
          have lp : w5.cell? ⟨ga, j, none⟩ = some (.pointer (some ⟨B j, 0, none⟩)) := c5.keeps (RELB.out.e.cell j (by omega)) (fun e => (RELB.out.eo ga rfl).2.2.2 e)
          have yz : ((ss : Int) != (ss : Int)) = false := by rw [bne_eq_false_iff_eq]
          clear v5 c5 SQ5 okj RST nbv nrv
          go_wp2_with fail
          refine STP.out.mono ?_
          rintro e w6 ⟨rfl, k6, c6⟩
          have RELX := Lib.hid (RELB.out.stepped (m' := k + 1) hj V5.out C5.out k6 c6 II.out)
          have ID2 := Lib.hid (id_of k6.rq)
          have lp : w6.cell? ⟨ga, j, none⟩ = some (.pointer (some ⟨B j, 0, none⟩)) := RELX.out.e.cell j (by omega)
          clear k6 c6 V5 C5 STP
          go_wp2_with fail
          refine ID2.out.mono ?_
          rintro e w7 ⟨rfl, rfl⟩
          rw [← SS.out]
          clear ID2 lp
          by_cases t2 : ss = 2
          · subst t2
            rw [if_pos rfl, if_pos rfl]
            obtain ⟨gr, hgr, -⟩ := RELX.out.v.q.form np0
            have lr := RELX.out.v.q.len_cap
            have rr := RELX.out.v.r
            subst hgr
            obtain ⟨-, -, -, r3, -⟩ := rq_cells RELX.out.v.q hj
            rw [upQ_same] at r3
            obtain ⟨idn, hidn⟩ : ∃ idn, idn = sN.2.2.id := ⟨_, rfl⟩
            rw [← hidn] at r3 ⊢
            clear hidn
            have iz : ((idn : Int) != (idn : Int)) = false := by rw [bne_eq_false_iff_eq]
            go_upto_region 40 with (fail)
            clear r3 rr
            go_wp2_with fail
            refine (slSame_any _ b rb vb lb n _ _ _ _ _ _ slot id hid (fun j hj => (RELX.out.vo j hj).2) n1 RELX.out.s RELX.out.v).mono ?_
            rintro e w9 ⟨rfl, s9, v9, c9⟩
            have NX := Lib.hid (RELX.out.tried s9 c9 v9 (Ch.refl _ _) RELX.out.i)
            clear s9 v9 c9 RELX
            go_wp2
            first | exact ⟨⟨_, _, _, _, _, _, _, _, _, rfl, rfl, rfl, rfl, rfl, rfl, rfl, rfl, rfl, rfl, NX.out⟩, hlt⟩ | exact ⟨_, _, _, _, _, _, _, _, _, rfl, rfl, rfl, rfl, rfl, rfl, rfl, rfl, rfl, rfl, NX.out⟩
          · rw [if_neg t2, if_neg t2]
            have sz : ((ss : Int) == 2) = false := by rw [beq_eq_false_iff_ne]; omega
            have sz2 : ((ss : Int) != 2) = true := by rw [bne_iff_ne]; omega
            go_wp2_with fail
            refine (slSame_any _ b rb vb lb n _ _ _ _ _ _ slot id hid (fun j hj => (RELX.out.vo j hj).2) n1 RELX.out.s RELX.out.v).mono ?_
            rintro e w9 ⟨rfl, s9, v9, c9⟩
            have NX := Lib.hid (RELX.out.tried s9 c9 v9 (Ch.refl _ _) RELX.out.i)
            clear s9 v9 c9 RELX
            go_wp2
            first | exact ⟨⟨_, _, _, _, _, _, _, _, _, rfl, rfl, rfl, rfl, rfl, rfl, rfl, rfl, rfl, rfl, NX.out⟩, hlt⟩ | exact ⟨_, _, _, _, _, _, _, _, _, rfl, rfl, rfl, rfl, rfl, rfl, rfl, rfl, rfl, rfl, NX.out⟩
      · have hb1 : (y0 == 1) = false := by rw [beq_eq_false_iff_ne]; exact h1
        by_cases h2 : y0 = 2
        · subst h2
          by_cases hold : d3 = 0 ∧ 0 ≤ y1 ∧ y1 < n
          · obtain ⟨h3, hy0, hy1⟩ := hold
            subst h3
            replace q3 : W0.cell? ⟨bb, 3, none⟩ = some (.int .u64 0) := q3
            obtain ⟨kk, rfl⟩ := Int.eq_ofNat_of_zero_le hy0
            have hkn : kk < n := by omega
            have vl := RELB.out.v.l
            have vw := (RELB.out.v.rc kk hkn).v
            have ho := RELB.out.i.lt hkn
            obtain ⟨old, hold⟩ : ∃ old, old = (R kk).wd := ⟨_, rfl⟩
            rw [← hold] at vw ho
            have e0 : ((kk : Int)).toNat = kk := by omega
            clear hold
            go_upto_region 31 with (fail)
            go_quiet (fail)
            replace RELB := Lib.hid (RELB.out.quiet ((Ch.refl Nil W0).drewN nq))
            have BOX2 : Hid ((W0.drewN nq).cell? ⟨bb, 0, none⟩ = some (.int .i64 2) ∧ (W0.drewN nq).cell? ⟨bb, 1, none⟩ = some (.int .i64 (kk : Int)) ∧ (W0.drewN nq).cell? ⟨bb, 2, none⟩ = some (.int .i64 y2) ∧ (W0.drewN nq).cell? ⟨bb, 3, none⟩ = some (.int .u64 0) ∧ bb ≠ b ∧ bb ≠ rb) := Lib.hid ⟨q0, q1, q2, q3, BOX.out.2.2.2.2⟩
            clear BOX vl vw q0 q1 q2 q3
            have BOX := BOX2
            clear BOX2
            generalize W0.drewN nq = W0 at RELB BOX ⊢
            have q0 := BOX.out.1
            have q1 := BOX.out.2.1
            have q2 := BOX.out.2.2.1
            have q3 := BOX.out.2.2.2.1
            obtain ⟨tv, htv⟩ : ∃ tv, tv = tryM n R (kk : Int) old y2 := ⟨_, rfl⟩
            have TR := try_any (kk : Int) old y2 RELB.out.s ho
            rw [← htv] at TR
            have TV := Lib.hid htv
            have II := tryM_inv RELB.out.i (kk : Int) old y2
            rw [← htv] at II
            replace II := Lib.hid II
            replace TR := Lib.hid TR
            obtain ⟨t1, ht1⟩ : ∃ t1, t1 = tv.1 := ⟨_, rfl⟩
            obtain ⟨t2, ht2⟩ : ∃ t2, t2 = tv.2.1 := ⟨_, rfl⟩
            rw [← ht1, ← ht2] at TR
            have T1 := Lib.hid ht1
            have T2 := Lib.hid ht2
            have z1 : ((t1 : Int) != (t1 : Int)) = false := by rw [bne_eq_false_iff_eq]
            have z2 : ((t2 : Int) != (t2 : Int)) = false := by rw [bne_eq_false_iff_eq]
            have HOO := Lib.hid ho
            have nbo := BOX.out.2.2.2.2
            clear htv ht1 ht2 ho
            go_wp2_with fail
            refine TR.out.mono ?_
            rintro e w5 ⟨rfl, s5, c5⟩
            have nbb : ¬ Two b rb bb := fun e => by rcases e with e | e; exact nbo.1 e; exact nbo.2 e
            have d1 := c5.keeps BOX.out.2.1 nbb
            have d2 := c5.keeps BOX.out.2.2.1 nbb
            have V5 := Lib.hid (RELB.out.v.kept c5 (fun j hj e => by have := RELB.out.vo j hj; rcases e with e | e <;> omega))
            have S5 := Lib.hid s5
            have C5 := Lib.hid c5
            have RT := refTry_any (kk : Int) old y2 V5.out HOO.out
            rw [← TV.out, ← T1.out, ← T2.out] at RT
            replace RT := Lib.hid RT
            clear s5 c5 TR q0 q1 q2 q3
            go_wp2_with fail
            refine RT.out.mono ?_
            rintro e w6 ⟨rfl, v6, c6⟩
            have RELX := Lib.hid (RELB.out.tried (m' := k + 1) S5.out C5.out v6 c6 II.out)
            clear v6 c6 RT d1 d2 V5 S5 C5
            go_wp2_with fail
            refine (slSame_any _ b rb vb lb n _ _ _ _ _ _ slot id hid (fun j hj => (RELX.out.vo j hj).2) n1 RELX.out.s RELX.out.v).mono ?_
            rintro e w9 ⟨rfl, s9, v9, c9⟩
            have NX := Lib.hid (RELX.out.tried s9 c9 v9 (Ch.refl _ _) RELX.out.i)
            clear s9 v9 c9 RELX
            go_wp2
            first | exact ⟨⟨_, _, _, _, _, _, _, _, _, rfl, rfl, rfl, rfl, rfl, rfl, rfl, rfl, rfl, rfl, NX.out⟩, hlt⟩ | exact ⟨_, _, _, _, _, _, _, _, _, rfl, rfl, rfl, rfl, rfl, rfl, rfl, rfl, rfl, rfl, NX.out⟩
          · obtain ⟨old, rfl⟩ : ∃ old, d3 = old := ⟨_, rfl⟩
            have ho := hd3
            have CND : Hid (¬ (d3 = 0 ∧ 0 ≤ y1 ∧ y1 < n)) := Lib.hid hold
            by_cases h3 : d3 = 0
            · subst h3
              replace q3 : W0.cell? ⟨bb, 3, none⟩ = some (.int .u64 0) := q3
              by_cases hy0 : 0 ≤ y1
              · have hy1 : ¬ y1 < (n : Int) := fun h => hold ⟨rfl, hy0, h⟩
                clear hold
                obtain ⟨tv, htv⟩ : ∃ tv, tv = tryM n R y1 0 y2 := ⟨_, rfl⟩
                have TR := try_any y1 0 y2 RELB.out.s ho
                rw [← htv] at TR
                have TV := Lib.hid htv
                have II := tryM_inv RELB.out.i y1 0 y2
                rw [← htv] at II
                replace II := Lib.hid II
                replace TR := Lib.hid TR
                obtain ⟨t1, ht1⟩ : ∃ t1, t1 = tv.1 := ⟨_, rfl⟩
                obtain ⟨t2, ht2⟩ : ∃ t2, t2 = tv.2.1 := ⟨_, rfl⟩
                rw [← ht1, ← ht2] at TR
                have T1 := Lib.hid ht1
                have T2 := Lib.hid ht2
                have z1 : ((t1 : Int) != (t1 : Int)) = false := by rw [bne_eq_false_iff_eq]
                have z2 : ((t2 : Int) != (t2 : Int)) = false := by rw [bne_eq_false_iff_eq]
                have HOO := Lib.hid ho
                have nbo := BOX.out.2.2.2.2
                clear htv ht1 ht2 ho
                go_wp2_with fail
                refine TR.out.mono ?_
                rintro e w5 ⟨rfl, s5, c5⟩
                have nbb : ¬ Two b rb bb := fun e => by rcases e with e | e; exact nbo.1 e; exact nbo.2 e
                have d1 := c5.keeps BOX.out.2.1 nbb
                have d2 := c5.keeps BOX.out.2.2.1 nbb
                have V5 := Lib.hid (RELB.out.v.kept c5 (fun j hj e => by have := RELB.out.vo j hj; rcases e with e | e <;> omega))
                have S5 := Lib.hid s5
                have C5 := Lib.hid c5
                have RT := refTry_any y1 0 y2 V5.out HOO.out
                rw [← TV.out, ← T1.out, ← T2.out] at RT
                replace RT := Lib.hid RT
                clear s5 c5 TR q0 q1 q2 q3
                go_wp2_with fail
                refine RT.out.mono ?_
                rintro e w6 ⟨rfl, v6, c6⟩
                have RELX := Lib.hid (RELB.out.tried (m' := k + 1) S5.out C5.out v6 c6 II.out)
                clear v6 c6 RT d1 d2 V5 S5 C5
                go_wp2_with fail
                refine (slSame_any _ b rb vb lb n _ _ _ _ _ _ slot id hid (fun j hj => (RELX.out.vo j hj).2) n1 RELX.out.s RELX.out.v).mono ?_
                rintro e w9 ⟨rfl, s9, v9, c9⟩
                have NX := Lib.hid (RELX.out.tried s9 c9 v9 (Ch.refl _ _) RELX.out.i)
                clear s9 v9 c9 RELX
                go_wp2
                first | exact ⟨⟨_, _, _, _, _, _, _, _, _, rfl, rfl, rfl, rfl, rfl, rfl, rfl, rfl, rfl, rfl, NX.out⟩, hlt⟩ | exact ⟨_, _, _, _, _, _, _, _, _, rfl, rfl, rfl, rfl, rfl, rfl, rfl, rfl, rfl, rfl, NX.out⟩
              · clear hold
                obtain ⟨tv, htv⟩ : ∃ tv, tv = tryM n R y1 0 y2 := ⟨_, rfl⟩
                have TR := try_any y1 0 y2 RELB.out.s ho
                rw [← htv] at TR
                have TV := Lib.hid htv
                have II := tryM_inv RELB.out.i y1 0 y2
                rw [← htv] at II
                replace II := Lib.hid II
                replace TR := Lib.hid TR
                obtain ⟨t1, ht1⟩ : ∃ t1, t1 = tv.1 := ⟨_, rfl⟩
                obtain ⟨t2, ht2⟩ : ∃ t2, t2 = tv.2.1 := ⟨_, rfl⟩
                rw [← ht1, ← ht2] at TR
                have T1 := Lib.hid ht1
                have T2 := Lib.hid ht2
                have z1 : ((t1 : Int) != (t1 : Int)) = false := by rw [bne_eq_false_iff_eq]
                have z2 : ((t2 : Int) != (t2 : Int)) = false := by rw [bne_eq_false_iff_eq]
                have HOO := Lib.hid ho
                have nbo := BOX.out.2.2.2.2
                clear htv ht1 ht2 ho
                go_wp2_with fail
                refine TR.out.mono ?_
                rintro e w5 ⟨rfl, s5, c5⟩
                have nbb : ¬ Two b rb bb := fun e => by rcases e with e | e; exact nbo.1 e; exact nbo.2 e
                have d1 := c5.keeps BOX.out.2.1 nbb
                have d2 := c5.keeps BOX.out.2.2.1 nbb
                have V5 := Lib.hid (RELB.out.v.kept c5 (fun j hj e => by have := RELB.out.vo j hj; rcases e with e | e <;> omega))
                have S5 := Lib.hid s5
                have C5 := Lib.hid c5
                have RT := refTry_any y1 0 y2 V5.out HOO.out
                rw [← TV.out, ← T1.out, ← T2.out] at RT
                replace RT := Lib.hid RT
                clear s5 c5 TR q0 q1 q2 q3
                go_wp2_with fail
                refine RT.out.mono ?_
                rintro e w6 ⟨rfl, v6, c6⟩
                have RELX := Lib.hid (RELB.out.tried (m' := k + 1) S5.out C5.out v6 c6 II.out)
                clear v6 c6 RT d1 d2 V5 S5 C5
                go_wp2_with fail
                refine (slSame_any _ b rb vb lb n _ _ _ _ _ _ slot id hid (fun j hj => (RELX.out.vo j hj).2) n1 RELX.out.s RELX.out.v).mono ?_
                rintro e w9 ⟨rfl, s9, v9, c9⟩
                have NX := Lib.hid (RELX.out.tried s9 c9 v9 (Ch.refl _ _) RELX.out.i)
                clear s9 v9 c9 RELX
                go_wp2
                first | exact ⟨⟨_, _, _, _, _, _, _, _, _, rfl, rfl, rfl, rfl, rfl, rfl, rfl, rfl, rfl, rfl, NX.out⟩, hlt⟩ | exact ⟨_, _, _, _, _, _, _, _, _, rfl, rfl, rfl, rfl, rfl, rfl, rfl, rfl, rfl, rfl, NX.out⟩
            · have z3 : ((d3 : Int) == 0) = false := by rw [beq_eq_false_iff_ne]; omega
              clear hold
              obtain ⟨tv, htv⟩ : ∃ tv, tv = tryM n R y1 d3 y2 := ⟨_, rfl⟩
              have TR := try_any y1 d3 y2 RELB.out.s ho
              rw [← htv] at TR
              have TV := Lib.hid htv
              have II := tryM_inv RELB.out.i y1 d3 y2
              rw [← htv] at II
              replace II := Lib.hid II
              replace TR := Lib.hid TR
              obtain ⟨t1, ht1⟩ : ∃ t1, t1 = tv.1 := ⟨_, rfl⟩
              obtain ⟨t2, ht2⟩ : ∃ t2, t2 = tv.2.1 := ⟨_, rfl⟩
              rw [← ht1, ← ht2] at TR
              have T1 := Lib.hid ht1
              have T2 := Lib.hid ht2
              have z1 : ((t1 : Int) != (t1 : Int)) = false := by rw [bne_eq_false_iff_eq]
              have z2 : ((t2 : Int) != (t2 : Int)) = false := by rw [bne_eq_false_iff_eq]
              have HOO := Lib.hid ho
              have nbo := BOX.out.2.2.2.2
              clear htv ht1 ht2 ho
              go_wp2_with fail
              refine TR.out.mono ?_
              rintro e w5 ⟨rfl, s5, c5⟩
              have nbb : ¬ Two b rb bb := fun e => by rcases e with e | e; exact nbo.1 e; exact nbo.2 e
              have d1 := c5.keeps BOX.out.2.1 nbb
              have d2 := c5.keeps BOX.out.2.2.1 nbb
              have V5 := Lib.hid (RELB.out.v.kept c5 (fun j hj e => by have := RELB.out.vo j hj; rcases e with e | e <;> omega))
              have S5 := Lib.hid s5
              have C5 := Lib.hid c5
              have RT := refTry_any y1 d3 y2 V5.out HOO.out
              rw [← TV.out, ← T1.out, ← T2.out] at RT
              replace RT := Lib.hid RT
              clear s5 c5 TR q0 q1 q2 q3
              go_wp2_with fail
              refine RT.out.mono ?_
              rintro e w6 ⟨rfl, v6, c6⟩
              have RELX := Lib.hid (RELB.out.tried (m' := k + 1) S5.out C5.out v6 c6 II.out)
              clear v6 c6 RT d1 d2 V5 S5 C5
              go_wp2_with fail
              refine (slSame_any _ b rb vb lb n _ _ _ _ _ _ slot id hid (fun j hj => (RELX.out.vo j hj).2) n1 RELX.out.s RELX.out.v).mono ?_
              rintro e w9 ⟨rfl, s9, v9, c9⟩
              have NX := Lib.hid (RELX.out.tried s9 c9 v9 (Ch.refl _ _) RELX.out.i)
              clear s9 v9 c9 RELX
              go_wp2
              first | exact ⟨⟨_, _, _, _, _, _, _, _, _, rfl, rfl, rfl, rfl, rfl, rfl, rfl, rfl, rfl, rfl, NX.out⟩, hlt⟩ | exact ⟨_, _, _, _, _, _, _, _, _, rfl, rfl, rfl, rfl, rfl, rfl, rfl, rfl, rfl, rfl, NX.out⟩
        · have hb2 : (y0 == 2) = false := by rw [beq_eq_false_iff_ne]; exact h2
          by_cases h3 : y0 = 3
          · subst h3
            have hcb : cnt ≤ 1000000 := by have := RELB.out.i.le; omega
            have DR := Lib.hid (drop_of RELB.out.s hcb)
            by_cases h0 : 0 < cnt
            · have DR2 := DR.out
              rw [if_pos h0] at DR2
              replace DR2 := Lib.hid DR2
              have L := Lib.hid (decide_eq_true h0)
              clear DR h0
              go_wp2_with fail
              refine DR2.out.mono ?_
              rintro e w5 ⟨rfl, s5, c5⟩
              have V5 := Lib.hid (RELB.out.v.kept c5 (fun j hj e => by have := RELB.out.vo j hj; change j = _ at e; omega))
              have S5 := Lib.hid s5
              have C5 : Hid (Ch (Two b rb) W0 w5) := Lib.hid (Ch_two1 c5)
              clear s5 c5 DR2
              go_wp2_with fail
              refine (refDrop_of V5.out hcb).mono ?_
              rintro e w6 ⟨rfl, v6, c6⟩
              rw [L.out]
              have RELX := Lib.hid (RELB.out.tried (m' := k + 1) S5.out C5.out v6 (c6.mono fun _ _ e => .inl e) RELB.out.i.drop)
              clear v6 c6 V5 S5 C5
              go_wp2_with fail
              refine (slSame_any _ b rb vb lb n _ _ _ _ _ _ slot id hid (fun j hj => (RELX.out.vo j hj).2) n1 RELX.out.s RELX.out.v).mono ?_
              rintro e w9 ⟨rfl, s9, v9, c9⟩
              have NX := Lib.hid (RELX.out.tried s9 c9 v9 (Ch.refl _ _) RELX.out.i)
              clear s9 v9 c9 RELX
              go_wp2
              first | exact ⟨⟨_, _, _, _, _, _, _, _, _, rfl, rfl, rfl, rfl, rfl, rfl, rfl, rfl, rfl, rfl, NX.out⟩, hlt⟩ | exact ⟨_, _, _, _, _, _, _, _, _, rfl, rfl, rfl, rfl, rfl, rfl, rfl, rfl, rfl, rfl, NX.out⟩
            · have DR2 := DR.out
              rw [if_neg h0] at DR2
              replace DR2 := Lib.hid DR2
              have L := Lib.hid (decide_eq_false h0)
              clear DR h0
              go_wp2_with fail
              refine DR2.out.mono ?_
              rintro e w5 ⟨rfl, s5, c5⟩
              have V5 := Lib.hid (RELB.out.v.kept c5 (fun j hj e => by have := RELB.out.vo j hj; change j = _ at e; omega))
              have S5 := Lib.hid s5
              have C5 : Hid (Ch (Two b rb) W0 w5) := Lib.hid (Ch_two1 c5)
              clear s5 c5 DR2
              go_wp2_with fail
              refine (refDrop_of V5.out hcb).mono ?_
              rintro e w6 ⟨rfl, v6, c6⟩
              rw [L.out]
              have RELX := Lib.hid (RELB.out.tried (m' := k + 1) S5.out C5.out v6 (c6.mono fun _ _ e => .inl e) RELB.out.i.drop)
              clear v6 c6 V5 S5 C5
              go_wp2_with fail
              refine (slSame_any _ b rb vb lb n _ _ _ _ _ _ slot id hid (fun j hj => (RELX.out.vo j hj).2) n1 RELX.out.s RELX.out.v).mono ?_
              rintro e w9 ⟨rfl, s9, v9, c9⟩
              have NX := Lib.hid (RELX.out.tried s9 c9 v9 (Ch.refl _ _) RELX.out.i)
              clear s9 v9 c9 RELX
              go_wp2
              first | exact ⟨⟨_, _, _, _, _, _, _, _, _, rfl, rfl, rfl, rfl, rfl, rfl, rfl, rfl, rfl, rfl, NX.out⟩, hlt⟩ | exact ⟨_, _, _, _, _, _, _, _, _, rfl, rfl, rfl, rfl, rfl, rfl, rfl, rfl, rfl, rfl, NX.out⟩
          · have hb3 : (y0 == 3) = false := by rw [beq_eq_false_iff_ne]; exact h3
            have RELX := Lib.hid (RELB.out.more (Nat.le_succ k))
            go_wp2_with fail
            refine (slSame_any _ b rb vb lb n _ _ _ _ _ _ slot id hid (fun j hj => (RELX.out.vo j hj).2) n1 RELX.out.s RELX.out.v).mono ?_
            rintro e w9 ⟨rfl, s9, v9, c9⟩
            have NX := Lib.hid (RELX.out.tried s9 c9 v9 (Ch.refl _ _) RELX.out.i)
            clear s9 v9 c9 RELX
            go_wp2
            first | exact ⟨⟨_, _, _, _, _, _, _, _, _, rfl, rfl, rfl, rfl, rfl, rfl, rfl, rfl, rfl, rfl, NX.out⟩, hlt⟩ | exact ⟨_, _, _, _, _, _, _, _, _, rfl, rfl, rfl, rfl, rfl, rfl, rfl, rfl, rfl, rfl, NX.out⟩
  · obtain rfl : k = len := by omega
    clear hv
    go_wp2
    first | exact ⟨by first | rfl | trivial, ⟨_, _, _, _, _, _, _, _, _, rfl, rfl, rfl, rfl, rfl, rfl, rfl, rfl, rfl, rfl, REL.out⟩, by first | rfl | trivial⟩ | exact ⟨by first | rfl | trivial, ⟨_, _, _, _, _, _, _, _, _, rfl, rfl, rfl, rfl, rfl, rfl, rfl, rfl, rfl, rfl, REL.out⟩⟩ | exact ⟨_, _, _, _, _, _, _, _, _, rfl, rfl, rfl, rfl, rfl, rfl, rfl, rfl, rfl, rfl, REL.out⟩ | exact ⟨⟨_, _, _, _, _, _, _, _, _, rfl, rfl, rfl, rfl, rfl, rfl, rfl, rfl, rfl, rfl, REL.out⟩, by first | rfl | trivial⟩
theorem sxA_loop (w : World) (b rb vb lb n : Nat) (ad : Option Addr) (len cap id : Nat) (slot : Int) (hv : IsTab [.i .i64, .i .i64, .i .i64, .i .u64] w ad len cap) (h200 : len ≤ 200) (n1 : n ≤ 64) (hid : id < 18446744073709551616) (a : Act) (wr : World) (hb : 0 ≤ len) (H : sxAI w b rb vb lb n ad len cap id slot 0 a wr) :
    Code.wp Try.prog (.loop (loopIn 0 Try.f3)) (Qx 0 (fun a' w' => sxAI w b rb vb lb n ad len cap id slot len a' w')) a wr := by
  refine wp_loop (fun a' wr => ∃ k, k ≤ len ∧ sxAI w b rb vb lb n ad len cap id slot k a' wr) (fun a' _ => len - (intOf (a'.tmps.getD 13 undef)).toNat) ⟨0, hb, H⟩ ?_
  rintro a' wr ⟨k, hk, h⟩
  refine wp_mono (sxA_round w b rb vb lb n ad len cap id slot hv h200 n1 hid a' wr hk h) ?_
  intro e a2 w2 hp
  cases e with
  | normal =>
    refine ⟨⟨k + 1, by have := hp.2; omega, hp.1⟩, ?_⟩
    rw [sxAI_ctr w b rb vb lb n ad len cap id slot h, sxAI_ctr w b rb vb lb n ad len cap id slot hp.1]
    have := hp.2
    simp only [intOf, Int.toNat_natCast]
    omega
  | exit n => exact ⟨hp.1, hp.2.2 ▸ hp.2.1⟩
  | _ => exact hp.elim
set_option maxRecDepth 100000 in
set_option maxHeartbeats 0 in
theorem sx_end (w : World) (b rb vb lb n : Nat) (ad : Option Addr) (len cap id : Nat) (slot : Int) (hv : IsTab [.i .i64, .i .i64, .i .i64, .i .u64] w ad len cap) (h200 : len ≤ 200) (n1 : n ≤ 64) (hid : id < 18446744073709551616)  (a : Act) (wr : World) (H : sxAI w b rb vb lb n ad len cap id slot len a wr) :
    Code.wp Try.prog (aftIn 0 Try.f3) (bodyPost Try.prog Try.f3 (fun e w' => e = .returned (.bool true) ∧ Below w.heap.size w w')) a wr := by
  obtain ⟨t, ds⟩ := a
  obtain ⟨cnt, R, np, B, Q, ae, ce, ar, cr, hd', hz, h0, h1, h2, h3, h9, h11, h12, h13, rel⟩ := H
  replace hd' : ds = [] := hd'
  subst hd'
  replace hz : t.size = 241 := hz
  replace h0 : t.getD 0 undef = .int .i64 (n : Nat) := h0
  replace h1 : t.getD 1 undef = .slice ad len cap := h1
  replace h2 : t.getD 2 undef = .int .u64 (id : Nat) := h2
  replace h3 : t.getD 3 undef = .int .i64 slot := h3
  replace h9 : t.getD 9 undef = .pointer (some ⟨b, 0, none⟩) := h9
  replace h11 : t.getD 11 undef = .pointer (some ⟨vb, 0, none⟩) := h11
  replace h12 : t.getD 12 undef = .slice ae np ce := h12
  replace h13 : t.getD 13 undef = .int .i64 (len : Nat) := h13
  have REL := Lib.hid rel
  clear rel
  refine openFr241 (P := fun t => t.getD 0 undef = .int .i64 (n : Nat) → t.getD 1 undef = .slice ad len cap → t.getD 2 undef = .int .u64 (id : Nat) → t.getD 3 undef = .int .i64 slot → t.getD 9 undef = .pointer (some ⟨b, 0, none⟩) → t.getD 11 undef = .pointer (some ⟨vb, 0, none⟩) → t.getD 12 undef = .slice ae np ce → t.getD 13 undef = .int .i64 (len : Nat) → Code.wp Try.prog (aftIn 0 Try.f3) (bodyPost Try.prog Try.f3 (fun e w' => e = .returned (.bool true) ∧ Below w.heap.size w w')) ⟨t, []⟩ wr) ?_ t hz h0 h1 h2 h3 h9 h11 h12 h13
  clear h0 h1 h2 h3 h9 h11 h12 h13 hz t
  intro c0 c1 c2 c3 c4 c5 c6 c7 c8 c9 c10 c11 c12 c13 c14 c15 c16 c17 c18 c19 c20 c21 c22 c23 c24 c25 c26 c27 c28 c29 c30 c31 c32 c33 c34 c35 c36 c37 c38 c39 c40 c41 c42 c43 c44 c45 c46 c47 c48 c49 c50 c51 c52 c53 c54 c55 c56 c57 c58 c59 c60 c61 c62 c63 c64 c65 c66 c67 c68 c69 c70 c71 c72 c73 c74 c75 c76 c77 c78 c79 c80 c81 c82 c83 c84 c85 c86 c87 c88 c89 c90 c91 c92 c93 c94 c95 c96 c97 c98 c99 c100 c101 c102 c103 c104 c105 c106 c107 c108 c109 c110 c111 c112 c113 c114 c115 c116 c117 c118 c119 c120 c121 c122 c123 c124 c125 c126 c127 c128 c129 c130 c131 c132 c133 c134 c135 c136 c137 c138 c139 c140 c141 c142 c143 c144 c145 c146 c147 c148 c149 c150 c151 c152 c153 c154 c155 c156 c157 c158 c159 c160 c161 c162 c163 c164 c165 c166 c167 c168 c169 c170 c171 c172 c173 c174 c175 c176 c177 c178 c179 c180 c181 c182 c183 c184 c185 c186 c187 c188 c189 c190 c191 c192 c193 c194 c195 c196 c197 c198 c199 c200 c201 c202 c203 c204 c205 c206 c207 c208 c209 c210 c211 c212 c213 c214 c215 c216 c217 c218 c219 c220 c221 c222 c223 c224 c225 c226 c227 c228 c229 c230 c231 c232 c233 c234 c235 c236 c237 c238 c239 c240 h0 h1 h2 h3 h9 h11 h12 h13
  replace h0 : c0 = .int .i64 (n : Nat) := h0
  replace h1 : c1 = .slice ad len cap := h1
  replace h2 : c2 = .int .u64 (id : Nat) := h2
  replace h3 : c3 = .int .i64 slot := h3
  replace h9 : c9 = .pointer (some ⟨b, 0, none⟩) := h9
  replace h11 : c11 = .pointer (some ⟨vb, 0, none⟩) := h11
  replace h12 : c12 = .slice ae np ce := h12
  replace h13 : c13 = .int .i64 (len : Nat) := h13
  subst h0
  subst h1
  subst h2
  subst h3
  subst h9
  subst h11
  subst h12
  subst h13
  conv => arg 2; whnf
  clear hv
  go_wp2_with fail
  refine (slSame_any _ b rb vb lb n _ _ _ _ _ _ slot id hid (fun j hj => (REL.out.vo j hj).2) n1 REL.out.s REL.out.v).mono ?_
  rintro e w9 ⟨rfl, s9, v9, c9⟩
  have C9 : Hid (Ch Nil w w9) := Lib.hid (REL.out.c.then c9 (fun j hj e => by have := REL.out.hb; have := REL.out.hr; rcases e with e | e <;> omega))
  clear s9 v9 c9 REL
  go_wp2
  go_ret
  exact ⟨rfl, C9.out.below (Nat.le_refl _) (fun _ _ e => e.elim)⟩
end Go.Proofs.Ytjhmmfdmoalfmaa
