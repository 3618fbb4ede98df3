/-
  FloorOwn: what comes behind the loop.
-/
import Derived.Test.YtkialefhjfoniaaGreatFoA
import Derived.Test.YtkialefhjfoniaaGreatHeld
import Derived.Deep.QuietTactic
import Derived.BigQuiet
import Derived.Deep.Cut
import Derived.Deep.CutRange
import Derived.Deep.CutBlock
import Derived.RegionTactic
import Derived.BigRegion
namespace Go.Proofs.YtkialefhjfoniaaGreat
open Go.RowKit Verge
set_option linter.unusedVariables false
set_option linter.unusedSimpArgs false
attribute [local go_sem] Oper.semAt_some

set_option maxRecDepth 100000 in
set_option maxHeartbeats 0 in
theorem fo_end (w wz : World) (F G : Fb) (m hi m2 h2 q : Nat) (ad : Option Addr) (len cap : Nat) (Ls : List Ax) (hv : ASrc14 w ad Ls) (hl : Ls.length = len) (h200 : len ≤ 200) (hc : Ch Nil w wz) (hm : w.heap.size ≤ m ∧ hi ≤ m2 ∧ hi ≤ wz.heap.size ∧ q < 256) (hG : OwA m2 h2 wz G ⟨0, 0, false, 0, []⟩ none 0 True True True True wz)  (a : Act) (wr : World) (H : foAI w wz F G m hi m2 h2 q ad len cap Ls len a wr) :
    Code.wp Tryz.prog (aftIn 0 Tryz.f3) (bodyPost Tryz.prog Tryz.f3 (fun e w' => e = .returned (.bool true) ∧ Below w.heap.size w w')) a wr := by
  obtain ⟨t, ds⟩ := a
  obtain ⟨s, a1, tc1, hd', hz, h0, h1, h5, h7, h9, rel⟩ := H
  replace hd' : ds = [] := hd'
  subst hd'
  replace hz : t.size = 150 := hz
  replace h0 : t.getD 0 undef = .slice ad len cap := h0
  replace h1 : t.getD 1 undef = .int .u8 (q : Nat) := h1
  replace h5 : t.getD 5 undef = .pointer (some ⟨F.f, 0, none⟩) := h5
  replace h7 : t.getD 7 undef = .pointer (some ⟨G.f, 0, none⟩) := h7
  replace h9 : t.getD 9 undef = .int .i64 (len : Nat) := h9
  have REL := Lib.hid rel
  clear rel
  refine openFr150 (P := fun t => t.getD 0 undef = .slice ad len cap → t.getD 1 undef = .int .u8 (q : Nat) → t.getD 5 undef = .pointer (some ⟨F.f, 0, none⟩) → t.getD 7 undef = .pointer (some ⟨G.f, 0, none⟩) → t.getD 9 undef = .int .i64 (len : Nat) → Code.wp Tryz.prog (aftIn 0 Tryz.f3) (bodyPost Tryz.prog Tryz.f3 (fun e w' => e = .returned (.bool true) ∧ Below w.heap.size w w')) ⟨t, []⟩ wr) ?_ t hz h0 h1 h5 h7 h9
  clear h0 h1 h5 h7 h9 hz t
  intro c0 c1 c2 c3 c4 c5 c6 c7 c8 c9 c10 c11 c12 c13 c14 c15 c16 c17 c18 c19 c20 c21 c22 c23 c24 c25 c26 c27 c28 c29 c30 c31 c32 c33 c34 c35 c36 c37 c38 c39 c40 c41 c42 c43 c44 c45 c46 c47 c48 c49 c50 c51 c52 c53 c54 c55 c56 c57 c58 c59 c60 c61 c62 c63 c64 c65 c66 c67 c68 c69 c70 c71 c72 c73 c74 c75 c76 c77 c78 c79 c80 c81 c82 c83 c84 c85 c86 c87 c88 c89 c90 c91 c92 c93 c94 c95 c96 c97 c98 c99 c100 c101 c102 c103 c104 c105 c106 c107 c108 c109 c110 c111 c112 c113 c114 c115 c116 c117 c118 c119 c120 c121 c122 c123 c124 c125 c126 c127 c128 c129 c130 c131 c132 c133 c134 c135 c136 c137 c138 c139 c140 c141 c142 c143 c144 c145 c146 c147 c148 c149 h0 h1 h5 h7 h9
  replace h0 : c0 = .slice ad len cap := h0
  replace h1 : c1 = .int .u8 (q : Nat) := h1
  replace h5 : c5 = .pointer (some ⟨F.f, 0, none⟩) := h5
  replace h7 : c7 = .pointer (some ⟨G.f, 0, none⟩) := h7
  replace h9 : c9 = .int .i64 (len : Nat) := h9
  subst h0
  subst h1
  subst h5
  subst h7
  subst h9
  conv => arg 2; whnf
  have HC := Lib.hid hc
  have HMM := Lib.hid hm
  have B0 := Lib.hid hG
  have A0 := Lib.hid REL.out.1
  have q2 : q % 2 < 2 := by omega
  have hw : IntKind.i64.wrap (q : Int) = (q : Int) := IntWalk.i64_in _ (by have := HMM.out; omega)
  clear hv hl hc hm hG REL
  go_wp2_with fail
  refine (slab_of A0.out.f.fl).mono ?_
  rintro e w3 ⟨rfl, c3⟩
  have A1 := Lib.hid (A0.out.quiet c3)
  clear c3 A0
  go_wp2_with fail
  refine (begin_of 0 (A1.out.s0 trivial)).mono ?_
  rintro e w4 ⟨qq, rfl, hq, rq, is, c4, -⟩
  have l1 := (A1.out.s0 trivial).lt
  have l2 := (A1.out.s0 trivial).lt2
  have SQ4 : Hid (SQ w4 qq F.sb F.srb 8 0 zeroR ⟨0, 0, 0, 0, 0, 0⟩) := Lib.hid ⟨is, rq, by omega, by omega⟩
  have HQ := Lib.hid hq
  have C4 := Lib.hid c4
  clear l1 l2 hq c4 is rq
  go_wp2_with fail
  refine (step_look SQ4.out rfl rfl (by omega)).mono ?_
  rintro e w5 ⟨rfl, -, c5⟩
  have A2 := Lib.hid (A1.out.stepped HQ.out ((Ch_any C4.out).trans c5))
  clear c5 A1 C4 HQ SQ4
  go_wp2_with fail
  refine (pipe_of A2.out.f.fl).mono ?_
  rintro e w6 ⟨rfl, c6⟩
  have A3 := Lib.hid (A2.out.quiet c6)
  clear c6 A2
  go_wp2_with fail
  refine (putF_room 1 0 0 0 (A3.out.q trivial) (by omega)).mono ?_
  rintro e w7 ⟨⟨v7, rfl⟩, c7⟩
  have A4 := Lib.hid (A3.out.put c7)
  clear c7 A3
  go_wp2_with fail
  refine (log_of A4.out.f.fl).mono ?_
  rintro e w8 ⟨rfl, c8⟩
  have A5 := Lib.hid (A4.out.quiet c8)
  clear c8 A4
  have iv : IsVs (w8.alloc (Obj.cells #[.int .u64 1, .int .u64 0, .int .u64 0, .int .u64 0] 52)) w8.heap.size [.int .u64 1, .int .u64 0, .int .u64 0, .int .u64 0] := IsVs.new w8 [.int .u64 1, .int .u64 0, .int .u64 0, .int .u64 0] 52
  have IV := Lib.hid (src_one iv)
  have A6 : Hid (OwA m hi wz F s a1 tc1 False False True True (w8.alloc (Obj.cells #[.int .u64 1, .int .u64 0, .int .u64 0, .int .u64 0] 52))) := Lib.hid (A5.out.quiet ((Ch.refl _ _).alloc _))
  clear iv A5
  go_wp2_with fail
  refine (A6.out.logPut IV.out).mono ?_
  rintro e w9 ⟨rfl, b⟩
  have A7 := Lib.hid b
  clear b A6 IV
  go_wp2_with fail
  refine (A7.out.home q).mono ?_
  rintro e wa ⟨rfl, ca⟩
  have A8 := Lib.hid (A7.out.quiet ca)
  clear ca A7
  go_wp2_with fail
  refine (A8.out.lock q2).mono ?_
  rintro e wb ⟨rfl, b⟩
  have A9 := Lib.hid b
  clear b A8
  go_wp2_with fail
  refine (A9.out.tried q2).mono ?_
  rintro e wc ⟨⟨vc, rfl⟩, b⟩
  have B1 : Hid (OwB m2 h2 wc G True wc) := Lib.hid (B0.out.other b.c (fun j hj => by have := hj.2; have := HMM.out; omega))
  have CW : Hid (Ch Nil w wc) := Lib.hid (HC.out.then b.c (fun i hi' e => by have := e.1; have := HMM.out; omega))
  have HM2 : Hid (w.heap.size ≤ m2) := Lib.hid (by have := B0.out.ids; have := HMM.out; have := b.ids; omega)
  clear b A9 B0 HC HMM
  go_wp2_with fail
  refine (B1.out.home q).mono ?_
  rintro e wd ⟨rfl, cd⟩
  have B2 := Lib.hid (B1.out.quiet cd)
  clear cd B1
  go_wp2_with fail
  refine (B2.out.lock q2).mono ?_
  rintro e we ⟨rfl, b⟩
  have B3 := Lib.hid b
  clear b
  go_wp2_with fail
  refine (B3.out.owned q2).mono ?_
  rintro e wf ⟨rfl, b⟩
  have B4 := Lib.hid b
  clear b
  go_wp2_with fail
  refine (rd_inside B4.out).mono ?_
  rintro e wg ⟨rfl, b⟩
  have B5 := Lib.hid b
  clear b
  go_wp2_with fail
  refine (rd_busy B5.out).mono ?_
  rintro e wh ⟨rfl, b⟩
  have B6 := Lib.hid b
  clear b
  go_wp2_with fail
  refine (rd_trace B6.out).mono ?_
  rintro e wi ⟨ai, ci, rfl, b⟩
  have B7 := Lib.hid b
  clear b
  go_wp2_with fail
  refine (rd_pipe B7.out).mono ?_
  rintro e wj ⟨rfl, b⟩
  have B8 := Lib.hid b
  clear b
  go_wp2_with fail
  refine (rd_pLen B8.out).mono ?_
  rintro e wk ⟨rfl, b⟩
  have B9 := Lib.hid b
  clear b
  go_wp2_with fail
  refine (rd_log B9.out).mono ?_
  rintro e wl ⟨rfl, b⟩
  have B10 := Lib.hid b
  clear b
  go_wp2_with fail
  refine (rd_lLen B10.out).mono ?_
  rintro e wm ⟨rfl, b⟩
  have B11 := Lib.hid b
  clear b
  go_wp2_with fail
  refine (rd_slab B11.out).mono ?_
  rintro e wn ⟨rfl, b⟩
  have B12 := Lib.hid b
  clear b
  go_wp2_with fail
  refine (rd_count B12.out).mono ?_
  rintro e wo ⟨rfl, b⟩
  have B13 := Lib.hid b
  clear b
  go_wp2_with fail
  refine (rd_closed B13.out).mono ?_
  rintro e wp ⟨rfl, b⟩
  have B14 := Lib.hid b
  clear b
  go_wp2_with fail
  refine (rd_now B14.out).mono ?_
  rintro e wr2 ⟨rfl, b⟩
  have B15 := Lib.hid b
  clear b
  go_wp2
  go_ret
  exact ⟨rfl, (CW.out.then B15.out.c (fun i hi' e => by have := e.1; have := HM2.out; omega)).below (Nat.le_refl _) (fun _ _ e => e.elim)⟩
end Go.Proofs.YtkialefhjfoniaaGreat
