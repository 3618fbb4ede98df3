import Derived.Test.YtldnmpiaofppgaaDoorCOoK
import Derived.Test.YtldnmpiaofppgaaDoorK07
import Derived.Deep.QuietTactic
import Derived.BigQuiet
import Derived.Deep.Cut
import Derived.Deep.CutRange
import Derived.Deep.CutBlock
import Derived.RegionTactic
import Derived.BigRegion
/-
  ShardOrder: the loop over the acts; what follows it.
-/
namespace Go.Proofs.YtldnmpiaofppgaaDoor
open Go.RowKit Verge Go.Proofs.YtldnmpiaofppgaaDoor.LT
set_option linter.unusedVariables false
set_option linter.unusedSimpArgs false
attribute [local go_sem] Oper.semAt_some

theorem set_ist {w : World} {B a d : Nat} {u : Tk} (h : IsTk w B 0 u) : IsTk (((w.setCell ⟨B, 0, none⟩ (.int .u64 (a : Nat))).setCell ⟨B, 1, none⟩ (.int .i64 0)).setCell ⟨B, 3, none⟩ (.int .u64 (d : Nat))) B 0 ⟨a, 0, u.g, d, u.p⟩ ∧
    Ch (One B) w (((w.setCell ⟨B, 0, none⟩ (.int .u64 (a : Nat))).setCell ⟨B, 1, none⟩ (.int .i64 0)).setCell ⟨B, 3, none⟩ (.int .u64 (d : Nat))) := by
  obtain ⟨x0, x1, x2, x3, x4⟩ := h.cells0
  refine ⟨IsTk.of ⟨?_, ?_, ?_, ?_, ?_⟩, (((Ch.refl _ _).setB 0 _).setB 1 _).setB 3 _⟩
  · exact (cell_ne (by omega) _).trans ((cell_ne (by omega) _).trans (World.cell?_setCell_same _ _ _ x0))
  · exact (cell_ne (by omega) _).trans (World.cell?_setCell_same _ _ _ ((cell_ne (by omega) _).trans x1))
  · exact (cell_ne (by omega) _).trans ((cell_ne (by omega) _).trans ((cell_ne (by omega) _).trans x2))
  · exact World.cell?_setCell_same _ _ _ ((cell_ne (by omega) _).trans ((cell_ne (by omega) _).trans x3))
  · exact (cell_ne (by omega) _).trans ((cell_ne (by omega) _).trans ((cell_ne (by omega) _).trans x4))
theorem OrS.later' {w W W' : World} {s mb now mn id last B : Nat} {g : Wh} {Q P : List Ent} {F : Nat → Option Nat} (h : OrS w W s g mb now Q P F mn id last) (c : Ch (One B) W W') (hB : w.heap.size ≤ B) (hn : ¬ ShS s g P B) (hm : B ≠ mb) : OrS w W' s g mb now Q P F mn id last :=
  ⟨h.h.later c (fun k hk e => by have e' : k = B := e; exact hn (e' ▸ hk)) (fun k e => by have e' : k = B := e; omega), h.m.kept c (fun e => hm (show mb = B from e).symm), h.f, h.u, h.i, h.mo, h.l, h.b⟩
/-- what holds at the head of the loop -/
def ooAI (w : World) (s : Nat) (g : Wh) (mb : Nat) (ad : Option Addr) (len cap : Nat) (A : List Ac) (k : Nat) (a : Act) (wr : World) : Prop :=
  ∃ (now : Nat) (Q P : List Ent) (F : Nat → Option Nat) (mn id last : Nat), a.defers = [] ∧ a.tmps.size = 193 ∧ a.tmps.getD 0 undef = .slice ad len cap ∧ a.tmps.getD 3 undef = .pointer (some ⟨s, 0, none⟩) ∧ a.tmps.getD 5 undef = .map (some mb) ∧ a.tmps.getD 6 undef = .int .u64 (id : Nat) ∧ a.tmps.getD 7 undef = .int .u64 (last : Nat) ∧ a.tmps.getD 8 undef = .int .i64 (k : Nat) ∧ (OrS w wr s g mb now Q P F mn id last ∧ now ≤ 150 * k ∧ id ≤ k)
theorem ooAI_ctr {k : Nat} (w : World) (s : Nat) (g : Wh) (mb : Nat) (ad : Option Addr) (len cap : Nat) (A : List Ac) {a : Act} {wr : World} (H : ooAI w s g mb ad len cap A k a wr) : a.tmps.getD 8 undef = .int .i64 (k : Nat) := by
  obtain ⟨now, Q, P, F, mn, id, last, -, -, -, -, -, -, -, h, -⟩ := H
  exact h
set_option maxRecDepth 100000 in
set_option maxHeartbeats 0 in
theorem ooA_round {k : Nat} (w : World) (s : Nat) (g : Wh) (mb : Nat) (ad : Option Addr) (len cap : Nat) (A : List Ac) (hs : ASrc w ad A) (hA : A.length = len) (ok : ∀ x, x ∈ A → x.ok) (h60 : len ≤ 60) (hc : len ≤ cap ∧ cap ≤ maxLen) (T : Tab w) (a : Act) (wr : World) (hk : k ≤ (len + 1)) (H : ooAI w s g mb ad len cap A k a wr) :
    Code.wp Tryd.prog (loopIn 0 Tryd.f4) (Exit.then (fun a' w' => ooAI w s g mb ad len cap A (k + 1) a' w' ∧ k < (len + 1)) (Qx 0 (fun a' w' => ooAI w s g mb ad len cap A k a' w' ∧ k = (len + 1)))) a wr := by
  obtain ⟨t, ds⟩ := a
  obtain ⟨now, Q, P, F, mn, id, last, hd', hz, h0, h3, h5, h6, h7, h8, rel⟩ := H
  replace hd' : ds = [] := hd'
  subst hd'
  replace hz : t.size = 193 := hz
  replace h0 : t.getD 0 undef = .slice ad len cap := h0
  replace h3 : t.getD 3 undef = .pointer (some ⟨s, 0, none⟩) := h3
  replace h5 : t.getD 5 undef = .map (some mb) := h5
  replace h6 : t.getD 6 undef = .int .u64 (id : Nat) := h6
  replace h7 : t.getD 7 undef = .int .u64 (last : Nat) := h7
  replace h8 : t.getD 8 undef = .int .i64 (k : Nat) := h8
  have REL := Lib.hid rel
  clear rel
  refine openFr193 (P := fun t => t.getD 0 undef = .slice ad len cap → t.getD 3 undef = .pointer (some ⟨s, 0, none⟩) → t.getD 5 undef = .map (some mb) → t.getD 6 undef = .int .u64 (id : Nat) → t.getD 7 undef = .int .u64 (last : Nat) → t.getD 8 undef = .int .i64 (k : Nat) → Code.wp Tryd.prog (loopIn 0 Tryd.f4) (Exit.then (fun a' w' => ooAI w s g mb ad len cap A (k + 1) a' w' ∧ k < (len + 1)) (Qx 0 (fun a' w' => ooAI w s g mb ad len cap A k a' w' ∧ k = (len + 1)))) ⟨t, []⟩ wr) ?_ t hz h0 h3 h5 h6 h7 h8
  clear h0 h3 h5 h6 h7 h8 hz t
  intro c0 c1 c2 c3 c4 c5 c6 c7 c8 c9 c10 c11 c12 c13 c14 c15 c16 c17 c18 c19 c20 c21 c22 c23 c24 c25 c26 c27 c28 c29 c30 c31 c32 c33 c34 c35 c36 c37 c38 c39 c40 c41 c42 c43 c44 c45 c46 c47 c48 c49 c50 c51 c52 c53 c54 c55 c56 c57 c58 c59 c60 c61 c62 c63 c64 c65 c66 c67 c68 c69 c70 c71 c72 c73 c74 c75 c76 c77 c78 c79 c80 c81 c82 c83 c84 c85 c86 c87 c88 c89 c90 c91 c92 c93 c94 c95 c96 c97 c98 c99 c100 c101 c102 c103 c104 c105 c106 c107 c108 c109 c110 c111 c112 c113 c114 c115 c116 c117 c118 c119 c120 c121 c122 c123 c124 c125 c126 c127 c128 c129 c130 c131 c132 c133 c134 c135 c136 c137 c138 c139 c140 c141 c142 c143 c144 c145 c146 c147 c148 c149 c150 c151 c152 c153 c154 c155 c156 c157 c158 c159 c160 c161 c162 c163 c164 c165 c166 c167 c168 c169 c170 c171 c172 c173 c174 c175 c176 c177 c178 c179 c180 c181 c182 c183 c184 c185 c186 c187 c188 c189 c190 c191 c192 h0 h3 h5 h6 h7 h8
  replace h0 : c0 = .slice ad len cap := h0
  replace h3 : c3 = .pointer (some ⟨s, 0, none⟩) := h3
  replace h5 : c5 = .map (some mb) := h5
  replace h6 : c6 = .int .u64 (id : Nat) := h6
  replace h7 : c7 = .int .u64 (last : Nat) := h7
  replace h8 : c8 = .int .i64 (k : Nat) := h8
  subst h0
  subst h3
  subst h5
  subst h6
  subst h7
  subst h8
  conv => arg 2; whnf
  have HS := Lib.hid hs
  have OK := Lib.hid ok
  have TB := Lib.hid T
  have hcl : (len : Int) ≤ 60 := by omega
  clear T
  by_cases hle : k ≤ len
  · have hkz : (k : Int) ≤ (len : Int) := by omega
    have hltL : k < len + 1 := by omega
    by_cases hlt : k < len
    · have hkz2 : (k : Int) < (len : Int) := by omega
      have hkz0 : (0 : Int) ≤ (k : Int) := by omega
      obtain ⟨x, hx⟩ : ∃ x, A[k]? = some x := ⟨_, List.getElem?_eq_getElem (by omega)⟩
      obtain ⟨b, o, rfl, kc⟩ := (hs.kept REL.out.1.h.d.c (fun _ _ e => e)).form (by omega)
      have qk := (kc k x hx).k
      have qn := (kc k x hx).n
      obtain ⟨mm, hm1⟩ := nat_of_max x.n
      have htk : ((mm : Int)).tmod 130 = ((mm % 130 : Nat) : Int) := tmod_130 mm
      have htk2 := Nat.mod_lt mm (show 0 < 130 by decide)
      obtain ⟨tk, htke⟩ : ∃ tk, tk = mm % 130 := ⟨_, rfl⟩
      rw [← htke] at htk htk2
      clear htke
      by_cases hkd : x.k = 0
      · have hk0 : (x.k == 0) = true := by rw [beq_iff_eq]; exact hkd
        obtain ⟨u0, u1, u2, u3, u4⟩ := (kc k x hx).u.cells
        have XOK := Lib.hid (ok x (List.mem_of_getElem? hx))
        obtain ⟨id1, hid1⟩ : ∃ id1, id1 = id + 1 := ⟨_, rfl⟩
        have HE1 : Hid ((id : Int) + 1 = (id1 : Int)) := Lib.hid (by omega)
        have HID1 := Lib.hid hid1
        have hidk := REL.out.2.2
        have hnow := REL.out.2.1
        have hi1 : id1 ≤ k + 1 := by omega
        clear kc hx hkd ok hs hid1
        go_upto_region 18 with (fail)
        rw [HE1.out]
        go_upto_region 19 with (fail)
        clear u0 u1 u2 u3 u4 qk qn
        have cA : Ch Nil wr (wr.alloc (Obj.cells #[.int .u64 (x.u.i : Nat), .int .i64 x.u.s, .int .u64 (x.u.g : Nat), .int .u64 (x.u.d : Nat), .int .u64 (x.u.p : Nat)] 37)) := (Ch.refl _ _).alloc _
        have BX := IsTk.new wr 37 x.u
        have BK := Blk.new wr #[.int .u64 (x.u.i : Nat), .int .i64 x.u.s, .int .u64 (x.u.g : Nat), .int .u64 (x.u.d : Nat), .int .u64 (x.u.p : Nat)] 37
        have nB : Hid (¬ ShS s g P wr.heap.size) := Lib.hid fun e => by have := REL.out.1.h.lt e; omega
        have nM : wr.heap.size ≠ mb := by have := REL.out.1.m.lt; omega
        generalize wr.alloc (Obj.cells #[.int .u64 (x.u.i : Nat), .int .i64 x.u.s, .int .u64 (x.u.g : Nat), .int .u64 (x.u.d : Nat), .int .u64 (x.u.p : Nat)] 37) = w4 at cA BX BK ⊢
        obtain ⟨B, hB⟩ : ∃ B, B = wr.heap.size := ⟨_, rfl⟩
        rw [← hB] at BX BK nB nM ⊢
        have HB := Lib.hid hB
        clear hB
        have R0 := Lib.hid (REL.out.1.quiet cA)
        have BX0 := Lib.hid BX
        obtain ⟨x0, x1, x2, x3, x4⟩ := BX.cells0
        have g0 := BK.fz 0
        have g1 := BK.fz 1
        have g3 := BK.fz 3
        obtain ⟨ud, hud⟩ : ∃ ud, ud = x.u.d := ⟨_, rfl⟩
        rw [← hud] at x3
        have HUD := Lib.hid hud
        obtain ⟨td, htd⟩ : ∃ td, td = ud % 1000 := ⟨_, rfl⟩
        have htd1 : ((ud : Int)).tmod 1000 = (td : Int) := by rw [htd]; exact (Int.ofNat_tmod ud 1000).symm
        have htd2 : (ud : Int) % 1000 = (td : Int) := by omega
        have htl : td < 1000 := by omega
        clear hud htd BX BK cA
        go_upto_region 21 with (fail)
        clear x0 x1 x2 x3 x4 g0 g1 g3 htd1 htd2
        obtain ⟨v, hv⟩ : ∃ v : Tk, v = ⟨id1, 0, x.u.g, td, x.u.p⟩ := ⟨_, rfl⟩
        have st := set_ist (a := id1) (d := td) BX0.out
        rw [← hv] at st
        have N5 := Lib.hid (R0.out.later' st.2 (by have := HB.out; have := REL.out.1.h.d.c.size; omega) nB.out nM)
        have b5 := st.1
        clear st R0 BX0 REL
        generalize ((w4.setCell ⟨B, 0, none⟩ (.int .u64 (id1 : Nat))).setCell ⟨B, 1, none⟩ (.int .i64 0)).setCell ⟨B, 3, none⟩ (.int .u64 (td : Nat)) = w5 at N5 b5 ⊢
        have hvs : 0 ≤ v.s := by rw [hv]; exact Int.le_refl _
        have hvd : v.d = td := by rw [hv]
        have hvi : v.i = id1 := by rw [hv]
        have HVI := Lib.hid hvi
        have hvd2 : v.d < 18446744073709551616 := by omega
        obtain ⟨d, hd⟩ : ∃ d, d = max td (now + 1) := ⟨_, rfl⟩
        have HD : Hid (d = max v.d (now + 1)) := Lib.hid (by rw [hvd]; exact hd)
        have hdn : now < d := by omega
        have hdt : td ≤ d := by omega
        have hcase : d = td ∨ (td ≠ d ∧ d = now + 1) := by omega
        have hdb : d ≤ 20000 := by omega
        obtain ⟨x0, x1, x2, x3, x4⟩ := b5.cells0
        have B5 := Lib.hid b5
        have HVD := Lib.hid hvd
        have HCS := Lib.hid hcase
        clear hd b5 hv hvi hvd hcase XOK
        go_wp2_with fail
        refine (N5.out.h.arm v hvs hvd2 (by omega) (by have := N5.out.b; omega) d HD).mono ?_
        rintro e w6 ⟨b6, rfl, hb6, h6, c6⟩
        have y3 := (B5.out.kept c6 (fun e => nB.out (.inl e))).cells0.2.2.2.1
        rw [HVD.out] at y3
        have Y3 := Lib.hid y3
        have H6 := Lib.hid h6
        have C6 := Lib.hid c6
        clear h6 c6 x0 x1 x2 x3 x4 B5
        have z1 : (td : Int) ≤ (d : Int) := by omega
        have z2 : (now : Int) < (d : Int) := by omega
        go_wp2_with fail
        refine H6.out.now_of.mono ?_
        rintro e w7 ⟨rfl, c7⟩
        have y7 := c7.keeps Y3.out (fun e => e)
        have Y7 := Lib.hid y7
        have H7 := Lib.hid (H6.out.quiet c7)
        have C7 := Lib.hid (C6.out.then c7 (fun _ _ e => e.elim))
        clear c7 y3 Y3 H6 C6
        rcases HCS.out with hdd | ⟨hne, hdd⟩
        · have e0 : ((d : Int) != (td : Int)) = false := by rw [bne_eq_false_iff_eq]; omega
          clear hdd
          have m7 := N5.out.m.kept C7.out (fun e => N5.out.mo.2 (.inl e))
          obtain ⟨w9, hput, m9, c9⟩ := m7.put id1 d (by omega) (by omega) (by have := N5.out.none; rw [← HID1.out] at this; exact this) (by have := N5.out.b; omega)
          have nx := N5.out.more (u := reD v d) hb6 (by rw [← HID1.out]; exact HVI.out) rfl H7.out C7.out (by rw [← HID1.out]; exact m9) c9
          rw [← HID1.out] at nx
          have NX := Lib.hid nx
          clear m7 m9 c9 nx N5 C7 H7
          go_wp2
          exact ⟨⟨now, _, _, _, _, id1, last, rfl, rfl, rfl, rfl, rfl, rfl, rfl, rfl, ⟨NX.out, by omega, by omega⟩⟩, hltL⟩
        · have e0 : ((d : Int) != (td : Int)) = true := by rw [bne_iff_ne]; omega
          have e1 : ((d : Int) != (now : Int) + 1) = false := by rw [bne_eq_false_iff_eq]; omega
          clear hdd
          go_wp2_with fail
          refine H7.out.now_of.mono ?_
          rintro e w8 ⟨rfl, c8⟩
          have H8 := Lib.hid (H7.out.quiet c8)
          have C8 := Lib.hid (C7.out.then c8 (fun _ _ e => e.elim))
          clear c8 y7 Y7 H7 C7
          have m7 := N5.out.m.kept C8.out (fun e => N5.out.mo.2 (.inl e))
          obtain ⟨w9, hput, m9, c9⟩ := m7.put id1 d (by omega) (by omega) (by have := N5.out.none; rw [← HID1.out] at this; exact this) (by have := N5.out.b; omega)
          have nx := N5.out.more (u := reD v d) hb6 (by rw [← HID1.out]; exact HVI.out) rfl H8.out C8.out (by rw [← HID1.out]; exact m9) c9
          rw [← HID1.out] at nx
          have NX := Lib.hid nx
          clear m7 m9 c9 nx N5 C8 H8
          go_wp2
          exact ⟨⟨now, _, _, _, _, id1, last, rfl, rfl, rfl, rfl, rfl, rfl, rfl, rfl, ⟨NX.out, by omega, by omega⟩⟩, hltL⟩
      · have hk0 : (x.k == 0) = false := by rw [beq_eq_false_iff_ne]; exact hkd
        clear kc hx hkd ok hs
        have N5 := Lib.hid REL.out.1
        have hnow := REL.out.2.1
        have hidk := REL.out.2.2
        clear REL
        go_wp2
        refine wp_mono (ooK_loop w s g mb (some ⟨b, o, none⟩) len cap A P mn id k tk now HS.out hA OK.out h60 hc TB.out (by omega) (by omega) (by omega) _ _ (by omega) ?hI) ?_
        case hI => exact ⟨_, _, _, rfl, rfl, rfl, rfl, rfl, rfl, rfl, rfl, rfl, rfl, N5.out⟩
        clear N5
        clear last
        clear F Q
        intro e a' w7 hp
        obtain ⟨rfl, H⟩ := Qx_inv hp
        clear hp
        obtain ⟨t, ds⟩ := a'
        obtain ⟨Q, F, last, hd', hz, h0, h3, h5, h6, h7, h8, h9, h13, rel⟩ := H
        replace hd' : ds = [] := hd'
        subst hd'
        replace hz : t.size = 193 := hz
        replace h0 : t.getD 0 undef = .slice (some ⟨b, o, none⟩) len cap := h0
        replace h3 : t.getD 3 undef = .pointer (some ⟨s, 0, none⟩) := h3
        replace h5 : t.getD 5 undef = .map (some mb) := h5
        replace h6 : t.getD 6 undef = .int .u64 (id : Nat) := h6
        replace h7 : t.getD 7 undef = .int .u64 (last : Nat) := h7
        replace h8 : t.getD 8 undef = .int .i64 (k : Nat) := h8
        replace h9 : t.getD 9 undef = .int .i64 (tk : Nat) := h9
        replace h13 : t.getD 13 undef = .int .i64 (tk : Nat) := h13
        have REL := Lib.hid rel
        clear rel
        refine openFr193 (P := fun t => t.getD 0 undef = .slice (some ⟨b, o, none⟩) len cap → t.getD 3 undef = .pointer (some ⟨s, 0, none⟩) → t.getD 5 undef = .map (some mb) → t.getD 6 undef = .int .u64 (id : Nat) → t.getD 7 undef = .int .u64 (last : Nat) → t.getD 8 undef = .int .i64 (k : Nat) → t.getD 9 undef = .int .i64 (tk : Nat) → t.getD 13 undef = .int .i64 (tk : Nat) → Exit.inBlock 2 _ (.exit 2) ⟨t, []⟩ w7) ?_ t hz h0 h3 h5 h6 h7 h8 h9 h13
        clear h0 h3 h5 h6 h7 h8 h9 h13 hz t
        intro c0 c1 c2 c3 c4 c5 c6 c7 c8 c9 c10 c11 c12 c13 c14 c15 c16 c17 c18 c19 c20 c21 c22 c23 c24 c25 c26 c27 c28 c29 c30 c31 c32 c33 c34 c35 c36 c37 c38 c39 c40 c41 c42 c43 c44 c45 c46 c47 c48 c49 c50 c51 c52 c53 c54 c55 c56 c57 c58 c59 c60 c61 c62 c63 c64 c65 c66 c67 c68 c69 c70 c71 c72 c73 c74 c75 c76 c77 c78 c79 c80 c81 c82 c83 c84 c85 c86 c87 c88 c89 c90 c91 c92 c93 c94 c95 c96 c97 c98 c99 c100 c101 c102 c103 c104 c105 c106 c107 c108 c109 c110 c111 c112 c113 c114 c115 c116 c117 c118 c119 c120 c121 c122 c123 c124 c125 c126 c127 c128 c129 c130 c131 c132 c133 c134 c135 c136 c137 c138 c139 c140 c141 c142 c143 c144 c145 c146 c147 c148 c149 c150 c151 c152 c153 c154 c155 c156 c157 c158 c159 c160 c161 c162 c163 c164 c165 c166 c167 c168 c169 c170 c171 c172 c173 c174 c175 c176 c177 c178 c179 c180 c181 c182 c183 c184 c185 c186 c187 c188 c189 c190 c191 c192 h0 h3 h5 h6 h7 h8 h9 h13
        replace h0 : c0 = .slice (some ⟨b, o, none⟩) len cap := h0
        replace h3 : c3 = .pointer (some ⟨s, 0, none⟩) := h3
        replace h5 : c5 = .map (some mb) := h5
        replace h6 : c6 = .int .u64 (id : Nat) := h6
        replace h7 : c7 = .int .u64 (last : Nat) := h7
        replace h8 : c8 = .int .i64 (k : Nat) := h8
        replace h9 : c9 = .int .i64 (tk : Nat) := h9
        replace h13 : c13 = .int .i64 (tk : Nat) := h13
        subst h0
        subst h3
        subst h5
        subst h6
        subst h7
        subst h8
        subst h9
        subst h13
        have NX := REL
        clear REL
        go_wp2
        exact ⟨⟨(now + tk), Q, P, F, mn, id, last, rfl, rfl, rfl, rfl, rfl, rfl, rfl, rfl, ⟨NX.out, by omega, by omega⟩⟩, hltL⟩
    · have hkz2 : (len : Int) ≤ (k : Int) := by omega
      clear hs ok
      have N5 := Lib.hid REL.out.1
      have hnow := REL.out.2.1
      have hidk := REL.out.2.2
      clear REL
      go_wp2
      refine wp_mono (ooK_loop w s g mb ad len cap A P mn id k 150 now HS.out hA OK.out h60 hc TB.out (by omega) (by omega) (by omega) _ _ (by omega) ?hI) ?_
      case hI => exact ⟨_, _, _, rfl, rfl, rfl, rfl, rfl, rfl, rfl, rfl, rfl, rfl, N5.out⟩
      clear N5
      clear last
      clear F Q
      intro e a' w7 hp
      obtain ⟨rfl, H⟩ := Qx_inv hp
      clear hp
      obtain ⟨t, ds⟩ := a'
      obtain ⟨Q, F, last, hd', hz, h0, h3, h5, h6, h7, h8, h9, h13, rel⟩ := H
      replace hd' : ds = [] := hd'
      subst hd'
      replace hz : t.size = 193 := hz
      replace h0 : t.getD 0 undef = .slice ad len cap := h0
      replace h3 : t.getD 3 undef = .pointer (some ⟨s, 0, none⟩) := h3
      replace h5 : t.getD 5 undef = .map (some mb) := h5
      replace h6 : t.getD 6 undef = .int .u64 (id : Nat) := h6
      replace h7 : t.getD 7 undef = .int .u64 (last : Nat) := h7
      replace h8 : t.getD 8 undef = .int .i64 (k : Nat) := h8
      replace h9 : t.getD 9 undef = .int .i64 (150 : Nat) := h9
      replace h13 : t.getD 13 undef = .int .i64 (150 : Nat) := h13
      have REL := Lib.hid rel
      clear rel
      refine openFr193 (P := fun t => t.getD 0 undef = .slice ad len cap → t.getD 3 undef = .pointer (some ⟨s, 0, none⟩) → t.getD 5 undef = .map (some mb) → t.getD 6 undef = .int .u64 (id : Nat) → t.getD 7 undef = .int .u64 (last : Nat) → t.getD 8 undef = .int .i64 (k : Nat) → t.getD 9 undef = .int .i64 (150 : Nat) → t.getD 13 undef = .int .i64 (150 : Nat) → Exit.inBlock 2 _ (.exit 2) ⟨t, []⟩ w7) ?_ t hz h0 h3 h5 h6 h7 h8 h9 h13
      clear h0 h3 h5 h6 h7 h8 h9 h13 hz t
      intro c0 c1 c2 c3 c4 c5 c6 c7 c8 c9 c10 c11 c12 c13 c14 c15 c16 c17 c18 c19 c20 c21 c22 c23 c24 c25 c26 c27 c28 c29 c30 c31 c32 c33 c34 c35 c36 c37 c38 c39 c40 c41 c42 c43 c44 c45 c46 c47 c48 c49 c50 c51 c52 c53 c54 c55 c56 c57 c58 c59 c60 c61 c62 c63 c64 c65 c66 c67 c68 c69 c70 c71 c72 c73 c74 c75 c76 c77 c78 c79 c80 c81 c82 c83 c84 c85 c86 c87 c88 c89 c90 c91 c92 c93 c94 c95 c96 c97 c98 c99 c100 c101 c102 c103 c104 c105 c106 c107 c108 c109 c110 c111 c112 c113 c114 c115 c116 c117 c118 c119 c120 c121 c122 c123 c124 c125 c126 c127 c128 c129 c130 c131 c132 c133 c134 c135 c136 c137 c138 c139 c140 c141 c142 c143 c144 c145 c146 c147 c148 c149 c150 c151 c152 c153 c154 c155 c156 c157 c158 c159 c160 c161 c162 c163 c164 c165 c166 c167 c168 c169 c170 c171 c172 c173 c174 c175 c176 c177 c178 c179 c180 c181 c182 c183 c184 c185 c186 c187 c188 c189 c190 c191 c192 h0 h3 h5 h6 h7 h8 h9 h13
      replace h0 : c0 = .slice ad len cap := h0
      replace h3 : c3 = .pointer (some ⟨s, 0, none⟩) := h3
      replace h5 : c5 = .map (some mb) := h5
      replace h6 : c6 = .int .u64 (id : Nat) := h6
      replace h7 : c7 = .int .u64 (last : Nat) := h7
      replace h8 : c8 = .int .i64 (k : Nat) := h8
      replace h9 : c9 = .int .i64 (150 : Nat) := h9
      replace h13 : c13 = .int .i64 (150 : Nat) := h13
      subst h0
      subst h3
      subst h5
      subst h6
      subst h7
      subst h8
      subst h9
      subst h13
      have NX := REL
      clear REL
      go_wp2
      exact ⟨⟨(now + 150), Q, P, F, mn, id, last, rfl, rfl, rfl, rfl, rfl, rfl, rfl, rfl, ⟨NX.out, by omega, by omega⟩⟩, hltL⟩
  · have hke : k = len + 1 := by omega
    have hkz : (len : Int) < (k : Int) := by omega
    clear hs ok
    go_wp2
    exact ⟨by first | rfl | trivial, ⟨_, _, _, _, _, _, _, rfl, rfl, rfl, rfl, rfl, rfl, rfl, rfl, REL.out⟩, hke⟩
theorem ooA_loop (w : World) (s : Nat) (g : Wh) (mb : Nat) (ad : Option Addr) (len cap : Nat) (A : List Ac) (hs : ASrc w ad A) (hA : A.length = len) (ok : ∀ x, x ∈ A → x.ok) (h60 : len ≤ 60) (hc : len ≤ cap ∧ cap ≤ maxLen) (T : Tab w) (a : Act) (wr : World) (hb : 0 ≤ (len + 1)) (H : ooAI w s g mb ad len cap A 0 a wr) :
    Code.wp Tryd.prog (.loop (loopIn 0 Tryd.f4)) (Qx 0 (fun a' w' => ooAI w s g mb ad len cap A (len + 1) a' w')) a wr := by
  refine wp_loop (fun a' wr => ∃ k, k ≤ (len + 1) ∧ ooAI w s g mb ad len cap A k a' wr) (fun a' _ => (len + 1) - (intOf (a'.tmps.getD 8 undef)).toNat) ⟨0, hb, H⟩ ?_
  rintro a' wr ⟨k, hk, h⟩
  refine wp_mono (ooA_round w s g mb ad len cap A hs hA ok h60 hc T a' wr hk h) ?_
  intro e a2 w2 hp
  cases e with
  | normal =>
    refine ⟨⟨k + 1, by have := hp.2; omega, hp.1⟩, ?_⟩
    rw [ooAI_ctr w s g mb ad len cap A h, ooAI_ctr w s g mb ad len cap A hp.1]
    have := hp.2
    simp only [intOf, Int.toNat_natCast]
    omega
  | exit n => exact ⟨hp.1, hp.2.2 ▸ hp.2.1⟩
  | _ => exact hp.elim
set_option maxRecDepth 100000 in
set_option maxHeartbeats 0 in
theorem oo_end (w : World) (s : Nat) (g : Wh) (mb : Nat) (ad : Option Addr) (len cap : Nat) (A : List Ac) (hs : ASrc w ad A) (hA : A.length = len) (ok : ∀ x, x ∈ A → x.ok) (h60 : len ≤ 60) (hc : len ≤ cap ∧ cap ≤ maxLen) (T : Tab w)  (a : Act) (wr : World) (H : ooAI w s g mb ad len cap A (len + 1) a wr) :
    Code.wp Tryd.prog (aftIn 0 Tryd.f4) (bodyPost Tryd.prog Tryd.f4 (fun e w' => e = .returned (.bool true) ∧ Below w.heap.size w w')) a wr := by
  obtain ⟨t, ds⟩ := a
  obtain ⟨now, Q, P, F, mn, id, last, hd', hz, h0, h3, h5, h6, h7, h8, rel⟩ := H
  replace hd' : ds = [] := hd'
  subst hd'
  replace hz : t.size = 193 := hz
  replace h0 : t.getD 0 undef = .slice ad len cap := h0
  replace h3 : t.getD 3 undef = .pointer (some ⟨s, 0, none⟩) := h3
  replace h5 : t.getD 5 undef = .map (some mb) := h5
  replace h6 : t.getD 6 undef = .int .u64 (id : Nat) := h6
  replace h7 : t.getD 7 undef = .int .u64 (last : Nat) := h7
  replace h8 : t.getD 8 undef = .int .i64 ((len + 1) : Nat) := h8
  have REL := Lib.hid rel
  clear rel
  refine openFr193 (P := fun t => t.getD 0 undef = .slice ad len cap → t.getD 3 undef = .pointer (some ⟨s, 0, none⟩) → t.getD 5 undef = .map (some mb) → t.getD 6 undef = .int .u64 (id : Nat) → t.getD 7 undef = .int .u64 (last : Nat) → t.getD 8 undef = .int .i64 ((len + 1) : Nat) → Code.wp Tryd.prog (aftIn 0 Tryd.f4) (bodyPost Tryd.prog Tryd.f4 (fun e w' => e = .returned (.bool true) ∧ Below w.heap.size w w')) ⟨t, []⟩ wr) ?_ t hz h0 h3 h5 h6 h7 h8
  clear h0 h3 h5 h6 h7 h8 hz t
  intro c0 c1 c2 c3 c4 c5 c6 c7 c8 c9 c10 c11 c12 c13 c14 c15 c16 c17 c18 c19 c20 c21 c22 c23 c24 c25 c26 c27 c28 c29 c30 c31 c32 c33 c34 c35 c36 c37 c38 c39 c40 c41 c42 c43 c44 c45 c46 c47 c48 c49 c50 c51 c52 c53 c54 c55 c56 c57 c58 c59 c60 c61 c62 c63 c64 c65 c66 c67 c68 c69 c70 c71 c72 c73 c74 c75 c76 c77 c78 c79 c80 c81 c82 c83 c84 c85 c86 c87 c88 c89 c90 c91 c92 c93 c94 c95 c96 c97 c98 c99 c100 c101 c102 c103 c104 c105 c106 c107 c108 c109 c110 c111 c112 c113 c114 c115 c116 c117 c118 c119 c120 c121 c122 c123 c124 c125 c126 c127 c128 c129 c130 c131 c132 c133 c134 c135 c136 c137 c138 c139 c140 c141 c142 c143 c144 c145 c146 c147 c148 c149 c150 c151 c152 c153 c154 c155 c156 c157 c158 c159 c160 c161 c162 c163 c164 c165 c166 c167 c168 c169 c170 c171 c172 c173 c174 c175 c176 c177 c178 c179 c180 c181 c182 c183 c184 c185 c186 c187 c188 c189 c190 c191 c192 h0 h3 h5 h6 h7 h8
  replace h0 : c0 = .slice ad len cap := h0
  replace h3 : c3 = .pointer (some ⟨s, 0, none⟩) := h3
  replace h5 : c5 = .map (some mb) := h5
  replace h6 : c6 = .int .u64 (id : Nat) := h6
  replace h7 : c7 = .int .u64 (last : Nat) := h7
  replace h8 : c8 = .int .i64 ((len + 1) : Nat) := h8
  subst h0
  subst h3
  subst h5
  subst h6
  subst h7
  subst h8
  conv => arg 2; whnf
  have TB := Lib.hid T
  have hidk := REL.out.2.2
  have R0 := Lib.hid REL.out.1
  clear hs ok T REL
  generalize len + 1 = l1
  go_wp2
  go_loopw [17] (fun v wr' => ∃ j : Nat, 1 ≤ j ∧ j ≤ id + 1 ∧ v = .int .u64 j ∧ OrS w wr' s g mb now Q P F mn id last) (fun v _ => id + 1 - (intOf v).toNat)
  case atStart => exact ⟨1, Nat.le_refl _, by omega, rfl, R0.out⟩
  case round =>
    obtain ⟨j, hj1, hj, rfl, hR⟩ := hrel
    have R := Lib.hid hR
    clear hR R0
    by_cases hlt : j ≤ id
    · have hjz : (j : Int) ≤ (id : Int) := by omega
      have lk := R.out.m.lookOk j (by omega)
      cases hF : F j with
      | none =>
        rw [hF] at lk
        simp only [Option.getD_none, Option.isSome_none] at lk
        clear hF
        go_wp2
        go_roundw
        case rel => exact ⟨j + 1, by omega, by omega, by go_num, R.out⟩
        case measure => simp [intOf]; omega
      | some d =>
        rw [hF] at lk
        simp only [Option.getD_some, Option.isSome_some] at lk
        have hdn := R.out.ahead hF
        have hdz : (now : Int) < (d : Int) := by omega
        clear hF
        go_wp2_with fail
        refine R.out.h.now_of.mono ?_
        rintro e w5 ⟨rfl, c5⟩
        have R5 := Lib.hid (R.out.quiet c5)
        clear c5 R lk
        go_wp2
        go_roundw
        case rel => exact ⟨j + 1, by omega, by omega, by go_num, R5.out⟩
        case measure => simp [intOf]; omega
    · have hjz : (id : Int) < (j : Int) := by omega
      go_wp2_with fail
      refine (R.out.h.armed TB.out (by have := R.out.b; omega)).mono ?_
      rintro e w5 ⟨rfl, c5⟩
      have R5 := Lib.hid (R.out.quiet c5)
      have hln := fun ty => R5.out.m.len ty
      clear c5 R
      obtain ⟨n, hn⟩ : ∃ n, n = Q.length := ⟨_, rfl⟩
      rw [← hn] at hln ⊢
      clear hn
      go_wp2
      go_ret
      exact ⟨by simp, R5.out.h.d.c.below (Nat.le_refl _) (fun _ _ e => e.elim)⟩
end Go.Proofs.YtldnmpiaofppgaaDoor
