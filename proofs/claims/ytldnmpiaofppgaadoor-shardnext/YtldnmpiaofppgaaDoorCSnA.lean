import Derived.Test.YtldnmpiaofppgaaDoorCSnB
import Derived.Test.YtldnmpiaofppgaaDoorCSnC
import Derived.Test.YtldnmpiaofppgaaDoorK07
import Derived.Deep.QuietTactic
import Derived.BigQuiet
import Derived.Deep.Cut
import Derived.Deep.CutRange
import Derived.Deep.CutBlock
import Derived.RegionTactic
import Derived.BigRegion
/-
  ShardNext: the loop over the acts; what follows it.
-/
namespace Go.Proofs.YtldnmpiaofppgaaDoor
open Go.RowKit Verge Go.Proofs.YtldnmpiaofppgaaDoor.LT
set_option linter.unusedVariables false
set_option linter.unusedSimpArgs false
attribute [local go_sem] Oper.semAt_some

/-- what holds at the head of the loop -/
def snAI (w : World) (s : Nat) (g : Wh) (ad : Option Addr) (len cap : Nat) (A : List Ac) (k : Nat) (a : Act) (wr : World) : Prop :=
  ∃ (now : Nat) (Q P : List Ent) (tl : List Nat) (ta : Option Addr) (tn tc : Nat), a.defers = [] ∧ a.tmps.size = 120 ∧ a.tmps.getD 0 undef = .slice ad len cap ∧ a.tmps.getD 3 undef = .pointer (some ⟨s, 0, none⟩) ∧ a.tmps.getD 5 undef = .slice ta tn tc ∧ a.tmps.getD 6 undef = .int .i64 (k : Nat) ∧ (NxS w wr s g now Q P tl ta tn tc ∧ now ≤ 130 * k ∧ tn ≤ k)
theorem snAI_ctr {k : Nat} (w : World) (s : Nat) (g : Wh) (ad : Option Addr) (len cap : Nat) (A : List Ac) {a : Act} {wr : World} (H : snAI w s g ad len cap A k a wr) : a.tmps.getD 6 undef = .int .i64 (k : Nat) := by
  obtain ⟨now, Q, P, tl, ta, tn, tc, -, -, -, -, -, h, -⟩ := H
  exact h
set_option maxRecDepth 100000 in
set_option maxHeartbeats 0 in
theorem snA_round {k : Nat} (w : World) (s : Nat) (g : Wh) (ad : Option Addr) (len cap : Nat) (A : List Ac) (hs : ASrc w ad A) (hA : A.length = len) (ok : ∀ x, x ∈ A → x.ok) (h60 : len ≤ 60) (hc : len ≤ cap ∧ cap ≤ maxLen) (T : Tab w) (a : Act) (wr : World) (hk : k ≤ len) (H : snAI w s g ad len cap A k a wr) :
    Code.wp Tryd.prog (loopIn 0 Tryd.f7) (Exit.then (fun a' w' => snAI w s g ad len cap A (k + 1) a' w' ∧ k < len) (Qx 0 (fun a' w' => snAI w s g ad len cap A k a' w' ∧ k = len))) a wr := by
  obtain ⟨t, ds⟩ := a
  obtain ⟨now, Q, P, tl, ta, tn, tc, hd', hz, h0, h3, h5, h6, rel⟩ := H
  replace hd' : ds = [] := hd'
  subst hd'
  replace hz : t.size = 120 := hz
  replace h0 : t.getD 0 undef = .slice ad len cap := h0
  replace h3 : t.getD 3 undef = .pointer (some ⟨s, 0, none⟩) := h3
  replace h5 : t.getD 5 undef = .slice ta tn tc := h5
  replace h6 : t.getD 6 undef = .int .i64 (k : Nat) := h6
  have REL := Lib.hid rel
  clear rel
  refine openFr120 (P := fun t => t.getD 0 undef = .slice ad len cap → t.getD 3 undef = .pointer (some ⟨s, 0, none⟩) → t.getD 5 undef = .slice ta tn tc → t.getD 6 undef = .int .i64 (k : Nat) → Code.wp Tryd.prog (loopIn 0 Tryd.f7) (Exit.then (fun a' w' => snAI w s g ad len cap A (k + 1) a' w' ∧ k < len) (Qx 0 (fun a' w' => snAI w s g ad len cap A k a' w' ∧ k = len))) ⟨t, []⟩ wr) ?_ t hz h0 h3 h5 h6
  clear h0 h3 h5 h6 hz t
  intro c0 c1 c2 c3 c4 c5 c6 c7 c8 c9 c10 c11 c12 c13 c14 c15 c16 c17 c18 c19 c20 c21 c22 c23 c24 c25 c26 c27 c28 c29 c30 c31 c32 c33 c34 c35 c36 c37 c38 c39 c40 c41 c42 c43 c44 c45 c46 c47 c48 c49 c50 c51 c52 c53 c54 c55 c56 c57 c58 c59 c60 c61 c62 c63 c64 c65 c66 c67 c68 c69 c70 c71 c72 c73 c74 c75 c76 c77 c78 c79 c80 c81 c82 c83 c84 c85 c86 c87 c88 c89 c90 c91 c92 c93 c94 c95 c96 c97 c98 c99 c100 c101 c102 c103 c104 c105 c106 c107 c108 c109 c110 c111 c112 c113 c114 c115 c116 c117 c118 c119 h0 h3 h5 h6
  replace h0 : c0 = .slice ad len cap := h0
  replace h3 : c3 = .pointer (some ⟨s, 0, none⟩) := h3
  replace h5 : c5 = .slice ta tn tc := h5
  replace h6 : c6 = .int .i64 (k : Nat) := h6
  subst h0
  subst h3
  subst h5
  subst h6
  conv => arg 2; whnf
  have HS := Lib.hid hs
  have OK := Lib.hid ok
  have TB := Lib.hid T
  have hcl : (len : Int) ≤ 60 := by omega
  clear T
  by_cases hlt : k < len
  · have hkz : (k : Int) < (len : Int) := by omega
    have hkz0 : (0 : Int) ≤ (k : Int) := by omega
    obtain ⟨x, hx⟩ : ∃ x, A[k]? = some x := ⟨_, List.getElem?_eq_getElem (by omega)⟩
    obtain ⟨b, o, rfl, kc⟩ := (hs.kept REL.out.1.h.d.c (fun _ _ e => e)).form (by omega)
    have qk := (kc k x hx).k
    by_cases hkd : x.k = 0
    · have hk0 : (x.k == 0) = true := by rw [beq_iff_eq]; exact hkd
      obtain ⟨u0, u1, u2, u3, u4⟩ := (kc k x hx).u.cells
      have XOK := Lib.hid (ok x (List.mem_of_getElem? hx))
      clear kc hx hkd ok hs
      go_upto_region 14 with (fail)
      clear u0 u1 u2 u3 u4 qk
      have cA : Ch Nil wr (wr.alloc (Obj.cells #[.int .u64 (x.u.i : Nat), .int .i64 x.u.s, .int .u64 (x.u.g : Nat), .int .u64 (x.u.d : Nat), .int .u64 (x.u.p : Nat)] 37)) := (Ch.refl _ _).alloc _
      have BX := IsTk.new wr 37 x.u
      have BK := Blk.new wr #[.int .u64 (x.u.i : Nat), .int .i64 x.u.s, .int .u64 (x.u.g : Nat), .int .u64 (x.u.d : Nat), .int .u64 (x.u.p : Nat)] 37
      generalize wr.alloc (Obj.cells #[.int .u64 (x.u.i : Nat), .int .i64 x.u.s, .int .u64 (x.u.g : Nat), .int .u64 (x.u.d : Nat), .int .u64 (x.u.p : Nat)] 37) = w4 at cA BX BK ⊢
      obtain ⟨B, hB⟩ : ∃ B, B = wr.heap.size := ⟨_, rfl⟩
      rw [← hB] at BX BK ⊢
      have HB := Lib.hid hB
      clear hB
      obtain ⟨x0, x1, x2, x3, x4⟩ := BX.cells0
      have g1 := BK.fz 1
      go_upto_region 15 with (fail)
      obtain ⟨v, hv⟩ : ∃ v : Tk, v = ⟨x.u.i, 0, x.u.g, x.u.d, x.u.p⟩ := ⟨_, rfl⟩
      have ct : Tch B 1 1 w4 (w4.setCell ⟨B, 1, none⟩ (.int .i64 0)) := (Tch.refl _ _ _ _).set _ (by omega) _
      have b5 : IsTk (w4.setCell ⟨B, 1, none⟩ (.int .i64 0)) B 0 v := by
        rw [hv]
        exact IsTk.of ⟨(ct.cell _ (by omega)).trans x0, World.cell?_setCell_same _ _ _ x1, (ct.cell _ (by omega)).trans x2, (ct.cell _ (by omega)).trans x3, (ct.cell _ (by omega)).trans x4⟩
      have c5 : Ch Nil wr (w4.setCell ⟨B, 1, none⟩ (.int .i64 0)) := cA.up ct.ch (fun i e => by have e' : i = B := e; have := HB.out; omega)
      have N5 := Lib.hid (REL.out.1.quiet c5)
      have hvs : 0 ≤ v.s := by rw [hv]; exact Int.le_refl _
      have hvd : v.d < 18446744073709551616 := by rw [hv]; exact XOK.out.2.2.2.2.2.1
      have hnow := REL.out.2.1
      have htn := REL.out.2.2
      clear x0 x1 x2 x3 x4 g1 BX BK cA ct c5 HB REL hv XOK
      generalize w4.setCell ⟨B, 1, none⟩ (.int .i64 0) = w5 at N5 b5 ⊢
      obtain ⟨x0, x1, x2, x3, x4⟩ := b5.cells0
      obtain ⟨d, hd⟩ : ∃ d, d = max v.d (now + 1) := ⟨_, rfl⟩
      have HD := Lib.hid hd
      have hdn : now < d := by omega
      clear hd b5
      go_wp2_with fail
      refine (N5.out.h.arm v hvs hvd (by omega) (by have := N5.out.l; omega) d HD).mono ?_
      rintro e w6 ⟨b6, rfl, hb6, h6, c6⟩
      have t6 : ULow w6 ta tn tc tl := Row.kept N5.out.t c6 (fun j hj e => (N5.out.o j hj).2 (.inl e))
      have E7 := Lib.hid (Row.kept (S := Nil) t6 ((Ch.refl Nil w6).alloc (Obj.cells #[.int .u64 (d : Nat)] 29)) (fun _ _ e => e))
      have H6 := Lib.hid h6
      have C6 := Lib.hid c6
      have V1 : Hid (∀ i, i < tn * 1 → ulc (tl ++ [d]) i = ulc tl i) := Lib.hid fun i hi => ulc_left (by rw [N5.out.n]; omega)
      have V2 : Hid (∀ (j : Nat) (u : Value), ([.int .u64 (d : Nat)] : List Value)[j]? = some u → ulc (tl ++ [d]) (tn * 1 + j) = u) := Lib.hid (by
        intro j u hu
        obtain rfl : j = 0 := (by cases j; rfl; simp at hu)
        simp at hu
        subst hu
        exact ulc_at (by simp [← N5.out.n]))
      clear t6 h6 c6 x0 x1 x2 x3 x4
      go_wp2_with (at_builtin; refine append_row _ rfl _ _ _ rfl 29 (.int .u64 0) 1 8 Tryd.underlying67 (by kernel_rfl) rfl (by omega) (by omega) rfl E7.out (by omega) w6.heap.size 1 [.int .u64 (d : Nat)] 29 rfl rfl (heap_alloc_new w6 _) (by simp [Value.oneCell']) (ulc (tl ++ [d])) V1.out V2.out _ rfl ?_)
      intro gb cp8 w8 row8 ch8 at8 lt8
      have c8 : Ch (OwnS ta) w6 w8 := (((Ch.refl Nil w6).alloc _).mono (fun _ _ e => e.elim)).trans ch8
      have n8 := N5.out.more hb6 hdn H6.out C6.out c8 row8 (by rcases at8 with h | h; exact .inl h; exact .inr (by (try simp at h); omega))
      clear row8 ch8 at8 lt8 E7 c8 H6 C6 N5 V1 V2 HD
      generalize Q ++ [⟨b6, d, reD v d⟩] = Q5 at n8
      generalize P ++ [⟨b6, d, reD v d⟩] = P5 at n8
      generalize tl ++ [d] = tl5 at n8
      obtain ⟨tn5, htn5⟩ : ∃ tn5, tn5 = tn + 1 := ⟨_, rfl⟩
      rw [← htn5] at n8 ⊢
      have ht5 : tn5 ≤ k + 1 := by omega
      have N6 := Lib.hid n8
      clear n8 htn5 htn
      go_wp2
      refine wp_mono (snC_loop w s g (some ⟨b, o, none⟩) len cap A Q5 P5 tl5 (some ⟨gb, 0, none⟩) tn5 cp8 k now HS.out hA OK.out h60 hc TB.out (by omega) (by omega) _ _ (by omega) ?hI) ?_
      case hI => exact ⟨0, false, rfl, rfl, rfl, rfl, rfl, rfl, rfl, rfl, rfl, ⟨N6.out, MinOk.nil _⟩⟩
      clear N6
      intro e a' w9 hp
      obtain ⟨rfl, H⟩ := Qx_inv hp
      clear hp
      obtain ⟨t, ds⟩ := a'
      obtain ⟨lo, sm, hd', hz, h0, h3, h5, h6, h11, h12, h13, rel⟩ := H
      replace hd' : ds = [] := hd'
      subst hd'
      replace hz : t.size = 120 := hz
      replace h0 : t.getD 0 undef = .slice (some ⟨b, o, none⟩) len cap := h0
      replace h3 : t.getD 3 undef = .pointer (some ⟨s, 0, none⟩) := h3
      replace h5 : t.getD 5 undef = .slice (some ⟨gb, 0, none⟩) tn5 cp8 := h5
      replace h6 : t.getD 6 undef = .int .i64 (k : Nat) := h6
      replace h11 : t.getD 11 undef = .int .u64 (lo : Nat) := h11
      replace h12 : t.getD 12 undef = .bool sm := h12
      replace h13 : t.getD 13 undef = .int .i64 (tn5 : Nat) := h13
      have REL := Lib.hid rel
      clear rel
      refine openFr120 (P := fun t => t.getD 0 undef = .slice (some ⟨b, o, none⟩) len cap → t.getD 3 undef = .pointer (some ⟨s, 0, none⟩) → t.getD 5 undef = .slice (some ⟨gb, 0, none⟩) tn5 cp8 → t.getD 6 undef = .int .i64 (k : Nat) → t.getD 11 undef = .int .u64 (lo : Nat) → t.getD 12 undef = .bool sm → t.getD 13 undef = .int .i64 (tn5 : Nat) → Exit.inBlock 4 _ (.exit 4) ⟨t, []⟩ w9) ?_ t hz h0 h3 h5 h6 h11 h12 h13
      clear h0 h3 h5 h6 h11 h12 h13 hz t
      intro c0 c1 c2 c3 c4 c5 c6 c7 c8 c9 c10 c11 c12 c13 c14 c15 c16 c17 c18 c19 c20 c21 c22 c23 c24 c25 c26 c27 c28 c29 c30 c31 c32 c33 c34 c35 c36 c37 c38 c39 c40 c41 c42 c43 c44 c45 c46 c47 c48 c49 c50 c51 c52 c53 c54 c55 c56 c57 c58 c59 c60 c61 c62 c63 c64 c65 c66 c67 c68 c69 c70 c71 c72 c73 c74 c75 c76 c77 c78 c79 c80 c81 c82 c83 c84 c85 c86 c87 c88 c89 c90 c91 c92 c93 c94 c95 c96 c97 c98 c99 c100 c101 c102 c103 c104 c105 c106 c107 c108 c109 c110 c111 c112 c113 c114 c115 c116 c117 c118 c119 h0 h3 h5 h6 h11 h12 h13
      replace h0 : c0 = .slice (some ⟨b, o, none⟩) len cap := h0
      replace h3 : c3 = .pointer (some ⟨s, 0, none⟩) := h3
      replace h5 : c5 = .slice (some ⟨gb, 0, none⟩) tn5 cp8 := h5
      replace h6 : c6 = .int .i64 (k : Nat) := h6
      replace h11 : c11 = .int .u64 (lo : Nat) := h11
      replace h12 : c12 = .bool sm := h12
      replace h13 : c13 = .int .i64 (tn5 : Nat) := h13
      subst h0
      subst h3
      subst h5
      subst h6
      subst h11
      subst h12
      subst h13
      have N9 := Lib.hid REL.out.1
      have M9 := REL.out.2
      rw [List.take_of_length_le (Nat.le_of_eq N9.out.n)] at M9
      rcases M9.all N9.out with ⟨rfl, hQ⟩ | ⟨rfl, hmin⟩
      · clear M9 REL
        go_wp2_with fail
        refine (N9.out.h.next TB.out (by have := N9.out.l; omega)).mono ?_
        rintro e w10 ⟨(⟨-, rfl⟩ | ⟨m, hm, rfl⟩), c10⟩
        · have NX := Lib.hid (N9.out.quiet c10)
          clear hQ c10 N9
          go_wp2
          first | exact ⟨⟨now, Q5, P5, tl5, (some ⟨gb, 0, none⟩), tn5, cp8, rfl, rfl, rfl, rfl, rfl, rfl, ⟨NX.out, by omega, by omega⟩⟩, hlt⟩ | exact ⟨now, Q5, P5, tl5, (some ⟨gb, 0, none⟩), tn5, cp8, rfl, rfl, rfl, rfl, rfl, rfl, ⟨NX.out, by omega, by omega⟩⟩
        · obtain ⟨⟨y, hy, -⟩, -⟩ := hm
          rw [hQ] at hy; cases hy
      · clear M9 REL
        have HMIN := Lib.hid hmin
        clear hmin
        go_wp2_with fail
        refine (N9.out.h.next TB.out (by have := N9.out.l; omega)).mono ?_
        rintro e w10 ⟨(⟨hQ, rfl⟩ | ⟨m, hm, rfl⟩), c10⟩
        · obtain ⟨⟨y, hy, -⟩, -⟩ := HMIN.out
          rw [hQ] at hy; cases hy
        · obtain rfl := IsMin.uniq hm HMIN.out
          clear hm HMIN
          have e0 : ((m : Int) != (m : Int)) = false := by simp
          have NX := Lib.hid (N9.out.quiet c10)
          clear c10 N9
          go_wp2
          first | exact ⟨⟨now, Q5, P5, tl5, (some ⟨gb, 0, none⟩), tn5, cp8, rfl, rfl, rfl, rfl, rfl, rfl, ⟨NX.out, by omega, by omega⟩⟩, hlt⟩ | exact ⟨now, Q5, P5, tl5, (some ⟨gb, 0, none⟩), tn5, cp8, rfl, rfl, rfl, rfl, rfl, rfl, ⟨NX.out, by omega, by omega⟩⟩
    · have hk0 : (x.k == 0) = false := by rw [beq_eq_false_iff_ne]; exact hkd
      have hnow := REL.out.2.1
      have htn := REL.out.2.2
      have qn := (kc k x hx).n
      obtain ⟨mm, hm1⟩ := nat_of_max x.n
      have htk : ((mm : Int)).tmod 130 = ((mm % 130 : Nat) : Int) := tmod_130 mm
      have htk2 := Nat.mod_lt mm (show 0 < 130 by decide)
      obtain ⟨tk, htke⟩ : ∃ tk, tk = mm % 130 := ⟨_, rfl⟩
      rw [← htke] at htk htk2
      have HM1 := Lib.hid hm1
      have HTK := Lib.hid htk
      have HX := Lib.hid hx
      have N5 := Lib.hid REL.out.1
      clear kc hx hkd ok hs htke htk hm1 REL qn
      go_wp2
      refine wp_mono (snB_loop w s g (some ⟨b, o, none⟩) len cap A P tl ta tn tc k now mm tk x HS.out hA OK.out h60 hc TB.out hlt HX.out HM1.out HTK.out htk2 (by omega) (by omega) _ _ (by omega) ?hI) ?_
      case hI => exact ⟨_, rfl, rfl, rfl, rfl, rfl, rfl, rfl, N5.out⟩
      clear N5
      clear Q
      intro e a' w7 hp
      obtain ⟨rfl, H⟩ := Qx_inv hp
      clear hp
      obtain ⟨t, ds⟩ := a'
      obtain ⟨Q, hd', hz, h0, h3, h5, h6, h10, rel⟩ := H
      replace hd' : ds = [] := hd'
      subst hd'
      replace hz : t.size = 120 := hz
      replace h0 : t.getD 0 undef = .slice (some ⟨b, o, none⟩) len cap := h0
      replace h3 : t.getD 3 undef = .pointer (some ⟨s, 0, none⟩) := h3
      replace h5 : t.getD 5 undef = .slice ta tn tc := h5
      replace h6 : t.getD 6 undef = .int .i64 (k : Nat) := h6
      replace h10 : t.getD 10 undef = .int .i64 (tk : Nat) := h10
      have REL := Lib.hid rel
      clear rel
      refine openFr120 (P := fun t => t.getD 0 undef = .slice (some ⟨b, o, none⟩) len cap → t.getD 3 undef = .pointer (some ⟨s, 0, none⟩) → t.getD 5 undef = .slice ta tn tc → t.getD 6 undef = .int .i64 (k : Nat) → t.getD 10 undef = .int .i64 (tk : Nat) → Exit.inBlock 2 _ (.exit 2) ⟨t, []⟩ w7) ?_ t hz h0 h3 h5 h6 h10
      clear h0 h3 h5 h6 h10 hz t
      intro c0 c1 c2 c3 c4 c5 c6 c7 c8 c9 c10 c11 c12 c13 c14 c15 c16 c17 c18 c19 c20 c21 c22 c23 c24 c25 c26 c27 c28 c29 c30 c31 c32 c33 c34 c35 c36 c37 c38 c39 c40 c41 c42 c43 c44 c45 c46 c47 c48 c49 c50 c51 c52 c53 c54 c55 c56 c57 c58 c59 c60 c61 c62 c63 c64 c65 c66 c67 c68 c69 c70 c71 c72 c73 c74 c75 c76 c77 c78 c79 c80 c81 c82 c83 c84 c85 c86 c87 c88 c89 c90 c91 c92 c93 c94 c95 c96 c97 c98 c99 c100 c101 c102 c103 c104 c105 c106 c107 c108 c109 c110 c111 c112 c113 c114 c115 c116 c117 c118 c119 h0 h3 h5 h6 h10
      replace h0 : c0 = .slice (some ⟨b, o, none⟩) len cap := h0
      replace h3 : c3 = .pointer (some ⟨s, 0, none⟩) := h3
      replace h5 : c5 = .slice ta tn tc := h5
      replace h6 : c6 = .int .i64 (k : Nat) := h6
      replace h10 : c10 = .int .i64 (tk : Nat) := h10
      subst h0
      subst h3
      subst h5
      subst h6
      subst h10
      obtain ⟨now5, hn5⟩ : ∃ now5, now5 = now + tk := ⟨_, rfl⟩
      rw [← hn5] at REL
      have N6 := REL
      have hnow5 : now5 ≤ 130 * (k + 1) := by omega
      clear hn5 REL
      go_wp2
      refine wp_mono (snC_loop w s g (some ⟨b, o, none⟩) len cap A Q P tl ta tn tc k now5 HS.out hA OK.out h60 hc TB.out (by omega) (by omega) _ _ (by omega) ?hI) ?_
      case hI => exact ⟨0, false, rfl, rfl, rfl, rfl, rfl, rfl, rfl, rfl, rfl, ⟨N6.out, MinOk.nil _⟩⟩
      clear N6
      intro e a' w9 hp
      obtain ⟨rfl, H⟩ := Qx_inv hp
      clear hp
      obtain ⟨t, ds⟩ := a'
      obtain ⟨lo, sm, hd', hz, h0, h3, h5, h6, h11, h12, h13, rel⟩ := H
      replace hd' : ds = [] := hd'
      subst hd'
      replace hz : t.size = 120 := hz
      replace h0 : t.getD 0 undef = .slice (some ⟨b, o, none⟩) len cap := h0
      replace h3 : t.getD 3 undef = .pointer (some ⟨s, 0, none⟩) := h3
      replace h5 : t.getD 5 undef = .slice ta tn tc := h5
      replace h6 : t.getD 6 undef = .int .i64 (k : Nat) := h6
      replace h11 : t.getD 11 undef = .int .u64 (lo : Nat) := h11
      replace h12 : t.getD 12 undef = .bool sm := h12
      replace h13 : t.getD 13 undef = .int .i64 (tn : Nat) := h13
      have REL := Lib.hid rel
      clear rel
      refine openFr120 (P := fun t => t.getD 0 undef = .slice (some ⟨b, o, none⟩) len cap → t.getD 3 undef = .pointer (some ⟨s, 0, none⟩) → t.getD 5 undef = .slice ta tn tc → t.getD 6 undef = .int .i64 (k : Nat) → t.getD 11 undef = .int .u64 (lo : Nat) → t.getD 12 undef = .bool sm → t.getD 13 undef = .int .i64 (tn : Nat) → Exit.inBlock 4 _ (.exit 4) ⟨t, []⟩ w9) ?_ t hz h0 h3 h5 h6 h11 h12 h13
      clear h0 h3 h5 h6 h11 h12 h13 hz t
      intro c0 c1 c2 c3 c4 c5 c6 c7 c8 c9 c10 c11 c12 c13 c14 c15 c16 c17 c18 c19 c20 c21 c22 c23 c24 c25 c26 c27 c28 c29 c30 c31 c32 c33 c34 c35 c36 c37 c38 c39 c40 c41 c42 c43 c44 c45 c46 c47 c48 c49 c50 c51 c52 c53 c54 c55 c56 c57 c58 c59 c60 c61 c62 c63 c64 c65 c66 c67 c68 c69 c70 c71 c72 c73 c74 c75 c76 c77 c78 c79 c80 c81 c82 c83 c84 c85 c86 c87 c88 c89 c90 c91 c92 c93 c94 c95 c96 c97 c98 c99 c100 c101 c102 c103 c104 c105 c106 c107 c108 c109 c110 c111 c112 c113 c114 c115 c116 c117 c118 c119 h0 h3 h5 h6 h11 h12 h13
      replace h0 : c0 = .slice (some ⟨b, o, none⟩) len cap := h0
      replace h3 : c3 = .pointer (some ⟨s, 0, none⟩) := h3
      replace h5 : c5 = .slice ta tn tc := h5
      replace h6 : c6 = .int .i64 (k : Nat) := h6
      replace h11 : c11 = .int .u64 (lo : Nat) := h11
      replace h12 : c12 = .bool sm := h12
      replace h13 : c13 = .int .i64 (tn : Nat) := h13
      subst h0
      subst h3
      subst h5
      subst h6
      subst h11
      subst h12
      subst h13
      have N9 := Lib.hid REL.out.1
      have M9 := REL.out.2
      rw [List.take_of_length_le (Nat.le_of_eq N9.out.n)] at M9
      rcases M9.all N9.out with ⟨rfl, hQ⟩ | ⟨rfl, hmin⟩
      · clear M9 REL
        go_wp2_with fail
        refine (N9.out.h.next TB.out (by have := N9.out.l; omega)).mono ?_
        rintro e w10 ⟨(⟨-, rfl⟩ | ⟨m, hm, rfl⟩), c10⟩
        · have NX := Lib.hid (N9.out.quiet c10)
          clear hQ c10 N9
          go_wp2
          first | exact ⟨⟨now5, Q, P, tl, ta, tn, tc, rfl, rfl, rfl, rfl, rfl, rfl, ⟨NX.out, by omega, by omega⟩⟩, hlt⟩ | exact ⟨now5, Q, P, tl, ta, tn, tc, rfl, rfl, rfl, rfl, rfl, rfl, ⟨NX.out, by omega, by omega⟩⟩
        · obtain ⟨⟨y, hy, -⟩, -⟩ := hm
          rw [hQ] at hy; cases hy
      · clear M9 REL
        have HMIN := Lib.hid hmin
        clear hmin
        go_wp2_with fail
        refine (N9.out.h.next TB.out (by have := N9.out.l; omega)).mono ?_
        rintro e w10 ⟨(⟨hQ, rfl⟩ | ⟨m, hm, rfl⟩), c10⟩
        · obtain ⟨⟨y, hy, -⟩, -⟩ := HMIN.out
          rw [hQ] at hy; cases hy
        · obtain rfl := IsMin.uniq hm HMIN.out
          clear hm HMIN
          have e0 : ((m : Int) != (m : Int)) = false := by simp
          have NX := Lib.hid (N9.out.quiet c10)
          clear c10 N9
          go_wp2
          first | exact ⟨⟨now5, Q, P, tl, ta, tn, tc, rfl, rfl, rfl, rfl, rfl, rfl, ⟨NX.out, by omega, by omega⟩⟩, hlt⟩ | exact ⟨now5, Q, P, tl, ta, tn, tc, rfl, rfl, rfl, rfl, rfl, rfl, ⟨NX.out, by omega, by omega⟩⟩
  · obtain rfl : k = len := by omega
    go_wp2
    exact ⟨by first | rfl | trivial, ⟨_, _, _, _, _, _, _, rfl, rfl, rfl, rfl, rfl, rfl, REL.out⟩, by first | rfl | trivial⟩
theorem snA_loop (w : World) (s : Nat) (g : Wh) (ad : Option Addr) (len cap : Nat) (A : List Ac) (hs : ASrc w ad A) (hA : A.length = len) (ok : ∀ x, x ∈ A → x.ok) (h60 : len ≤ 60) (hc : len ≤ cap ∧ cap ≤ maxLen) (T : Tab w) (a : Act) (wr : World) (hb : 0 ≤ len) (H : snAI w s g ad len cap A 0 a wr) :
    Code.wp Tryd.prog (.loop (loopIn 0 Tryd.f7)) (Qx 0 (fun a' w' => snAI w s g ad len cap A len a' w')) a wr := by
  refine wp_loop (fun a' wr => ∃ k, k ≤ len ∧ snAI w s g ad len cap A k a' wr) (fun a' _ => len - (intOf (a'.tmps.getD 6 undef)).toNat) ⟨0, hb, H⟩ ?_
  rintro a' wr ⟨k, hk, h⟩
  refine wp_mono (snA_round w s g ad len cap A hs hA ok h60 hc T a' wr hk h) ?_
  intro e a2 w2 hp
  cases e with
  | normal =>
    refine ⟨⟨k + 1, by have := hp.2; omega, hp.1⟩, ?_⟩
    rw [snAI_ctr w s g ad len cap A h, snAI_ctr w s g ad len cap A hp.1]
    have := hp.2
    simp only [intOf, Int.toNat_natCast]
    omega
  | exit n => exact ⟨hp.1, hp.2.2 ▸ hp.2.1⟩
  | _ => exact hp.elim
set_option maxRecDepth 100000 in
set_option maxHeartbeats 0 in
theorem sn_end (w : World) (s : Nat) (g : Wh) (ad : Option Addr) (len cap : Nat) (A : List Ac) (hs : ASrc w ad A) (hA : A.length = len) (ok : ∀ x, x ∈ A → x.ok) (h60 : len ≤ 60) (hc : len ≤ cap ∧ cap ≤ maxLen) (T : Tab w)  (a : Act) (wr : World) (H : snAI w s g ad len cap A len a wr) :
    Code.wp Tryd.prog (aftIn 0 Tryd.f7) (bodyPost Tryd.prog Tryd.f7 (fun e w' => e = .returned (.bool true) ∧ Below w.heap.size w w')) a wr := by
  obtain ⟨t, ds⟩ := a
  obtain ⟨now, Q, P, tl, ta, tn, tc, hd', hz, h0, h3, h5, h6, rel⟩ := H
  replace hd' : ds = [] := hd'
  subst hd'
  replace hz : t.size = 120 := hz
  replace h0 : t.getD 0 undef = .slice ad len cap := h0
  replace h3 : t.getD 3 undef = .pointer (some ⟨s, 0, none⟩) := h3
  replace h5 : t.getD 5 undef = .slice ta tn tc := h5
  replace h6 : t.getD 6 undef = .int .i64 (len : Nat) := h6
  have REL := Lib.hid rel
  clear rel
  refine openFr120 (P := fun t => t.getD 0 undef = .slice ad len cap → t.getD 3 undef = .pointer (some ⟨s, 0, none⟩) → t.getD 5 undef = .slice ta tn tc → t.getD 6 undef = .int .i64 (len : Nat) → Code.wp Tryd.prog (aftIn 0 Tryd.f7) (bodyPost Tryd.prog Tryd.f7 (fun e w' => e = .returned (.bool true) ∧ Below w.heap.size w w')) ⟨t, []⟩ wr) ?_ t hz h0 h3 h5 h6
  clear h0 h3 h5 h6 hz t
  intro c0 c1 c2 c3 c4 c5 c6 c7 c8 c9 c10 c11 c12 c13 c14 c15 c16 c17 c18 c19 c20 c21 c22 c23 c24 c25 c26 c27 c28 c29 c30 c31 c32 c33 c34 c35 c36 c37 c38 c39 c40 c41 c42 c43 c44 c45 c46 c47 c48 c49 c50 c51 c52 c53 c54 c55 c56 c57 c58 c59 c60 c61 c62 c63 c64 c65 c66 c67 c68 c69 c70 c71 c72 c73 c74 c75 c76 c77 c78 c79 c80 c81 c82 c83 c84 c85 c86 c87 c88 c89 c90 c91 c92 c93 c94 c95 c96 c97 c98 c99 c100 c101 c102 c103 c104 c105 c106 c107 c108 c109 c110 c111 c112 c113 c114 c115 c116 c117 c118 c119 h0 h3 h5 h6
  replace h0 : c0 = .slice ad len cap := h0
  replace h3 : c3 = .pointer (some ⟨s, 0, none⟩) := h3
  replace h5 : c5 = .slice ta tn tc := h5
  replace h6 : c6 = .int .i64 (len : Nat) := h6
  subst h0
  subst h3
  subst h5
  subst h6
  conv => arg 2; whnf
  clear hs ok T
  go_wp2
  go_ret
  exact ⟨rfl, REL.out.1.h.d.c.below (Nat.le_refl _) (fun _ _ e => e.elim)⟩
end Go.Proofs.YtldnmpiaofppgaaDoor
