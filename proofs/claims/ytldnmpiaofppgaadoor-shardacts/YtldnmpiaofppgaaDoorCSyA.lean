import Derived.Test.YtldnmpiaofppgaaDoorCSyB
import Derived.Test.YtldnmpiaofppgaaDoorK07
import Derived.Deep.QuietTactic
import Derived.BigQuiet
import Derived.Deep.Cut
import Derived.Deep.CutRange
import Derived.Deep.CutBlock
import Derived.RegionTactic
import Derived.BigRegion
/-
  ShardActs: the loop over the acts; what follows it.
-/
namespace Go.Proofs.YtldnmpiaofppgaaDoor
open Go.RowKit Verge Go.Proofs.YtldnmpiaofppgaaDoor.LT
set_option linter.unusedVariables false
set_option linter.unusedSimpArgs false
attribute [local go_sem] Oper.semAt_some

/-- what holds at the head of the loop -/
def syAI (w : World) (s : Nat) (g : Wh) (rb : Nat) (ad : Option Addr) (len cap : Nat) (A : List Ac) (k : Nat) (a : Act) (wr : World) : Prop :=
  ∃ (now : Nat) (Q P : List Ent) (l : List Dn) (L : List Tk) (ar : Option Addr) (cr : Nat) (tb : Option Addr) (tcp : Nat), a.defers = [] ∧ a.tmps.size = 155 ∧ a.tmps.getD 1 undef = .slice ad len cap ∧ a.tmps.getD 5 undef = .pointer (some ⟨s, 0, none⟩) ∧ a.tmps.getD 7 undef = .pointer (some ⟨rb, 0, none⟩) ∧ a.tmps.getD 8 undef = .int .i64 (k : Nat) ∧ (AcS w wr s g now Q P rb l L ar cr tb tcp ∧ now ≤ 130 * k ∧ L.length ≤ k)
theorem syAI_ctr {k : Nat} (w : World) (s : Nat) (g : Wh) (rb : Nat) (ad : Option Addr) (len cap : Nat) (A : List Ac) {a : Act} {wr : World} (H : syAI w s g rb ad len cap A k a wr) : a.tmps.getD 8 undef = .int .i64 (k : Nat) := by
  obtain ⟨now, Q, P, l, L, ar, cr, tb, tcp, -, -, -, -, -, h, -⟩ := H
  exact h
set_option maxRecDepth 100000 in
set_option maxHeartbeats 0 in
theorem syA_round {k : Nat} (w : World) (s : Nat) (g : Wh) (rb : Nat) (ad : Option Addr) (len cap : Nat) (A : List Ac) (hs : ASrc w ad A) (hA : A.length = len) (ok : ∀ x, x ∈ A → x.ok) (h60 : len ≤ 60) (hc : len ≤ cap ∧ cap ≤ maxLen) (T : Tab w) (a : Act) (wr : World) (hk : k ≤ len) (H : syAI w s g rb ad len cap A k a wr) :
    Code.wp Tryd.prog (loopIn 0 Tryd.f3) (Exit.then (fun a' w' => syAI w s g rb ad len cap A (k + 1) a' w' ∧ k < len) (Qx 0 (fun a' w' => syAI w s g rb ad len cap A k a' w' ∧ k = len))) a wr := by
  obtain ⟨t, ds⟩ := a
  obtain ⟨now, Q, P, l, L, ar, cr, tb, tcp, hd', hz, h1, h5, h7, h8, rel⟩ := H
  replace hd' : ds = [] := hd'
  subst hd'
  replace hz : t.size = 155 := hz
  replace h1 : t.getD 1 undef = .slice ad len cap := h1
  replace h5 : t.getD 5 undef = .pointer (some ⟨s, 0, none⟩) := h5
  replace h7 : t.getD 7 undef = .pointer (some ⟨rb, 0, none⟩) := h7
  replace h8 : t.getD 8 undef = .int .i64 (k : Nat) := h8
  have REL := Lib.hid rel
  clear rel
  refine openFr155 (P := fun t => t.getD 1 undef = .slice ad len cap → t.getD 5 undef = .pointer (some ⟨s, 0, none⟩) → t.getD 7 undef = .pointer (some ⟨rb, 0, none⟩) → t.getD 8 undef = .int .i64 (k : Nat) → Code.wp Tryd.prog (loopIn 0 Tryd.f3) (Exit.then (fun a' w' => syAI w s g rb ad len cap A (k + 1) a' w' ∧ k < len) (Qx 0 (fun a' w' => syAI w s g rb ad len cap A k a' w' ∧ k = len))) ⟨t, []⟩ wr) ?_ t hz h1 h5 h7 h8
  clear h1 h5 h7 h8 hz t
  intro c0 c1 c2 c3 c4 c5 c6 c7 c8 c9 c10 c11 c12 c13 c14 c15 c16 c17 c18 c19 c20 c21 c22 c23 c24 c25 c26 c27 c28 c29 c30 c31 c32 c33 c34 c35 c36 c37 c38 c39 c40 c41 c42 c43 c44 c45 c46 c47 c48 c49 c50 c51 c52 c53 c54 c55 c56 c57 c58 c59 c60 c61 c62 c63 c64 c65 c66 c67 c68 c69 c70 c71 c72 c73 c74 c75 c76 c77 c78 c79 c80 c81 c82 c83 c84 c85 c86 c87 c88 c89 c90 c91 c92 c93 c94 c95 c96 c97 c98 c99 c100 c101 c102 c103 c104 c105 c106 c107 c108 c109 c110 c111 c112 c113 c114 c115 c116 c117 c118 c119 c120 c121 c122 c123 c124 c125 c126 c127 c128 c129 c130 c131 c132 c133 c134 c135 c136 c137 c138 c139 c140 c141 c142 c143 c144 c145 c146 c147 c148 c149 c150 c151 c152 c153 c154 h1 h5 h7 h8
  replace h1 : c1 = .slice ad len cap := h1
  replace h5 : c5 = .pointer (some ⟨s, 0, none⟩) := h5
  replace h7 : c7 = .pointer (some ⟨rb, 0, none⟩) := h7
  replace h8 : c8 = .int .i64 (k : Nat) := h8
  subst h1
  subst h5
  subst h7
  subst h8
  conv => arg 2; whnf
  have HS := Lib.hid hs
  have OK := Lib.hid ok
  have TB := Lib.hid T
  have hcl : (len : Int) ≤ 60 := by omega
  clear T
  by_cases hlt : k < len
  · have hkz : (k : Int) < (len : Int) := by omega
    have hkz0 : (0 : Int) ≤ (k : Int) := by omega
    obtain ⟨x, hx⟩ : ∃ x, A[k]? = some x := ⟨_, List.getElem?_eq_getElem (by omega)⟩
    obtain ⟨b, o, rfl, kc⟩ := (hs.kept REL.out.1.h.d.c (fun _ _ e => e)).form (by omega)
    have qk := (kc k x hx).k
    have qn := (kc k x hx).n
    obtain ⟨u0, u1, u2, u3, u4⟩ := (kc k x hx).u.cells
    have XOK := Lib.hid (ok x (List.mem_of_getElem? hx))
    have hnow := REL.out.2.1
    have hLk := REL.out.2.2
    clear kc hx ok hs
    go_upto_region 15 with (fail)
    clear u0 u1 u2 u3 u4 qk qn
    have cA : Ch Nil wr (wr.alloc (Obj.cells #[.int .i64 x.k, .int .i64 x.n, .int .u64 (x.u.i : Nat), .int .i64 x.u.s, .int .u64 (x.u.g : Nat), .int .u64 (x.u.d : Nat), .int .u64 (x.u.p : Nat)] 39)) := (Ch.refl _ _).alloc _
    have BX := ActB.new wr x 39
    have n0 := REL.out.1.laid cA BX
    generalize wr.alloc (Obj.cells #[.int .i64 x.k, .int .i64 x.n, .int .u64 (x.u.i : Nat), .int .i64 x.u.s, .int .u64 (x.u.g : Nat), .int .u64 (x.u.d : Nat), .int .u64 (x.u.p : Nat)] 39) = w4 at n0 ⊢
    generalize wr.heap.size = B at n0 ⊢
    have N0 := Lib.hid n0
    clear n0 REL cA BX
    have q0 := N0.out.x.k
    go_upto_if 63 with (fail)
    clear q0
    go_cut [10, 11, 12, 13] from 61 to 154 (fun _ _ _ _ wc => SyMid w wc s g now rb B x (k + 1))
    case first =>
      by_cases hkd : x.k = 0
      · have hk0 : (x.k == 0) = true := by rw [beq_iff_eq]; exact hkd
        have q0 := N0.out.x.k
        rw [hkd] at q0
        obtain ⟨y0, y1, y2, y3, y4⟩ := N0.out.x.u
        by_cases hsl : x.u.s < 0
        · have SB := Lib.hid (fun w => sArm_bad x.u w s hsl)
          have RB := Lib.hid (fun w => refArm_bad x.u w rb hsl)
          clear hkd hsl
          go_wp2_with fail
          refine (SB.out _).mono ?_
          rintro e w5 ⟨rfl, c5⟩
          have N5 := Lib.hid (N0.out.quiet c5)
          clear c5 q0 y0 y1 y2 y3 y4 N0
          obtain ⟨y0, y1, y2, y3, y4⟩ := N5.out.x.u
          go_wp2_with fail
          refine (RB.out _).mono ?_
          rintro e w6 ⟨rfl, c6⟩
          have N6 := Lib.hid (N5.out.quiet c6)
          clear c6 y0 y1 y2 y3 y4 N5 SB RB
          go_wp2
          go_meet
          case rel => exact ⟨_, _, _, _, _, _, _, _, N6.out, by omega⟩
        · obtain ⟨d, hd⟩ : ∃ d, d = max x.u.d (now + 1) := ⟨_, rfl⟩
          have HD := Lib.hid hd
          have hxd : x.u.d < 18446744073709551616 := XOK.out.2.2.2.2.2.1
          have hd2 : d < 18446744073709551616 := by omega
          have HD2 := Lib.hid hd2
          have h0 : 0 ≤ x.u.s := by omega
          have H0 := Lib.hid h0
          have HXD := Lib.hid hxd
          clear hkd hd hsl h0 hxd hd2
          go_wp2_with fail
          refine (N0.out.a.h.arm x.u H0.out HXD.out (by omega) (by have := N0.out.a.b; omega) d HD).mono ?_
          rintro e w5 ⟨b5, rfl, hb5, h5, c5⟩
          have RR := Lib.hid (N0.out.a.ref c5)
          have X5 := Lib.hid (N0.out.x.kept c5 (fun e => N0.out.n.1 (.inl e)))
          have H5 := Lib.hid h5
          have C5 := Lib.hid c5
          have HB5 := Lib.hid hb5
          clear h5 c5 q0 y0 y1 y2 y3 y4 hb5
          obtain ⟨y0, y1, y2, y3, y4⟩ := X5.out.u
          go_wp2_with fail
          refine (refArm_ok RR.out x.u H0.out HXD.out (by omega) (by rw [N0.out.a.q.len]; have := N0.out.a.b; omega) (by omega) d HD).mono ?_
          rintro e w6 ⟨tb', tcp', ar', cr', rfl, r6, oa, ot, c6⟩
          have N6 := Lib.hid (N0.out.arm HB5.out H5.out C5.out r6 oa ot c6 rfl HD2.out)
          clear r6 oa ot c6 y0 y1 y2 y3 y4 N0 H5 C5 RR X5 HB5
          have e0 : ((d : Int) != (d : Int)) = false := by simp
          go_wp2
          go_meet
          case rel => exact ⟨_, _, _, _, _, _, _, _, N6.out, by rw [List.length_append]; simp only [List.length_cons, List.length_nil]; omega⟩
      · have hk0 : (x.k == 0) = false := by rw [beq_eq_false_iff_ne]; exact hkd
        have q0 := N0.out.x.k
        clear hkd
        go_wp2
        go_meet
        case rel => exact ⟨_, _, _, _, _, _, _, _, N0.out, by omega⟩
    case rest =>
      clear N0 XOK
      obtain ⟨Q5, P5, l5, L5, ar5, cr5, tb5, tcp5, N5, hL5⟩ := hcut
      have N5 := Lib.hid N5
      obtain ⟨mm, hm1⟩ := nat_of_max x.n
      have htk : ((mm : Int)).tmod 130 = ((mm % 130 : Nat) : Int) := tmod_130 mm
      have htk2 := Nat.mod_lt mm (show 0 < 130 by decide)
      obtain ⟨tk, hcase, htk3⟩ : ∃ tk : Nat, ((x.k = 1 ∧ ((mm : Int)).tmod 130 = (tk : Int)) ∨ (x.k ≠ 1 ∧ tk = 0)) ∧ tk < 130 := by
        by_cases h1 : x.k = 1
        · exact ⟨mm % 130, .inl ⟨h1, htk⟩, htk2⟩
        · exact ⟨0, .inr ⟨h1, rfl⟩, by omega⟩
      have HTK : Hid (∃ mm : Nat, (if 0 < x.n then x.n else 0) = (mm : Int) ∧ ((x.k = 1 ∧ ((mm : Int)).tmod 130 = (tk : Int)) ∨ (x.k ≠ 1 ∧ tk = 0))) := Lib.hid ⟨mm, hm1, hcase⟩
      clear hm1 htk htk2 hcase mm
      go_wp2
      refine wp_mono (syB_loop w s g rb (some ⟨b, o, none⟩) len cap A P5 L5 tb5 tcp5 k now tk B x HS.out hA OK.out h60 hc TB.out HTK.out htk3 (by omega) (by omega) _ _ (by omega) ?hI) ?_
      case hI => exact ⟨_, _, _, _, rfl, rfl, rfl, rfl, rfl, rfl, rfl, rfl, N5.out⟩
      clear N5
      clear Q l ar cr
      intro e a' w7 hp
      obtain ⟨rfl, H⟩ := Qx_inv hp
      clear hp
      obtain ⟨t, ds⟩ := a'
      obtain ⟨Q, l, ar, cr, hd', hz, h1, h5, h7, h8, h9, h14, rel⟩ := H
      replace hd' : ds = [] := hd'
      subst hd'
      replace hz : t.size = 155 := hz
      replace h1 : t.getD 1 undef = .slice (some ⟨b, o, none⟩) len cap := h1
      replace h5 : t.getD 5 undef = .pointer (some ⟨s, 0, none⟩) := h5
      replace h7 : t.getD 7 undef = .pointer (some ⟨rb, 0, none⟩) := h7
      replace h8 : t.getD 8 undef = .int .i64 (k : Nat) := h8
      replace h9 : t.getD 9 undef = .pointer (some ⟨B, 0, none⟩) := h9
      replace h14 : t.getD 14 undef = .int .i64 (tk : Nat) := h14
      have REL := Lib.hid rel
      clear rel
      refine openFr155 (P := fun t => t.getD 1 undef = .slice (some ⟨b, o, none⟩) len cap → t.getD 5 undef = .pointer (some ⟨s, 0, none⟩) → t.getD 7 undef = .pointer (some ⟨rb, 0, none⟩) → t.getD 8 undef = .int .i64 (k : Nat) → t.getD 9 undef = .pointer (some ⟨B, 0, none⟩) → t.getD 14 undef = .int .i64 (tk : Nat) → Exit.inBlock 2 _ (.exit 2) ⟨t, []⟩ w7) ?_ t hz h1 h5 h7 h8 h9 h14
      clear h1 h5 h7 h8 h9 h14 hz t
      intro c0 c1 c2 c3 c4 c5 c6 c7 c8 c9 c10 c11 c12 c13 c14 c15 c16 c17 c18 c19 c20 c21 c22 c23 c24 c25 c26 c27 c28 c29 c30 c31 c32 c33 c34 c35 c36 c37 c38 c39 c40 c41 c42 c43 c44 c45 c46 c47 c48 c49 c50 c51 c52 c53 c54 c55 c56 c57 c58 c59 c60 c61 c62 c63 c64 c65 c66 c67 c68 c69 c70 c71 c72 c73 c74 c75 c76 c77 c78 c79 c80 c81 c82 c83 c84 c85 c86 c87 c88 c89 c90 c91 c92 c93 c94 c95 c96 c97 c98 c99 c100 c101 c102 c103 c104 c105 c106 c107 c108 c109 c110 c111 c112 c113 c114 c115 c116 c117 c118 c119 c120 c121 c122 c123 c124 c125 c126 c127 c128 c129 c130 c131 c132 c133 c134 c135 c136 c137 c138 c139 c140 c141 c142 c143 c144 c145 c146 c147 c148 c149 c150 c151 c152 c153 c154 h1 h5 h7 h8 h9 h14
      replace h1 : c1 = .slice (some ⟨b, o, none⟩) len cap := h1
      replace h5 : c5 = .pointer (some ⟨s, 0, none⟩) := h5
      replace h7 : c7 = .pointer (some ⟨rb, 0, none⟩) := h7
      replace h8 : c8 = .int .i64 (k : Nat) := h8
      replace h9 : c9 = .pointer (some ⟨B, 0, none⟩) := h9
      replace h14 : c14 = .int .i64 (tk : Nat) := h14
      subst h1
      subst h5
      subst h7
      subst h8
      subst h9
      subst h14
      obtain ⟨now5, hn5⟩ : ∃ now5, now5 = now + tk := ⟨_, rfl⟩
      rw [← hn5] at REL
      have N6 := REL
      have hnow5 : now5 ≤ 130 * (k + 1) := by omega
      obtain ⟨ql, hql⟩ : ∃ ql, ql = Q.length := ⟨_, rfl⟩
      have QL := Lib.hid hql
      have LL : Hid (ql = l.length) := Lib.hid (by rw [N6.out.a.q.len]; exact hql)
      clear hn5 REL hql HTK
      go_wp2_with fail
      refine (N6.out.a.h.next TB.out (by have := N6.out.a.b; omega)).mono ?_
      rintro e w6 ⟨hE, c6⟩
      have HE := Lib.hid hE
      have NY := Lib.hid (N6.out.quiet c6)
      clear hE c6 N6
      rcases HE.out with ⟨hQ, rfl⟩ | ⟨m, hm, rfl⟩
      · have HQ := Lib.hid hQ
        clear hQ HE
        go_wp2_with fail
        refine (refNext_of NY.out.a.r.r (by rw [NY.out.a.q.len]; have := NY.out.a.b; omega)).mono ?_
        rintro e w7 ⟨hE, rfl⟩
        obtain rfl : e = .returned (.tuple #[.int .u64 0, .bool false]) := by
          rcases hE with ⟨-, rfl⟩ | ⟨m', hm', -⟩
          · rfl
          · obtain ⟨⟨y, hy, -⟩, -⟩ := hm'
            have h1 := NY.out.a.q.len
            rw [HQ.out] at h1
            rw [List.eq_nil_of_length_eq_zero h1] at hy; cases hy
        clear hE
        generalize w6 = w7 at *
        have N7 := NY
        clear NY
        go_upto_region 28 with (fail)
        have RD := Lib.hid (N7.out.quiet (Ch.refl _ _).drew)
        clear N7
        have t1 := RD.out.a.r.r.t
        have t2 := RD.out.a.r.r.s
        rw [← LL.out] at t2
        refine wp_region_held_drew (S := fun w' => w'.cell? ⟨rb, 0, none⟩ = some (.int .u64 (now5 : Nat)) ∧ w'.cell? ⟨rb, 1, none⟩ = some (.slice ar ql cr)) (by kernel_rfl) ⟨t1, t2⟩ (fun hHeld => ?_)
        clear t1 t2
        generalize w7.drew = X at *
        refine take_at (v := ?_) 0 (some 125) rfl (by kernel_rfl) (by kernel_rfl) (by kernel_rfl) (by kernel_rfl) (fun _ _ _ h => h) (Or.inl ⟨by rfl, ?_⟩) (by assumption) ?_
        rotate_left
        · intro w hSw; (try dsimp only at hSw); go_simp; try (with_reducible rfl)
        (try simp only [Act.put, List.setIfInBounds_toArray, List.set_cons_zero, List.set_cons_succ])
        refine take_at (v := ?_) 2 (some 127) rfl (by kernel_rfl) (by kernel_rfl) (by kernel_rfl) (by kernel_rfl) (fun _ _ _ h => h) (Or.inl ⟨by rfl, ?_⟩) (by assumption) ?_
        rotate_left
        · intro w hSw; (try dsimp only at hSw); go_simp; try (with_reducible rfl)
        (try simp only [Act.put, List.setIfInBounds_toArray, List.set_cons_zero, List.set_cons_succ])
        refine take_at (v := ?_) 3 (some 128) rfl (by kernel_rfl) (by kernel_rfl) (by kernel_rfl) (by kernel_rfl) (fun _ _ _ h => h) (Or.inl ⟨by rfl, ?_⟩) (by assumption) ?_
        rotate_left
        · intro w hSw; (try dsimp only at hSw); go_simp; try (with_reducible rfl)
        (try simp only [Act.put, List.setIfInBounds_toArray, List.set_cons_zero, List.set_cons_succ])
        refine take_at (v := ?_) 4 (some 129) rfl (by kernel_rfl) (by kernel_rfl) (by kernel_rfl) (by kernel_rfl) (fun _ _ _ h => h) (Or.inl ⟨by rfl, ?_⟩) (by assumption) ?_
        rotate_left
        · intro w hSw; (try dsimp only at hSw); go_simp; try (with_reducible rfl)
        (try simp only [Act.put, List.setIfInBounds_toArray, List.set_cons_zero, List.set_cons_succ])
        refine take_at (v := ?_) 5 (some 130) rfl (by kernel_rfl) (by kernel_rfl) (by kernel_rfl) (by kernel_rfl) (fun _ _ _ h => h) (Or.inl ⟨by rfl, ?_⟩) (by assumption) ?_
        rotate_left
        · intro w hSw; (try dsimp only at hSw); go_simp; try (with_reducible rfl)
        (try simp only [Act.put, List.setIfInBounds_toArray, List.set_cons_zero, List.set_cons_succ])
        refine take_at (v := ?_) 6 (some 131) rfl (by kernel_rfl) (by kernel_rfl) (by kernel_rfl) (by kernel_rfl) (fun _ _ _ h => h) (Or.inl ⟨by rfl, ?_⟩) (by assumption) ?_
        rotate_left
        · intro w hSw; (try dsimp only at hSw); go_simp; try (with_reducible rfl)
        (try simp only [Act.put, List.setIfInBounds_toArray, List.set_cons_zero, List.set_cons_succ])
        refine wpAnyH_ready (rs := [1]) (by kernel_rfl) (by simp) ?_
        refine AllReadyH.cons rfl (fun K hK => ?_) AllReadyH.nil
        go_simp
        refine RD.out.a.h.now_of.mono ?_
        rintro e w8 ⟨rfl, c8⟩
        have R8 := Lib.hid (RD.out.quiet c8)
        have q8 := c8.keeps hHeld.1 (fun e => e)
        have p8 := c8.keeps hHeld.2 (fun e => e)
        clear c8 RD hHeld
        refine hK.out _ _ ⟨q8, p8⟩ (fun hHeld => ?_)
        clear hK K q8 p8
        (try simp only [Act.put, List.setIfInBounds_toArray, List.set_cons_zero, List.set_cons_succ])
        refine take_at (v := ?_) 7 (some 132) rfl (by kernel_rfl) (by kernel_rfl) (by kernel_rfl) (by kernel_rfl) (fun _ _ _ h => h) (Or.inl ⟨by rfl, ?_⟩) (by assumption) ?_
        rotate_left
        · intro w hSw; (try dsimp only at hSw); go_simp; try (with_reducible rfl)
        (try simp only [Act.put, List.setIfInBounds_toArray, List.set_cons_zero, List.set_cons_succ])
        refine take_at (v := ?_) 8 (some 133) rfl (by kernel_rfl) (by kernel_rfl) (by kernel_rfl) (by kernel_rfl) (fun _ _ _ h => h) (Or.inl ⟨by rfl, ?_⟩) (by assumption) ?_
        rotate_left
        · intro w hSw; (try dsimp only at hSw); go_simp; try (with_reducible rfl)
        (try simp only [Act.put, List.setIfInBounds_toArray, List.set_cons_zero, List.set_cons_succ])
        refine take_at (v := ?_) 9 (some 134) rfl (by kernel_rfl) (by kernel_rfl) (by kernel_rfl) (by kernel_rfl) (fun _ _ _ h => h) (Or.inl ⟨by rfl, ?_⟩) (by assumption) ?_
        rotate_left
        · intro w hSw; (try dsimp only at hSw); go_simp; try (with_reducible rfl)
        (try simp only [Act.put, List.setIfInBounds_toArray, List.set_cons_zero, List.set_cons_succ])
        refine take_at (v := ?_) 11 (some 136) rfl (by kernel_rfl) (by kernel_rfl) (by kernel_rfl) (by kernel_rfl) (fun _ _ _ h => h) (Or.inl ⟨by rfl, ?_⟩) (by assumption) ?_
        rotate_left
        · intro w hSw; (try dsimp only at hSw); go_simp; try (with_reducible rfl)
        (try simp only [Act.put, List.setIfInBounds_toArray, List.set_cons_zero, List.set_cons_succ])
        refine take_at (v := ?_) 12 (some 137) rfl (by kernel_rfl) (by kernel_rfl) (by kernel_rfl) (by kernel_rfl) (fun _ _ _ h => h) (Or.inl ⟨by rfl, ?_⟩) (by assumption) ?_
        rotate_left
        · intro w hSw; (try dsimp only at hSw); go_simp; try (with_reducible rfl)
        (try simp only [Act.put, List.setIfInBounds_toArray, List.set_cons_zero, List.set_cons_succ])
        refine take_at (v := ?_) 13 (some 138) rfl (by kernel_rfl) (by kernel_rfl) (by kernel_rfl) (by kernel_rfl) (fun _ _ _ h => h) (Or.inl ⟨by rfl, ?_⟩) (by assumption) ?_
        rotate_left
        · intro w hSw; (try dsimp only at hSw); go_simp; try (with_reducible rfl)
        (try simp only [Act.put, List.setIfInBounds_toArray, List.set_cons_zero, List.set_cons_succ])
        refine take_at (v := ?_) 14 (some 139) rfl (by kernel_rfl) (by kernel_rfl) (by kernel_rfl) (by kernel_rfl) (fun _ _ _ h => h) (Or.inl ⟨by rfl, ?_⟩) (by assumption) ?_
        rotate_left
        · intro w hSw; (try dsimp only at hSw); go_simp; try (with_reducible rfl)
        (try simp only [Act.put, List.setIfInBounds_toArray, List.set_cons_zero, List.set_cons_succ])
        refine take_at (v := ?_) 15 (some 140) rfl (by kernel_rfl) (by kernel_rfl) (by kernel_rfl) (by kernel_rfl) (fun _ _ _ h => h) (Or.inl ⟨by rfl, ?_⟩) (by assumption) ?_
        rotate_left
        · intro w hSw; (try dsimp only at hSw); go_simp; try (with_reducible rfl)
        (try simp only [Act.put, List.setIfInBounds_toArray, List.set_cons_zero, List.set_cons_succ])
        refine take_at (v := ?_) 16 (some 141) rfl (by kernel_rfl) (by kernel_rfl) (by kernel_rfl) (by kernel_rfl) (fun _ _ _ h => h) (Or.inl ⟨by rfl, ?_⟩) (by assumption) ?_
        rotate_left
        · intro w hSw; (try dsimp only at hSw); go_simp; try (with_reducible rfl)
        (try simp only [Act.put, List.setIfInBounds_toArray, List.set_cons_zero, List.set_cons_succ])
        refine wpAnyH_ready (rs := [10]) (by kernel_rfl) (by simp) ?_
        refine AllReadyH.cons rfl (fun K hK => ?_) AllReadyH.nil
        go_simp
        refine (R8.out.a.h.armed TB.out (by have := R8.out.a.b; omega)).mono ?_
        rintro e w9 ⟨rfl, c9⟩
        rw [← QL.out]
        have R9 := Lib.hid (R8.out.quiet c9)
        have q8 := c9.keeps hHeld.1 (fun e => e)
        have p8 := c9.keeps hHeld.2 (fun e => e)
        clear c9 R8 hHeld
        refine hK.out _ _ ⟨q8, p8⟩ (fun hHeld => ?_)
        clear hK K q8 p8
        (try simp only [Act.put, List.setIfInBounds_toArray, List.set_cons_zero, List.set_cons_succ])
        refine take_at (v := ?_) 17 (some 142) rfl (by kernel_rfl) (by kernel_rfl) (by kernel_rfl) (by kernel_rfl) (fun _ _ _ h => h) (Or.inl ⟨by rfl, ?_⟩) (by assumption) ?_
        rotate_left
        · intro w hSw; (try dsimp only at hSw); go_simp; try (with_reducible rfl)
        (try simp only [Act.put, List.setIfInBounds_toArray, List.set_cons_zero, List.set_cons_succ])
        refine take_at (v := ?_) 18 (some 143) rfl (by kernel_rfl) (by kernel_rfl) (by kernel_rfl) (by kernel_rfl) (fun _ _ _ h => h) (Or.inl ⟨by rfl, ?_⟩) (by assumption) ?_
        rotate_left
        · intro w hSw; (try dsimp only at hSw); go_simp; try (with_reducible rfl)
        (try simp only [Act.put, List.setIfInBounds_toArray, List.set_cons_zero, List.set_cons_succ])
        refine take_at (v := ?_) 19 (some 144) rfl (by kernel_rfl) (by kernel_rfl) (by kernel_rfl) (by kernel_rfl) (fun _ _ _ h => h) (Or.inl ⟨by rfl, ?_⟩) (by assumption) ?_
        rotate_left
        · intro w hSw; (try dsimp only at hSw); go_simp; try (with_reducible rfl)
        (try simp only [Act.put, List.setIfInBounds_toArray, List.set_cons_zero, List.set_cons_succ])
        refine take_at (v := ?_) 20 (some 145) rfl (by kernel_rfl) (by kernel_rfl) (by kernel_rfl) (by kernel_rfl) (fun _ _ _ h => h) (Or.inl ⟨by rfl, ?_⟩) (by assumption) ?_
        rotate_left
        · intro w hSw; (try dsimp only at hSw); go_simp; try (with_reducible rfl)
        (try simp only [Act.put, List.setIfInBounds_toArray, List.set_cons_zero, List.set_cons_succ])
        refine take_at (v := ?_) 21 (some 146) rfl (by kernel_rfl) (by kernel_rfl) (by kernel_rfl) (by kernel_rfl) (fun _ _ _ h => h) (Or.inl ⟨by rfl, ?_⟩) (by assumption) ?_
        rotate_left
        · intro w hSw; (try dsimp only at hSw); go_simp; try (with_reducible rfl)
        (try simp only [Act.put, List.setIfInBounds_toArray, List.set_cons_zero, List.set_cons_succ])
        refine take_at (v := ?_) 22 (some 147) rfl (by kernel_rfl) (by kernel_rfl) (by kernel_rfl) (by kernel_rfl) (fun _ _ _ h => h) (Or.inl ⟨by rfl, ?_⟩) (by assumption) ?_
        rotate_left
        · intro w hSw; (try dsimp only at hSw); go_simp; try (with_reducible rfl)
        (try simp only [Act.put, List.setIfInBounds_toArray, List.set_cons_zero, List.set_cons_succ])
        refine take_at (v := ?_) 23 (some 148) rfl (by kernel_rfl) (by kernel_rfl) (by kernel_rfl) (by kernel_rfl) (fun _ _ _ h => h) (Or.inl ⟨by rfl, ?_⟩) (by assumption) ?_
        rotate_left
        · intro w hSw; (try dsimp only at hSw); go_simp; try (with_reducible rfl)
        (try simp only [Act.put, List.setIfInBounds_toArray, List.set_cons_zero, List.set_cons_succ])
        refine take_at (v := ?_) 24 (some 149) rfl (by kernel_rfl) (by kernel_rfl) (by kernel_rfl) (by kernel_rfl) (fun _ _ _ h => h) (Or.inl ⟨by rfl, ?_⟩) (by assumption) ?_
        rotate_left
        · intro w hSw; (try dsimp only at hSw); go_simp; try (with_reducible rfl)
        (try simp only [Act.put, List.setIfInBounds_toArray, List.set_cons_zero, List.set_cons_succ])
        refine take_at (v := ?_) 25 (some 150) rfl (by kernel_rfl) (by kernel_rfl) (by kernel_rfl) (by kernel_rfl) (fun _ _ _ h => h) (Or.inl ⟨by rfl, ?_⟩) (by assumption) ?_
        rotate_left
        · intro w hSw; (try dsimp only at hSw); go_simp; try (with_reducible rfl)
        (try simp only [Act.put, List.setIfInBounds_toArray, List.set_cons_zero, List.set_cons_succ])
        refine take_at (v := ?_) 26 (some 151) rfl (by kernel_rfl) (by kernel_rfl) (by kernel_rfl) (by kernel_rfl) (fun _ _ _ h => h) (Or.inl ⟨by rfl, ?_⟩) (by assumption) ?_
        rotate_left
        · intro w hSw; (try dsimp only at hSw); go_simp; try (with_reducible rfl)
        (try simp only [Act.put, List.setIfInBounds_toArray, List.set_cons_zero, List.set_cons_succ])
        refine take_at (v := ?_) 27 (some 152) rfl (by kernel_rfl) (by kernel_rfl) (by kernel_rfl) (by kernel_rfl) (fun _ _ _ h => h) (Or.inl ⟨by rfl, ?_⟩) (by assumption) ?_
        rotate_left
        · intro w hSw; (try dsimp only at hSw); go_simp; try (with_reducible rfl)
        (try simp only [Act.put, List.setIfInBounds_toArray, List.set_cons_zero, List.set_cons_succ])
        refine take_at (v := ?_) 28 (some 153) rfl (by kernel_rfl) (by kernel_rfl) (by kernel_rfl) (by kernel_rfl) (fun _ _ _ h => h) (Or.inl ⟨by rfl, ?_⟩) (by assumption) ?_
        rotate_left
        · intro w hSw; (try dsimp only at hSw); go_simp; try (with_reducible rfl)
        (try simp only [Act.put, List.setIfInBounds_toArray, List.set_cons_zero, List.set_cons_succ])
        refine take_at (v := ?_) 29 (some 154) rfl (by kernel_rfl) (by kernel_rfl) (by kernel_rfl) (by kernel_rfl) (fun _ _ _ h => h) (Or.inl ⟨by rfl, ?_⟩) (by assumption) ?_
        rotate_left
        · intro w hSw; (try dsimp only at hSw); go_simp; try (with_reducible rfl)
        (try simp only [Act.put, List.setIfInBounds_toArray, List.set_cons_zero, List.set_cons_succ])
        refine wpAnyH_done (by kernel_rfl) ?_ _
        clear hHeld
        go_wp2
        first | exact ⟨⟨now5, Q, P5, l, L5, ar, cr, tb5, tcp5, rfl, rfl, rfl, rfl, rfl, rfl, ⟨R9.out.a, by omega, hL5⟩⟩, hlt⟩ | exact ⟨now5, Q, P5, l, L5, ar, cr, tb5, tcp5, rfl, rfl, rfl, rfl, rfl, rfl, ⟨R9.out.a, by omega, hL5⟩⟩
      · have HM := Lib.hid hm
        clear hm HE
        go_wp2_with fail
        refine (refNext_of NY.out.a.r.r (by rw [NY.out.a.q.len]; have := NY.out.a.b; omega)).mono ?_
        rintro e w7 ⟨hE, rfl⟩
        obtain rfl : e = .returned (.tuple #[.int .u64 (m : Nat), .bool true]) := by
          rcases hE with ⟨e0, -⟩ | ⟨m', hm', rfl⟩
          · exfalso
            have h1 := NY.out.a.q.len
            rw [e0] at h1
            obtain ⟨⟨y, hy, -⟩, -⟩ := HM.out
            rw [List.eq_nil_of_length_eq_zero h1.symm] at hy; cases hy
          · rw [NY.out.a.q.min HM.out hm']
        clear hE
        generalize w6 = w7 at *
        have N7 := NY
        clear NY
        have e3 : ((m : Int) != (m : Int)) = false := by simp
        go_upto_region 28 with (fail)
        have RD := Lib.hid (N7.out.quiet (Ch.refl _ _).drew)
        clear N7
        have t1 := RD.out.a.r.r.t
        have t2 := RD.out.a.r.r.s
        rw [← LL.out] at t2
        refine wp_region_held_drew (S := fun w' => w'.cell? ⟨rb, 0, none⟩ = some (.int .u64 (now5 : Nat)) ∧ w'.cell? ⟨rb, 1, none⟩ = some (.slice ar ql cr)) (by kernel_rfl) ⟨t1, t2⟩ (fun hHeld => ?_)
        clear t1 t2
        generalize w7.drew = X at *
        refine take_at (v := ?_) 0 (some 125) rfl (by kernel_rfl) (by kernel_rfl) (by kernel_rfl) (by kernel_rfl) (fun _ _ _ h => h) (Or.inl ⟨by rfl, ?_⟩) (by assumption) ?_
        rotate_left
        · intro w hSw; (try dsimp only at hSw); go_simp; try (with_reducible rfl)
        (try simp only [Act.put, List.setIfInBounds_toArray, List.set_cons_zero, List.set_cons_succ])
        refine take_at (v := ?_) 2 (some 127) rfl (by kernel_rfl) (by kernel_rfl) (by kernel_rfl) (by kernel_rfl) (fun _ _ _ h => h) (Or.inl ⟨by rfl, ?_⟩) (by assumption) ?_
        rotate_left
        · intro w hSw; (try dsimp only at hSw); go_simp; try (with_reducible rfl)
        (try simp only [Act.put, List.setIfInBounds_toArray, List.set_cons_zero, List.set_cons_succ])
        refine take_at (v := ?_) 3 (some 128) rfl (by kernel_rfl) (by kernel_rfl) (by kernel_rfl) (by kernel_rfl) (fun _ _ _ h => h) (Or.inl ⟨by rfl, ?_⟩) (by assumption) ?_
        rotate_left
        · intro w hSw; (try dsimp only at hSw); go_simp; try (with_reducible rfl)
        (try simp only [Act.put, List.setIfInBounds_toArray, List.set_cons_zero, List.set_cons_succ])
        refine take_at (v := ?_) 4 (some 129) rfl (by kernel_rfl) (by kernel_rfl) (by kernel_rfl) (by kernel_rfl) (fun _ _ _ h => h) (Or.inl ⟨by rfl, ?_⟩) (by assumption) ?_
        rotate_left
        · intro w hSw; (try dsimp only at hSw); go_simp; try (with_reducible rfl)
        (try simp only [Act.put, List.setIfInBounds_toArray, List.set_cons_zero, List.set_cons_succ])
        refine take_at (v := ?_) 5 (some 130) rfl (by kernel_rfl) (by kernel_rfl) (by kernel_rfl) (by kernel_rfl) (fun _ _ _ h => h) (Or.inl ⟨by rfl, ?_⟩) (by assumption) ?_
        rotate_left
        · intro w hSw; (try dsimp only at hSw); go_simp; try (with_reducible rfl)
        (try simp only [Act.put, List.setIfInBounds_toArray, List.set_cons_zero, List.set_cons_succ])
        refine take_at (v := ?_) 6 (some 131) rfl (by kernel_rfl) (by kernel_rfl) (by kernel_rfl) (by kernel_rfl) (fun _ _ _ h => h) (Or.inl ⟨by rfl, ?_⟩) (by assumption) ?_
        rotate_left
        · intro w hSw; (try dsimp only at hSw); go_simp; try (with_reducible rfl)
        (try simp only [Act.put, List.setIfInBounds_toArray, List.set_cons_zero, List.set_cons_succ])
        refine wpAnyH_ready (rs := [1]) (by kernel_rfl) (by simp) ?_
        refine AllReadyH.cons rfl (fun K hK => ?_) AllReadyH.nil
        go_simp
        refine RD.out.a.h.now_of.mono ?_
        rintro e w8 ⟨rfl, c8⟩
        have R8 := Lib.hid (RD.out.quiet c8)
        have q8 := c8.keeps hHeld.1 (fun e => e)
        have p8 := c8.keeps hHeld.2 (fun e => e)
        clear c8 RD hHeld
        refine hK.out _ _ ⟨q8, p8⟩ (fun hHeld => ?_)
        clear hK K q8 p8
        (try simp only [Act.put, List.setIfInBounds_toArray, List.set_cons_zero, List.set_cons_succ])
        refine take_at (v := ?_) 7 (some 132) rfl (by kernel_rfl) (by kernel_rfl) (by kernel_rfl) (by kernel_rfl) (fun _ _ _ h => h) (Or.inl ⟨by rfl, ?_⟩) (by assumption) ?_
        rotate_left
        · intro w hSw; (try dsimp only at hSw); go_simp; try (with_reducible rfl)
        (try simp only [Act.put, List.setIfInBounds_toArray, List.set_cons_zero, List.set_cons_succ])
        refine take_at (v := ?_) 8 (some 133) rfl (by kernel_rfl) (by kernel_rfl) (by kernel_rfl) (by kernel_rfl) (fun _ _ _ h => h) (Or.inl ⟨by rfl, ?_⟩) (by assumption) ?_
        rotate_left
        · intro w hSw; (try dsimp only at hSw); go_simp; try (with_reducible rfl)
        (try simp only [Act.put, List.setIfInBounds_toArray, List.set_cons_zero, List.set_cons_succ])
        refine take_at (v := ?_) 9 (some 134) rfl (by kernel_rfl) (by kernel_rfl) (by kernel_rfl) (by kernel_rfl) (fun _ _ _ h => h) (Or.inl ⟨by rfl, ?_⟩) (by assumption) ?_
        rotate_left
        · intro w hSw; (try dsimp only at hSw); go_simp; try (with_reducible rfl)
        (try simp only [Act.put, List.setIfInBounds_toArray, List.set_cons_zero, List.set_cons_succ])
        refine take_at (v := ?_) 11 (some 136) rfl (by kernel_rfl) (by kernel_rfl) (by kernel_rfl) (by kernel_rfl) (fun _ _ _ h => h) (Or.inl ⟨by rfl, ?_⟩) (by assumption) ?_
        rotate_left
        · intro w hSw; (try dsimp only at hSw); go_simp; try (with_reducible rfl)
        (try simp only [Act.put, List.setIfInBounds_toArray, List.set_cons_zero, List.set_cons_succ])
        refine take_at (v := ?_) 12 (some 137) rfl (by kernel_rfl) (by kernel_rfl) (by kernel_rfl) (by kernel_rfl) (fun _ _ _ h => h) (Or.inl ⟨by rfl, ?_⟩) (by assumption) ?_
        rotate_left
        · intro w hSw; (try dsimp only at hSw); go_simp; try (with_reducible rfl)
        (try simp only [Act.put, List.setIfInBounds_toArray, List.set_cons_zero, List.set_cons_succ])
        refine take_at (v := ?_) 13 (some 138) rfl (by kernel_rfl) (by kernel_rfl) (by kernel_rfl) (by kernel_rfl) (fun _ _ _ h => h) (Or.inl ⟨by rfl, ?_⟩) (by assumption) ?_
        rotate_left
        · intro w hSw; (try dsimp only at hSw); go_simp; try (with_reducible rfl)
        (try simp only [Act.put, List.setIfInBounds_toArray, List.set_cons_zero, List.set_cons_succ])
        refine take_at (v := ?_) 14 (some 139) rfl (by kernel_rfl) (by kernel_rfl) (by kernel_rfl) (by kernel_rfl) (fun _ _ _ h => h) (Or.inl ⟨by rfl, ?_⟩) (by assumption) ?_
        rotate_left
        · intro w hSw; (try dsimp only at hSw); go_simp; try (with_reducible rfl)
        (try simp only [Act.put, List.setIfInBounds_toArray, List.set_cons_zero, List.set_cons_succ])
        refine take_at (v := ?_) 15 (some 140) rfl (by kernel_rfl) (by kernel_rfl) (by kernel_rfl) (by kernel_rfl) (fun _ _ _ h => h) (Or.inl ⟨by rfl, ?_⟩) (by assumption) ?_
        rotate_left
        · intro w hSw; (try dsimp only at hSw); go_simp; try (with_reducible rfl)
        (try simp only [Act.put, List.setIfInBounds_toArray, List.set_cons_zero, List.set_cons_succ])
        refine take_at (v := ?_) 16 (some 141) rfl (by kernel_rfl) (by kernel_rfl) (by kernel_rfl) (by kernel_rfl) (fun _ _ _ h => h) (Or.inl ⟨by rfl, ?_⟩) (by assumption) ?_
        rotate_left
        · intro w hSw; (try dsimp only at hSw); go_simp; try (with_reducible rfl)
        (try simp only [Act.put, List.setIfInBounds_toArray, List.set_cons_zero, List.set_cons_succ])
        refine wpAnyH_ready (rs := [10]) (by kernel_rfl) (by simp) ?_
        refine AllReadyH.cons rfl (fun K hK => ?_) AllReadyH.nil
        go_simp
        refine (R8.out.a.h.armed TB.out (by have := R8.out.a.b; omega)).mono ?_
        rintro e w9 ⟨rfl, c9⟩
        rw [← QL.out]
        have R9 := Lib.hid (R8.out.quiet c9)
        have q8 := c9.keeps hHeld.1 (fun e => e)
        have p8 := c9.keeps hHeld.2 (fun e => e)
        clear c9 R8 hHeld
        refine hK.out _ _ ⟨q8, p8⟩ (fun hHeld => ?_)
        clear hK K q8 p8
        (try simp only [Act.put, List.setIfInBounds_toArray, List.set_cons_zero, List.set_cons_succ])
        refine take_at (v := ?_) 17 (some 142) rfl (by kernel_rfl) (by kernel_rfl) (by kernel_rfl) (by kernel_rfl) (fun _ _ _ h => h) (Or.inl ⟨by rfl, ?_⟩) (by assumption) ?_
        rotate_left
        · intro w hSw; (try dsimp only at hSw); go_simp; try (with_reducible rfl)
        (try simp only [Act.put, List.setIfInBounds_toArray, List.set_cons_zero, List.set_cons_succ])
        refine take_at (v := ?_) 18 (some 143) rfl (by kernel_rfl) (by kernel_rfl) (by kernel_rfl) (by kernel_rfl) (fun _ _ _ h => h) (Or.inl ⟨by rfl, ?_⟩) (by assumption) ?_
        rotate_left
        · intro w hSw; (try dsimp only at hSw); go_simp; try (with_reducible rfl)
        (try simp only [Act.put, List.setIfInBounds_toArray, List.set_cons_zero, List.set_cons_succ])
        refine take_at (v := ?_) 19 (some 144) rfl (by kernel_rfl) (by kernel_rfl) (by kernel_rfl) (by kernel_rfl) (fun _ _ _ h => h) (Or.inl ⟨by rfl, ?_⟩) (by assumption) ?_
        rotate_left
        · intro w hSw; (try dsimp only at hSw); go_simp; try (with_reducible rfl)
        (try simp only [Act.put, List.setIfInBounds_toArray, List.set_cons_zero, List.set_cons_succ])
        refine take_at (v := ?_) 20 (some 145) rfl (by kernel_rfl) (by kernel_rfl) (by kernel_rfl) (by kernel_rfl) (fun _ _ _ h => h) (Or.inl ⟨by rfl, ?_⟩) (by assumption) ?_
        rotate_left
        · intro w hSw; (try dsimp only at hSw); go_simp; try (with_reducible rfl)
        (try simp only [Act.put, List.setIfInBounds_toArray, List.set_cons_zero, List.set_cons_succ])
        refine take_at (v := ?_) 21 (some 146) rfl (by kernel_rfl) (by kernel_rfl) (by kernel_rfl) (by kernel_rfl) (fun _ _ _ h => h) (Or.inl ⟨by rfl, ?_⟩) (by assumption) ?_
        rotate_left
        · intro w hSw; (try dsimp only at hSw); go_simp; try (with_reducible rfl)
        (try simp only [Act.put, List.setIfInBounds_toArray, List.set_cons_zero, List.set_cons_succ])
        refine take_at (v := ?_) 22 (some 147) rfl (by kernel_rfl) (by kernel_rfl) (by kernel_rfl) (by kernel_rfl) (fun _ _ _ h => h) (Or.inl ⟨by rfl, ?_⟩) (by assumption) ?_
        rotate_left
        · intro w hSw; (try dsimp only at hSw); go_simp; try (with_reducible rfl)
        (try simp only [Act.put, List.setIfInBounds_toArray, List.set_cons_zero, List.set_cons_succ])
        refine take_at (v := ?_) 23 (some 148) rfl (by kernel_rfl) (by kernel_rfl) (by kernel_rfl) (by kernel_rfl) (fun _ _ _ h => h) (Or.inl ⟨by rfl, ?_⟩) (by assumption) ?_
        rotate_left
        · intro w hSw; (try dsimp only at hSw); go_simp; try (with_reducible rfl)
        (try simp only [Act.put, List.setIfInBounds_toArray, List.set_cons_zero, List.set_cons_succ])
        refine take_at (v := ?_) 24 (some 149) rfl (by kernel_rfl) (by kernel_rfl) (by kernel_rfl) (by kernel_rfl) (fun _ _ _ h => h) (Or.inl ⟨by rfl, ?_⟩) (by assumption) ?_
        rotate_left
        · intro w hSw; (try dsimp only at hSw); go_simp; try (with_reducible rfl)
        (try simp only [Act.put, List.setIfInBounds_toArray, List.set_cons_zero, List.set_cons_succ])
        refine take_at (v := ?_) 25 (some 150) rfl (by kernel_rfl) (by kernel_rfl) (by kernel_rfl) (by kernel_rfl) (fun _ _ _ h => h) (Or.inl ⟨by rfl, ?_⟩) (by assumption) ?_
        rotate_left
        · intro w hSw; (try dsimp only at hSw); go_simp; try (with_reducible rfl)
        (try simp only [Act.put, List.setIfInBounds_toArray, List.set_cons_zero, List.set_cons_succ])
        refine take_at (v := ?_) 26 (some 151) rfl (by kernel_rfl) (by kernel_rfl) (by kernel_rfl) (by kernel_rfl) (fun _ _ _ h => h) (Or.inl ⟨by rfl, ?_⟩) (by assumption) ?_
        rotate_left
        · intro w hSw; (try dsimp only at hSw); go_simp; try (with_reducible rfl)
        (try simp only [Act.put, List.setIfInBounds_toArray, List.set_cons_zero, List.set_cons_succ])
        refine take_at (v := ?_) 27 (some 152) rfl (by kernel_rfl) (by kernel_rfl) (by kernel_rfl) (by kernel_rfl) (fun _ _ _ h => h) (Or.inl ⟨by rfl, ?_⟩) (by assumption) ?_
        rotate_left
        · intro w hSw; (try dsimp only at hSw); go_simp; try (with_reducible rfl)
        (try simp only [Act.put, List.setIfInBounds_toArray, List.set_cons_zero, List.set_cons_succ])
        refine take_at (v := ?_) 28 (some 153) rfl (by kernel_rfl) (by kernel_rfl) (by kernel_rfl) (by kernel_rfl) (fun _ _ _ h => h) (Or.inl ⟨by rfl, ?_⟩) (by assumption) ?_
        rotate_left
        · intro w hSw; (try dsimp only at hSw); go_simp; try (with_reducible rfl)
        (try simp only [Act.put, List.setIfInBounds_toArray, List.set_cons_zero, List.set_cons_succ])
        refine take_at (v := ?_) 29 (some 154) rfl (by kernel_rfl) (by kernel_rfl) (by kernel_rfl) (by kernel_rfl) (fun _ _ _ h => h) (Or.inl ⟨by rfl, ?_⟩) (by assumption) ?_
        rotate_left
        · intro w hSw; (try dsimp only at hSw); go_simp; try (with_reducible rfl)
        (try simp only [Act.put, List.setIfInBounds_toArray, List.set_cons_zero, List.set_cons_succ])
        refine wpAnyH_done (by kernel_rfl) ?_ _
        clear hHeld
        go_wp2
        first | exact ⟨⟨now5, Q, P5, l, L5, ar, cr, tb5, tcp5, rfl, rfl, rfl, rfl, rfl, rfl, ⟨R9.out.a, by omega, hL5⟩⟩, hlt⟩ | exact ⟨now5, Q, P5, l, L5, ar, cr, tb5, tcp5, rfl, rfl, rfl, rfl, rfl, rfl, ⟨R9.out.a, by omega, hL5⟩⟩
  · obtain rfl : k = len := by omega
    go_wp2
    exact ⟨by first | rfl | trivial, ⟨_, _, _, _, _, _, _, _, _, rfl, rfl, rfl, rfl, rfl, rfl, REL.out⟩, by first | rfl | trivial⟩
theorem syA_loop (w : World) (s : Nat) (g : Wh) (rb : Nat) (ad : Option Addr) (len cap : Nat) (A : List Ac) (hs : ASrc w ad A) (hA : A.length = len) (ok : ∀ x, x ∈ A → x.ok) (h60 : len ≤ 60) (hc : len ≤ cap ∧ cap ≤ maxLen) (T : Tab w) (a : Act) (wr : World) (hb : 0 ≤ len) (H : syAI w s g rb ad len cap A 0 a wr) :
    Code.wp Tryd.prog (.loop (loopIn 0 Tryd.f3)) (Qx 0 (fun a' w' => syAI w s g rb ad len cap A len a' w')) a wr := by
  refine wp_loop (fun a' wr => ∃ k, k ≤ len ∧ syAI w s g rb ad len cap A k a' wr) (fun a' _ => len - (intOf (a'.tmps.getD 8 undef)).toNat) ⟨0, hb, H⟩ ?_
  rintro a' wr ⟨k, hk, h⟩
  refine wp_mono (syA_round w s g rb ad len cap A hs hA ok h60 hc T a' wr hk h) ?_
  intro e a2 w2 hp
  cases e with
  | normal =>
    refine ⟨⟨k + 1, by have := hp.2; omega, hp.1⟩, ?_⟩
    rw [syAI_ctr w s g rb ad len cap A h, syAI_ctr w s g rb ad len cap A hp.1]
    have := hp.2
    simp only [intOf, Int.toNat_natCast]
    omega
  | exit n => exact ⟨hp.1, hp.2.2 ▸ hp.2.1⟩
  | _ => exact hp.elim
set_option maxRecDepth 100000 in
set_option maxHeartbeats 0 in
theorem sy_end (w : World) (s : Nat) (g : Wh) (rb : Nat) (ad : Option Addr) (len cap : Nat) (A : List Ac) (hs : ASrc w ad A) (hA : A.length = len) (ok : ∀ x, x ∈ A → x.ok) (h60 : len ≤ 60) (hc : len ≤ cap ∧ cap ≤ maxLen) (T : Tab w)  (a : Act) (wr : World) (H : syAI w s g rb ad len cap A len a wr) :
    Code.wp Tryd.prog (aftIn 0 Tryd.f3) (bodyPost Tryd.prog Tryd.f3 (fun e w' => e = .returned (.bool true) ∧ Below w.heap.size w w')) a wr := by
  obtain ⟨t, ds⟩ := a
  obtain ⟨now, Q, P, l, L, ar, cr, tb, tcp, hd', hz, h1, h5, h7, h8, rel⟩ := H
  replace hd' : ds = [] := hd'
  subst hd'
  replace hz : t.size = 155 := hz
  replace h1 : t.getD 1 undef = .slice ad len cap := h1
  replace h5 : t.getD 5 undef = .pointer (some ⟨s, 0, none⟩) := h5
  replace h7 : t.getD 7 undef = .pointer (some ⟨rb, 0, none⟩) := h7
  replace h8 : t.getD 8 undef = .int .i64 (len : Nat) := h8
  have REL := Lib.hid rel
  clear rel
  refine openFr155 (P := fun t => t.getD 1 undef = .slice ad len cap → t.getD 5 undef = .pointer (some ⟨s, 0, none⟩) → t.getD 7 undef = .pointer (some ⟨rb, 0, none⟩) → t.getD 8 undef = .int .i64 (len : Nat) → Code.wp Tryd.prog (aftIn 0 Tryd.f3) (bodyPost Tryd.prog Tryd.f3 (fun e w' => e = .returned (.bool true) ∧ Below w.heap.size w w')) ⟨t, []⟩ wr) ?_ t hz h1 h5 h7 h8
  clear h1 h5 h7 h8 hz t
  intro c0 c1 c2 c3 c4 c5 c6 c7 c8 c9 c10 c11 c12 c13 c14 c15 c16 c17 c18 c19 c20 c21 c22 c23 c24 c25 c26 c27 c28 c29 c30 c31 c32 c33 c34 c35 c36 c37 c38 c39 c40 c41 c42 c43 c44 c45 c46 c47 c48 c49 c50 c51 c52 c53 c54 c55 c56 c57 c58 c59 c60 c61 c62 c63 c64 c65 c66 c67 c68 c69 c70 c71 c72 c73 c74 c75 c76 c77 c78 c79 c80 c81 c82 c83 c84 c85 c86 c87 c88 c89 c90 c91 c92 c93 c94 c95 c96 c97 c98 c99 c100 c101 c102 c103 c104 c105 c106 c107 c108 c109 c110 c111 c112 c113 c114 c115 c116 c117 c118 c119 c120 c121 c122 c123 c124 c125 c126 c127 c128 c129 c130 c131 c132 c133 c134 c135 c136 c137 c138 c139 c140 c141 c142 c143 c144 c145 c146 c147 c148 c149 c150 c151 c152 c153 c154 h1 h5 h7 h8
  replace h1 : c1 = .slice ad len cap := h1
  replace h5 : c5 = .pointer (some ⟨s, 0, none⟩) := h5
  replace h7 : c7 = .pointer (some ⟨rb, 0, none⟩) := h7
  replace h8 : c8 = .int .i64 (len : Nat) := h8
  subst h1
  subst h5
  subst h7
  subst h8
  conv => arg 2; whnf
  clear hs ok T
  go_wp2
  go_ret
  exact ⟨rfl, REL.out.1.h.d.c.below (Nat.le_refl _) (fun _ _ e => e.elim)⟩
end Go.Proofs.YtldnmpiaofppgaaDoor
