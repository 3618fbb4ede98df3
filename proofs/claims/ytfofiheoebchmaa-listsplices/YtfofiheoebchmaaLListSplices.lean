/-
  Proved: for every parts and at the statement ListSplices returns true: lists that are spliced have all that was in them, in that order, and each node can be unlinked there, and nowhere else; and nothing that was there is changed. Conditions: none.
-/
import Derived.Test.YtfofiheoebchmaaListSpl
import Derived.Test.YtfofiheoebchmaaIsRows
import Derived.Deep.Cut
import Derived.Deep.CutRange
import Derived.Deep.CutBlock
import Derived.ProofKit
import Derived.OpenShut
import Derived.ChangeOld
import Derived.Below
namespace Go.Proofs.Ytfofiheoebchmaa
open Go.ChangeShapes Go.WideShapes Go.ChangeAt Go.RowKit Verge LI
set_option linter.unusedVariables false
set_option linter.unusedSimpArgs false
attribute [local go_sem] Oper.semAt_some

set_option maxRecDepth 100000 in
set_option maxHeartbeats 1600000 in
theorem ListSplices_walk (a : Option Addr) (len cap : Nat) (t : Int) (wt : (Lit.int .u8 t).wf = true) (w : World) (hv : IsRows .i64 w a len cap) :
    Calls Try.prog 5 #[.slice a len cap, .int .u8 t] w fun e w' => e = .returned (.bool true) ∧ Below w.heap.size w w' := by
  have hsm := hv.small
  have HV := Lib.hid hv
  obtain ⟨ht0, ht1⟩ := bounds_u8 wt
  clear hv wt
  go_enter Try.func5, Try.ntmps5
  go_wp2_with fail
  refine (alive_any _).mono ?_
  rintro e w1 ⟨rfl, c1⟩
  have C1 := Lib.hid c1
  clear c1
  by_cases h1 : 20 < len
  · go_wp2
    go_ret
    exact ⟨rfl, C1.out.below (Nat.le_refl _) (fun _ _ h => h.elim)⟩
  have hz2 : (len : Int) ≤ 20 := by omega
  go_wp2_with fail
  refine (LI.new_of _ (fun _ => 0)).mono ?_
  rintro e w2 ⟨lb, rfl, hlb, hl2, c2⟩
  have L2 := Lib.hid hl2
  have C2 := Lib.hid (C1.out.up c2 (fun _ e => e.elim))
  have s1 := C1.out.size
  have s2 : lb < w2.heap.size := hl2.lt (.inl rfl)
  clear hl2 c2
  go_wp2_with fail
  refine (LI.new_of _ (fun _ => 0)).mono ?_
  rintro e w3 ⟨ob, rfl, hob, ho3, c3⟩
  have L3 : Hid (IsL w3 lb (firsts (fun _ => 0) 0) (fun _ => 0)) := Lib.hid (L2.out.kept c3 (fun _ _ e => e))
  have K3 := Lib.hid (core_new (w := w) (lb := lb) ho3 (by omega) (by omega) (by omega) (C2.out.up c3 (fun _ e => e.elim)) (fun _ => 0) (fun _ => 0))
  clear ho3 c3
  go_wp2
  go_loopw [7, 8, 9] (fun wa na i wr => ∃ (u q : Nat) (nb : Nat → Nat) (V zz : Nat → Int) (an : Option Addr) (cn : Nat) (aw : Option Addr) (cw : Nat), u ≤ len ∧ q ≤ 20 * u ∧ i = .int .i64 u ∧ na = .slice an q cn ∧ wa = .slice aw q cw ∧ IsL wr lb (firsts nb q) V ∧ Core w wr lb ob q nb V zz an cn aw cw) (fun _ _ i _ => len - (intOf i).toNat)
  case atStart => exact ⟨0, 0, _, _, _, none, 0, none, 0, by omega, by omega, rfl, rfl, rfl, L3.out, K3.out⟩
  case round =>
    clear L3 K3 L2
    obtain ⟨u, q, nb, V, zz, an, cn, aw, cw, hu, hq, rfl, rfl, rfl, hl, hc⟩ := hrel
    have LL := Lib.hid hl
    have KK := Lib.hid hc
    clear hl hc
    by_cases hlt : u < len
    · obtain ⟨x, ai, li, ci, zi, rfl, hcell, hrow⟩ := HV.out.item hlt
      have hc' := KK.out.c.keeps hcell (fun e => e)
      have HROW := Lib.hid hrow
      have hsml := hrow.small
      have huz : (u : Int) < (len : Int) := by omega
      clear hrow
      by_cases h20 : 20 < li
      · go_wp2
        go_ret
        exact ⟨rfl, KK.out.c.below (Nat.le_refl _) (fun _ _ h => h.elim)⟩
      · have hli : (li : Int) ≤ 20 := by omega
        go_wp2_with fail
        refine (LI.new_of _ V).mono ?_
        rintro e w4 ⟨pb, rfl, hpb, hp4, c4⟩
        have P4 := Lib.hid (part_new LL.out KK.out hp4 hpb c4)
        clear hp4 c4 hc' LL KK
        go_wp2
        go_loopw [7, 8, 11] (fun wa na i wr => ∃ (k : Nat) (nb : Nat → Nat) (V zz : Nat → Int) (an : Option Addr) (cn : Nat) (aw : Option Addr) (cw : Nat), k ≤ li ∧ i = .int .i64 k ∧ na = .slice an (q + k) cn ∧ wa = .slice aw (q + k) cw ∧ Part w wr lb ob pb q k nb V zz an cn aw cw) (fun _ _ i _ => li - (intOf i).toNat)
        case atStart => exact ⟨0, _, _, _, _, _, _, _, by omega, rfl, rfl, rfl, P4.out⟩
        case round =>
          clear P4
          obtain ⟨k, nb, V, zz, an, cn, aw, cw, hk, rfl, rfl, rfl, hp⟩ := hrel
          have PP := Lib.hid hp
          clear hp
          have hc' := PP.out.c.c.keeps hcell (fun e => e)
          by_cases hltk : k < li
          · obtain ⟨x2, rfl, hc2, hwf⟩ := HROW.out.item hltk
            have hc2' := PP.out.c.c.keeps hc2 (fun e => e)
            obtain ⟨zv, hzv⟩ : ∃ zv, zi.getD k 0 = zv := ⟨_, rfl⟩
            rw [hzv] at hc2'
            have hkz : (k : Int) < (li : Int) := by omega
            have HC2 := Lib.hid hc2
            have HZV := Lib.hid hzv
            clear hwf hc2 hzv
            go_wp2_with fail
            refine (PP.out.p.push _ (by rw [part_len]; omega)).mono ?_
            rintro e w5 ⟨b, rfl, hb, h5, c5⟩
            have H5 := Lib.hid h5
            have C5 := Lib.hid c5
            have R5 := Lib.hid ((PP.out.c.r.kept c5 PP.out.rN).kept (S := Nil) ((Ch.refl Nil w5).alloc (Obj.cells #[.pointer (some ⟨b, 0, none⟩)] 35)) (fun _ _ e => e))
            clear h5 c5 hc' hc2'
            go_wp2_with (at_builtin; refine append_row _ rfl _ _ _ rfl 35 (.pointer none) 1 8 Try.underlying27 (by kernel_rfl) rfl (by omega) (by omega) rfl R5.out (by omega) w5.heap.size 1 [.pointer (some ⟨b, 0, none⟩)] 35 rfl rfl (heap_alloc_new w5 _) (by simp [Value.oneCell']) (ptrN (upd nb (q + k) b)) (fun i hi => by dsimp only [ptrN]; rw [upd_other _ _ _ _ (by omega)]) (by intro j u hu; obtain rfl : j = 0 := (by cases j; rfl; simp at hu); simp at hu; subst hu; simp [ptrN, upd_same]) _ rfl ?_)
            intro g cap6 w6 row6 ch6 at6 lt6
            have c6 : Ch (OwnS an) w5 w6 := (((Ch.refl Nil w5).alloc _).mono (fun _ _ e => e.elim)).trans ch6
            have tot : Ch Nil w w6 := (PP.out.c.c.up C5.out PP.out.high).up c6 PP.out.c.hr
            have hc3 := tot.keeps hcell (fun e => e)
            have hc4 := tot.keeps HC2.out (fun e => e)
            rw [HZV.out] at hc4
            have G6 := Lib.hid ((PP.out.c.g.kept C5.out PP.out.rW).kept c6 (fun j hj e => (PP.out.c.dr j e).2.2.2 hj))
            have R7 := Lib.hid (G6.out.kept (S := Nil) ((Ch.refl Nil w6).alloc (Obj.cells #[.int .i64 zv] 3)) (fun _ _ e => e))
            have AT6 := Lib.hid at6
            have ROW6 := Lib.hid row6
            have C6 := Lib.hid c6
            clear ch6 row6 at6 R5 c6 tot
            have T1 : ∀ i, i < (q + k) * 1 → (fun i => Value.int .i64 (upd zz (q + k) zv i)) i = (fun i => Value.int .i64 (zz i)) i := by
              intro i hi; simp only; rw [upd_other _ _ _ _ (by omega)]
            have T2 : ∀ j u, [Value.int .i64 zv][j]? = some u → (fun i => Value.int .i64 (upd zz (q + k) zv i)) ((q + k) * 1 + j) = u := by
              intro j u hu; obtain rfl : j = 0 := (by cases j; rfl; simp at hu); simp at hu; subst hu; simp [upd_same]
            have HT1 := Lib.hid T1
            have HT2 := Lib.hid T2
            clear T1 T2
            go_wp2_with (at_builtin; refine append_row _ rfl _ _ _ rfl 3 (.int .i64 0) 1 8 Try.underlying29 (by kernel_rfl) rfl (by omega) (by omega) rfl (show Row _ 3 1 aw (q + k) cw (fun i => .int .i64 (zz i)) from R7.out) (by omega) w6.heap.size 1 [.int .i64 zv] 3 rfl rfl (heap_alloc_new w6 _) (by simp [Value.oneCell']) (fun i => .int .i64 (upd zz (q + k) zv i)) HT1.out HT2.out _ rfl ?_)
            intro g' cap7 w7 row7 ch7 at7 lt7
            have c7 : Ch (OwnS aw) w6 w7 := (((Ch.refl Nil w6).alloc _).mono (fun _ _ e => e.elim)).trans ch7
            have FIN := Lib.hid (PP.out.more hb H5.out C5.out C6.out ROW6.out AT6.out (by simp) lt6 c7 row7 at7 (by simp))
            clear ch7 row7 at7 lt7 c7 R7 hc3 hc4
            go_wp2
            go_roundw
            case rel => exact ⟨k + 1, _, _, _, _, _, _, _, by omega, by go_num, rfl, rfl, FIN.out⟩
            case measure => simp [intOf]; omega
          · obtain rfl : li = k := by omega
            go_wp2_with fail
            refine (PP.out.l.splice PP.out.p PP.out.apart (by rw [firsts_len, part_len]; omega)).mono ?_
            rintro e w5 ⟨rfl, l5, p5, c5⟩
            rw [firsts_part] at l5
            have L5 := Lib.hid l5
            have P5 := Lib.hid p5
            have K5 := Lib.hid (PP.out.c.kept c5 (by rintro (e | e); exact PP.out.c.apO (q := q) (by omega) e; exact PP.out.apO e) (by rintro j hj (e | e); exact PP.out.c.apR (q := q) (by omega) j hj e; exact PP.out.rN j hj e) (by rintro j hj (e | e); exact PP.out.c.apW (q := q) (by omega) j hj e; exact PP.out.rW j hj e) (by rintro j (e | e); exact PP.out.c.high (q := q) (by omega) j e; exact PP.out.high j e))
            clear l5 p5 c5 hc'
            go_wp2_with fail
            refine (LI.len_of pb 0 _ P5.out.h.n).mono ?_
            rintro e w6 ⟨rfl, rfl⟩
            go_wp2_with fail
            refine (P5.out.push 7 (by simp)).mono ?_
            rintro e w6 ⟨y, rfl, hy, p6, c6⟩
            have npb : ∀ j, LB pb [] j → j = pb := by rintro j (e | e); exact e; cases e
            have L6 := Lib.hid (L5.out.kept c6 (fun j hj e => by
              have := npb j e; subst this
              rcases hj with e' | hm
              · exact PP.out.pl e'
              · obtain ⟨i, hi, e'⟩ := firsts_mem.1 hm; exact PP.out.pn i (by omega) e'.symm))
            have K6 := Lib.hid (K5.out.kept c6 (fun e => PP.out.po (npb _ e).symm) (fun j hj e => PP.out.pr (npb _ e ▸ hj)) (fun j hj e => PP.out.pw (npb _ e ▸ hj)) (fun j e => (npb _ e).symm ▸ PP.out.hp))
            have P6 : Hid (IsL w6 pb [y] (upd V y 7)) := Lib.hid p6
            clear p6 c6 npb
            have hpl := PP.out.pl
            clear PP L5 K5 P5
            go_wp2_with fail
            refine (has_yes pb y _ (P6.out.n 0 y rfl).l P6.out.h.k).mono ?_
            rintro e w7 ⟨rfl, rfl⟩
            go_wp2_with fail
            refine (has_no lb y (some pb) _ (P6.out.n 0 y rfl).l L6.out.h.k (fun x e => by cases e; exact P6.out.h.k) (fun e => hpl (by cases e; rfl))).mono ?_
            rintro e w7 ⟨rfl, rfl⟩
            go_wp2_with fail
            refine (LI.len_of pb 1 _ P6.out.h.n).mono ?_
            rintro e w7 ⟨rfl, rfl⟩
            go_wp2
            go_roundw
            case rel => exact ⟨u + 1, q + li, _, _, _, _, _, _, _, by omega, by omega, by go_num, rfl, rfl, L6.out, K6.out⟩
            case measure => simp [intOf]; omega
    · obtain rfl : len = u := by omega
      go_wp2_with fail
      refine (LL.out.all (by rw [firsts_len]; omega)).mono ?_
      rw [firsts_len]
      rintro e w5 ⟨r5, c5', rfl, row5, own5, c5⟩
      have R5 : Hid (RowI w5 r5 q c5' zz) := Lib.hid (KK.out.ints (by rw [firsts_len]; exact row5))
      have K5 := Lib.hid (KK.out.nil c5)
      have L5 := Lib.hid (LL.out.kept c5 (fun _ _ e => e))
      clear row5 own5 c5 LL KK
      go_wp2_with fail
      refine (ints_same R5.out K5.out.g (by omega)).mono ?_
      rintro e w6 ⟨rfl, c6⟩
      have K6 := Lib.hid (K5.out.nil c6)
      have L6 := Lib.hid (L5.out.kept c6 (fun _ _ e => e))
      clear c6 K5 L5 R5
      go_wp2_with fail
      refine (LI.len_of lb q _ (by have := L6.out.h.n; rwa [firsts_len] at this)).mono ?_
      rintro e w7 ⟨rfl, rfl⟩
      have hqq : ((q : Int) != (q : Int)) = false := by simp
      by_cases hq0 : q = 0
      · subst hq0
        go_wp2
        go_ret
        exact ⟨rfl, K6.out.c.below (Nat.le_refl _) (fun _ _ h => h.elim)⟩
      · have hqz : ((q : Int) == 0) = false := by rw [beq_eq_false_iff_ne]; omega
        obtain ⟨kn, hkn, hkl⟩ := mod_u8 (n := q) ht0 (by omega)
        have HKN := Lib.hid hkn
        clear hkn
        go_upto_region 31 with (fail)
        rw [HKN.out]
        clear HKN
        obtain ⟨gn, rfl, -⟩ := K6.out.r.form (by omega)
        have lc := K6.out.r.len_cap
        have qn : w6.cell? ⟨gn, kn, none⟩ = some (.pointer (some ⟨nb kn, 0, none⟩)) := K6.out.r.cell kn (by omega)
        have hkz : (kn : Int) < (q : Int) := by omega
        have hnode := L6.out.n kn (nb kn) (firsts_get nb hkl)
        have HN := Lib.hid hnode
        clear hnode
        go_wp2_with fail
        refine (LI.unlink_none ob (nb kn) (some lb) _ HN.out.l K6.out.o.h.k (fun x e => by cases e; exact L6.out.h.k) (fun e => K6.out.ol (by cases e; rfl))).mono ?_
        rintro e w7 ⟨rfl, rfl⟩
        go_wp2_with fail
        refine (L6.out.unlink (i := kn) (b := nb kn) (firsts_get nb hkl) (by rw [firsts_len]; omega)).mono ?_
        rintro e w7 ⟨rfl, l7, n7, c7⟩
        have L7 := Lib.hid l7
        have N7 := Lib.hid n7
        have qn7 := c7.keeps qn (fun e => K6.out.apR (q := q) (Nat.le_refl _) gn rfl e)
        have C7 := Lib.hid (K6.out.c.up c7 (K6.out.high (q := q) (Nat.le_refl _)))
        clear l7 n7 c7 qn
        go_wp2_with fail
        refine (LI.unlink_none lb (nb kn) none _ N7.out.l L7.out.h.k (fun x e => by cases e) (by simp)).mono ?_
        rintro e w8 ⟨rfl, rfl⟩
        go_wp2_with fail
        refine (LI.len_of lb (q - 1) _ (by have := L7.out.h.n; rwa [List.length_eraseIdx_of_lt (by rw [firsts_len]; exact hkl), firsts_len] at this)).mono ?_
        rintro e w8 ⟨rfl, rfl⟩
        have hq1 : ((q - 1 : Nat) : Int) = (q : Int) - 1 := by omega
        rw [hq1]
        clear hq1
        go_wp2
        go_ret
        exact ⟨rfl, C7.out.below (Nat.le_refl _) (fun _ _ h => h.elim)⟩

theorem ListSplices_own : ownKnob Try.prog.godebug = none := by kernel_rfl
theorem ListSplices_laidOut : laidOutB Try.prog = true := by kernel_rfl

set_option maxRecDepth 100000 in
theorem ListSplices_lifted (os : Os) (started : os.Started) (H : Type) (enc : TypeId × Value → H) :
    ReturnsInHanded {} Try.checked os 5 .any (Rows.listSplicesSpec.pre6 enc Try.prog Try.f5 Rows.listSplicesRow.domain false) (Rows.listSplicesSpec.post enc Try.prog Try.f5 false true false false) := by
  refine returnsInHanded_of_change (C := Try.checked) ListSplices_own started (by kernel_rfl) Try.func5
    (ChangeSpec.witness6 (enc := enc) (C := Try.checked) false ⟨#[], #[.slice none 0 0, .int .u8 0], []⟩ 8 (by kernel_rfl) (by kernel_rfl) (by kernel_rfl) (by kernel_rfl)) ?_
  intro W base args ds gs before hval0 hW hcnd _
  have hval : ∀ (j : Nat) t v, Try.f5.params[j]? = some t → args[j]? = some v → Value.okWide Try.prog W .any base t v := hval0
  have hW' := hW
  obtain ⟨p, q, hA0, hV, rfl, hfz, hnd⟩ := hW
  have hA : DataW.TrodAll enc Try.prog W 0 (fun _ => true) true Try.f5.params.toList args.toList ds p := hA0
  rw [Try.params5] at hA hval
  obtain ⟨v0, vs0, d0, ds0, p0, q0, hargs, rfl, rfl, h0, r0⟩ := trodAll_cons hA
  obtain ⟨v1, vs1, d1, ds1, p1, q1, rfl, rfl, rfl, h1, r1⟩ := trodAll_cons r0
  obtain ⟨rfl, rfl, rfl⟩ := trodAll_nil r1
  obtain rfl : args = #[v0, v1] := by cases args; simp_all
  obtain ⟨rfl, rfl⟩ := trodVars_none hV
  obtain ⟨a0, len0, cap0, rfl⟩ := okWide_slice Try.underlying54 (hval 0 54 v0 rfl rfl)
  have k0 := h0
  have lt0 : ∀ x ∈ p0, x.block < W.heap.size := by obtain ⟨m, hm⟩ := k0; exact DataW.trod_lt m _ _ _ hm
  have w0 : IsRows .i64 W a0 len0 cap0 := by
    obtain ⟨fuel, hf⟩ := h0
    exact open_rows Try.underlying54 Try.underlying29 Try.underlying3 (by kernel_rfl) (by kernel_rfl) hf
  obtain ⟨a1, rfl, rfl, rfl, w1⟩ := open_int Try.underlying5 (hval 1 5 v1 rfl rfl) h1
  clear hA0 hval0
  refine (ListSplices_walk a0 len0 cap0 a1 w1 W w0).mono fun e W' ⟨he, bel⟩ => ?_
  subst he
  exact ⟨_, rfl, _, _, _, [], _, [], hW', trodAll_mk1 (shut_bool Try.underlying4 _), (trodAll_cons_mk (Below.trod ListSplices_laidOut (by kernel_rfl) (of_decide_eq_true (by kernel_rfl)) k0 bel lt0) (trodAll_cons_mk (shut_int Try.underlying5 w1) trodAll_mk0)), rfl, bel.frame _, fun h => by cases h⟩

theorem listSplices_holds : Rows.ListSplicesSaid :=
  OpenClaim.holds_of_wide 5 Try.f5 rfl rfl rfl rfl rfl rfl rfl ⟨rfl, rfl, rfl, rfl, rfl⟩ rfl rfl rfl rfl rfl (by kernel_rfl) Try.func5 (by kernel_rfl)
    (of_decide_eq_true (by kernel_rfl)) (by unfold Func.isWrapper; rw [if_neg (of_decide_eq_false (by kernel_rfl))]; exact ⟨rfl, rfl⟩)
    (fun os started H enc _ => ListSplices_lifted os started H enc)
end Go.Proofs.Ytfofiheoebchmaa
