/-
  Proved: for every v, at and to the statement ListValues returns true: a node's value, changed by whoever has it, is what the list tells, and lists told are one's own; and nothing that was there is changed. Conditions: none.
-/
import Derived.Test.YtfofiheoebchmaaListPush
import Derived.Test.YtfofiheoebchmaaIsRow
import Derived.Test.YtfofiheoebchmaaHeld
import Derived.Deep.Cut
import Derived.Deep.CutRange
import Derived.Deep.CutBlock
import Derived.ProofKit
import Derived.OpenShut
import Derived.ChangeOld
import Derived.Below
namespace Go.Proofs.Ytfofiheoebchmaa
open Go.ChangeShapes Go.WideShapes Go.ChangeAt Go.RowKit Verge LI
set_option linter.unusedVariables false
set_option linter.unusedSimpArgs false
attribute [local go_sem] Oper.semAt_some

set_option maxRecDepth 100000 in
set_option maxHeartbeats 1600000 in
theorem ListValues_walk (a : Option Addr) (len cap : Nat) (zs : List Int) (t tv : Int) (wt : (Lit.int .u8 t).wf = true) (wo : (Lit.int .i64 tv).wf = true) (w : World) (hv : IsRow .i64 w a len cap zs) :
    Calls Try.prog 7 #[.slice a len cap, .int .u8 t, .int .i64 tv] w fun e w' => e = .returned (.bool true) ∧ Below w.heap.size w w' := by
  clear wo
  have hsm := hv.small
  have HV := Lib.hid hv
  clear hv
  go_enter Try.func7, Try.ntmps7
  go_wp2_with fail
  refine (alive_any _).mono ?_
  rintro e w1 ⟨rfl, c1⟩
  have C1 := Lib.hid c1
  clear c1
  by_cases h0 : len = 0
  · subst h0
    go_wp2
    go_ret
    exact ⟨rfl, C1.out.below (Nat.le_refl _) (fun _ _ h => h.elim)⟩
  by_cases h200 : 200 < len
  · have hz : ((len : Int) == 0) = false := by rw [beq_eq_false_iff_ne]; omega
    go_wp2
    go_ret
    exact ⟨rfl, C1.out.below (Nat.le_refl _) (fun _ _ h => h.elim)⟩
  have hz : ((len : Int) == 0) = false := by rw [beq_eq_false_iff_ne]; omega
  have hz2 : (len : Int) ≤ 200 := by omega
  go_wp2_with fail
  refine (LI.new_of _ (fun _ => 0)).mono ?_
  rintro e w2 ⟨lb, rfl, hlb, h2, c2⟩
  have s1 := C1.out.size
  have P2 := Lib.hid (pushed_new (w := w) (zs := fun i => zs.getD i 0) h2 (by omega) (C1.out.up c2 (fun _ e => e.elim)) (fun _ => 0))
  clear h2 c2
  go_wp2
  go_loopw [8, 9, 10] (fun n i _ wr => ∃ (k : Nat) (nb : Nat → Nat) (V : Nat → Int) (ar : Option Addr) (cr : Nat), k ≤ len ∧ i = .int .i64 k ∧ n = .slice ar k cr ∧ Pushed w wr lb k nb V (fun i => zs.getD i 0) ar cr) (fun _ i _ _ => len - (intOf i).toNat)
  case atStart => exact ⟨0, _, _, none, 0, by omega, rfl, rfl, P2.out⟩
  case round =>
    obtain ⟨k, nb, V, ar, cr, hk, rfl, rfl, hp⟩ := hrel
    have HP := Lib.hid hp
    clear hp
    by_cases hlt : k < len
    · obtain ⟨x, rfl, hc, hwf⟩ := HV.out.item hlt
      have hc' := HP.out.c.keeps hc (fun e => e)
      have hkz : (k : Int) < (len : Int) := by omega
      clear hc
      go_wp2_with fail
      refine (HP.out.l.push _ (by rw [firsts_len]; omega)).mono ?_
      rintro e w5 ⟨b, rfl, hb, h5, c5⟩
      have H5 := Lib.hid h5
      have C5 := Lib.hid c5
      have R5 := Lib.hid ((HP.out.r.kept c5 HP.out.ap).kept (S := Nil) ((Ch.refl Nil w5).alloc (Obj.cells #[.pointer (some ⟨b, 0, none⟩)] 35)) (fun _ _ e => e))
      clear h5 c5 hc'
      go_wp2_with (at_builtin; refine append_row _ rfl _ _ _ rfl 35 (.pointer none) 1 8 Try.underlying27 (by kernel_rfl) rfl (by omega) (by omega) rfl R5.out (by omega) w5.heap.size 1 [.pointer (some ⟨b, 0, none⟩)] 35 rfl rfl (heap_alloc_new w5 _) (by simp [Value.oneCell']) (ptrN (upd nb k b)) (fun i hi => by dsimp only [ptrN]; rw [upd_other _ _ _ _ (by omega)]) (by intro j u hu; obtain rfl : j = 0 := (by cases j; rfl; simp at hu); simp at hu; subst hu; simp [ptrN, upd_same]) _ rfl ?_)
      intro g cap6 w6 row6 ch6 at6 lt6
      have c6 : Ch (OwnS ar) w5 w6 := (((Ch.refl Nil w5).alloc _).mono (fun _ _ e => e.elim)).trans ch6
      have FIN := Lib.hid (HP.out.more hb H5.out C5.out c6 row6 at6 (by simp))
      clear ch6 row6 at6 lt6 R5 c6
      go_wp2
      go_roundw
      case rel => exact ⟨k + 1, _, _, _, _, by omega, by go_num, rfl, FIN.out⟩
      case measure => simp [intOf]; omega
    · obtain rfl : len = k := by omega
      obtain ⟨x, rfl, hc, -⟩ := HV.out.item (i := 0) (by omega)
      clear hc
      obtain ⟨ht0, ht1⟩ := bounds_u8 wt
      obtain ⟨kn, hkn, hkl⟩ := mod_u8 (n := len) ht0 (by omega)
      have HKN := Lib.hid hkn
      clear hkn
      go_upto_region 17 with (fail)
      rw [HKN.out]
      clear HKN wt
      have hcs : ∀ j, j < len → (wr.alloc (.cells #[] 3)).cell? (x.add j) = some (.int .i64 (zs.getD j 0)) := by
        intro j hj
        obtain ⟨x', hx', hc, -⟩ := HV.out.item hj
        cases hx'
        exact ((HP.out.c.up (S := Nil) ((Ch.refl _ _).alloc (.cells #[] 3)) (fun _ e => e.elim))).keeps hc (fun e => e)
      have HCS := Lib.hid hcs
      clear hcs
      go_wp2_with (at_builtin; refine append_ints _ rfl _ _ _ rfl 3 Try.underlying29 (by kernel_rfl) rfl (rowI_empty wr (fun _ => 0)) x len cap (fun i => zs.getD i 0) rfl (by omega) (by omega) HCS.out _ rfl ?_)
      intro g cap4 w4 row4 ch4 at4 lt4
      have hg : wr.heap.size ≤ g := by
        rcases at4 with h | h
        · cases h; exact Nat.le_refl _
        · rw [h]; simp
      have c4 : Ch (OwnS (some ⟨wr.heap.size, 0, none⟩)) wr w4 := (((Ch.refl Nil wr).alloc _).mono (fun _ _ e => e.elim)).trans ch4
      have lowr : ∀ j, LB lb (firsts nb len) j → j < wr.heap.size := fun j hj => HP.out.l.lt hj
      have lown : ∀ j, OwnS ar j → j < wr.heap.size := fun j hj => HP.out.r.lt j hj
      have p4 : Pushed w w4 lb len nb V (fun i => zs.getD i 0) ar cr := HP.out.kept c4 (fun j hj e => by cases e; have := lowr _ hj; simp at this) (fun j hj e => by cases e; have := lown _ hj; simp at this) (fun j e => by cases e; exact HP.out.c.size)
      have hbk : nb kn < wr.heap.size := lowr _ (.inr (firsts_mem.2 ⟨kn, hkl, rfl⟩))
      obtain ⟨gn, rfl, hgn⟩ := p4.r.form (by omega)
      have hgn2 : gn < wr.heap.size := lown gn rfl
      have hgb : gn ≠ nb kn := fun e => p4.ap gn rfl (.inr (firsts_mem.2 ⟨kn, hkl, e.symm⟩))
      have q1 : w4.cell? ⟨g, kn, none⟩ = some (.int .i64 (zs.getD kn 0)) := row4.cell kn (by omega)
      have q2 := row4.frozen kn
      have q3 : w4.cell? ⟨gn, kn, none⟩ = some (.pointer (some ⟨nb kn, 0, none⟩)) := p4.r.cell kn (by omega)
      have q4 := (p4.l.n kn (nb kn) (firsts_get nb hkl)).v
      have q5 := (p4.l.n kn (nb kn) (firsts_get nb hkl)).k.fz 0
      have lc1 := row4.len_cap
      have lc2 := p4.r.len_cap
      have e1 : gn ≠ g := by omega
      have e2 : nb kn ≠ g := by omega
      have e3 : g ≠ gn := fun e => e1 e.symm
      have e4 : g ≠ nb kn := fun e => e2 e.symm
      have P5 := Lib.hid ((p4.kept (S := One g) ((Ch.refl _ _).setB kn (.int .i64 tv)) (fun j hj e => by have := lowr j hj; omega) (fun j hj e => by have := lown j hj; omega) (fun j e => by have := HP.out.c.size; omega)).setv hkl tv)
      have R5 : Hid (RowI ((w4.setCell ⟨g, kn, none⟩ (.int .i64 tv)).setCell ⟨nb kn, 0, none⟩ (.int .i64 tv)) (some ⟨g, 0, none⟩) len cap4 (upd (fun i => zs.getD i 0) kn tv)) :=
        ((RowI.set row4 hkl tv).kept (S := One (nb kn)) ((Ch.refl _ _).setB 0 _) (fun j hj e => by cases hj; exact e4 e))
      have hkz : (kn : Int) < (len : Int) := by omega
      clear row4 ch4 at4 c4 p4 HCS
      go_wp2_with fail
      generalize (w4.setCell ⟨g, kn, none⟩ (.int .i64 tv)).setCell ⟨nb kn, 0, none⟩ (.int .i64 tv) = w5 at *
      clear q1 q2 q3 q4 q5 lc1 lc2
      refine (P5.out.all (by omega)).mono ?_
      rintro e w6 ⟨r6, cap6, rfl, row6, own6, p6, c6⟩
      have P6 := Lib.hid p6
      have R6 := Lib.hid row6
      have W6 := Lib.hid (R5.out.kept c6 (fun _ _ e => e))
      have G5 : g < w5.heap.size := R5.out.lt g rfl
      have OW6 := Lib.hid own6
      clear row6 own6 p6 c6
      go_wp2_with fail
      refine (ints_same R6.out W6.out (by omega)).mono ?_
      rintro e w7 ⟨rfl, c7⟩
      have P7 := Lib.hid (P6.out.kept c7 (fun _ _ e => e) (fun _ _ e => e) (fun _ e => e.elim))
      have R7 := Lib.hid (R6.out.kept c7 (fun _ _ e => e))
      have W7 := Lib.hid (W6.out.kept c7 (fun _ _ e => e))
      clear c7
      obtain ⟨g6, rfl, -⟩ := R7.out.form (by omega)
      have q1 : w7.cell? ⟨g6, kn, none⟩ = some (.int .i64 (upd (fun i => zs.getD i 0) kn tv kn)) := R7.out.cell kn (by omega)
      rw [upd_same] at q1
      have q2 := R7.out.frozen kn
      have lc := R7.out.len_cap
      go_upto_region 24 with (fail)
      have hg6 : w5.heap.size ≤ g6 := OW6.out g6 rfl
      have c8 : Ch (One g6) w7 (w7.setCell ⟨g6, kn, none⟩ (.int .i64 (wrap64 (tv + 1)))).drew := ((Ch.refl _ _).setB kn _).drew
      have low5 : ∀ j, LB lb (firsts nb len) j → j < w5.heap.size := fun j hj => P5.out.l.lt hj
      have P8 := Lib.hid (P7.out.kept c8 (fun j hj e => by have := low5 j hj; omega) (fun j hj e => by have := P5.out.r.lt j hj; omega) (fun j e => by have := P5.out.c.size; omega))
      have W8 := Lib.hid (W7.out.kept c8 (fun j hj e => by cases hj; have e' : g = g6 := e; omega))
      have hpos : 0 < len := by omega
      have hn0 : nb 0 ∈ firsts nb len := firsts_mem.2 ⟨0, hpos, rfl⟩
      have hfst : ∀ (W : World) (U F : Nat → Int), Pushed w W lb len nb U F (some ⟨gn, 0, none⟩) cr → W.cell? ⟨gn, 0, none⟩ = some (.pointer (some ⟨nb 0, 0, none⟩)) ∧ (binOp .eql 35 (.pointer (some ⟨nb 0, 0, none⟩)) (.pointer (some ⟨nb 0, 0, none⟩))).run Try.prog W = .ok (.bool true) W := by
        intro W U F h
        refine ⟨h.r.cell 0 (by omega), ?_⟩
        have hE := LI.eqlN (w := W) (some (nb 0)) (some (nb 0)) (fun x e => by cases e; exact h.l.blk (.inr hn0)) (fun x e => by cases e; exact h.l.blk (.inr hn0))
        rw [decide_eq_true rfl] at hE
        simpa only [pt_some] using hE
      have HF := Lib.hid hfst
      clear q1 q2 lc c8 hfst
      refine wp_region_held_drew (S := fun w' => w'.cell? ⟨gn, 0, none⟩ = some (.pointer (some ⟨nb 0, 0, none⟩)) ∧ (binOp .eql 35 (.pointer (some ⟨nb 0, 0, none⟩)) (.pointer (some ⟨nb 0, 0, none⟩))).run Try.prog w' = .ok (.bool true) w') (by kernel_rfl) (HF.out _ _ _ P8.out) (fun hHeld => ?_)
      generalize (w7.setCell ⟨g6, kn, none⟩ (.int .i64 (wrap64 (tv + 1)))).drew = w8 at *
      refine take_at (v := ?_) 0 (some 76) rfl (by kernel_rfl) (by kernel_rfl) (by kernel_rfl) (by kernel_rfl) (fun _ _ _ h => h) (Or.inl ⟨by rfl, ?_⟩) (by assumption) ?_
      rotate_left
      · intro w hSw; (try dsimp only at hSw); go_simp; try (with_reducible rfl)
      (try simp only [Act.put, List.setIfInBounds_toArray, List.set_cons_zero, List.set_cons_succ])
      refine take_at (v := ?_) 2 (some 78) rfl (by kernel_rfl) (by kernel_rfl) (by kernel_rfl) (by kernel_rfl) (fun _ _ _ h => h) (Or.inl ⟨by rfl, ?_⟩) (by assumption) ?_
      rotate_left
      · intro w hSw; (try dsimp only at hSw); go_simp; try (with_reducible rfl)
      (try simp only [Act.put, List.setIfInBounds_toArray, List.set_cons_zero, List.set_cons_succ])
      refine wpAnyH_ready (rs := [1]) (by kernel_rfl) (by simp) ?_
      refine AllReadyH.cons rfl (fun K' hK => ?_) AllReadyH.nil
      go_simp
      refine (P8.out.all (by omega)).mono ?_
      rintro e w9 ⟨r9, cap9, rfl, row9, own9, p9, c9⟩
      have P9 := Lib.hid p9
      have R9 := Lib.hid row9
      have W9 := Lib.hid (W8.out.kept c9 (fun _ _ e => e))
      clear hHeld
      refine hK.out _ _ (HF.out _ _ _ p9) (fun hHeld => ?_)
      clear hK K' row9 own9 p9 c9
      (try simp only [Act.put, List.setIfInBounds_toArray, List.set_cons_zero, List.set_cons_succ])
      refine wpAnyH_ready (rs := [3]) (by kernel_rfl) (by simp) ?_
      refine AllReadyH.cons rfl (fun K' hK => ?_) AllReadyH.nil
      go_simp
      refine (ints_same R9.out W9.out (by omega)).mono ?_
      rintro e w10 ⟨rfl, c10⟩
      have p10 := P9.out.kept c10 (fun _ _ e => e) (fun _ _ e => e) (fun _ e => e.elim)
      have P10 := Lib.hid p10
      have W10 := Lib.hid (W9.out.kept c10 (fun _ _ e => e))
      clear hHeld
      refine hK.out _ _ (HF.out _ _ _ p10) (fun hHeld => ?_)
      clear hK K' c10 p10
      (try simp only [Act.put, List.setIfInBounds_toArray, List.set_cons_zero, List.set_cons_succ])
      refine take_at (v := ?_) 4 (some 80) rfl (by kernel_rfl) (by kernel_rfl) (by kernel_rfl) (by kernel_rfl) (fun _ _ _ h => h) (Or.inl ⟨by rfl, ?_⟩) (by assumption) ?_
      rotate_left
      · intro w hSw; (try dsimp only at hSw); go_simp; try (with_reducible rfl)
      (try simp only [Act.put, List.setIfInBounds_toArray, List.set_cons_zero, List.set_cons_succ])
      refine take_at (v := ?_) 5 (some 81) rfl (by kernel_rfl) (by kernel_rfl) (by kernel_rfl) (by kernel_rfl) (fun _ _ _ h => h) (Or.inl ⟨by rfl, ?_⟩) (by assumption) ?_
      rotate_left
      · intro w hSw; (try dsimp only at hSw); go_simp; try (with_reducible rfl)
      (try simp only [Act.put, List.setIfInBounds_toArray, List.set_cons_zero, List.set_cons_succ])
      refine take_at (v := ?_) 7 (some 83) rfl (by kernel_rfl) (by kernel_rfl) (by kernel_rfl) (by kernel_rfl) (fun _ _ _ h => h) (Or.inl ⟨by rfl, ?_⟩) (by assumption) ?_
      rotate_left
      · intro w hSw; (try dsimp only at hSw); go_simp; try (with_reducible rfl)
      (try simp only [Act.put, List.setIfInBounds_toArray, List.set_cons_zero, List.set_cons_succ])
      refine take_at (v := ?_) 8 (some 84) rfl (by kernel_rfl) (by kernel_rfl) (by kernel_rfl) (by kernel_rfl) (fun _ _ _ h => h) (Or.inl ⟨by rfl, ?_⟩) (by assumption) ?_
      rotate_left
      · intro w hSw; (try dsimp only at hSw); go_simp; try (with_reducible rfl)
      (try simp only [Act.put, List.setIfInBounds_toArray, List.set_cons_zero, List.set_cons_succ])
      refine take_at (v := ?_) 9 (some 85) rfl (by kernel_rfl) (by kernel_rfl) (by kernel_rfl) (by kernel_rfl) (fun _ _ _ h => h) (Or.inl ⟨by rfl, ?_⟩) (by assumption) ?_
      rotate_left
      · intro w hSw; (try dsimp only at hSw); go_simp; try (with_reducible rfl)
      (try simp only [Act.put, List.setIfInBounds_toArray, List.set_cons_zero, List.set_cons_succ])
      refine wpAnyH_ready (rs := [6]) (by kernel_rfl) (by simp) ?_
      refine AllReadyH.cons rfl (fun K' hK => ?_) AllReadyH.nil
      go_simp
      refine (LI.first_of lb (some (nb 0)) _ (by have := P10.out.l.h.f; rwa [firsts_get nb hpos] at this)).mono ?_
      simp only [pt_some]
      rintro e w11 ⟨rfl, rfl⟩
      refine hK.out _ _ hHeld (fun hHeld2 => ?_)
      clear hK K' hHeld2
      (try simp only [Act.put, List.setIfInBounds_toArray, List.set_cons_zero, List.set_cons_succ])
      refine take_at (v := ?_) 10 (some 86) rfl (by kernel_rfl) (by kernel_rfl) (by kernel_rfl) (by kernel_rfl) (fun _ _ _ h => h) (Or.inl ⟨by rfl, ?_⟩) (by assumption) ?_
      rotate_left
      · intro w hSw; (try dsimp only at hSw); go_simp; try (with_reducible rfl)
      (try simp only [Act.put, List.setIfInBounds_toArray, List.set_cons_zero, List.set_cons_succ])
      refine take_at (v := ?_) 11 (some 87) rfl (by kernel_rfl) (by kernel_rfl) (by kernel_rfl) (by kernel_rfl) (fun _ _ _ h => h) (Or.inl ⟨by rfl, ?_⟩) (by assumption) ?_
      rotate_left
      · intro w hSw; (try dsimp only at hSw); go_simp; try (with_reducible rfl)
      (try simp only [Act.put, List.setIfInBounds_toArray, List.set_cons_zero, List.set_cons_succ])
      refine take_at (v := ?_) 12 (some 88) rfl (by kernel_rfl) (by kernel_rfl) (by kernel_rfl) (by kernel_rfl) (fun _ _ _ h => h) (Or.inl ⟨by rfl, ?_⟩) (by assumption) ?_
      rotate_left
      · intro w hSw; (try dsimp only at hSw); go_simp; try (with_reducible rfl)
      (try simp only [Act.put, List.setIfInBounds_toArray, List.set_cons_zero, List.set_cons_succ])
      refine take_at (v := ?_) 13 (some 89) rfl (by kernel_rfl) (by kernel_rfl) (by kernel_rfl) (by kernel_rfl) (fun _ _ _ h => h) (Or.inl ⟨by rfl, ?_⟩) (by assumption) ?_
      rotate_left
      · intro w hSw; (try dsimp only at hSw); go_simp; try (with_reducible rfl)
      (try simp only [Act.put, List.setIfInBounds_toArray, List.set_cons_zero, List.set_cons_succ])
      refine take_at (v := ?_) 15 (some 91) rfl (by kernel_rfl) (by kernel_rfl) (by kernel_rfl) (by kernel_rfl) (fun _ _ _ h => h) (Or.inl ⟨by rfl, ?_⟩) (by assumption) ?_
      rotate_left
      · intro w hSw; (try dsimp only at hSw); go_simp; try (with_reducible rfl)
      (try simp only [Act.put, List.setIfInBounds_toArray, List.set_cons_zero, List.set_cons_succ])
      refine wpAnyH_ready (rs := [14]) (by kernel_rfl) (by simp) ?_
      refine AllReadyH.cons rfl (fun K' hK => ?_) AllReadyH.nil
      go_simp
      refine (P10.out.drain (by omega)).mono ?_
      rintro e w11 ⟨r11, cap11, rfl, row11, own11, -, n11, cN, c11⟩
      have B11 := Lib.hid (n11 0 hpos).k
      have R11 := Lib.hid row11
      have CN := Lib.hid cN
      have W11 := Lib.hid (W10.out.kept c11 (fun j hj e => by cases hj; have e' : g < wr.heap.size := lowr g e; omega))
      refine hK.out _ _ ?_ (fun hHeld => ?_)
      · refine ⟨c11.keeps hHeld.1 (fun e => P10.out.ap gn rfl e), ?_⟩
        have hE := LI.eqlN (w := w11) (some (nb 0)) (some (nb 0)) (fun x e => by cases e; exact B11.out) (fun x e => by cases e; exact B11.out)
        rw [decide_eq_true rfl] at hE
        simpa only [pt_some] using hE
      clear hK K' row11 own11 cN c11 n11
      (try simp only [Act.put, List.setIfInBounds_toArray, List.set_cons_zero, List.set_cons_succ])
      refine wpAnyH_ready (rs := [16]) (by kernel_rfl) (by simp) ?_
      refine AllReadyH.cons rfl (fun K' hK => ?_) AllReadyH.nil
      go_simp
      refine (ints_same R11.out W11.out (by omega)).mono ?_
      rintro e w12 ⟨rfl, c12⟩
      have C12 := Lib.hid (CN.out.up c12 (fun _ e => e.elim))
      refine hK.out _ _ ?_ (fun hHeld2 => ?_)
      · refine ⟨c12.keeps hHeld.1 (fun e => e), ?_⟩
        have hE := LI.eqlN (w := w12) (some (nb 0)) (some (nb 0)) (fun x e => by cases e; exact B11.out.kept c12 (fun e => e)) (fun x e => by cases e; exact B11.out.kept c12 (fun e => e))
        rw [decide_eq_true rfl] at hE
        simpa only [pt_some] using hE
      clear hK K' c12 hHeld
      (try simp only [Act.put, List.setIfInBounds_toArray, List.set_cons_zero, List.set_cons_succ])
      refine take_at (v := ?_) 17 (some 93) rfl (by kernel_rfl) (by kernel_rfl) (by kernel_rfl) (by kernel_rfl) (fun _ _ _ h => h) (Or.inl ⟨by rfl, ?_⟩) (by assumption) ?_
      rotate_left
      · intro w hSw; (try dsimp only at hSw); go_simp; try (with_reducible rfl)
      (try simp only [Act.put, List.setIfInBounds_toArray, List.set_cons_zero, List.set_cons_succ])
      refine take_at (v := ?_) 18 (some 6) rfl (by kernel_rfl) (by kernel_rfl) (by kernel_rfl) (by kernel_rfl) (fun _ _ _ h => h) (Or.inl ⟨by rfl, ?_⟩) (by assumption) ?_
      rotate_left
      · intro w hSw; (try dsimp only at hSw); go_simp; try (with_reducible rfl)
      (try simp only [Act.put, List.setIfInBounds_toArray, List.set_cons_zero, List.set_cons_succ])
      refine wpAnyH_done (by kernel_rfl) ?_ _
      clear hHeld2
      go_wp2
      go_ret
      exact ⟨rfl, C12.out.below (Nat.le_refl _) (fun _ _ h => h.elim)⟩

theorem ListValues_own : ownKnob Try.prog.godebug = none := by kernel_rfl
theorem ListValues_laidOut : laidOutB Try.prog = true := by kernel_rfl

set_option maxRecDepth 100000 in
theorem ListValues_lifted (os : Os) (started : os.Started) (H : Type) (enc : TypeId × Value → H) :
    ReturnsInHanded {} Try.checked os 7 .any (Rows.listValuesSpec.pre6 enc Try.prog Try.f7 Rows.listValuesRow.domain false) (Rows.listValuesSpec.post enc Try.prog Try.f7 false true false false) := by
  refine returnsInHanded_of_change (C := Try.checked) ListValues_own started (by kernel_rfl) Try.func7
    (ChangeSpec.witness6 (enc := enc) (C := Try.checked) false ⟨#[], #[.slice none 0 0, .int .u8 0, .int .i64 0], []⟩ 8 (by kernel_rfl) (by kernel_rfl) (by kernel_rfl) (by kernel_rfl)) ?_
  intro W base args ds gs before hval0 hW hcnd _
  have hval : ∀ (j : Nat) t v, Try.f7.params[j]? = some t → args[j]? = some v → Value.okWide Try.prog W .any base t v := hval0
  have hW' := hW
  obtain ⟨p, q, hA0, hV, rfl, hfz, hnd⟩ := hW
  have hA : DataW.TrodAll enc Try.prog W 0 (fun _ => true) true Try.f7.params.toList args.toList ds p := hA0
  rw [Try.params7] at hA hval
  obtain ⟨v0, vs0, d0, ds0, p0, q0, hargs, rfl, rfl, h0, r0⟩ := trodAll_cons hA
  obtain ⟨v1, vs1, d1, ds1, p1, q1, rfl, rfl, rfl, h1, r1⟩ := trodAll_cons r0
  obtain ⟨v2, vs2, d2, ds2, p2, q2, rfl, rfl, rfl, h2, r2⟩ := trodAll_cons r1
  obtain ⟨rfl, rfl, rfl⟩ := trodAll_nil r2
  obtain rfl : args = #[v0, v1, v2] := by cases args; simp_all
  obtain ⟨rfl, rfl⟩ := trodVars_none hV
  obtain ⟨a0, len0, cap0, rfl⟩ := okWide_slice Try.underlying29 (hval 0 29 v0 rfl rfl)
  have k0 := h0
  have lt0 : ∀ x ∈ p0, x.block < W.heap.size := by obtain ⟨m, hm⟩ := k0; exact DataW.trod_lt m _ _ _ hm
  obtain ⟨z0, w0⟩ : ∃ zs, IsRow .i64 W a0 len0 cap0 zs := by
    obtain ⟨fuel, hf⟩ := h0
    rcases open_ints Try.underlying29 Try.underlying3 (by kernel_rfl) hf with ⟨hcs, _⟩ | ⟨x, l, c, zs, hcs, _, hl, hm, hz, _, hcell, hwz⟩
    · simp [Value.cells] at hcs
      obtain ⟨rfl, rfl, rfl⟩ := hcs
      exact ⟨[], .inl ⟨rfl, rfl, rfl, rfl⟩⟩
    · simp [Value.cells] at hcs
      obtain ⟨rfl, rfl, rfl⟩ := hcs
      exact ⟨zs, .inr ⟨_, rfl, hl, hm, by simpa using hz, hcell, hwz⟩⟩
  obtain ⟨a1, rfl, rfl, rfl, w1⟩ := open_int Try.underlying5 (hval 1 5 v1 rfl rfl) h1
  obtain ⟨a2, rfl, rfl, rfl, w2⟩ := open_int Try.underlying3 (hval 2 3 v2 rfl rfl) h2
  clear hA0 hval0
  refine (ListValues_walk a0 len0 cap0 z0 a1 a2 w1 w2 W w0).mono fun e W' ⟨he, bel⟩ => ?_
  subst he
  exact ⟨_, rfl, _, _, _, [], _, [], hW', trodAll_mk1 (shut_bool Try.underlying4 _), (trodAll_cons_mk (Below.trod ListValues_laidOut (by kernel_rfl) (of_decide_eq_true (by kernel_rfl)) k0 bel lt0) (trodAll_cons_mk (shut_int Try.underlying5 w1) (trodAll_cons_mk (shut_int Try.underlying3 w2) trodAll_mk0))), rfl, bel.frame _, fun h => by cases h⟩

theorem listValues_holds : Rows.ListValuesSaid :=
  OpenClaim.holds_of_wide 7 Try.f7 rfl rfl rfl rfl rfl rfl rfl ⟨rfl, rfl, rfl, rfl, rfl⟩ rfl rfl rfl rfl rfl (by kernel_rfl) Try.func7 (by kernel_rfl)
    (of_decide_eq_true (by kernel_rfl)) (by unfold Func.isWrapper; rw [if_neg (of_decide_eq_false (by kernel_rfl))]; exact ⟨rfl, rfl⟩)
    (fun os started H enc _ => ListValues_lifted os started H enc)
end Go.Proofs.Ytfofiheoebchmaa
