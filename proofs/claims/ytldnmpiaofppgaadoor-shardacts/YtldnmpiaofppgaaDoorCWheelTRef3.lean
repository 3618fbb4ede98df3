import Derived.Test.YtldnmpiaofppgaaDoorCWheelTRef2
import Derived.Test.YtldnmpiaofppgaaDoorK02
/-
  The document's wheel: Place.
-/
namespace Go.Proofs.YtldnmpiaofppgaaDoor
open Go.RowKit Verge Go.Proofs.YtldnmpiaofppgaaDoor.LT
attribute [local go_sem] Oper.semAt_some
set_option linter.unusedVariables false
set_option linter.unusedSimpArgs false
section
variable {S : Nat → Prop} {zc : Option Value} {w w' : World} {rb now : Nat} {l : List Dn} {ar : Option Addr} {cr : Nat} {x : Dn}
set_option maxHeartbeats 4000000 in
set_option maxRecDepth 100000 in
theorem refPlace_of (H : RefW zc w rb now l ar cr) (u : Int) (d : Nat) (hd : d < 18446744073709551616) (hn : now < 18446744073709551616) (hl : l.length ≤ 100000) :
    Calls Tryd.prog 33 #[.pointer (some ⟨rb, 0, none⟩), .int .i64 u, .int .u64 (d : Nat)] w fun e w' => (∃ r, e = .returned r) ∧ ∃ ar' cr', RefW zc w' rb now (l ++ [⟨u, d, spotN d now⟩]) ar' cr' ∧ (∀ k, OwnS ar' k → OwnS ar k ∨ w.heap.size ≤ k) ∧ Ch (RS rb ar) w w' := by
  have c0 := H.t
  have H0 := Lib.hid H
  have RLT := Lib.hid H.k.lt
  have ALT := Lib.hid (Row.lt H.r)
  obtain ⟨n, hln⟩ : ∃ n, n = l.length := ⟨_, rfl⟩
  have LEN := Lib.hid hln
  rw [← hln] at hl
  have AP := Lib.hid (refApart_any d now hd hn w)
  have DIG := Lib.hid (refDigits_any d hd)
  obtain ⟨s1, s2, s3⟩ := spot_hgt d now hd hn
  have hlt := ap_lt d now 11
  have hg : (hgt d now : Int) = max 0 (ap d now 11) := Int.toNat_of_nonneg (by omega)
  have V1 : Hid (∀ i, i < n * 4 → dval (l ++ [⟨u, d, spotN d now⟩]) i = dval l i) := Lib.hid fun i hi => dval_old (by rw [← LEN.out]; exact hi)
  have V0 := Lib.hid (dval_new (l := l) (x := ⟨u, d, spotN d now⟩))
  have DGL := Lib.hid (dg_lt d (hgt d now))
  generalize ap d now 11 = aa at *
  generalize hgt d now = h at *
  clear H hln
  go_enter Tryd.func33, Tryd.ntmps33
  go_wp2_with fail
  refine AP.out.mono ?_
  rintro e w1 ⟨rfl, b1⟩
  have C1 : Hid (Ch Nil w w1) := Lib.hid (Ch.of_below b1)
  have sz1 := b1.size
  clear b1 AP
  obtain ⟨bb, hbb⟩ : ∃ bb, bb = w1.heap.size := ⟨_, rfl⟩
  have NB : Hid (¬ OwnS ar bb) := Lib.hid fun e => by have := ALT.out bb e; omega
  have NRB : Hid (¬ bb = rb) := Lib.hid fun e => by have := RLT.out; omega
  have HBB := Lib.hid hbb
  have HBS : Hid (w.heap.size ≤ bb) := Lib.hid (by omega)
  by_cases h4 : 4 ≤ h
  · have ha : (4 : Int) ≤ aa := by omega
    have ha0 : ¬ aa < 0 := by omega
    have ha4 : ¬ aa < 4 := by omega
    have hs := s2 h4
    obtain ⟨lv, hlv⟩ : ∃ lv : Nat, lv = 4 := ⟨_, rfl⟩
    obtain ⟨sl, hsl⟩ : ∃ sl : Nat, sl = 0 := ⟨_, rfl⟩
    have V2 : Hid (∀ (j : Nat) (v : Value), ([.int .i64 u, .int .u64 (d : Nat), .int .i64 ((lv : Nat) : Int), .int .i64 ((sl : Nat) : Int)] : List Value)[j]? = some v → dval (l ++ [⟨u, d, spotN d now⟩]) (n * 4 + j) = v) := Lib.hid fun j v hv => by rw [LEN.out]; refine V0.out j v ?_; rw [hs, ← hv, hlv, hsl]
    obtain ⟨w5, hw5⟩ : ∃ w5, w5 = w1.alloc (.cells #[.int .i64 u, .int .u64 (d : Nat), .int .i64 4, .int .i64 0] 89) := ⟨_, rfl⟩
    have C5 : Hid (Ch Nil w w5) := Lib.hid (hw5 ▸ C1.out.alloc _)
    have H5 := Lib.hid (H0.out.kept C5.out (fun _ _ e => e))
    have BX : Hid ((w5.cell? ⟨bb, 0, none⟩ = some (.int .i64 u) ∧ w5.cell? ⟨bb, 1, none⟩ = some (.int .u64 (d : Nat))) ∧ w5.cell? ⟨bb, 2, none⟩ = some (.int .i64 ((lv : Nat) : Int)) ∧ w5.cell? ⟨bb, 3, none⟩ = some (.int .i64 ((sl : Nat) : Int))) := Lib.hid (by rw [hw5, hbb, hlv, hsl]; refine ⟨⟨?_, ?_⟩, ?_, ?_⟩ <;> (rw [cell_fresh]; rfl))
    have HW5 := Lib.hid hw5
    clear hw5 hbb hlv hsl hs s1 s2 c0
    go_upto_if 20 with (fail)
    rw [← HW5.out, ← HBB.out]
    clear HW5 HBB
    go_upto_region 7 with (fail)
    refine wp_region_held_drew (S := fun w' => (w'.cell? ⟨bb, 0, none⟩ = some (.int .i64 u) ∧ w'.cell? ⟨bb, 1, none⟩ = some (.int .u64 (d : Nat))) ∧ w'.cell? ⟨bb, 2, none⟩ = some (.int .i64 ((lv : Nat) : Int)) ∧ w'.cell? ⟨bb, 3, none⟩ = some (.int .i64 ((sl : Nat) : Int))) (by kernel_rfl) BX.out (fun hHeld => ?_)
    have HD := Lib.hid (H5.out.kept (S := Nil) (Ch.refl _ _).drew (fun _ _ e => e))
    have CD : Hid (Ch Nil w w5.drew) := Lib.hid C5.out.drew
    clear H5 C5 BX
    generalize w5.drew = X at hHeld HD CD ⊢
    have cX : Ch Nil X (X.alloc (.cells #[.int .i64 u, .int .u64 (d : Nat), .int .i64 ((lv : Nat) : Int), .int .i64 ((sl : Nat) : Int)] 89)) := (Ch.refl _ _).alloc _
    have c1 := HD.out.s
    rw [← LEN.out] at c1
    have c2 := cX.keeps c1 (fun e => e)
    have S2 : ((X.alloc (.cells #[.int .i64 u, .int .u64 (d : Nat), .int .i64 ((lv : Nat) : Int), .int .i64 ((sl : Nat) : Int)] 89)).cell? ⟨bb, 0, none⟩ = some (.int .i64 u) ∧ (X.alloc (.cells #[.int .i64 u, .int .u64 (d : Nat), .int .i64 ((lv : Nat) : Int), .int .i64 ((sl : Nat) : Int)] 89)).cell? ⟨bb, 1, none⟩ = some (.int .u64 (d : Nat))) ∧ (X.alloc (.cells #[.int .i64 u, .int .u64 (d : Nat), .int .i64 ((lv : Nat) : Int), .int .i64 ((sl : Nat) : Int)] 89)).cell? ⟨bb, 2, none⟩ = some (.int .i64 ((lv : Nat) : Int)) ∧ (X.alloc (.cells #[.int .i64 u, .int .u64 (d : Nat), .int .i64 ((lv : Nat) : Int), .int .i64 ((sl : Nat) : Int)] 89)).cell? ⟨bb, 3, none⟩ = some (.int .i64 ((sl : Nat) : Int)) := ⟨⟨cX.keeps hHeld.1.1 (fun e => e), cX.keeps hHeld.1.2 (fun e => e)⟩, cX.keeps hHeld.2.1 (fun e => e), cX.keeps hHeld.2.2 (fun e => e)⟩
    refine take_at (v := ?_) 0 (some 29) rfl (by kernel_rfl) (by kernel_rfl) (by kernel_rfl) (by kernel_rfl) (fun _ _ _ h => h) (Or.inl ⟨by rfl, ?_⟩) (by assumption) ?_
    rotate_left
    · intro w hSw; (try dsimp only at hSw); go_simp; try (with_reducible rfl)
    (try simp only [Act.put, List.setIfInBounds_toArray, List.set_cons_zero, List.set_cons_succ])
    refine take_at (v := ?_) 1 (some 30) rfl (by kernel_rfl) (by kernel_rfl) (by kernel_rfl) (by kernel_rfl) (fun _ _ _ h => h) (Or.inl ⟨by rfl, ?_⟩) (by assumption) ?_
    rotate_left
    · intro w hSw; (try dsimp only at hSw); go_simp; try (with_reducible rfl)
    (try simp only [Act.put, List.setIfInBounds_toArray, List.set_cons_zero, List.set_cons_succ])
    refine take_at (v := ?_) 2 (some 31) rfl (by kernel_rfl) (by kernel_rfl) (by kernel_rfl) (by kernel_rfl) (fun _ _ _ h => h) (Or.inl ⟨by rfl, ?_⟩) (by assumption) ?_
    rotate_left
    · intro w hSw; (try dsimp only at hSw); go_simp; try (with_reducible rfl)
    (try simp only [Act.put, List.setIfInBounds_toArray, List.set_cons_zero, List.set_cons_succ])
    refine take_at (v := ?_) 3 (some 32) rfl (by kernel_rfl) (by kernel_rfl) (by kernel_rfl) (by kernel_rfl) (fun _ _ _ h => h) (Or.inl ⟨by rfl, ?_⟩) (by assumption) ?_
    rotate_left
    · intro w hSw; (try dsimp only at hSw); go_simp; try (with_reducible rfl)
    (try simp only [Act.put, List.setIfInBounds_toArray, List.set_cons_zero, List.set_cons_succ])
    refine take_at (v := ?_) 5 (some 34) rfl (by kernel_rfl) (by kernel_rfl) (by kernel_rfl) (by kernel_rfl) (fun _ _ _ h => h) (Or.inl ⟨by rfl, ?_⟩) (by assumption) ?_
    rotate_left
    · intro w hSw; (try dsimp only at hSw); go_simp; try (with_reducible rfl)
    (try simp only [Act.put, List.setIfInBounds_toArray, List.set_cons_zero, List.set_cons_succ])
    refine wpAnyH_ready (rs := [4, 6]) (by kernel_rfl) (by simp) ?_
    refine AllReadyH.cons rfl (fun K hK => ?_) ?_
    go_simp
    refine hK.out _ _ hHeld (fun hh => ?_)
    clear hK K hh
    (try simp only [Act.put, List.setIfInBounds_toArray, List.set_cons_zero, List.set_cons_succ])
    refine wpAnyH_ready (rs := [6]) (by kernel_rfl) (by simp) ?_
    refine AllReadyH.cons rfl (fun K hK => ?_) AllReadyH.nil
    go_simp
    refine hK.out _ _ S2 (fun hh => ?_)
    clear hK K hh
    (try simp only [Act.put, List.setIfInBounds_toArray, List.set_cons_zero, List.set_cons_succ])
    refine ?tail1
    rotate_left
    refine AllReadyH.cons rfl (fun K hK => ?_) AllReadyH.nil
    go_simp
    refine hK.out _ _ S2 (fun hh => ?_)
    clear hK K hh
    (try simp only [Act.put, List.setIfInBounds_toArray, List.set_cons_zero, List.set_cons_succ])
    refine wpAnyH_ready (rs := [4]) (by kernel_rfl) (by simp) ?_
    refine AllReadyH.cons rfl (fun K hK => ?_) AllReadyH.nil
    go_simp
    refine hK.out _ _ S2 (fun hh => ?_)
    clear hK K hh
    (try simp only [Act.put, List.setIfInBounds_toArray, List.set_cons_zero, List.set_cons_succ])
    exact ?tail1
    have R5 : Hid (RowD (X.alloc (.cells #[.int .i64 u, .int .u64 (d : Nat), .int .i64 ((lv : Nat) : Int), .int .i64 ((sl : Nat) : Int)] 89)) ar n cr l) := Lib.hid (by have := Row.kept HD.out.r cX (fun _ _ e => e); rw [← LEN.out] at this; exact this)
    refine wpAnyH_ready (rs := [7]) (by kernel_rfl) (by simp) ?_
    refine AllReadyH.cons rfl (fun K hK => ?_) AllReadyH.nil
    refine step_row rfl _ _ _ rfl 89 (.agg #[.int .i64 0, .int .u64 0, .int .i64 0, .int .i64 0]) 4 32 Tryd.underlying30 (by kernel_rfl) rfl (by omega) (by omega) rfl R5.out (by omega) X.heap.size 1 [.int .i64 u, .int .u64 (d : Nat), .int .i64 ((lv : Nat) : Int), .int .i64 ((sl : Nat) : Int)] 89 rfl rfl (heap_alloc_new X _) (by simp [Value.oneCell']) (dval (l ++ [⟨u, d, spotN d now⟩])) V1.out V2.out _ rfl ?_
    intro g6 cap6 w6 row6 ch6 at6 lt6
    have nbb : ¬ OwnS ar bb := NB.out
    have nrb : ¬ OwnS ar rb := HD.out.nb
    have S3 : (w6.cell? ⟨bb, 0, none⟩ = some (.int .i64 u) ∧ w6.cell? ⟨bb, 1, none⟩ = some (.int .u64 (d : Nat))) ∧ w6.cell? ⟨bb, 2, none⟩ = some (.int .i64 ((lv : Nat) : Int)) ∧ w6.cell? ⟨bb, 3, none⟩ = some (.int .i64 ((sl : Nat) : Int)) := ⟨⟨ch6.keeps S2.1.1 nbb, ch6.keeps S2.1.2 nbb⟩, ch6.keeps S2.2.1 nbb, ch6.keeps S2.2.2 nbb⟩
    have c3 := ch6.keeps c2 nrb
    have k6 : Blk w6 rb := (HD.out.k.kept cX (fun e => e)).kept ch6 nrb
    have z3 := k6.fz 1
    have t6 := ch6.keeps (cX.keeps HD.out.t (fun e => e)) nrb
    have y6 : w6.cell? ⟨rb, 2, none⟩ = zc := (ch6.cell (p := ⟨rb, 2, none⟩) ((HD.out.k.kept cX (fun e => e)).lt) nrb).trans ((cX.cell (p := ⟨rb, 2, none⟩) HD.out.k.lt (fun e => e)).trans HD.out.z)
    have CH : Hid (Ch (OwnS ar) w w6) := Lib.hid (((CD.out.trans cX).mono fun _ _ e => e.elim).trans ch6)
    have hXs := CD.out.size
    have AT : Hid (OwnS ar g6 ∨ w.heap.size ≤ g6) := Lib.hid (by rcases at6 with h | h; exact .inl h; exact .inr (by (try simp at h); omega))
    have ROW := Lib.hid row6
    have K6 := Lib.hid k6
    have T6 := Lib.hid t6
    have Y6 := Lib.hid y6
    refine hK.out _ _ S3 (fun hh => ?_)
    clear hK K hh ch6 row6 at6 lt6 R5 S2 c2 c1 hHeld cX k6 t6 y6
    (try simp only [Act.put, List.setIfInBounds_toArray, List.set_cons_zero, List.set_cons_succ])
    refine take_at (v := ?_) 8 (some 37) rfl (by kernel_rfl) (by kernel_rfl) (by kernel_rfl) (by kernel_rfl) (fun _ _ _ h => h) (Or.inl ⟨by rfl, ?_⟩) (by assumption) ?_
    rotate_left
    · intro w hSw; (try dsimp only at hSw); go_simp; try (with_reducible rfl)
    (try simp only [Act.put, List.setIfInBounds_toArray, List.set_cons_zero, List.set_cons_succ])
    refine take_at (v := ?_) 9 (some 38) rfl (by kernel_rfl) (by kernel_rfl) (by kernel_rfl) (by kernel_rfl) (fun _ _ _ h => h) (Or.inl ⟨by rfl, ?_⟩) (by assumption) ?_
    rotate_left
    · intro w hSw; (try dsimp only at hSw); go_simp; try (with_reducible rfl)
    (try simp only [Act.put, List.setIfInBounds_toArray, List.set_cons_zero, List.set_cons_succ])
    refine wpAnyH_ready (rs := [10]) (by kernel_rfl) (by simp) ?_
    refine AllReadyH.cons rfl (fun K hK => ?_) AllReadyH.nil
    go_simp
    refine hK.out _ _ ⟨⟨by rw [cell_set, if_neg (by rintro ⟨e, -⟩; exact NRB.out e)]; exact S3.1.1, by rw [cell_set, if_neg (by rintro ⟨e, -⟩; exact NRB.out e)]; exact S3.1.2⟩, by rw [cell_set, if_neg (by rintro ⟨e, -⟩; exact NRB.out e)]; exact S3.2.1, by rw [cell_set, if_neg (by rintro ⟨e, -⟩; exact NRB.out e)]; exact S3.2.2⟩ (fun hh => ?_)
    clear hK K hh
    (try simp only [Act.put, List.setIfInBounds_toArray, List.set_cons_zero, List.set_cons_succ])
    refine wpAnyH_done (by kernel_rfl) ?_ _
    have C3 := Lib.hid c3
    clear S3 c3 z3
    go_wp2
    go_end0
    have ch : Ch (One rb) w6 (w6.setCell ⟨rb, 1, none⟩ (.slice (some ⟨g6, 0, none⟩) (n + 1) cap6)) := (Ch.refl _ _).setB 1 _
    have ngr : g6 ≠ rb := fun e => by
      subst e
      rcases AT.out with h | h
      · exact nrb h
      · have := RLT.out; omega
    refine ⟨⟨_, rfl⟩, some ⟨g6, 0, none⟩, cap6, ⟨(cell_ne (by omega) _).trans T6.out, ?_, K6.out.set _ _, ?_, fun e => by cases e; exact ngr rfl, (cell_ne (by omega) _).trans Y6.out⟩, fun k hk => by cases hk; exact AT.out, (CH.out.mono fun k _ hk => .inr hk).then ch (fun k _ e => .inl e)⟩
    · rw [List.length_append, ← LEN.out]; exact World.cell?_setCell_same _ _ _ C3.out
    · rw [List.length_append, ← LEN.out]; exact Row.kept ROW.out ch (fun k hk e => by cases hk; exact ngr e)
  · by_cases hneg : aa < 0
    · obtain rfl : h = 0 := by omega
      have ha4 : aa < 4 := by omega
      clear hg hlt
      have hs := s1 (by omega)
      obtain ⟨lv, hlv⟩ : ∃ lv : Nat, lv = 0 := ⟨_, rfl⟩
      obtain ⟨sl, hsl⟩ : ∃ sl : Nat, sl = dg d 0 := ⟨_, rfl⟩
      have hsl64 : sl < 64 := by rw [hsl]; exact DGL.out
      have V2 : Hid (∀ (j : Nat) (v : Value), ([.int .i64 u, .int .u64 (d : Nat), .int .i64 ((lv : Nat) : Int), .int .i64 ((sl : Nat) : Int)] : List Value)[j]? = some v → dval (l ++ [⟨u, d, spotN d now⟩]) (n * 4 + j) = v) := Lib.hid fun j v hv => by rw [LEN.out]; refine V0.out j v ?_; rw [hs, ← hv, ← hsl]; rw [show (64 * 0 + sl) / 64 = lv by omega, show (64 * 0 + sl) % 64 = sl by omega]
      obtain ⟨w3, hw3⟩ : ∃ w3, w3 = w1.alloc (.cells #[.int .i64 u, .int .u64 (d : Nat), .int .i64 0, .int .i64 0] 89) := ⟨_, rfl⟩
      have C3 : Hid (Ch Nil w w3) := Lib.hid (hw3 ▸ C1.out.alloc _)
      have x0 : w3.cell? ⟨bb, 0, none⟩ = some (.int .i64 u) := by rw [hw3, hbb, cell_fresh]; rfl
      have x1 : w3.cell? ⟨bb, 1, none⟩ = some (.int .u64 (d : Nat)) := by rw [hw3, hbb, cell_fresh]; rfl
      have x2 : w3.cell? ⟨bb, 2, none⟩ = some (.int .i64 ((lv : Nat) : Int)) := by rw [hw3, hbb, hlv, cell_fresh]; rfl
      have x3 : w3.cell? ⟨bb, 3, none⟩ = some (.int .i64 0) := by rw [hw3, hbb, cell_fresh]; rfl
      have xk : Blk w3 bb := by rw [hw3, hbb]; exact Blk.new _ _ _
      have X0 := Lib.hid x0
      have X1 := Lib.hid x1
      have X2 := Lib.hid x2
      have X3 := Lib.hid x3
      have XK := Lib.hid xk
      have HW3 := Lib.hid hw3
      have HSL := Lib.hid hsl
      clear x0 x1 x2 x3 xk hw3 hbb hlv hsl hs s1 s2 c0
      go_wp2_with fail
      rw [← HW3.out, ← HBB.out]
      clear HW3 HBB
      refine (DIG.out _).mono ?_
      rintro e w4 ⟨gd, cpd, rfl, hg1, hg2, hcap, dc, bel⟩
      have c4 : Ch Nil w3 w4 := Ch.of_below bel
      have y3 := c4.keeps X3.out (fun e => e)
      have yf := (XK.out.kept c4 (fun e => e)).fz 3
      have yd := dc 0 (by omega)
      rw [← HSL.out] at yd
      have C4 := Lib.hid c4
      have hbl := XK.out.lt
      have hgb : gd ≠ bb := by omega
      clear dc bel c4 hg1 hg2
      obtain ⟨w5, hw5⟩ : ∃ w5, w5 = w4.setCell ⟨bb, 3, none⟩ (.int .i64 ((sl : Nat) : Int)) := ⟨_, rfl⟩
      have cs : Ch (One bb) w4 w5 := hw5 ▸ (Ch.refl _ _).setB 3 _
      have C5 : Hid (Ch Nil w w5) := Lib.hid ((C3.out.trans C4.out).up cs (fun i e => by have e' : i = bb := e; have := HBS.out; omega))
      have H5 := Lib.hid (H0.out.kept C5.out (fun _ _ e => e))
      have BX : Hid ((w5.cell? ⟨bb, 0, none⟩ = some (.int .i64 u) ∧ w5.cell? ⟨bb, 1, none⟩ = some (.int .u64 (d : Nat))) ∧ w5.cell? ⟨bb, 2, none⟩ = some (.int .i64 ((lv : Nat) : Int)) ∧ w5.cell? ⟨bb, 3, none⟩ = some (.int .i64 ((sl : Nat) : Int))) := Lib.hid (by
        rw [hw5]
        exact ⟨⟨(cell_ne (by omega) _).trans (C4.out.keeps X0.out (fun e => e)), (cell_ne (by omega) _).trans (C4.out.keeps X1.out (fun e => e))⟩, (cell_ne (by omega) _).trans (C4.out.keeps X2.out (fun e => e)), World.cell?_setCell_same _ _ _ y3⟩)
      have HW5 := Lib.hid hw5
      clear hw5 cs C3 C4 X0 X1 X2 X3 XK HSL
      go_upto_region 7 with (fail)
      rw [← HW5.out]
      clear HW5 y3 yf yd
      refine wp_region_held_drew (S := fun w' => (w'.cell? ⟨bb, 0, none⟩ = some (.int .i64 u) ∧ w'.cell? ⟨bb, 1, none⟩ = some (.int .u64 (d : Nat))) ∧ w'.cell? ⟨bb, 2, none⟩ = some (.int .i64 ((lv : Nat) : Int)) ∧ w'.cell? ⟨bb, 3, none⟩ = some (.int .i64 ((sl : Nat) : Int))) (by kernel_rfl) BX.out (fun hHeld => ?_)
      have HD := Lib.hid (H5.out.kept (S := Nil) (Ch.refl _ _).drew (fun _ _ e => e))
      have CD : Hid (Ch Nil w w5.drew) := Lib.hid C5.out.drew
      clear H5 C5 BX
      generalize w5.drew = X at hHeld HD CD ⊢
      have cX : Ch Nil X (X.alloc (.cells #[.int .i64 u, .int .u64 (d : Nat), .int .i64 ((lv : Nat) : Int), .int .i64 ((sl : Nat) : Int)] 89)) := (Ch.refl _ _).alloc _
      have c1 := HD.out.s
      rw [← LEN.out] at c1
      have c2 := cX.keeps c1 (fun e => e)
      have S2 : ((X.alloc (.cells #[.int .i64 u, .int .u64 (d : Nat), .int .i64 ((lv : Nat) : Int), .int .i64 ((sl : Nat) : Int)] 89)).cell? ⟨bb, 0, none⟩ = some (.int .i64 u) ∧ (X.alloc (.cells #[.int .i64 u, .int .u64 (d : Nat), .int .i64 ((lv : Nat) : Int), .int .i64 ((sl : Nat) : Int)] 89)).cell? ⟨bb, 1, none⟩ = some (.int .u64 (d : Nat))) ∧ (X.alloc (.cells #[.int .i64 u, .int .u64 (d : Nat), .int .i64 ((lv : Nat) : Int), .int .i64 ((sl : Nat) : Int)] 89)).cell? ⟨bb, 2, none⟩ = some (.int .i64 ((lv : Nat) : Int)) ∧ (X.alloc (.cells #[.int .i64 u, .int .u64 (d : Nat), .int .i64 ((lv : Nat) : Int), .int .i64 ((sl : Nat) : Int)] 89)).cell? ⟨bb, 3, none⟩ = some (.int .i64 ((sl : Nat) : Int)) := ⟨⟨cX.keeps hHeld.1.1 (fun e => e), cX.keeps hHeld.1.2 (fun e => e)⟩, cX.keeps hHeld.2.1 (fun e => e), cX.keeps hHeld.2.2 (fun e => e)⟩
      refine take_at (v := ?_) 0 (some 29) rfl (by kernel_rfl) (by kernel_rfl) (by kernel_rfl) (by kernel_rfl) (fun _ _ _ h => h) (Or.inl ⟨by rfl, ?_⟩) (by assumption) ?_
      rotate_left
      · intro w hSw; (try dsimp only at hSw); go_simp; try (with_reducible rfl)
      (try simp only [Act.put, List.setIfInBounds_toArray, List.set_cons_zero, List.set_cons_succ])
      refine take_at (v := ?_) 1 (some 30) rfl (by kernel_rfl) (by kernel_rfl) (by kernel_rfl) (by kernel_rfl) (fun _ _ _ h => h) (Or.inl ⟨by rfl, ?_⟩) (by assumption) ?_
      rotate_left
      · intro w hSw; (try dsimp only at hSw); go_simp; try (with_reducible rfl)
      (try simp only [Act.put, List.setIfInBounds_toArray, List.set_cons_zero, List.set_cons_succ])
      refine take_at (v := ?_) 2 (some 31) rfl (by kernel_rfl) (by kernel_rfl) (by kernel_rfl) (by kernel_rfl) (fun _ _ _ h => h) (Or.inl ⟨by rfl, ?_⟩) (by assumption) ?_
      rotate_left
      · intro w hSw; (try dsimp only at hSw); go_simp; try (with_reducible rfl)
      (try simp only [Act.put, List.setIfInBounds_toArray, List.set_cons_zero, List.set_cons_succ])
      refine take_at (v := ?_) 3 (some 32) rfl (by kernel_rfl) (by kernel_rfl) (by kernel_rfl) (by kernel_rfl) (fun _ _ _ h => h) (Or.inl ⟨by rfl, ?_⟩) (by assumption) ?_
      rotate_left
      · intro w hSw; (try dsimp only at hSw); go_simp; try (with_reducible rfl)
      (try simp only [Act.put, List.setIfInBounds_toArray, List.set_cons_zero, List.set_cons_succ])
      refine take_at (v := ?_) 5 (some 34) rfl (by kernel_rfl) (by kernel_rfl) (by kernel_rfl) (by kernel_rfl) (fun _ _ _ h => h) (Or.inl ⟨by rfl, ?_⟩) (by assumption) ?_
      rotate_left
      · intro w hSw; (try dsimp only at hSw); go_simp; try (with_reducible rfl)
      (try simp only [Act.put, List.setIfInBounds_toArray, List.set_cons_zero, List.set_cons_succ])
      refine wpAnyH_ready (rs := [4, 6]) (by kernel_rfl) (by simp) ?_
      refine AllReadyH.cons rfl (fun K hK => ?_) ?_
      go_simp
      refine hK.out _ _ hHeld (fun hh => ?_)
      clear hK K hh
      (try simp only [Act.put, List.setIfInBounds_toArray, List.set_cons_zero, List.set_cons_succ])
      refine wpAnyH_ready (rs := [6]) (by kernel_rfl) (by simp) ?_
      refine AllReadyH.cons rfl (fun K hK => ?_) AllReadyH.nil
      go_simp
      refine hK.out _ _ S2 (fun hh => ?_)
      clear hK K hh
      (try simp only [Act.put, List.setIfInBounds_toArray, List.set_cons_zero, List.set_cons_succ])
      refine ?tail2
      rotate_left
      refine AllReadyH.cons rfl (fun K hK => ?_) AllReadyH.nil
      go_simp
      refine hK.out _ _ S2 (fun hh => ?_)
      clear hK K hh
      (try simp only [Act.put, List.setIfInBounds_toArray, List.set_cons_zero, List.set_cons_succ])
      refine wpAnyH_ready (rs := [4]) (by kernel_rfl) (by simp) ?_
      refine AllReadyH.cons rfl (fun K hK => ?_) AllReadyH.nil
      go_simp
      refine hK.out _ _ S2 (fun hh => ?_)
      clear hK K hh
      (try simp only [Act.put, List.setIfInBounds_toArray, List.set_cons_zero, List.set_cons_succ])
      exact ?tail2
      have R5 : Hid (RowD (X.alloc (.cells #[.int .i64 u, .int .u64 (d : Nat), .int .i64 ((lv : Nat) : Int), .int .i64 ((sl : Nat) : Int)] 89)) ar n cr l) := Lib.hid (by have := Row.kept HD.out.r cX (fun _ _ e => e); rw [← LEN.out] at this; exact this)
      refine wpAnyH_ready (rs := [7]) (by kernel_rfl) (by simp) ?_
      refine AllReadyH.cons rfl (fun K hK => ?_) AllReadyH.nil
      refine step_row rfl _ _ _ rfl 89 (.agg #[.int .i64 0, .int .u64 0, .int .i64 0, .int .i64 0]) 4 32 Tryd.underlying30 (by kernel_rfl) rfl (by omega) (by omega) rfl R5.out (by omega) X.heap.size 1 [.int .i64 u, .int .u64 (d : Nat), .int .i64 ((lv : Nat) : Int), .int .i64 ((sl : Nat) : Int)] 89 rfl rfl (heap_alloc_new X _) (by simp [Value.oneCell']) (dval (l ++ [⟨u, d, spotN d now⟩])) V1.out V2.out _ rfl ?_
      intro g6 cap6 w6 row6 ch6 at6 lt6
      have nbb : ¬ OwnS ar bb := NB.out
      have nrb : ¬ OwnS ar rb := HD.out.nb
      have S3 : (w6.cell? ⟨bb, 0, none⟩ = some (.int .i64 u) ∧ w6.cell? ⟨bb, 1, none⟩ = some (.int .u64 (d : Nat))) ∧ w6.cell? ⟨bb, 2, none⟩ = some (.int .i64 ((lv : Nat) : Int)) ∧ w6.cell? ⟨bb, 3, none⟩ = some (.int .i64 ((sl : Nat) : Int)) := ⟨⟨ch6.keeps S2.1.1 nbb, ch6.keeps S2.1.2 nbb⟩, ch6.keeps S2.2.1 nbb, ch6.keeps S2.2.2 nbb⟩
      have c3 := ch6.keeps c2 nrb
      have k6 : Blk w6 rb := (HD.out.k.kept cX (fun e => e)).kept ch6 nrb
      have z3 := k6.fz 1
      have t6 := ch6.keeps (cX.keeps HD.out.t (fun e => e)) nrb
      have y6 : w6.cell? ⟨rb, 2, none⟩ = zc := (ch6.cell (p := ⟨rb, 2, none⟩) ((HD.out.k.kept cX (fun e => e)).lt) nrb).trans ((cX.cell (p := ⟨rb, 2, none⟩) HD.out.k.lt (fun e => e)).trans HD.out.z)
      have CH : Hid (Ch (OwnS ar) w w6) := Lib.hid (((CD.out.trans cX).mono fun _ _ e => e.elim).trans ch6)
      have hXs := CD.out.size
      have AT : Hid (OwnS ar g6 ∨ w.heap.size ≤ g6) := Lib.hid (by rcases at6 with h | h; exact .inl h; exact .inr (by (try simp at h); omega))
      have ROW := Lib.hid row6
      have K6 := Lib.hid k6
      have T6 := Lib.hid t6
      have Y6 := Lib.hid y6
      refine hK.out _ _ S3 (fun hh => ?_)
      clear hK K hh ch6 row6 at6 lt6 R5 S2 c2 c1 hHeld cX k6 t6 y6
      (try simp only [Act.put, List.setIfInBounds_toArray, List.set_cons_zero, List.set_cons_succ])
      refine take_at (v := ?_) 8 (some 37) rfl (by kernel_rfl) (by kernel_rfl) (by kernel_rfl) (by kernel_rfl) (fun _ _ _ h => h) (Or.inl ⟨by rfl, ?_⟩) (by assumption) ?_
      rotate_left
      · intro w hSw; (try dsimp only at hSw); go_simp; try (with_reducible rfl)
      (try simp only [Act.put, List.setIfInBounds_toArray, List.set_cons_zero, List.set_cons_succ])
      refine take_at (v := ?_) 9 (some 38) rfl (by kernel_rfl) (by kernel_rfl) (by kernel_rfl) (by kernel_rfl) (fun _ _ _ h => h) (Or.inl ⟨by rfl, ?_⟩) (by assumption) ?_
      rotate_left
      · intro w hSw; (try dsimp only at hSw); go_simp; try (with_reducible rfl)
      (try simp only [Act.put, List.setIfInBounds_toArray, List.set_cons_zero, List.set_cons_succ])
      refine wpAnyH_ready (rs := [10]) (by kernel_rfl) (by simp) ?_
      refine AllReadyH.cons rfl (fun K hK => ?_) AllReadyH.nil
      go_simp
      refine hK.out _ _ ⟨⟨by rw [cell_set, if_neg (by rintro ⟨e, -⟩; exact NRB.out e)]; exact S3.1.1, by rw [cell_set, if_neg (by rintro ⟨e, -⟩; exact NRB.out e)]; exact S3.1.2⟩, by rw [cell_set, if_neg (by rintro ⟨e, -⟩; exact NRB.out e)]; exact S3.2.1, by rw [cell_set, if_neg (by rintro ⟨e, -⟩; exact NRB.out e)]; exact S3.2.2⟩ (fun hh => ?_)
      clear hK K hh
      (try simp only [Act.put, List.setIfInBounds_toArray, List.set_cons_zero, List.set_cons_succ])
      refine wpAnyH_done (by kernel_rfl) ?_ _
      have C3 := Lib.hid c3
      clear S3 c3 z3
      go_wp2
      go_end0
      have ch : Ch (One rb) w6 (w6.setCell ⟨rb, 1, none⟩ (.slice (some ⟨g6, 0, none⟩) (n + 1) cap6)) := (Ch.refl _ _).setB 1 _
      have ngr : g6 ≠ rb := fun e => by
        subst e
        rcases AT.out with h | h
        · exact nrb h
        · have := RLT.out; omega
      refine ⟨⟨_, rfl⟩, some ⟨g6, 0, none⟩, cap6, ⟨(cell_ne (by omega) _).trans T6.out, ?_, K6.out.set _ _, ?_, fun e => by cases e; exact ngr rfl, (cell_ne (by omega) _).trans Y6.out⟩, fun k hk => by cases hk; exact AT.out, (CH.out.mono fun k _ hk => .inr hk).then ch (fun k _ e => .inl e)⟩
      · rw [List.length_append, ← LEN.out]; exact World.cell?_setCell_same _ _ _ C3.out
      · rw [List.length_append, ← LEN.out]; exact Row.kept ROW.out ch (fun k hk e => by cases hk; exact ngr e)
    · obtain rfl : aa = (h : Int) := by omega
      have hz0 : (0 : Int) ≤ (h : Int) := by omega
      have hz4 : (h : Int) < 4 := by omega
      clear hg hlt
      have hs := s1 (by omega)
      obtain ⟨lv, hlv⟩ : ∃ lv : Nat, lv = h := ⟨_, rfl⟩
      obtain ⟨sl, hsl⟩ : ∃ sl : Nat, sl = dg d h := ⟨_, rfl⟩
      have hsl64 : sl < 64 := by rw [hsl]; exact DGL.out
      have V2 : Hid (∀ (j : Nat) (v : Value), ([.int .i64 u, .int .u64 (d : Nat), .int .i64 ((lv : Nat) : Int), .int .i64 ((sl : Nat) : Int)] : List Value)[j]? = some v → dval (l ++ [⟨u, d, spotN d now⟩]) (n * 4 + j) = v) := Lib.hid fun j v hv => by rw [LEN.out]; refine V0.out j v ?_; rw [hs, ← hv, ← hsl]; rw [show (64 * h + sl) / 64 = lv by omega, show (64 * h + sl) % 64 = sl by omega]
      obtain ⟨w3, hw3⟩ : ∃ w3, w3 = w1.alloc (.cells #[.int .i64 u, .int .u64 (d : Nat), .int .i64 (h : Nat), .int .i64 0] 89) := ⟨_, rfl⟩
      have C3 : Hid (Ch Nil w w3) := Lib.hid (hw3 ▸ C1.out.alloc _)
      have x0 : w3.cell? ⟨bb, 0, none⟩ = some (.int .i64 u) := by rw [hw3, hbb, cell_fresh]; rfl
      have x1 : w3.cell? ⟨bb, 1, none⟩ = some (.int .u64 (d : Nat)) := by rw [hw3, hbb, cell_fresh]; rfl
      have x2 : w3.cell? ⟨bb, 2, none⟩ = some (.int .i64 ((lv : Nat) : Int)) := by rw [hw3, hbb, hlv, cell_fresh]; rfl
      have x3 : w3.cell? ⟨bb, 3, none⟩ = some (.int .i64 0) := by rw [hw3, hbb, cell_fresh]; rfl
      have xk : Blk w3 bb := by rw [hw3, hbb]; exact Blk.new _ _ _
      have X0 := Lib.hid x0
      have X1 := Lib.hid x1
      have X2 := Lib.hid x2
      have X3 := Lib.hid x3
      have XK := Lib.hid xk
      have HW3 := Lib.hid hw3
      have HSL := Lib.hid hsl
      clear x0 x1 x2 x3 xk hw3 hbb hlv hsl hs s1 s2 c0
      go_wp2_with fail
      rw [← HW3.out, ← HBB.out]
      clear HW3 HBB
      refine (DIG.out _).mono ?_
      rintro e w4 ⟨gd, cpd, rfl, hg1, hg2, hcap, dc, bel⟩
      have c4 : Ch Nil w3 w4 := Ch.of_below bel
      have y3 := c4.keeps X3.out (fun e => e)
      have yf := (XK.out.kept c4 (fun e => e)).fz 3
      have yd := dc h (by omega)
      rw [← HSL.out] at yd
      have C4 := Lib.hid c4
      have hbl := XK.out.lt
      have hgb : gd ≠ bb := by omega
      clear dc bel c4 hg1 hg2
      obtain ⟨w5, hw5⟩ : ∃ w5, w5 = w4.setCell ⟨bb, 3, none⟩ (.int .i64 ((sl : Nat) : Int)) := ⟨_, rfl⟩
      have cs : Ch (One bb) w4 w5 := hw5 ▸ (Ch.refl _ _).setB 3 _
      have C5 : Hid (Ch Nil w w5) := Lib.hid ((C3.out.trans C4.out).up cs (fun i e => by have e' : i = bb := e; have := HBS.out; omega))
      have H5 := Lib.hid (H0.out.kept C5.out (fun _ _ e => e))
      have BX : Hid ((w5.cell? ⟨bb, 0, none⟩ = some (.int .i64 u) ∧ w5.cell? ⟨bb, 1, none⟩ = some (.int .u64 (d : Nat))) ∧ w5.cell? ⟨bb, 2, none⟩ = some (.int .i64 ((lv : Nat) : Int)) ∧ w5.cell? ⟨bb, 3, none⟩ = some (.int .i64 ((sl : Nat) : Int))) := Lib.hid (by
        rw [hw5]
        exact ⟨⟨(cell_ne (by omega) _).trans (C4.out.keeps X0.out (fun e => e)), (cell_ne (by omega) _).trans (C4.out.keeps X1.out (fun e => e))⟩, (cell_ne (by omega) _).trans (C4.out.keeps X2.out (fun e => e)), World.cell?_setCell_same _ _ _ y3⟩)
      have HW5 := Lib.hid hw5
      clear hw5 cs C3 C4 X0 X1 X2 X3 XK HSL
      go_upto_region 7 with (fail)
      rw [← HW5.out]
      clear HW5 y3 yf yd
      refine wp_region_held_drew (S := fun w' => (w'.cell? ⟨bb, 0, none⟩ = some (.int .i64 u) ∧ w'.cell? ⟨bb, 1, none⟩ = some (.int .u64 (d : Nat))) ∧ w'.cell? ⟨bb, 2, none⟩ = some (.int .i64 ((lv : Nat) : Int)) ∧ w'.cell? ⟨bb, 3, none⟩ = some (.int .i64 ((sl : Nat) : Int))) (by kernel_rfl) BX.out (fun hHeld => ?_)
      have HD := Lib.hid (H5.out.kept (S := Nil) (Ch.refl _ _).drew (fun _ _ e => e))
      have CD : Hid (Ch Nil w w5.drew) := Lib.hid C5.out.drew
      clear H5 C5 BX
      generalize w5.drew = X at hHeld HD CD ⊢
      have cX : Ch Nil X (X.alloc (.cells #[.int .i64 u, .int .u64 (d : Nat), .int .i64 ((lv : Nat) : Int), .int .i64 ((sl : Nat) : Int)] 89)) := (Ch.refl _ _).alloc _
      have c1 := HD.out.s
      rw [← LEN.out] at c1
      have c2 := cX.keeps c1 (fun e => e)
      have S2 : ((X.alloc (.cells #[.int .i64 u, .int .u64 (d : Nat), .int .i64 ((lv : Nat) : Int), .int .i64 ((sl : Nat) : Int)] 89)).cell? ⟨bb, 0, none⟩ = some (.int .i64 u) ∧ (X.alloc (.cells #[.int .i64 u, .int .u64 (d : Nat), .int .i64 ((lv : Nat) : Int), .int .i64 ((sl : Nat) : Int)] 89)).cell? ⟨bb, 1, none⟩ = some (.int .u64 (d : Nat))) ∧ (X.alloc (.cells #[.int .i64 u, .int .u64 (d : Nat), .int .i64 ((lv : Nat) : Int), .int .i64 ((sl : Nat) : Int)] 89)).cell? ⟨bb, 2, none⟩ = some (.int .i64 ((lv : Nat) : Int)) ∧ (X.alloc (.cells #[.int .i64 u, .int .u64 (d : Nat), .int .i64 ((lv : Nat) : Int), .int .i64 ((sl : Nat) : Int)] 89)).cell? ⟨bb, 3, none⟩ = some (.int .i64 ((sl : Nat) : Int)) := ⟨⟨cX.keeps hHeld.1.1 (fun e => e), cX.keeps hHeld.1.2 (fun e => e)⟩, cX.keeps hHeld.2.1 (fun e => e), cX.keeps hHeld.2.2 (fun e => e)⟩
      refine take_at (v := ?_) 0 (some 29) rfl (by kernel_rfl) (by kernel_rfl) (by kernel_rfl) (by kernel_rfl) (fun _ _ _ h => h) (Or.inl ⟨by rfl, ?_⟩) (by assumption) ?_
      rotate_left
      · intro w hSw; (try dsimp only at hSw); go_simp; try (with_reducible rfl)
      (try simp only [Act.put, List.setIfInBounds_toArray, List.set_cons_zero, List.set_cons_succ])
      refine take_at (v := ?_) 1 (some 30) rfl (by kernel_rfl) (by kernel_rfl) (by kernel_rfl) (by kernel_rfl) (fun _ _ _ h => h) (Or.inl ⟨by rfl, ?_⟩) (by assumption) ?_
      rotate_left
      · intro w hSw; (try dsimp only at hSw); go_simp; try (with_reducible rfl)
      (try simp only [Act.put, List.setIfInBounds_toArray, List.set_cons_zero, List.set_cons_succ])
      refine take_at (v := ?_) 2 (some 31) rfl (by kernel_rfl) (by kernel_rfl) (by kernel_rfl) (by kernel_rfl) (fun _ _ _ h => h) (Or.inl ⟨by rfl, ?_⟩) (by assumption) ?_
      rotate_left
      · intro w hSw; (try dsimp only at hSw); go_simp; try (with_reducible rfl)
      (try simp only [Act.put, List.setIfInBounds_toArray, List.set_cons_zero, List.set_cons_succ])
      refine take_at (v := ?_) 3 (some 32) rfl (by kernel_rfl) (by kernel_rfl) (by kernel_rfl) (by kernel_rfl) (fun _ _ _ h => h) (Or.inl ⟨by rfl, ?_⟩) (by assumption) ?_
      rotate_left
      · intro w hSw; (try dsimp only at hSw); go_simp; try (with_reducible rfl)
      (try simp only [Act.put, List.setIfInBounds_toArray, List.set_cons_zero, List.set_cons_succ])
      refine take_at (v := ?_) 5 (some 34) rfl (by kernel_rfl) (by kernel_rfl) (by kernel_rfl) (by kernel_rfl) (fun _ _ _ h => h) (Or.inl ⟨by rfl, ?_⟩) (by assumption) ?_
      rotate_left
      · intro w hSw; (try dsimp only at hSw); go_simp; try (with_reducible rfl)
      (try simp only [Act.put, List.setIfInBounds_toArray, List.set_cons_zero, List.set_cons_succ])
      refine wpAnyH_ready (rs := [4, 6]) (by kernel_rfl) (by simp) ?_
      refine AllReadyH.cons rfl (fun K hK => ?_) ?_
      go_simp
      refine hK.out _ _ hHeld (fun hh => ?_)
      clear hK K hh
      (try simp only [Act.put, List.setIfInBounds_toArray, List.set_cons_zero, List.set_cons_succ])
      refine wpAnyH_ready (rs := [6]) (by kernel_rfl) (by simp) ?_
      refine AllReadyH.cons rfl (fun K hK => ?_) AllReadyH.nil
      go_simp
      refine hK.out _ _ S2 (fun hh => ?_)
      clear hK K hh
      (try simp only [Act.put, List.setIfInBounds_toArray, List.set_cons_zero, List.set_cons_succ])
      refine ?tail3
      rotate_left
      refine AllReadyH.cons rfl (fun K hK => ?_) AllReadyH.nil
      go_simp
      refine hK.out _ _ S2 (fun hh => ?_)
      clear hK K hh
      (try simp only [Act.put, List.setIfInBounds_toArray, List.set_cons_zero, List.set_cons_succ])
      refine wpAnyH_ready (rs := [4]) (by kernel_rfl) (by simp) ?_
      refine AllReadyH.cons rfl (fun K hK => ?_) AllReadyH.nil
      go_simp
      refine hK.out _ _ S2 (fun hh => ?_)
      clear hK K hh
      (try simp only [Act.put, List.setIfInBounds_toArray, List.set_cons_zero, List.set_cons_succ])
      exact ?tail3
      have R5 : Hid (RowD (X.alloc (.cells #[.int .i64 u, .int .u64 (d : Nat), .int .i64 ((lv : Nat) : Int), .int .i64 ((sl : Nat) : Int)] 89)) ar n cr l) := Lib.hid (by have := Row.kept HD.out.r cX (fun _ _ e => e); rw [← LEN.out] at this; exact this)
      refine wpAnyH_ready (rs := [7]) (by kernel_rfl) (by simp) ?_
      refine AllReadyH.cons rfl (fun K hK => ?_) AllReadyH.nil
      refine step_row rfl _ _ _ rfl 89 (.agg #[.int .i64 0, .int .u64 0, .int .i64 0, .int .i64 0]) 4 32 Tryd.underlying30 (by kernel_rfl) rfl (by omega) (by omega) rfl R5.out (by omega) X.heap.size 1 [.int .i64 u, .int .u64 (d : Nat), .int .i64 ((lv : Nat) : Int), .int .i64 ((sl : Nat) : Int)] 89 rfl rfl (heap_alloc_new X _) (by simp [Value.oneCell']) (dval (l ++ [⟨u, d, spotN d now⟩])) V1.out V2.out _ rfl ?_
      intro g6 cap6 w6 row6 ch6 at6 lt6
      have nbb : ¬ OwnS ar bb := NB.out
      have nrb : ¬ OwnS ar rb := HD.out.nb
      have S3 : (w6.cell? ⟨bb, 0, none⟩ = some (.int .i64 u) ∧ w6.cell? ⟨bb, 1, none⟩ = some (.int .u64 (d : Nat))) ∧ w6.cell? ⟨bb, 2, none⟩ = some (.int .i64 ((lv : Nat) : Int)) ∧ w6.cell? ⟨bb, 3, none⟩ = some (.int .i64 ((sl : Nat) : Int)) := ⟨⟨ch6.keeps S2.1.1 nbb, ch6.keeps S2.1.2 nbb⟩, ch6.keeps S2.2.1 nbb, ch6.keeps S2.2.2 nbb⟩
      have c3 := ch6.keeps c2 nrb
      have k6 : Blk w6 rb := (HD.out.k.kept cX (fun e => e)).kept ch6 nrb
      have z3 := k6.fz 1
      have t6 := ch6.keeps (cX.keeps HD.out.t (fun e => e)) nrb
      have y6 : w6.cell? ⟨rb, 2, none⟩ = zc := (ch6.cell (p := ⟨rb, 2, none⟩) ((HD.out.k.kept cX (fun e => e)).lt) nrb).trans ((cX.cell (p := ⟨rb, 2, none⟩) HD.out.k.lt (fun e => e)).trans HD.out.z)
      have CH : Hid (Ch (OwnS ar) w w6) := Lib.hid (((CD.out.trans cX).mono fun _ _ e => e.elim).trans ch6)
      have hXs := CD.out.size
      have AT : Hid (OwnS ar g6 ∨ w.heap.size ≤ g6) := Lib.hid (by rcases at6 with h | h; exact .inl h; exact .inr (by (try simp at h); omega))
      have ROW := Lib.hid row6
      have K6 := Lib.hid k6
      have T6 := Lib.hid t6
      have Y6 := Lib.hid y6
      refine hK.out _ _ S3 (fun hh => ?_)
      clear hK K hh ch6 row6 at6 lt6 R5 S2 c2 c1 hHeld cX k6 t6 y6
      (try simp only [Act.put, List.setIfInBounds_toArray, List.set_cons_zero, List.set_cons_succ])
      refine take_at (v := ?_) 8 (some 37) rfl (by kernel_rfl) (by kernel_rfl) (by kernel_rfl) (by kernel_rfl) (fun _ _ _ h => h) (Or.inl ⟨by rfl, ?_⟩) (by assumption) ?_
      rotate_left
      · intro w hSw; (try dsimp only at hSw); go_simp; try (with_reducible rfl)
      (try simp only [Act.put, List.setIfInBounds_toArray, List.set_cons_zero, List.set_cons_succ])
      refine take_at (v := ?_) 9 (some 38) rfl (by kernel_rfl) (by kernel_rfl) (by kernel_rfl) (by kernel_rfl) (fun _ _ _ h => h) (Or.inl ⟨by rfl, ?_⟩) (by assumption) ?_
      rotate_left
      · intro w hSw; (try dsimp only at hSw); go_simp; try (with_reducible rfl)
      (try simp only [Act.put, List.setIfInBounds_toArray, List.set_cons_zero, List.set_cons_succ])
      refine wpAnyH_ready (rs := [10]) (by kernel_rfl) (by simp) ?_
      refine AllReadyH.cons rfl (fun K hK => ?_) AllReadyH.nil
      go_simp
      refine hK.out _ _ ⟨⟨by rw [cell_set, if_neg (by rintro ⟨e, -⟩; exact NRB.out e)]; exact S3.1.1, by rw [cell_set, if_neg (by rintro ⟨e, -⟩; exact NRB.out e)]; exact S3.1.2⟩, by rw [cell_set, if_neg (by rintro ⟨e, -⟩; exact NRB.out e)]; exact S3.2.1, by rw [cell_set, if_neg (by rintro ⟨e, -⟩; exact NRB.out e)]; exact S3.2.2⟩ (fun hh => ?_)
      clear hK K hh
      (try simp only [Act.put, List.setIfInBounds_toArray, List.set_cons_zero, List.set_cons_succ])
      refine wpAnyH_done (by kernel_rfl) ?_ _
      have C3 := Lib.hid c3
      clear S3 c3 z3
      go_wp2
      go_end0
      have ch : Ch (One rb) w6 (w6.setCell ⟨rb, 1, none⟩ (.slice (some ⟨g6, 0, none⟩) (n + 1) cap6)) := (Ch.refl _ _).setB 1 _
      have ngr : g6 ≠ rb := fun e => by
        subst e
        rcases AT.out with h | h
        · exact nrb h
        · have := RLT.out; omega
      refine ⟨⟨_, rfl⟩, some ⟨g6, 0, none⟩, cap6, ⟨(cell_ne (by omega) _).trans T6.out, ?_, K6.out.set _ _, ?_, fun e => by cases e; exact ngr rfl, (cell_ne (by omega) _).trans Y6.out⟩, fun k hk => by cases hk; exact AT.out, (CH.out.mono fun k _ hk => .inr hk).then ch (fun k _ e => .inl e)⟩
      · rw [List.length_append, ← LEN.out]; exact World.cell?_setCell_same _ _ _ C3.out
      · rw [List.length_append, ← LEN.out]; exact Row.kept ROW.out ch (fun k hk e => by cases hk; exact ngr e)
end
end Go.Proofs.YtldnmpiaofppgaaDoor
