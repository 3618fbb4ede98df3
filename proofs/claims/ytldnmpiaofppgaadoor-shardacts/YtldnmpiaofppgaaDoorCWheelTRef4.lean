import Derived.Test.YtldnmpiaofppgaaDoorCWheelTRef3
/-
  The document's wheel: Advance; how its row stands to the entries' row.
-/
namespace Verge
set_option linter.unusedVariables false
/-- f: the task of each number -/
def kD (f : Int → Tk) (x : Dn) : Tk × Nat := (f x.u, x.d)
def kE (x : Ent) : Tk × Nat := (x.u, x.d)
/-- each place has the same entries, in the same order -/
structure RQ (f : Int → Tk) (l : List Dn) (Q : List Ent) (s : Nat) : Prop where
  p : ∀ x, x ∈ l → x.p ≤ 256
  r : ∀ q, (l.filter fun x => decide (x.p = q)).map (kD f) = (rowsOf Q s q).map kE
def repl (t : Nat) (x : Dn) : Dn := ⟨x.u, x.d, spotN x.d t⟩
section
variable {f : Int → Tk} {l : List Dn} {Q : List Ent} {s t p : Nat}
theorem filt_not (l : List Dn) (p q : Nat) : ((l.filter fun x => !decide (x.p = p)).filter fun x => decide (x.p = q)) = if q = p then [] else l.filter fun x => decide (x.p = q) := by
  rw [List.filter_filter]
  split
  · rename_i e; subst e
    rw [List.filter_eq_nil_iff]; intro x _ h; simp at h
  · rename_i e
    refine List.filter_congr fun x _ => ?_
    by_cases h : x.p = q
    · have : x.p ≠ p := fun e' => e (h.symm.trans e')
      simp [h]; exact fun e' => e e'
    · simp [h]
theorem RQ.step (h : RQ f l Q s) (e : stepR (rowsOf Q s) p t = rowsOf Q t) : RQ f ((l.filter fun x => !decide (x.p = p)) ++ ((l.filter fun x => decide (x.p = p)).map (repl t))) Q t := by
  refine ⟨fun x hx => ?_, fun q => ?_⟩
  · rcases List.mem_append.1 hx with hx | hx
    · exact h.p x (List.mem_filter.1 hx).1
    · obtain ⟨y, -, rfl⟩ := List.mem_map.1 hx; exact spotN_le _ _
  · rw [List.filter_append, List.map_append, filt_not, ← e]
    unfold stepR
    rw [List.map_append]
    congr 1
    · split
      · rfl
      · exact h.r q
    · have h1 : (((l.filter fun x => decide (x.p = p)).map (repl t)).filter fun x => decide (x.p = q)).map (kD f) = ((l.filter fun x => decide (x.p = p)).map (kD f)).filter fun y => decide (spotN y.2 t = q) := by
        rw [List.filter_map, List.filter_map, List.map_map]; rfl
      have h2 : ((rowsOf Q s p).filter fun x => decide (spotN x.d t = q)).map kE = ((rowsOf Q s p).map kE).filter fun y => decide (spotN y.2 t = q) := by
        rw [List.filter_map]; rfl
      rw [h1, h2, h.r p]
theorem RQ.same {s' : Nat} (h : RQ f l Q s) (e : rowsOf Q s = rowsOf Q s') : RQ f l Q s' := ⟨h.p, fun q => by rw [h.r q, e]⟩
theorem RQ.take (h : RQ f l Q t) (hQ : ∀ x, x ∈ Q → t ≤ x.d) : RQ f (l.filter fun x => !decide (x.p = hand t 0)) (leftQ Q t) t ∧ (l.filter fun x => decide (x.p = hand t 0)).map (kD f) = (dueQ Q t).map kE := by
  refine ⟨⟨fun x hx => h.p x (List.mem_filter.1 hx).1, fun q => ?_⟩, by rw [h.r, rows_due hQ]⟩
  rw [filt_not, ← rows_left hQ]
  by_cases e : q = hand t 0
  · subst e; rw [if_pos rfl, upd_same]; rfl
  · rw [if_neg e, upd_other _ _ _ _ e]; exact h.r q
theorem filt_len (f : Dn → Bool) : ∀ l : List Dn, (l.filter fun x => !f x).length + (l.filter f).length = l.length
  | [] => rfl
  | x :: t => by
    have := filt_len f t
    rw [List.filter_cons, List.filter_cons]
    cases f x <;> simp <;> omega
theorem RQ.mem {x : Dn} (h : RQ f l Q s) (hx : x ∈ l) : ∃ y, y ∈ Q ∧ y.u = f x.u ∧ y.d = x.d := by
  have h1 : kD f x ∈ (rowsOf Q s x.p).map kE := by rw [← h.r]; exact List.mem_map_of_mem (List.mem_filter.2 ⟨hx, by simp⟩)
  obtain ⟨y, hy, e⟩ := List.mem_map.1 h1
  unfold kD kE at e
  simp only [Prod.mk.injEq] at e
  exact ⟨y, (mem_rowsOf.1 hy).1, e.1, e.2⟩
/-- a step that finds nothing -/
theorem RQ.idle (h : RQ f l Q t) (hr : rowsOf Q t p = []) : stepR (rowsOf Q t) p t = rowsOf Q t := stepR_empty hr
end
end Verge
namespace Go.Proofs.YtldnmpiaofppgaaDoor
open Go.RowKit Verge Go.Proofs.YtldnmpiaofppgaaDoor.LT
attribute [local go_sem] Oper.semAt_some
set_option linter.unusedVariables false
set_option linter.unusedSimpArgs false
section
variable {S : Nat → Prop} {f : Int → Tk} {zc : Option Value} {w w' : World} {rb now : Nat} {l : List Dn} {Q : List Ent} {ar : Option Addr} {cr : Nat} {x : Dn}
theorem RefW.setNow (h : RefW zc w rb now l ar cr) (t : Nat) : RefW zc (w.setCell ⟨rb, 0, none⟩ (.int .u64 (t : Nat))) rb t l ar cr :=
  ⟨World.cell?_setCell_same _ _ _ h.t, (cell_ne (by omega) _).trans h.s, h.k.set _ _, Row.kept (S := One rb) h.r ((Ch.refl _ _).setB 0 _) (fun k hk e => by have e' : k = rb := e; subst e'; exact h.nb hk), h.nb, (cell_ne (by omega) _).trans h.z⟩
/-- between two levels of Advance -/
structure AdvR (f : Int → Tk) (zc : Option Value) (w : World) (rb now t zz : Nat) (Q : List Ent) (ar : Option Addr) (gd lv : Nat) (l' : List Dn) (ar' : Option Addr) (cr' : Nat) (W : World) : Prop where
  r : RefW zc W rb t l' ar' cr'
  q : RQ f l' Q (if zz ≤ lv then now else t)
  o : ∀ k, OwnS ar' k → OwnS ar k ∨ w.heap.size ≤ k
  n : l'.length ≤ 50000
  c : Ch (RS rb ar) w W
  d : DigCells W gd t
  g : gd ≠ rb ∧ ¬ OwnS ar' gd ∧ w.heap.size ≤ gd ∧ gd < W.heap.size

set_option maxHeartbeats 4000000 in
set_option maxRecDepth 100000 in
theorem refAdvance_of (H : RefW zc w rb now l ar cr) (hq : RQ f l Q now) (hQ : ∀ x, x ∈ Q → now < x.d) (hQ2 : ∀ x, x ∈ Q → x.d < 18446744073709551616) (hn : now + 1 < 18446744073709551616) (hl : l.length ≤ 50000) :
    Calls Tryd.prog 37 #[.pointer (some ⟨rb, 0, none⟩)] w fun e w' => ∃ ao co F l' ar' cr', e = .returned (.slice ao F.length co) ∧ RowD w' ao F.length co F ∧ F.map (kD f) = (dueQ Q (now + 1)).map kE ∧ RefW zc w' rb (now + 1) l' ar' cr' ∧ RQ f l' (leftQ Q (now + 1)) (now + 1) ∧ l'.length ≤ 50000 ∧ (∀ k, OwnS ar' k → OwnS ar k ∨ w.heap.size ≤ k) ∧ (∀ k, OwnS ao k → w.heap.size ≤ k) ∧ Ch (RS rb ar) w w' := by
  have c0 := H.t
  have f0 := H.k.fz 0
  have RLT := Lib.hid H.k.lt
  have RN := Lib.hid (H.setNow (now + 1))
  have CS : Hid (Ch (RS rb ar) w (w.setCell ⟨rb, 0, none⟩ (.int .u64 ((now + 1 : Nat) : Int)))) := Lib.hid ((Ch.refl _ _).set (p := ⟨rb, 0, none⟩) (fun _ => .inl rfl) _)
  have HQR := Lib.hid hq
  have HQA := Lib.hid hQ
  have HQ2 := Lib.hid hQ2
  have hadd : (now : Int) + 1 ≤ 18446744073709551615 := by omega
  obtain ⟨t, ht⟩ : ∃ t, t = now + 1 := ⟨_, rfl⟩
  have hti : ((now : Int) + 1) = (t : Int) := by omega
  have TN := Lib.hid ht
  have HTI := Lib.hid hti
  rw [← ht] at RN CS hn ⊢
  clear H hq hQ hQ2 ht hti
  go_enter Tryd.func37, Tryd.ntmps37
  go_upto_region 2 with (fail)
  rw [HTI.out]
  have c1 := RN.out.t
  generalize w.setCell ⟨rb, 0, none⟩ (.int .u64 (t : Int)) = w1 at *
  clear c0 f0
  go_wp2_with fail
  refine (refZeros_any t hn _).mono ?_
  rintro e w2 ⟨z, hz, rfl, b2⟩
  have c2 : Ch Nil w1 w2 := Ch.of_below b2
  have R2 := Lib.hid (RN.out.kept c2 (fun _ _ e => e))
  have C2 := Lib.hid (CS.out.then c2 (fun _ _ e => e.elim))
  have HZ := Lib.hid hz
  have hz11 := hz.1
  have c1 := R2.out.t
  have sz2 := C2.out.size
  clear b2 c2 hz RN CS
  go_wp2_with fail
  refine (refDigits_any t hn _).mono ?_
  rintro e w3 ⟨gd, cpd, rfl, hg1, hg2, hcap, dc, bel⟩
  have c3 : Ch Nil w2 w3 := Ch.of_below bel
  have R3 := Lib.hid (R2.out.kept c3 (fun _ _ e => e))
  have C3 := Lib.hid (C2.out.then c3 (fun _ _ e => e.elim))
  obtain ⟨zz, hzz⟩ : ∃ zz, zz = min z 4 := ⟨_, rfl⟩
  have ST : Hid (AdvR f zc w rb now t zz Q ar gd 4 l ar cr w3) := Lib.hid ⟨R3.out, by rw [if_pos (by omega)]; exact HQR.out, fun k hk => .inl hk, hl, C3.out, dc, by have := RLT.out; omega, fun e => by have := Row.lt R2.out.r gd e; omega, by omega, by omega⟩
  clear bel c3 R2 R3 C2 C3 dc c1 hg1 hg2
  go_wp2
  go_loopw [5] (fun i wr => ∃ (lv : Nat) (l' : List Dn) (ar' : Option Addr) (cr' : Nat), lv ≤ 4 ∧ i = .int .i64 lv ∧ AdvR f zc w rb now t zz Q ar gd lv l' ar' cr' wr) (fun i _ => (intOf i).toNat)
  case atStart => exact ⟨4, l, ar, cr, by omega, rfl, ST.out⟩
  case round =>
    obtain ⟨lv, l', ar', cr', hlv, rfl, hr⟩ := hrel
    have AR := Lib.hid hr
    clear hr
    by_cases hpos : 0 < lv
    · have hp0 : (0 : Int) < (lv : Int) := by omega
      by_cases hzl : z < lv
      · have hzi : (z : Int) < (lv : Int) := by omega
        go_wp2
        go_roundw
        case rel =>
          refine ⟨lv - 1, l', ar', cr', by omega, by go_num, AR.out.r, ?_, AR.out.o, AR.out.n, AR.out.c, AR.out.d, AR.out.g⟩
          have := AR.out.q
          rw [if_pos (by omega)] at this ⊢
          exact this
        case measure => simp [intOf]; omega
      · have hzi : (lv : Int) ≤ (z : Int) := by omega
        obtain ⟨sl, hsl⟩ : ∃ sl : Nat, sl = if lv < 4 then dg t lv else 0 := ⟨_, rfl⟩
        have hsl64 : sl < 64 := by rw [hsl]; split; exact dg_lt _ _; omega
        obtain ⟨p, hp⟩ : ∃ p, p = 64 * lv + sl := ⟨_, rfl⟩
        have NXQ : Hid (RQ f ((l'.filter fun x => !decide (x.p = p)) ++ ((l'.filter fun x => decide (x.p = p)).map (repl t))) Q (if zz ≤ lv - 1 then now else t)) := Lib.hid (by
          have hQ := AR.out.q
          rw [if_neg (by omega)]
          by_cases e4 : lv = 4
          · have hz4 : 4 ≤ z := by omega
            rw [if_pos (by omega)] at hQ
            have : p = 256 := by rw [hp, hsl, if_neg (by omega), e4]
            rw [this]
            refine hQ.step ?_
            rw [TN.out]
            exact step_beyond HQA.out (by rw [← TN.out]; exact HZ.out) hz4
          · have hph : p = hand t lv := by rw [hp, hsl, if_pos (by omega)]; rfl
            rw [hph]
            by_cases ez : zz ≤ lv
            · rw [if_pos ez] at hQ
              have hzlv : z = lv := by omega
              refine hQ.step ?_
              rw [TN.out, ← hzlv]
              exact step_level HQA.out (by rw [← TN.out]; exact HZ.out) (by omega) (by omega)
            · rw [if_neg ez] at hQ
              exact hQ.step (stepR_empty (rows_hand (fun x hx => by have := HQA.out x hx; have := TN.out; omega) (by omega) (by omega))))
        have OUTC := refOut_of AR.out.r p (by have := AR.out.n; omega)
        rw [show p / 64 = lv by omega, show p % 64 = sl by omega] at OUTC
        have OC := Lib.hid OUTC
        have hfl := filt_len (fun x => decide (x.p = p)) l'
        have MEM : Hid (∀ x, x ∈ l' → x.d < 18446744073709551616) := Lib.hid fun x hx => by
          obtain ⟨y, hy, -, e⟩ := AR.out.q.mem hx
          rw [← e]; exact HQ2.out y hy
        clear OUTC hp
        generalize hF : (l'.filter fun x => decide (x.p = p)) = F at *
        generalize hG : (l'.filter fun x => !decide (x.p = p)) = G at *
        have FM : Hid (∀ x, x ∈ F → x.d < 18446744073709551616) := Lib.hid fun x hx => MEM.out x (by rw [← hF] at hx; exact (List.mem_filter.1 hx).1)
        have ln' := AR.out.n
        clear hF hG MEM
        obtain ⟨wo, hwo⟩ : ∃ wo, wo = wr := ⟨_, rfl⟩
        subst hwo
        by_cases hl4 : lv < 4
        · have hl4z : (lv : Int) < 4 := by omega
          have hlz0 : (0 : Int) ≤ (lv : Int) := by omega
          have qd := AR.out.d lv (by omega)
          rw [show dg t lv = sl by rw [hsl, if_pos hl4]] at qd
          clear hsl
          go_wp2_with fail
          refine OC.out.mono ?_
          rintro e w5 ⟨ao, co, ar5, cr5, rfl, r5, g5, h5, g5b, dj, c5⟩
          have D5 : Hid (DigCells w5 gd t) := Lib.hid fun i hi => c5.keeps (AR.out.d i hi) (fun e => AR.out.g.1 e)
          have R5 := Lib.hid r5
          have H5 := Lib.hid h5
          have G5 := Lib.hid g5
          have G5b := Lib.hid g5b
          have DJ := Lib.hid dj
          have C5 := Lib.hid c5
          have rlt5 := AR.out.r.k.lt
          clear r5 h5 g5 g5b dj c5 OC
          obtain ⟨fn, hfn⟩ : ∃ fn, fn = F.length := ⟨_, rfl⟩
          have FN := Lib.hid hfn
          rw [← hfn] at R5 hfl ⊢
          clear hfn
          go_wp2
          go_loopw [8] (fun i wr => ∃ (k : Nat) (ar6 : Option Addr) (cr6 : Nat), k ≤ fn ∧ i = .int .i64 k ∧ RefW zc wr rb t (G ++ (F.take k).map (repl t)) ar6 cr6 ∧ RowD wr ao fn co F ∧ (∀ j, OwnS ao j → ¬ OwnS ar6 j) ∧ (∀ j, OwnS ar6 j → wo.heap.size ≤ j) ∧ DigCells wr gd t ∧ Ch (One rb) wo wr) (fun i _ => fn - (intOf i).toNat)
          case atStart => exact ⟨0, ar5, cr5, by omega, rfl, by simpa using H5.out, R5.out, DJ.out, G5b.out, D5.out, C5.out⟩
          case round =>
            obtain ⟨k, ar6, cr6, hk, rfl, h6, r6, dj6, g6, d6, c6⟩ := hrel
            have H6 := Lib.hid h6
            have R6 := Lib.hid r6
            have DJ6 := Lib.hid dj6
            have G6 := Lib.hid g6
            have D6 := Lib.hid d6
            have C6 := Lib.hid c6
            clear h6 r6 dj6 g6 d6 c6
            by_cases hlt : k < fn
            · obtain ⟨x, hx⟩ : ∃ x, F[k]? = some x := ⟨_, List.getElem?_eq_getElem (by rw [← FN.out]; exact hlt)⟩
              have hxd := FM.out x (List.mem_of_getElem? hx)
              obtain ⟨ga, rfl, -⟩ := R6.out.form (by omega)
              have lc6 := R6.out.len_cap
              have HX := Lib.hid hx
              have TK : Hid (F.take (k + 1) = F.take k ++ [x]) := Lib.hid (by rw [List.take_add_one, hx]; rfl)
              have hkz : (k : Int) < (fn : Int) := by omega
              have hkz0 : (0 : Int) ≤ (k : Int) := by omega
              clear hx
              go_upto_region 15 with (fail)
              have HD := Lib.hid (H6.out.kept (S := Nil) (Ch.refl _ wr).drew (fun _ _ e => e))
              have RD : Hid (RowD wr.drew (some ⟨ga, 0, none⟩) fn co F) := Lib.hid (Row.kept (S := Nil) R6.out (Ch.refl _ wr).drew (fun _ _ e => e))
              have DD : Hid (DigCells wr.drew gd t) := Lib.hid D6.out
              have CD : Hid (Ch (One rb) wo wr.drew) := Lib.hid C6.out.drew
              have qs := RowD.cells RD.out hlt HX.out
              refine wp_region_held_drew (S := fun w' => w'.cell? ⟨ga, k * 4, none⟩ = some (.int .i64 x.u) ∧ w'.cell? ⟨ga, k * 4 + 1, none⟩ = some (.int .u64 (x.d : Nat))) (by kernel_rfl) ⟨qs.1, qs.2.1⟩ (fun hHeld => ?_)
              clear H6 R6 D6 C6 qs
              generalize wr.drew = X at hHeld HD RD DD CD ⊢
              refine take_at (v := ?_) 0 (some 49) rfl (by kernel_rfl) (by kernel_rfl) (by kernel_rfl) (by kernel_rfl) (fun _ _ _ h => h) (Or.inl ⟨by rfl, ?_⟩) (by assumption) ?_
              rotate_left
              · intro w hSw; (try dsimp only at hSw); go_simp; try (with_reducible rfl)
              (try simp only [Act.put, List.setIfInBounds_toArray, List.set_cons_zero, List.set_cons_succ])
              refine take_at (v := ?_) 1 (some 50) rfl (by kernel_rfl) (by kernel_rfl) (by kernel_rfl) (by kernel_rfl) (fun _ _ _ h => h) (Or.inl ⟨by rfl, ?_⟩) (by assumption) ?_
              rotate_left
              · intro w hSw; (try dsimp only at hSw); go_simp; try (with_reducible rfl)
              (try simp only [Act.put, List.setIfInBounds_toArray, List.set_cons_zero, List.set_cons_succ])
              refine take_at (v := ?_) 2 (some 51) rfl (by kernel_rfl) (by kernel_rfl) (by kernel_rfl) (by kernel_rfl) (fun _ _ _ h => h) (Or.inl ⟨by rfl, ?_⟩) (by assumption) ?_
              rotate_left
              · intro w hSw; (try dsimp only at hSw); go_simp; try (with_reducible rfl)
              (try simp only [Act.put, List.setIfInBounds_toArray, List.set_cons_zero, List.set_cons_succ])
              refine take_at (v := ?_) 3 (some 52) rfl (by kernel_rfl) (by kernel_rfl) (by kernel_rfl) (by kernel_rfl) (fun _ _ _ h => h) (Or.inl ⟨by rfl, ?_⟩) (by assumption) ?_
              rotate_left
              · intro w hSw; (try dsimp only at hSw); go_simp; try (with_reducible rfl)
              (try simp only [Act.put, List.setIfInBounds_toArray, List.set_cons_zero, List.set_cons_succ])
              refine take_at (v := ?_) 4 (some 53) rfl (by kernel_rfl) (by kernel_rfl) (by kernel_rfl) (by kernel_rfl) (fun _ _ _ h => h) (Or.inl ⟨by rfl, ?_⟩) (by assumption) ?_
              rotate_left
              · intro w hSw; (try dsimp only at hSw); go_simp; try (with_reducible rfl)
              (try simp only [Act.put, List.setIfInBounds_toArray, List.set_cons_zero, List.set_cons_succ])
              refine take_at (v := ?_) 5 (some 54) rfl (by kernel_rfl) (by kernel_rfl) (by kernel_rfl) (by kernel_rfl) (fun _ _ _ h => h) (Or.inl ⟨by rfl, ?_⟩) (by assumption) ?_
              rotate_left
              · intro w hSw; (try dsimp only at hSw); go_simp; try (with_reducible rfl)
              (try simp only [Act.put, List.setIfInBounds_toArray, List.set_cons_zero, List.set_cons_succ])
              refine take_at (v := ?_) 6 (some 55) rfl (by kernel_rfl) (by kernel_rfl) (by kernel_rfl) (by kernel_rfl) (fun _ _ _ h => h) (Or.inl ⟨by rfl, ?_⟩) (by assumption) ?_
              rotate_left
              · intro w hSw; (try dsimp only at hSw); go_simp; try (with_reducible rfl)
              (try simp only [Act.put, List.setIfInBounds_toArray, List.set_cons_zero, List.set_cons_succ])
              refine take_at (v := ?_) 7 (some 56) rfl (by kernel_rfl) (by kernel_rfl) (by kernel_rfl) (by kernel_rfl) (fun _ _ _ h => h) (Or.inl ⟨by rfl, ?_⟩) (by assumption) ?_
              rotate_left
              · intro w hSw; (try dsimp only at hSw); go_simp; try (with_reducible rfl)
              (try simp only [Act.put, List.setIfInBounds_toArray, List.set_cons_zero, List.set_cons_succ])
              refine take_at (v := ?_) 8 (some 57) rfl (by kernel_rfl) (by kernel_rfl) (by kernel_rfl) (by kernel_rfl) (fun _ _ _ h => h) (Or.inl ⟨by rfl, ?_⟩) (by assumption) ?_
              rotate_left
              · intro w hSw; (try dsimp only at hSw); go_simp; try (with_reducible rfl)
              (try simp only [Act.put, List.setIfInBounds_toArray, List.set_cons_zero, List.set_cons_succ])
              refine take_at (v := ?_) 9 (some 58) rfl (by kernel_rfl) (by kernel_rfl) (by kernel_rfl) (by kernel_rfl) (fun _ _ _ h => h) (Or.inl ⟨by rfl, ?_⟩) (by assumption) ?_
              rotate_left
              · intro w hSw; (try dsimp only at hSw); go_simp; try (with_reducible rfl)
              (try simp only [Act.put, List.setIfInBounds_toArray, List.set_cons_zero, List.set_cons_succ])
              refine take_at (v := ?_) 10 (some 59) rfl (by kernel_rfl) (by kernel_rfl) (by kernel_rfl) (by kernel_rfl) (fun _ _ _ h => h) (Or.inl ⟨by rfl, ?_⟩) (by assumption) ?_
              rotate_left
              · intro w hSw; (try dsimp only at hSw); go_simp; try (with_reducible rfl)
              (try simp only [Act.put, List.setIfInBounds_toArray, List.set_cons_zero, List.set_cons_succ])
              refine wpAnyH_ready (rs := [11]) (by kernel_rfl) (by simp) ?_
              refine AllReadyH.cons rfl (fun K hK => ?_) AllReadyH.nil
              go_simp
              refine (refPlace_of HD.out x.u x.d hxd hn (by rw [List.length_append, List.length_map, List.length_take]; omega)).mono ?_
              rintro e w7 ⟨⟨r, rfl⟩, ar7, cr7, h7, g7, c7⟩
              have nga : ¬ RS rb ar6 ga := by
                rintro (e | e)
                · have := G5.out ga rfl; omega
                · exact DJ6.out ga rfl e
              have r7 := Row.kept RD.out c7 (fun j hj => by cases hj; exact nga)
              have qs := RowD.cells r7 hlt HX.out
              have rl7 := Row.lt RD.out
              have szX := CD.out.size
              have NX : Hid (RefW zc w7 rb t (G ++ (F.take (k + 1)).map (repl t)) ar7 cr7 ∧ RowD w7 (some ⟨ga, 0, none⟩) fn co F ∧ (∀ j, OwnS (some ⟨ga, 0, none⟩) j → ¬ OwnS ar7 j) ∧ (∀ j, OwnS ar7 j → wo.heap.size ≤ j) ∧ DigCells w7 gd t ∧ Ch (One rb) wo w7) := Lib.hid ⟨by
                  rw [TK.out, List.map_append, ← List.append_assoc]; exact h7, r7, fun j hj e => by
                  rcases g7 j e with h | h
                  · exact DJ6.out j hj h
                  · have := rl7 j hj; omega, fun j hj => by
                  rcases g7 j hj with h | h
                  · exact G6.out j h
                  · omega, fun i hi => c7.keeps (DD.out i hi) (by
                  rintro (e | e)
                  · exact AR.out.g.1 e
                  · have := G6.out gd e; have := AR.out.g.2.2.2; omega), CD.out.then c7 (fun j hj e => by
                  rcases e with e | e
                  · exact e
                  · have := G6.out j e; omega)⟩
              clear h7 g7 c7 r7 rl7
              refine hK.out _ _ ⟨qs.1, qs.2.1⟩ (fun hHeld => ?_)
              clear hK K qs hHeld HD RD DD CD
              (try simp only [Act.put, List.setIfInBounds_toArray, List.set_cons_zero, List.set_cons_succ])
              refine wpAnyH_done (by kernel_rfl) ?_ _
              go_wp2
              go_roundw
              case rel => exact ⟨k + 1, ar7, cr7, by omega, by go_num, NX.out⟩
              case measure => simp [intOf]; omega
            · obtain rfl : k = fn := by omega
              go_wp2
              go_roundw
              case rel =>
                have h6 := H6.out
                rw [FN.out, List.take_length] at h6
                refine ⟨lv - 1, _, ar6, cr6, by omega, by go_num, h6, NXQ.out, fun j hj => .inr (by have := G6.out j hj; have := AR.out.c.size; omega), by rw [List.length_append, List.length_map, ← FN.out]; omega, AR.out.c.then C6.out (fun j _ e => .inl e), D6.out, AR.out.g.1, fun e => by have := G6.out gd e; have := AR.out.g.2.2.2; omega, AR.out.g.2.2.1, by have := C6.out.size; have := AR.out.g.2.2.2; omega⟩
              case measure => simp [intOf]; omega
        · have hl4z : ¬ (lv : Int) < 4 := by omega
          have hl4d : decide ((lv : Int) < 4) = false := decide_eq_false hl4z
          have hs0 : sl = 0 := by rw [hsl, if_neg hl4]
          rw [hs0] at OC
          clear hsl hs0 hl4
          go_upto_region 9 with (fail)
          go_upto_region 11 with (fail)
          go_wp2_with fail
          refine OC.out.mono ?_
          rintro e w5 ⟨ao, co, ar5, cr5, rfl, r5, g5, h5, g5b, dj, c5⟩
          have D5 : Hid (DigCells w5 gd t) := Lib.hid fun i hi => c5.keeps (AR.out.d i hi) (fun e => AR.out.g.1 e)
          have R5 := Lib.hid r5
          have H5 := Lib.hid h5
          have G5 := Lib.hid g5
          have G5b := Lib.hid g5b
          have DJ := Lib.hid dj
          have C5 := Lib.hid c5
          have rlt5 := AR.out.r.k.lt
          clear r5 h5 g5 g5b dj c5 OC
          obtain ⟨fn, hfn⟩ : ∃ fn, fn = F.length := ⟨_, rfl⟩
          have FN := Lib.hid hfn
          rw [← hfn] at R5 hfl ⊢
          clear hfn
          go_wp2
          go_loopw [8] (fun i wr => ∃ (k : Nat) (ar6 : Option Addr) (cr6 : Nat), k ≤ fn ∧ i = .int .i64 k ∧ RefW zc wr rb t (G ++ (F.take k).map (repl t)) ar6 cr6 ∧ RowD wr ao fn co F ∧ (∀ j, OwnS ao j → ¬ OwnS ar6 j) ∧ (∀ j, OwnS ar6 j → wo.heap.size ≤ j) ∧ DigCells wr gd t ∧ Ch (One rb) wo wr) (fun i _ => fn - (intOf i).toNat)
          case atStart => exact ⟨0, ar5, cr5, by omega, rfl, by simpa using H5.out, R5.out, DJ.out, G5b.out, D5.out, C5.out⟩
          case round =>
            obtain ⟨k, ar6, cr6, hk, rfl, h6, r6, dj6, g6, d6, c6⟩ := hrel
            have H6 := Lib.hid h6
            have R6 := Lib.hid r6
            have DJ6 := Lib.hid dj6
            have G6 := Lib.hid g6
            have D6 := Lib.hid d6
            have C6 := Lib.hid c6
            clear h6 r6 dj6 g6 d6 c6
            by_cases hlt : k < fn
            · obtain ⟨x, hx⟩ : ∃ x, F[k]? = some x := ⟨_, List.getElem?_eq_getElem (by rw [← FN.out]; exact hlt)⟩
              have hxd := FM.out x (List.mem_of_getElem? hx)
              obtain ⟨ga, rfl, -⟩ := R6.out.form (by omega)
              have lc6 := R6.out.len_cap
              have HX := Lib.hid hx
              have TK : Hid (F.take (k + 1) = F.take k ++ [x]) := Lib.hid (by rw [List.take_add_one, hx]; rfl)
              have hkz : (k : Int) < (fn : Int) := by omega
              have hkz0 : (0 : Int) ≤ (k : Int) := by omega
              clear hx
              go_upto_region 15 with (fail)
              have HD := Lib.hid (H6.out.kept (S := Nil) (Ch.refl _ wr).drew (fun _ _ e => e))
              have RD : Hid (RowD wr.drew (some ⟨ga, 0, none⟩) fn co F) := Lib.hid (Row.kept (S := Nil) R6.out (Ch.refl _ wr).drew (fun _ _ e => e))
              have DD : Hid (DigCells wr.drew gd t) := Lib.hid D6.out
              have CD : Hid (Ch (One rb) wo wr.drew) := Lib.hid C6.out.drew
              have qs := RowD.cells RD.out hlt HX.out
              refine wp_region_held_drew (S := fun w' => w'.cell? ⟨ga, k * 4, none⟩ = some (.int .i64 x.u) ∧ w'.cell? ⟨ga, k * 4 + 1, none⟩ = some (.int .u64 (x.d : Nat))) (by kernel_rfl) ⟨qs.1, qs.2.1⟩ (fun hHeld => ?_)
              clear H6 R6 D6 C6 qs
              generalize wr.drew = X at hHeld HD RD DD CD ⊢
              refine take_at (v := ?_) 0 (some 49) rfl (by kernel_rfl) (by kernel_rfl) (by kernel_rfl) (by kernel_rfl) (fun _ _ _ h => h) (Or.inl ⟨by rfl, ?_⟩) (by assumption) ?_
              rotate_left
              · intro w hSw; (try dsimp only at hSw); go_simp; try (with_reducible rfl)
              (try simp only [Act.put, List.setIfInBounds_toArray, List.set_cons_zero, List.set_cons_succ])
              refine take_at (v := ?_) 1 (some 50) rfl (by kernel_rfl) (by kernel_rfl) (by kernel_rfl) (by kernel_rfl) (fun _ _ _ h => h) (Or.inl ⟨by rfl, ?_⟩) (by assumption) ?_
              rotate_left
              · intro w hSw; (try dsimp only at hSw); go_simp; try (with_reducible rfl)
              (try simp only [Act.put, List.setIfInBounds_toArray, List.set_cons_zero, List.set_cons_succ])
              refine take_at (v := ?_) 2 (some 51) rfl (by kernel_rfl) (by kernel_rfl) (by kernel_rfl) (by kernel_rfl) (fun _ _ _ h => h) (Or.inl ⟨by rfl, ?_⟩) (by assumption) ?_
              rotate_left
              · intro w hSw; (try dsimp only at hSw); go_simp; try (with_reducible rfl)
              (try simp only [Act.put, List.setIfInBounds_toArray, List.set_cons_zero, List.set_cons_succ])
              refine take_at (v := ?_) 3 (some 52) rfl (by kernel_rfl) (by kernel_rfl) (by kernel_rfl) (by kernel_rfl) (fun _ _ _ h => h) (Or.inl ⟨by rfl, ?_⟩) (by assumption) ?_
              rotate_left
              · intro w hSw; (try dsimp only at hSw); go_simp; try (with_reducible rfl)
              (try simp only [Act.put, List.setIfInBounds_toArray, List.set_cons_zero, List.set_cons_succ])
              refine take_at (v := ?_) 4 (some 53) rfl (by kernel_rfl) (by kernel_rfl) (by kernel_rfl) (by kernel_rfl) (fun _ _ _ h => h) (Or.inl ⟨by rfl, ?_⟩) (by assumption) ?_
              rotate_left
              · intro w hSw; (try dsimp only at hSw); go_simp; try (with_reducible rfl)
              (try simp only [Act.put, List.setIfInBounds_toArray, List.set_cons_zero, List.set_cons_succ])
              refine take_at (v := ?_) 5 (some 54) rfl (by kernel_rfl) (by kernel_rfl) (by kernel_rfl) (by kernel_rfl) (fun _ _ _ h => h) (Or.inl ⟨by rfl, ?_⟩) (by assumption) ?_
              rotate_left
              · intro w hSw; (try dsimp only at hSw); go_simp; try (with_reducible rfl)
              (try simp only [Act.put, List.setIfInBounds_toArray, List.set_cons_zero, List.set_cons_succ])
              refine take_at (v := ?_) 6 (some 55) rfl (by kernel_rfl) (by kernel_rfl) (by kernel_rfl) (by kernel_rfl) (fun _ _ _ h => h) (Or.inl ⟨by rfl, ?_⟩) (by assumption) ?_
              rotate_left
              · intro w hSw; (try dsimp only at hSw); go_simp; try (with_reducible rfl)
              (try simp only [Act.put, List.setIfInBounds_toArray, List.set_cons_zero, List.set_cons_succ])
              refine take_at (v := ?_) 7 (some 56) rfl (by kernel_rfl) (by kernel_rfl) (by kernel_rfl) (by kernel_rfl) (fun _ _ _ h => h) (Or.inl ⟨by rfl, ?_⟩) (by assumption) ?_
              rotate_left
              · intro w hSw; (try dsimp only at hSw); go_simp; try (with_reducible rfl)
              (try simp only [Act.put, List.setIfInBounds_toArray, List.set_cons_zero, List.set_cons_succ])
              refine take_at (v := ?_) 8 (some 57) rfl (by kernel_rfl) (by kernel_rfl) (by kernel_rfl) (by kernel_rfl) (fun _ _ _ h => h) (Or.inl ⟨by rfl, ?_⟩) (by assumption) ?_
              rotate_left
              · intro w hSw; (try dsimp only at hSw); go_simp; try (with_reducible rfl)
              (try simp only [Act.put, List.setIfInBounds_toArray, List.set_cons_zero, List.set_cons_succ])
              refine take_at (v := ?_) 9 (some 58) rfl (by kernel_rfl) (by kernel_rfl) (by kernel_rfl) (by kernel_rfl) (fun _ _ _ h => h) (Or.inl ⟨by rfl, ?_⟩) (by assumption) ?_
              rotate_left
              · intro w hSw; (try dsimp only at hSw); go_simp; try (with_reducible rfl)
              (try simp only [Act.put, List.setIfInBounds_toArray, List.set_cons_zero, List.set_cons_succ])
              refine take_at (v := ?_) 10 (some 59) rfl (by kernel_rfl) (by kernel_rfl) (by kernel_rfl) (by kernel_rfl) (fun _ _ _ h => h) (Or.inl ⟨by rfl, ?_⟩) (by assumption) ?_
              rotate_left
              · intro w hSw; (try dsimp only at hSw); go_simp; try (with_reducible rfl)
              (try simp only [Act.put, List.setIfInBounds_toArray, List.set_cons_zero, List.set_cons_succ])
              refine wpAnyH_ready (rs := [11]) (by kernel_rfl) (by simp) ?_
              refine AllReadyH.cons rfl (fun K hK => ?_) AllReadyH.nil
              go_simp
              refine (refPlace_of HD.out x.u x.d hxd hn (by rw [List.length_append, List.length_map, List.length_take]; omega)).mono ?_
              rintro e w7 ⟨⟨r, rfl⟩, ar7, cr7, h7, g7, c7⟩
              have nga : ¬ RS rb ar6 ga := by
                rintro (e | e)
                · have := G5.out ga rfl; omega
                · exact DJ6.out ga rfl e
              have r7 := Row.kept RD.out c7 (fun j hj => by cases hj; exact nga)
              have qs := RowD.cells r7 hlt HX.out
              have rl7 := Row.lt RD.out
              have szX := CD.out.size
              have NX : Hid (RefW zc w7 rb t (G ++ (F.take (k + 1)).map (repl t)) ar7 cr7 ∧ RowD w7 (some ⟨ga, 0, none⟩) fn co F ∧ (∀ j, OwnS (some ⟨ga, 0, none⟩) j → ¬ OwnS ar7 j) ∧ (∀ j, OwnS ar7 j → wo.heap.size ≤ j) ∧ DigCells w7 gd t ∧ Ch (One rb) wo w7) := Lib.hid ⟨by
                  rw [TK.out, List.map_append, ← List.append_assoc]; exact h7, r7, fun j hj e => by
                  rcases g7 j e with h | h
                  · exact DJ6.out j hj h
                  · have := rl7 j hj; omega, fun j hj => by
                  rcases g7 j hj with h | h
                  · exact G6.out j h
                  · omega, fun i hi => c7.keeps (DD.out i hi) (by
                  rintro (e | e)
                  · exact AR.out.g.1 e
                  · have := G6.out gd e; have := AR.out.g.2.2.2; omega), CD.out.then c7 (fun j hj e => by
                  rcases e with e | e
                  · exact e
                  · have := G6.out j e; omega)⟩
              clear h7 g7 c7 r7 rl7
              refine hK.out _ _ ⟨qs.1, qs.2.1⟩ (fun hHeld => ?_)
              clear hK K qs hHeld HD RD DD CD
              (try simp only [Act.put, List.setIfInBounds_toArray, List.set_cons_zero, List.set_cons_succ])
              refine wpAnyH_done (by kernel_rfl) ?_ _
              go_wp2
              go_roundw
              case rel => exact ⟨k + 1, ar7, cr7, by omega, by go_num, NX.out⟩
              case measure => simp [intOf]; omega
            · obtain rfl : k = fn := by omega
              go_wp2
              go_roundw
              case rel =>
                have h6 := H6.out
                rw [FN.out, List.take_length] at h6
                refine ⟨lv - 1, _, ar6, cr6, by omega, by go_num, h6, NXQ.out, fun j hj => .inr (by have := G6.out j hj; have := AR.out.c.size; omega), by rw [List.length_append, List.length_map, ← FN.out]; omega, AR.out.c.then C6.out (fun j _ e => .inl e), D6.out, AR.out.g.1, fun e => by have := G6.out gd e; have := AR.out.g.2.2.2; omega, AR.out.g.2.2.1, by have := C6.out.size; have := AR.out.g.2.2.2; omega⟩
              case measure => simp [intOf]; omega
    · obtain rfl : lv = 0 := by omega
      have hQt : RQ f l' Q t := by
        have h := AR.out.q
        by_cases e : zz ≤ 0
        · rw [if_pos e] at h
          refine h.same ?_
          rw [TN.out]
          exact step_none HQA.out (by have hz := HZ.out; rw [show z = 0 by omega, TN.out] at hz; exact hz)
        · rw [if_neg e] at h; exact h
      obtain ⟨q1, q2⟩ := hQt.take (fun x hx => by have := HQA.out x hx; have := TN.out; omega)
      rw [show hand t 0 = dg t 0 by unfold hand; omega] at q1 q2
      have OUTC := refOut_of AR.out.r (dg t 0) (by have := AR.out.n; omega)
      have hdl := dg_lt t 0
      rw [show dg t 0 / 64 = 0 by omega, show dg t 0 % 64 = dg t 0 by omega] at OUTC
      have OC := Lib.hid OUTC
      have Q1 := Lib.hid q1
      have Q2 := Lib.hid q2
      have qd := AR.out.d 0 (by omega)
      have ln' := AR.out.n
      clear OUTC q1 q2 hQt
      generalize dg t 0 = sl at *
      go_wp2_with fail
      refine OC.out.mono ?_
      rintro e w5 ⟨ao, co, ar5, cr5, rfl, r5, g5, h5, g5b, dj, c5⟩
      have R5 := Lib.hid r5
      have H5 := Lib.hid h5
      have G5 := Lib.hid g5
      have G5b := Lib.hid g5b
      have C5 := Lib.hid c5
      have szr := AR.out.c.size
      clear r5 h5 g5 g5b dj c5 OC
      go_wp2
      go_ret
      exact ⟨ao, co, _, _, ar5, cr5, rfl, R5.out, Q2.out, H5.out, Q1.out, Nat.le_trans (List.length_filter_le _ _) ln', fun k hk => .inr (by have := G5b.out k hk; omega), fun k hk => by have := G5.out k hk; omega, AR.out.c.then C5.out (fun k _ e => .inl e)⟩
end
end Go.Proofs.YtldnmpiaofppgaaDoor
