/-
  Contracts of package wheel's whole and Remove, of ints.
-/
import Derived.Test.YtkfknafgknppdaaDoorWheelNums
namespace Go.Proofs.YtkfknafgknppdaaDoor.LP
open Go.RowKit Verge
attribute [local go_sem] Oper.semAt_some
set_option linter.unusedVariables false
set_option linter.unusedSimpArgs false
section
variable {S : Nat → Prop} {w w' w0 : World} {g : Wh} {now : Nat} {R : Nat → List Ent} {P Q : List Ent} {x : Ent}
theorem IsW.nodev (H : IsW w g now R P) (hx : x ∈ P) : w.cell? ⟨x.e + 1, 0, none⟩ = some (.pointer (some ⟨x.e, 0, none⟩)) := by
  by_cases hf : ∀ p, p ≤ 256 → x ∉ R p
  · exact (H.f x hx hf).v
  · have : ∃ p, p ≤ 256 ∧ x ∈ R p := Classical.byContradiction fun hn => hf fun p hp hm => hn ⟨p, hp, hm⟩
    obtain ⟨p, hp, hm⟩ := this
    by_cases e : p = 256
    · subst e
      obtain ⟨i, -, h⟩ := H.l.node (b := x.e + 1) (List.mem_map_of_mem (f := nd) hm)
      exact h.v
    · have hl := (H.v (p / 64) (by omega)).l (p % 64) (by omega)
      rw [nrow_at (by omega), show 64 * (p / 64) + p % 64 = p by omega] at hl
      obtain ⟨i, -, h⟩ := hl.node (b := x.e + 1) (List.mem_map_of_mem (f := nd) hm)
      exact h.v
theorem whole_of (w : World) (e : Nat) (h1 : w.cell? ⟨e, 3, none⟩ = some (.pointer (some ⟨e + 1, 0, none⟩))) (h2 : w.cell? ⟨e + 1, 0, none⟩ = some (.pointer (some ⟨e, 0, none⟩))) (hk : Blk w e) :
    Calls Tryd.prog 22 #[.pointer (some ⟨e, 0, none⟩)] w fun r w' => r = .returned (.bool true) ∧ w = w' := by
  have hE : (binOp .eql 34 (pt (some e)) (pt (some e))).run Tryd.prog w = .ok (.bool (decide (some e = some e))) w := run_eql_pt (some e) (some e) (fun x h => by cases h; exact hk) (fun x h => by cases h; exact hk) Tryd.underlying34 (by kernel_rfl)
  rw [decide_eq_true rfl] at hE
  simp only [pt_some] at hE
  clear hk
  go_enter Tryd.func22, Tryd.ntmps22
  go_wp2
  go_ret
  exact ⟨rfl, rfl⟩
theorem erase_filter : ∀ (l : List Ent), l.Nodup → ∀ i, l[i]? = some x → l.eraseIdx i = l.filter (fun y => decide (y ≠ x))
  | [], _, i, h => by simp at h
  | y :: t, hn, 0, h => by
    simp at h; subst h
    have hn' := List.nodup_cons.1 hn
    simp only [List.eraseIdx_zero, List.tail_cons, List.filter_cons]
    rw [if_neg (by simp)]
    symm
    rw [List.filter_eq_self]
    intro z hz
    simp only [decide_eq_true_eq]
    rintro rfl; exact hn'.1 hz
  | y :: t, hn, i + 1, h => by
    have hn' := List.nodup_cons.1 hn
    simp only [List.getElem?_cons_succ] at h
    simp only [List.eraseIdx_cons_succ, List.filter_cons]
    have : y ≠ x := by rintro rfl; exact hn'.1 (List.mem_of_getElem? h)
    rw [if_pos (by simpa using this), erase_filter t hn'.2 i h]
theorem map_eraseIdxE : ∀ (l : List Ent) (i : Nat), (l.eraseIdx i).map nd = (l.map nd).eraseIdx i
  | [], _ => rfl
  | _ :: _, 0 => rfl
  | y :: t, i + 1 => by simp only [List.eraseIdx_cons_succ, List.map_cons, map_eraseIdxE t i]
/-- what lies beyond loses a node -/
theorem IsW.unlB (H : IsW w g now R P) (hx : x ∈ R 256) (hl : (R 256).length ≤ 1000000) :
    Calls Tryd.prog 24 #[.pointer (some ⟨g.lb, 0, none⟩), .pointer (some ⟨x.e + 1, 0, none⟩)] w fun e w' => e = .returned (.int .i64 0) ∧ IsW w' g now (upd R 256 ((R 256).filter fun y => decide (y ≠ x))) P ∧ Ch (WS g P) w w' := by
  obtain ⟨i, hi⟩ := List.mem_iff_getElem?.1 hx
  have hi' : ((R 256).map nd)[i]? = some (x.e + 1) := by rw [List.getElem?_map, hi]; rfl
  have he := erase_filter _ (H.nodup (p := 256) (by omega)) i hi
  refine (H.l.unlink hi' (by rw [List.length_map]; exact hl)).mono ?_
  rintro e w' ⟨rfl, h1, n1, c1⟩
  have c2 : Ch (fun k => CB g R (256 / 64) k ∨ ∃ y : Ent, False ∧ k = y.e + 1) w w' := c1.mono fun k _ hk => .inl (lB_cb hk)
  refine ⟨rfl, H.turned (N := fun _ => False) (by omega) c2 (fun y e => e.elim) (fun y hy => .inl (List.mem_filter.1 hy).1) (fun e => by omega) (fun _ => ?_) (fun y hy hn hc => ?_), c1.mono fun k _ hk => CB.ws H.y (lB_cb hk)⟩
  · rw [← he, map_eraseIdxE]; exact h1
  · rcases hc with hc | hc
    · obtain rfl : y = x := Classical.byContradiction fun hne => hn (List.mem_filter.2 ⟨hc, by simpa using hne⟩)
      exact n1
    · exact hc.elim
theorem IsW.remL {h s : Nat} (H : IsW w g now R P) (hh : h < 4) (hs : s < 64) (hx : x ∈ R (64 * h + s)) (hl : (R (64 * h + s)).length ≤ 1000000) :
    Calls Tryd.prog 25 #[.pointer (some ⟨g.vb h, 0, none⟩), .int .i64 (s : Nat), .pointer (some ⟨x.e + 1, 0, none⟩)] w fun e w' => e = .returned (.int .i64 0) ∧ IsW w' g now (upd R (64 * h + s) ((R (64 * h + s)).filter fun y => decide (y ≠ x))) P ∧ Ch (WS g P) w w' := by
  have hd : (64 * h + s) / 64 = h := by omega
  have hm : (64 * h + s) % 64 = s := by omega
  obtain ⟨i, hi⟩ := List.mem_iff_getElem?.1 hx
  have hi' : (nrow R h s)[i]? = some (x.e + 1) := by rw [nrow_at hs, List.getElem?_map, hi]; rfl
  have he := erase_filter _ (H.nodup (p := 64 * h + s) (by omega)) i hi
  refine (vrem_of (H.v h hh) hs hi' (by rw [nrow_len hs]; exact hl)).mono ?_
  rintro e w' ⟨rfl, h1, n1, c1⟩
  have c2 : Ch (fun k => CB g R ((64 * h + s) / 64) k ∨ ∃ y : Ent, False ∧ k = y.e + 1) w w' := c1.mono fun k _ hk => .inl (by rw [hd]; exact lvB_cb hh hk)
  refine ⟨rfl, H.turned (N := fun _ => False) (by omega) c2 (fun y e => e.elim) (fun y hy => .inl (List.mem_filter.1 hy).1) (fun _ => ?_) (fun e => by omega) (fun y hy hn hc => ?_), c1.mono fun k _ hk => CB.ws H.y (lvB_cb hh hk)⟩
  · rw [hd, hm, ← he, map_eraseIdxE]; rw [nrow_at hs] at h1; exact h1
  · rcases hc with hc | hc
    · obtain rfl : y = x := Classical.byContradiction fun hne => hn (List.mem_filter.2 ⟨hc, by simpa using hne⟩)
      exact n1
    · exact hc.elim
theorem IsW.unlB_none (H : IsW w g now R P) (hx : x ∈ P) (hf : ∀ p, p ≤ 256 → x ∉ R p) :
    Calls Tryd.prog 24 #[.pointer (some ⟨g.lb, 0, none⟩), .pointer (some ⟨x.e + 1, 0, none⟩)] w fun e w' => e = .returned (.int .i64 6) ∧ IsW w' g now R P ∧ Ch (WS g P) w w' :=
  (unlink_none g.lb (x.e + 1) none w (H.f x hx hf).l H.l.h.k (fun _ e => (by cases e)) (by simp)).mono fun e w' ⟨he, hw⟩ => ⟨he, hw ▸ H, hw ▸ Ch.refl _ _⟩
theorem IsW.remL_none {h s : Nat} (H : IsW w g now R P) (hh : h < 4) (hs : s < 64) (hx : x ∈ P) (hf : ∀ p, p ≤ 256 → x ∉ R p) :
    Calls Tryd.prog 25 #[.pointer (some ⟨g.vb h, 0, none⟩), .int .i64 (s : Nat), .pointer (some ⟨x.e + 1, 0, none⟩)] w fun e w' => e = .returned (.int .i64 6) ∧ IsW w' g now R P ∧ Ch (WS g P) w w' := by
  refine (vrem_none (H.v h hh) hs (H.f x hx hf).l (fun _ e => (by cases e)) (by simp)).mono ?_
  rintro e w' ⟨rfl, h1, c1⟩
  have c2 : Ch (fun k => CB g R ((64 * h + s) / 64) k ∨ ∃ y : Ent, False ∧ k = y.e + 1) w w' := c1.mono fun k _ hk => .inl (.inl (.inl ⟨by omega, .inl (by rw [hk, show (64 * h + s) / 64 = h by omega])⟩))
  have hT := H.turned (N := fun _ => False) (p := 64 * h + s) (ys := R (64 * h + s)) (by omega) c2 (fun y e => e.elim) (fun y hy => .inl hy) (fun _ => by
    rw [show (64 * h + s) / 64 = h by omega, show (64 * h + s) % 64 = s by omega, ← nrow_at hs, upd_self]; exact h1) (fun e => by omega) (fun y hy hn hc => by
    rcases hc with hc | hc
    · exact absurd hc hn
    · exact hc.elim)
  rw [upd_self] at hT
  exact ⟨rfl, hT, c1.mono fun k _ hk => .inr (.inl ⟨h, .inl ⟨hh, .inl hk⟩⟩)⟩

/-- what Remove answers, and what it leaves: the entry of that number taken out, if it was there -/
theorem IsQ.remove_any (H : IsQ w g now Q P) (hx : x ∈ P) (hl : Q.length ≤ 100000) (r : Int) (R' : Nat → List Ent)
    (hB : spotN x.d now = 256 → ∀ W, IsW W g now (rowsOf Q now) P → Calls Tryd.prog 24 #[.pointer (some ⟨g.lb, 0, none⟩), .pointer (some ⟨x.e + 1, 0, none⟩)] W fun e w' => e = .returned (.int .i64 r) ∧ IsW w' g now R' P ∧ Ch (WS g P) W w')
    (hL : ∀ h s : Nat, h < 4 → s < 64 → spotN x.d now = 64 * h + s → ∀ W, IsW W g now (rowsOf Q now) P → Calls Tryd.prog 25 #[.pointer (some ⟨g.vb h, 0, none⟩), .int .i64 (s : Nat), .pointer (some ⟨x.e + 1, 0, none⟩)] W fun e w' => e = .returned (.int .i64 r) ∧ IsW w' g now R' P ∧ Ch (WS g P) W w') :
    Calls Tryd.prog 8 #[.pointer (some ⟨g.wb, 0, none⟩), .pointer (some ⟨x.e, 0, none⟩)] w fun e w' => e = .returned (.int .i64 r) ∧ IsW w' g now R' P ∧ Ch (WS g P) w w' := by
  have WO := Lib.hid (whole_of w x.e (H.w.e x hx).n (H.w.nodev hx) (H.w.e x hx).k)
  have SP := Lib.hid (H.w.spot hx)
  have SH := Lib.hid (spot_hgt x.d now (H.w.dl x hx) H.w.nl)
  have DL := Lib.hid (dg_lt x.d (hgt x.d now))
  have HB := Lib.hid hB
  have HL := Lib.hid hL
  have H0 := Lib.hid H.w
  have HX := Lib.hid hx
  clear hB hL H hx
  go_enter Tryd.func8, Tryd.ntmps8
  go_wp2_with fail
  refine WO.out.mono ?_
  rintro e w1 ⟨rfl, rfl⟩
  go_wp2_with fail
  refine SP.out.mono ?_
  rintro e w5 ⟨rfl, c5⟩
  have H5 := Lib.hid (H0.out.kept c5 (fun _ _ e => e))
  have C5 : Hid (Ch (WS g P) w w5) := Lib.hid (c5.mono fun _ _ e => e.elim)
  clear c5 SP H0 WO
  generalize hgt x.d now = h at *
  generalize dg x.d h = s at *
  by_cases h4 : 4 ≤ h
  · have hz : (4 : Int) ≤ (h : Int) := by omega
    have s1 := SH.out.2.1 h4
    have S1 := Lib.hid s1
    clear s1
    go_upto_region 9 with (fail)
    have HD : Hid (IsW w5.drew g now (rowsOf Q now) P) := Lib.hid (H5.out.kept (S := Nil) (Ch.refl _ _).drew (fun _ _ e => e))
    have CD : Hid (Ch (WS g P) w w5.drew) := Lib.hid C5.out.drew
    clear H5 C5
    refine wp_region_held_drew (S := fun w' => w'.cell? ⟨g.wb, 5, none⟩ = some (.pointer (some ⟨g.lb, 0, none⟩)) ∧ w'.cell? ⟨x.e, 3, none⟩ = some (.pointer (some ⟨x.e + 1, 0, none⟩))) (by kernel_rfl) ⟨HD.out.b, (HD.out.e x HX.out).n⟩ (fun hHeld => ?_)
    generalize w5.drew = W at *
    refine take_at (v := ?_) 0 (some 25) rfl (by kernel_rfl) (by kernel_rfl) (by kernel_rfl) (by kernel_rfl) (fun _ _ _ h => h) (Or.inl ⟨by rfl, ?_⟩) (by assumption) ?_
    rotate_left
    · intro w hSw; (try dsimp only at hSw); go_simp; try (with_reducible rfl)
    (try simp only [Act.put, List.setIfInBounds_toArray, List.set_cons_zero, List.set_cons_succ])
    refine take_at (v := ?_) 1 (some 26) rfl (by kernel_rfl) (by kernel_rfl) (by kernel_rfl) (by kernel_rfl) (fun _ _ _ h => h) (Or.inl ⟨by rfl, ?_⟩) (by assumption) ?_
    rotate_left
    · intro w hSw; (try dsimp only at hSw); go_simp; try (with_reducible rfl)
    (try simp only [Act.put, List.setIfInBounds_toArray, List.set_cons_zero, List.set_cons_succ])
    refine take_at (v := ?_) 2 (some 27) rfl (by kernel_rfl) (by kernel_rfl) (by kernel_rfl) (by kernel_rfl) (fun _ _ _ h => h) (Or.inl ⟨by rfl, ?_⟩) (by assumption) ?_
    rotate_left
    · intro w hSw; (try dsimp only at hSw); go_simp; try (with_reducible rfl)
    (try simp only [Act.put, List.setIfInBounds_toArray, List.set_cons_zero, List.set_cons_succ])
    refine take_at (v := ?_) 3 (some 28) rfl (by kernel_rfl) (by kernel_rfl) (by kernel_rfl) (by kernel_rfl) (fun _ _ _ h => h) (Or.inl ⟨by rfl, ?_⟩) (by assumption) ?_
    rotate_left
    · intro w hSw; (try dsimp only at hSw); go_simp; try (with_reducible rfl)
    (try simp only [Act.put, List.setIfInBounds_toArray, List.set_cons_zero, List.set_cons_succ])
    refine take_at (v := ?_) 4 (some 29) rfl (by kernel_rfl) (by kernel_rfl) (by kernel_rfl) (by kernel_rfl) (fun _ _ _ h => h) (Or.inl ⟨by rfl, ?_⟩) (by assumption) ?_
    rotate_left
    · intro w hSw; (try dsimp only at hSw); go_simp; try (with_reducible rfl)
    (try simp only [Act.put, List.setIfInBounds_toArray, List.set_cons_zero, List.set_cons_succ])
    refine take_at (v := ?_) 5 (some 30) rfl (by kernel_rfl) (by kernel_rfl) (by kernel_rfl) (by kernel_rfl) (fun _ _ _ h => h) (Or.inl ⟨by rfl, ?_⟩) (by assumption) ?_
    rotate_left
    · intro w hSw; (try dsimp only at hSw); go_simp; try (with_reducible rfl)
    (try simp only [Act.put, List.setIfInBounds_toArray, List.set_cons_zero, List.set_cons_succ])
    refine take_at (v := ?_) 6 (some 31) rfl (by kernel_rfl) (by kernel_rfl) (by kernel_rfl) (by kernel_rfl) (fun _ _ _ h => h) (Or.inl ⟨by rfl, ?_⟩) (by assumption) ?_
    rotate_left
    · intro w hSw; (try dsimp only at hSw); go_simp; try (with_reducible rfl)
    (try simp only [Act.put, List.setIfInBounds_toArray, List.set_cons_zero, List.set_cons_succ])
    refine take_at (v := ?_) 7 (some 32) rfl (by kernel_rfl) (by kernel_rfl) (by kernel_rfl) (by kernel_rfl) (fun _ _ _ h => h) (Or.inl ⟨by rfl, ?_⟩) (by assumption) ?_
    rotate_left
    · intro w hSw; (try dsimp only at hSw); go_simp; try (with_reducible rfl)
    (try simp only [Act.put, List.setIfInBounds_toArray, List.set_cons_zero, List.set_cons_succ])
    refine wpAnyH_ready (rs := [8]) (by kernel_rfl) (by simp) ?_
    refine AllReadyH.cons rfl (fun K hK => ?_) AllReadyH.nil
    go_simp
    refine (HB.out S1.out _ HD.out).mono ?_
    rintro e w6 ⟨rfl, h6, c6⟩
    have nb := h6.b
    have ne := (h6.e x HX.out).n
    have NEXT := Lib.hid h6
    have C6 := Lib.hid (CD.out.trans c6)
    clear h6 c6
    refine hK.out _ _ ⟨nb, ne⟩ (fun hHeld => ?_)
    clear hK K nb ne
    (try simp only [Act.put, List.setIfInBounds_toArray, List.set_cons_zero, List.set_cons_succ])
    refine take_at (v := ?_) 9 (some 4) rfl (by kernel_rfl) (by kernel_rfl) (by kernel_rfl) (by kernel_rfl) (fun _ _ _ h => h) (Or.inl ⟨by rfl, ?_⟩) (by assumption) ?_
    rotate_left
    · intro w hSw; (try dsimp only at hSw); go_simp; try (with_reducible rfl)
    (try simp only [Act.put, List.setIfInBounds_toArray, List.set_cons_zero, List.set_cons_succ])
    refine wpAnyH_done (by kernel_rfl) ?_ _
    go_wp2
    go_ret
    exact ⟨rfl, NEXT.out, C6.out⟩
  · have hz : (h : Int) < 4 := by omega
    have hz0 : (0 : Int) ≤ (h : Int) := by omega
    have s1 := SH.out.1 (by omega)
    have S1 := Lib.hid s1
    clear s1
    go_upto_region 10 with (fail)
    have HD : Hid (IsW w5.drew g now (rowsOf Q now) P) := Lib.hid (H5.out.kept (S := Nil) (Ch.refl _ _).drew (fun _ _ e => e))
    have CD : Hid (Ch (WS g P) w w5.drew) := Lib.hid C5.out.drew
    clear H5 C5
    refine wp_region_held_drew (S := fun w' => w'.cell? ⟨g.wb, 1 + h, none⟩ = some (.pointer (some ⟨g.vb h, 0, none⟩)) ∧ w'.cell? ⟨x.e, 3, none⟩ = some (.pointer (some ⟨x.e + 1, 0, none⟩))) (by kernel_rfl) ⟨HD.out.p h (by omega), (HD.out.e x HX.out).n⟩ (fun hHeld => ?_)
    generalize w5.drew = W at *
    refine take_at (v := ?_) 0 (some 34) rfl (by kernel_rfl) (by kernel_rfl) (by kernel_rfl) (by kernel_rfl) (fun _ _ _ h => h) (Or.inl ⟨by rfl, ?_⟩) (by assumption) ?_
    rotate_left
    · intro w hSw; (try dsimp only at hSw); go_simp; try (with_reducible rfl)
    (try simp only [Act.put, List.setIfInBounds_toArray, List.set_cons_zero, List.set_cons_succ])
    refine take_at (v := ?_) 1 (some 35) rfl (by kernel_rfl) (by kernel_rfl) (by kernel_rfl) (by kernel_rfl) (fun _ _ _ h => h) (Or.inl ⟨by rfl, ?_⟩) (by assumption) ?_
    rotate_left
    · intro w hSw; (try dsimp only at hSw); go_simp; try (with_reducible rfl)
    (try simp only [Act.put, List.setIfInBounds_toArray, List.set_cons_zero, List.set_cons_succ])
    refine take_at (v := ?_) 2 (some 36) rfl (by kernel_rfl) (by kernel_rfl) (by kernel_rfl) (by kernel_rfl) (fun _ _ _ h => h) (Or.inl ⟨by rfl, ?_⟩) (by assumption) ?_
    rotate_left
    · intro w hSw; (try dsimp only at hSw); go_simp; try (with_reducible rfl)
    (try simp only [Act.put, List.setIfInBounds_toArray, List.set_cons_zero, List.set_cons_succ])
    refine take_at (v := ?_) 3 (some 37) rfl (by kernel_rfl) (by kernel_rfl) (by kernel_rfl) (by kernel_rfl) (fun _ _ _ h => h) (Or.inl ⟨by rfl, ?_⟩) (by assumption) ?_
    rotate_left
    · intro w hSw; (try dsimp only at hSw); go_simp; try (with_reducible rfl)
    (try simp only [Act.put, List.setIfInBounds_toArray, List.set_cons_zero, List.set_cons_succ])
    refine take_at (v := ?_) 4 (some 38) rfl (by kernel_rfl) (by kernel_rfl) (by kernel_rfl) (by kernel_rfl) (fun _ _ _ h => h) (Or.inl ⟨by rfl, ?_⟩) (by assumption) ?_
    rotate_left
    · intro w hSw; (try dsimp only at hSw); go_simp; try (with_reducible rfl)
    (try simp only [Act.put, List.setIfInBounds_toArray, List.set_cons_zero, List.set_cons_succ])
    refine take_at (v := ?_) 5 (some 39) rfl (by kernel_rfl) (by kernel_rfl) (by kernel_rfl) (by kernel_rfl) (fun _ _ _ h => h) (Or.inl ⟨by rfl, ?_⟩) (by assumption) ?_
    rotate_left
    · intro w hSw; (try dsimp only at hSw); go_simp; try (with_reducible rfl)
    (try simp only [Act.put, List.setIfInBounds_toArray, List.set_cons_zero, List.set_cons_succ])
    refine take_at (v := ?_) 6 (some 40) rfl (by kernel_rfl) (by kernel_rfl) (by kernel_rfl) (by kernel_rfl) (fun _ _ _ h => h) (Or.inl ⟨by rfl, ?_⟩) (by assumption) ?_
    rotate_left
    · intro w hSw; (try dsimp only at hSw); go_simp; try (with_reducible rfl)
    (try simp only [Act.put, List.setIfInBounds_toArray, List.set_cons_zero, List.set_cons_succ])
    refine take_at (v := ?_) 7 (some 41) rfl (by kernel_rfl) (by kernel_rfl) (by kernel_rfl) (by kernel_rfl) (fun _ _ _ h => h) (Or.inl ⟨by rfl, ?_⟩) (by assumption) ?_
    rotate_left
    · intro w hSw; (try dsimp only at hSw); go_simp; try (with_reducible rfl)
    (try simp only [Act.put, List.setIfInBounds_toArray, List.set_cons_zero, List.set_cons_succ])
    refine take_at (v := ?_) 8 (some 42) rfl (by kernel_rfl) (by kernel_rfl) (by kernel_rfl) (by kernel_rfl) (fun _ _ _ h => h) (Or.inl ⟨by rfl, ?_⟩) (by assumption) ?_
    rotate_left
    · intro w hSw; (try dsimp only at hSw); go_simp; try (with_reducible rfl)
    (try simp only [Act.put, List.setIfInBounds_toArray, List.set_cons_zero, List.set_cons_succ])
    refine take_at (v := ?_) 9 (some 43) rfl (by kernel_rfl) (by kernel_rfl) (by kernel_rfl) (by kernel_rfl) (fun _ _ _ h => h) (Or.inl ⟨by rfl, ?_⟩) (by assumption) ?_
    rotate_left
    · intro w hSw; (try dsimp only at hSw); go_simp; try (with_reducible rfl)
    (try simp only [Act.put, List.setIfInBounds_toArray, List.set_cons_zero, List.set_cons_succ])
    refine take_at (v := ?_) 10 (some 44) rfl (by kernel_rfl) (by kernel_rfl) (by kernel_rfl) (by kernel_rfl) (fun _ _ _ h => h) (Or.inl ⟨by rfl, ?_⟩) (by assumption) ?_
    rotate_left
    · intro w hSw; (try dsimp only at hSw); go_simp; try (with_reducible rfl)
    (try simp only [Act.put, List.setIfInBounds_toArray, List.set_cons_zero, List.set_cons_succ])
    refine wpAnyH_ready (rs := [11]) (by kernel_rfl) (by simp) ?_
    refine AllReadyH.cons rfl (fun K hK => ?_) AllReadyH.nil
    go_simp
    refine (HL.out h s (by omega) DL.out S1.out _ HD.out).mono ?_
    rintro e w6 ⟨rfl, h6, c6⟩
    have nb := h6.p h (by omega)
    have ne := (h6.e x HX.out).n
    have NEXT := Lib.hid h6
    have C6 := Lib.hid (CD.out.trans c6)
    clear h6 c6
    refine hK.out _ _ ⟨nb, ne⟩ (fun hHeld => ?_)
    clear hK K nb ne
    (try simp only [Act.put, List.setIfInBounds_toArray, List.set_cons_zero, List.set_cons_succ])
    refine take_at (v := ?_) 12 (some 4) rfl (by kernel_rfl) (by kernel_rfl) (by kernel_rfl) (by kernel_rfl) (fun _ _ _ h => h) (Or.inl ⟨by rfl, ?_⟩) (by assumption) ?_
    rotate_left
    · intro w hSw; (try dsimp only at hSw); go_simp; try (with_reducible rfl)
    (try simp only [Act.put, List.setIfInBounds_toArray, List.set_cons_zero, List.set_cons_succ])
    refine wpAnyH_done (by kernel_rfl) ?_ _
    go_wp2
    go_ret
    exact ⟨rfl, NEXT.out, C6.out⟩
theorem Drv.remove_in (D : Drv w0 w g now Q P) (hx : x ∈ Q) (hl : Q.length ≤ 100000) :
    Calls Tryd.prog 8 #[.pointer (some ⟨g.wb, 0, none⟩), .pointer (some ⟨x.e, 0, none⟩)] w fun e w' => e = .returned (.int .i64 0) ∧ Drv w0 w' g now (woQ Q x) P ∧ Ch (WS g P) w w' := by
  have hlen : ∀ p, (rowsOf Q now p).length ≤ 1000000 := fun p => by have := rowsOf_len (Q := Q) (now := now) (p := p); omega
  have hm : x ∈ rowsOf Q now (spotN x.d now) := mem_rowsOf.2 ⟨hx, rfl⟩
  refine (D.q.remove_any (D.q.p x hx) hl 0 (upd (rowsOf Q now) (spotN x.d now) ((rowsOf Q now (spotN x.d now)).filter fun y => decide (y ≠ x))) (fun e W h => ?_) (fun h s hh hs e W hW => ?_)).mono ?_
  · rw [e] at hm ⊢; exact h.unlB hm (hlen _)
  · rw [e] at hm ⊢; exact hW.remL hh hs hm (hlen _)
  · rintro e w' ⟨rfl, h, c⟩
    rw [rows_wo] at h
    exact ⟨rfl, ⟨⟨h, fun y hy => D.q.p y (List.mem_filter.1 hy).1, fun y hy => D.q.a y (List.mem_filter.1 hy).1, D.q.n.filter _⟩, D.hi, D.c.up c D.hi⟩, c⟩
theorem Drv.remove_out (D : Drv w0 w g now Q P) (hx : x ∈ P) (hn : x ∉ Q) (hl : Q.length ≤ 100000) :
    Calls Tryd.prog 8 #[.pointer (some ⟨g.wb, 0, none⟩), .pointer (some ⟨x.e, 0, none⟩)] w fun e w' => e = .returned (.int .i64 6) ∧ Drv w0 w' g now Q P ∧ Ch (WS g P) w w' := by
  have hf : ∀ p, p ≤ 256 → x ∉ rowsOf Q now p := fun p _ hm => hn (mem_rowsOf.1 hm).1
  refine (D.q.remove_any hx hl 6 (rowsOf Q now) (fun e W h => h.unlB_none hx hf) (fun h s hh hs e W hW => hW.remL_none hh hs hx hf)).mono ?_
  rintro e w' ⟨rfl, h, c⟩
  exact ⟨rfl, ⟨⟨h, D.q.p, D.q.a, D.q.n⟩, D.hi, D.c.up c D.hi⟩, c⟩
end
end Go.Proofs.YtkfknafgknppdaaDoor.LP
