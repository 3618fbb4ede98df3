import Derived.Test.YtldnmpiaofppgaaDoorK07
/-
  Contracts of package wheel's take, New, Insert, of verge/api.Tasks; what lies beyond drained.
-/
namespace Go.Proofs.YtldnmpiaofppgaaDoor.LT
open Go.RowKit Verge
attribute [local go_sem] Oper.semAt_some
set_option linter.unusedVariables false
set_option linter.unusedSimpArgs false
/-- a row of pointers to entries -/
abbrev RowX (w : World) (a : Option Addr) (n cap : Nat) (ys : List Ent) : Prop := RowE w a n cap (valAt (ys.map nd) pre)
section
variable {S : Nat → Prop} {w w' : World} {g : Wh} {now : Nat} {R : Nat → List Ent} {P : List Ent} {x : Ent} {ys : List Ent} {a : Option Addr} {cap : Nat}
theorem valAt_get {i : Nat} (h : ys[i]? = some x) : valAt (ys.map nd) pre i = .pointer (some ⟨x.e, 0, none⟩) := by
  unfold valAt; rw [List.getD_eq_getElem?_getD, List.getElem?_map, h]; rfl
theorem RowX.cell {b n i : Nat} (h : RowX w (some ⟨b, 0, none⟩) n cap ys) (hi : i < n) (hx : ys[i]? = some x) : w.cell? ⟨b, i, none⟩ = some (.pointer (some ⟨x.e, 0, none⟩)) := by
  have := Row.cell h i (by omega)
  rwa [valAt_get hx] at this
theorem RowX.given {T : Nat → Prop} (h : RowX w a ys.length cap ys) (hT : ∀ k, OwnS a k → ¬ T k) : Given w a ys T := by
  cases ys with
  | nil => exact .inl rfl
  | cons y t =>
    obtain ⟨b, rfl, -⟩ := Row.form h (by simp)
    exact .inr ⟨b, rfl, hT b rfl, fun i x hx => RowX.cell h (List.getElem?_eq_some_iff.1 hx).1 hx⟩
theorem IsW.sb_lt (H : IsW w g now R P) {h k : Nat} (hk : SB g h k) : k < w.heap.size := by
  rcases hk with ⟨hh, (rfl | ⟨s, hs, rfl⟩)⟩ | ⟨rfl, rfl⟩
  · exact (H.v h hh).lt (.inl rfl)
  · exact (H.v h hh).lt (.inr ⟨s, hs, .inl rfl⟩)
  · exact H.l.lt (.inl rfl)
theorem IsW.ent_lt (H : IsW w g now R P) (hx : x ∈ P) : x.e < w.heap.size ∧ x.e + 1 < w.heap.size := by
  refine ⟨(H.e x hx).k.lt, ?_⟩
  by_cases hf : ∀ p, p ≤ 256 → x ∉ R p
  · exact (H.f x hx hf).lt
  · have : ∃ p, p ≤ 256 ∧ x ∈ R p := Classical.byContradiction fun hn => hf fun p hp hm => hn ⟨p, hp, hm⟩
    obtain ⟨p, hp, hm⟩ := this
    by_cases e : p = 256
    · subst e; exact H.l.lt (.inr (List.mem_map_of_mem hm))
    · refine (H.v (p / 64) (by omega)).lt (.inr ⟨p % 64, by omega, .inr ?_⟩)
      rw [nrow_at (by omega), show 64 * (p / 64) + p % 64 = p by omega]
      exact List.mem_map_of_mem hm
theorem IsW.ws_lt (H : IsW w g now R P) {k : Nat} (hk : WS g P k) : k < w.heap.size := by
  rcases hk with rfl | ⟨h, hk⟩ | ⟨x, hx, (rfl | rfl)⟩
  · exact H.k.lt
  · exact H.sb_lt hk
  · exact (H.ent_lt hx).1
  · exact (H.ent_lt hx).2
theorem nodup_of_nd {l : List Ent} (h : ∀ (i j b : Nat), (l.map nd)[i]? = some b → (l.map nd)[j]? = some b → i = j) : l.Nodup := by
  refine List.pairwise_iff_getElem.2 fun i j hi hj hij e => ?_
  have := h i j (l[i].e + 1) (by rw [List.getElem?_map, List.getElem?_eq_getElem hi]; rfl) (by rw [List.getElem?_map, List.getElem?_eq_getElem hj, ← e]; rfl)
  omega
theorem IsW.nodup (H : IsW w g now R P) {p : Nat} (hp : p ≤ 256) : (R p).Nodup := by
  by_cases e : p = 256
  · subst e; exact nodup_of_nd H.l.nd
  · have := ((H.v (p / 64) (by omega)).l (p % 64) (by omega)).nd
    rw [nrow_at (by omega), show 64 * (p / 64) + p % 64 = p by omega] at this
    exact nodup_of_nd this
/-- what was taken out of a row stands in none -/
theorem IsW.taken (H : IsW w g now R P) {p : Nat} (hp : p ≤ 256) : ∀ x, x ∈ R p → ∀ q, q ≤ 256 → x ∉ upd R p [] q := by
  intro x hx q hq hm
  by_cases e : q = p
  · subst e; rw [upd_same] at hm; cases hm
  · rw [upd_other _ _ _ _ e] at hm; exact e (H.y.un _ _ _ hq hp hm hx)
theorem plR_step {p : Nat} : plR (upd R p []) now (R p) = stepR R p now := by
  funext q; unfold plR stepR upd; rfl
/-- a level's slot emptied -/
theorem IsW.takeL {h s : Nat} (H : IsW w g now R P) (hh : h < 4) (hs : s < 64) (hl : (R (64 * h + s)).length ≤ 100000) :
    Calls Tryd.prog 85 #[.pointer (some ⟨g.vb h, 0, none⟩), .int .i64 (s : Nat)] w fun e w' => ∃ a cap, e = .returned (.slice a (R (64 * h + s)).length cap) ∧ RowP w' a (R (64 * h + s)).length cap ((R (64 * h + s)).map nd) ∧ (∀ k, OwnS a k → w.heap.size ≤ k) ∧ IsW w' g now (upd R (64 * h + s) []) P ∧ Ch (WS g P) w w' := by
  have hd : (64 * h + s) / 64 = h := by omega
  have hm : (64 * h + s) % 64 = s := by omega
  refine (vtake_of (H.v h hh) hs (by rw [nrow_len hs]; exact hl)).mono ?_
  rintro e w' ⟨a, cap, rfl, r1, g1, h1, n1, c1⟩
  rw [nrow_len hs, nrow_at hs] at r1
  rw [nrow_at hs] at n1
  have c2 : Ch (fun k => CB g R ((64 * h + s) / 64) k ∨ ∃ y : Ent, False ∧ k = y.e + 1) w w' := c1.mono fun k _ hk => .inl (by rw [hd]; exact lvB_cb hh hk)
  refine ⟨a, cap, by rw [nrow_len hs], r1, g1, H.turned (N := fun _ => False) (by omega) c2 (fun y e => e.elim) (fun y hy => by cases hy) (fun _ => ?_) (fun e => by omega) (fun y hy hn hc => ?_), c1.mono fun k _ hk => CB.ws H.y (lvB_cb hh hk)⟩
  · rw [hd, hm]; exact h1
  · rcases hc with hc | hc
    · exact n1 (y.e + 1) (List.mem_map_of_mem (f := nd) hc)
    · exact hc.elim
/-- what lies beyond drained -/
theorem IsW.drainB (H : IsW w g now R P) (hl : (R 256).length ≤ 100000) :
    Calls Tryd.prog 64 #[.pointer (some ⟨g.lb, 0, none⟩)] w fun e w' => ∃ a cap, e = .returned (.slice a (R 256).length cap) ∧ RowX w' a (R 256).length cap (R 256) ∧ (∀ k, OwnS a k → w.heap.size ≤ k) ∧ IsW w' g now (upd R 256 []) P ∧ Ch (WS g P) w w' := by
  refine (H.l.drain (by rw [List.length_map]; exact hl)).mono ?_
  rintro e w' ⟨a, cap, rfl, r1, g1, h1, n1, c1⟩
  rw [List.length_map] at r1
  have c2 : Ch (fun k => CB g R (256 / 64) k ∨ ∃ y : Ent, False ∧ k = y.e + 1) w w' := c1.mono fun k _ hk => .inl (lB_cb hk)
  refine ⟨a, cap, by rw [List.length_map], r1, g1, H.turned (N := fun _ => False) (by omega) c2 (fun y e => e.elim) (fun y hy => by cases hy) (fun e => by omega) (fun _ => h1) (fun y hy hn hc => ?_), c1.mono fun k _ hk => CB.ws H.y (lB_cb hk)⟩
  rcases hc with hc | hc
  · exact n1 (y.e + 1) (List.mem_map_of_mem (f := nd) hc)
  · exact hc.elim

set_option maxHeartbeats 1000000 in
theorem IsW.take {h : Nat} (H : IsW w g now R P) (hh : h < 4) (hl : (R (hand now h)).length ≤ 100000) :
    Calls Tryd.prog 65 #[.pointer (some ⟨g.wb, 0, none⟩), .int .i64 (h : Nat)] w fun e w' => ∃ a cap, e = .returned (.slice a (R (hand now h)).length cap) ∧ RowX w' a (R (hand now h)).length cap (R (hand now h)) ∧ (∀ k, OwnS a k → w.heap.size ≤ k) ∧ IsW w' g now (upd R (hand now h) []) P ∧ Ch (WS g P) w w' := by
  have hz : (h : Int) < 4 := by omega
  have hz0 : (0 : Int) ≤ (h : Int) := by omega
  have DG := Lib.hid (digit_at now h H.nl (by omega))
  have FR := Lib.hid (H.taken (p := hand now h) (by have := hand_lt now h hh; omega))
  have RP := Lib.hid (H.y.r (hand now h) (by have := hand_lt now h hh; omega))
  have dlt := dg_lt now h
  have H0 := Lib.hid H
  obtain ⟨ys, hys⟩ : ∃ ys, ys = R (hand now h) := ⟨_, rfl⟩
  have YS := Lib.hid hys
  rw [← hys] at FR RP hl ⊢
  clear H hys
  go_enter Tryd.func65, Tryd.ntmps65
  go_upto_region 2 with (fail)
  have HD : Hid (IsW w.drew g now R P) := Lib.hid (H0.out.kept (S := Nil) (Ch.refl _ _).drew (fun _ _ e => e))
  have CD : Hid (Ch (WS g P) w w.drew) := Lib.hid (Ch.refl _ _).drew
  have sz0 : w.heap.size ≤ w.drew.heap.size := Nat.le_refl _
  clear H0
  refine wp_region_held_drew (S := fun w' => w'.cell? ⟨g.wb, 1 + h, none⟩ = some (.pointer (some ⟨g.vb h, 0, none⟩)) ∧ w'.cell? ⟨g.wb, 0, none⟩ = some (.int .u64 (now : Nat))) (by kernel_rfl) ⟨HD.out.p h hh, HD.out.t⟩ (fun hHeld => ?_)
  generalize w.drew = W at *
  refine take_at (v := ?_) 0 (some 8) rfl (by kernel_rfl) (by kernel_rfl) (by kernel_rfl) (by kernel_rfl) (fun _ _ _ h => h) (Or.inl ⟨by rfl, ?_⟩) (by assumption) ?_
  rotate_left
  · intro w hSw; (try dsimp only at hSw); go_simp; try (with_reducible rfl)
  (try simp only [Act.put, List.setIfInBounds_toArray, List.set_cons_zero, List.set_cons_succ])
  refine take_at (v := ?_) 1 (some 9) rfl (by kernel_rfl) (by kernel_rfl) (by kernel_rfl) (by kernel_rfl) (fun _ _ _ h => h) (Or.inl ⟨by rfl, ?_⟩) (by assumption) ?_
  rotate_left
  · intro w hSw; (try dsimp only at hSw); go_simp; try (with_reducible rfl)
  (try simp only [Act.put, List.setIfInBounds_toArray, List.set_cons_zero, List.set_cons_succ])
  refine take_at (v := ?_) 2 (some 10) rfl (by kernel_rfl) (by kernel_rfl) (by kernel_rfl) (by kernel_rfl) (fun _ _ _ h => h) (Or.inl ⟨by rfl, ?_⟩) (by assumption) ?_
  rotate_left
  · intro w hSw; (try dsimp only at hSw); go_simp; try (with_reducible rfl)
  (try simp only [Act.put, List.setIfInBounds_toArray, List.set_cons_zero, List.set_cons_succ])
  refine take_at (v := ?_) 3 (some 11) rfl (by kernel_rfl) (by kernel_rfl) (by kernel_rfl) (by kernel_rfl) (fun _ _ _ h => h) (Or.inl ⟨by rfl, ?_⟩) (by assumption) ?_
  rotate_left
  · intro w hSw; (try dsimp only at hSw); go_simp; try (with_reducible rfl)
  (try simp only [Act.put, List.setIfInBounds_toArray, List.set_cons_zero, List.set_cons_succ])
  refine take_at (v := ?_) 4 (some 12) rfl (by kernel_rfl) (by kernel_rfl) (by kernel_rfl) (by kernel_rfl) (fun _ _ _ h => h) (Or.inl ⟨by rfl, ?_⟩) (by assumption) ?_
  rotate_left
  · intro w hSw; (try dsimp only at hSw); go_simp; try (with_reducible rfl)
  (try simp only [Act.put, List.setIfInBounds_toArray, List.set_cons_zero, List.set_cons_succ])
  refine take_at (v := ?_) 5 (some 13) rfl (by kernel_rfl) (by kernel_rfl) (by kernel_rfl) (by kernel_rfl) (fun _ _ _ h => h) (Or.inl ⟨by rfl, ?_⟩) (by assumption) ?_
  rotate_left
  · intro w hSw; (try dsimp only at hSw); go_simp; try (with_reducible rfl)
  (try simp only [Act.put, List.setIfInBounds_toArray, List.set_cons_zero, List.set_cons_succ])
  refine take_at (v := ?_) 6 (some 14) rfl (by kernel_rfl) (by kernel_rfl) (by kernel_rfl) (by kernel_rfl) (fun _ _ _ h => h) (Or.inl ⟨by rfl, ?_⟩) (by assumption) ?_
  rotate_left
  · intro w hSw; (try dsimp only at hSw); go_simp; try (with_reducible rfl)
  (try simp only [Act.put, List.setIfInBounds_toArray, List.set_cons_zero, List.set_cons_succ])
  refine take_at (v := ?_) 7 (some 15) rfl (by kernel_rfl) (by kernel_rfl) (by kernel_rfl) (by kernel_rfl) (fun _ _ _ h => h) (Or.inl ⟨by rfl, ?_⟩) (by assumption) ?_
  rotate_left
  · intro w hSw; (try dsimp only at hSw); go_simp; try (with_reducible rfl)
  (try simp only [Act.put, List.setIfInBounds_toArray, List.set_cons_zero, List.set_cons_succ])
  refine take_at (v := ?_) 8 (some 16) rfl (by kernel_rfl) (by kernel_rfl) (by kernel_rfl) (by kernel_rfl) (fun _ _ _ h => h) (Or.inl ⟨by rfl, ?_⟩) (by assumption) ?_
  rotate_left
  · intro w hSw; (try dsimp only at hSw); go_simp; try (with_reducible rfl)
  (try simp only [Act.put, List.setIfInBounds_toArray, List.set_cons_zero, List.set_cons_succ])
  refine take_at (v := ?_) 9 (some 17) rfl (by kernel_rfl) (by kernel_rfl) (by kernel_rfl) (by kernel_rfl) (fun _ _ _ h => h) (Or.inl ⟨by rfl, ?_⟩) (by assumption) ?_
  rotate_left
  · intro w hSw; (try dsimp only at hSw); go_simp; try (with_reducible rfl)
  (try simp only [Act.put, List.setIfInBounds_toArray, List.set_cons_zero, List.set_cons_succ])
  refine take_at (v := ?_) 10 (some 18) rfl (by kernel_rfl) (by kernel_rfl) (by kernel_rfl) (by kernel_rfl) (fun _ _ _ h => h) (Or.inl ⟨by rfl, ?_⟩) (by assumption) ?_
  rotate_left
  · intro w hSw; (try dsimp only at hSw); go_simp; try (with_reducible rfl)
  (try simp only [Act.put, List.setIfInBounds_toArray, List.set_cons_zero, List.set_cons_succ])
  refine take_at (v := ?_) 14 (some 22) rfl (by kernel_rfl) (by kernel_rfl) (by kernel_rfl) (by kernel_rfl) (fun _ _ _ h => h) (Or.inl ⟨by rfl, ?_⟩) (by assumption) ?_
  rotate_left
  · intro w hSw; (try dsimp only at hSw); go_simp; try (with_reducible rfl)
  (try simp only [Act.put, List.setIfInBounds_toArray, List.set_cons_zero, List.set_cons_succ])
  refine wpAnyH_ready (rs := [11]) (by kernel_rfl) (by simp) ?_
  refine AllReadyH.cons rfl (fun K hK => ?_) AllReadyH.nil
  go_simp
  refine (DG.out _).mono ?_
  rintro e w5 ⟨rfl, rfl⟩
  refine hK.out _ _ ⟨HD.out.p h hh, HD.out.t⟩ (fun hHeld => ?_)
  clear hK K
  (try simp only [Act.put, List.setIfInBounds_toArray, List.set_cons_zero, List.set_cons_succ])
  refine wpAnyH_ready (rs := [12]) (by kernel_rfl) (by simp) ?_
  refine AllReadyH.cons rfl (fun K hK => ?_) AllReadyH.nil
  go_simp
  refine (HD.out.takeL hh dlt (by rw [show 64 * h + dg now h = hand now h from rfl, ← YS.out]; exact hl)).mono ?_
  rintro e w6 ⟨a, cap, rfl, r6, g6, h6, c6⟩
  rw [show 64 * h + dg now h = hand now h from rfl] at r6 h6 ⊢
  rw [← YS.out] at r6 ⊢
  have p6 := h6.p h hh
  have t6 := h6.t
  have H6 := Lib.hid h6
  have R6 := Lib.hid r6
  have C6 := Lib.hid (CD.out.trans c6)
  have sz6 := c6.size
  have lc6 := r6.len_cap
  clear h6 r6 g6 c6 HD CD
  refine hK.out _ _ ⟨p6, t6⟩ (fun hHeld => ?_)
  clear hK K p6 t6
  (try simp only [Act.put, List.setIfInBounds_toArray, List.set_cons_zero, List.set_cons_succ])
  refine take_at (v := ?_) 13 (some 21) rfl (by kernel_rfl) (by kernel_rfl) (by kernel_rfl) (by kernel_rfl) (fun _ _ _ h => h) (Or.inl ⟨by rfl, ?_⟩) (by assumption) ?_
  rotate_left
  · intro w hSw; (try dsimp only at hSw); go_simp; try (with_reducible rfl)
  (try simp only [Act.put, List.setIfInBounds_toArray, List.set_cons_zero, List.set_cons_succ])
  refine wpAnyH_done (by kernel_rfl) ?_ _
  obtain ⟨n, hn⟩ : ∃ n, n = ys.length := ⟨_, rfl⟩
  have LEN := Lib.hid hn
  rw [← hn] at R6 lc6 hl ⊢
  clear hn
  go_wp2
  go_loopw [22, 5] (fun i s wr => ∃ (k : Nat) (b : Option Addr) (cp : Nat), k ≤ n ∧ i = .int .i64 k ∧ s = .slice b k cp ∧ RowX wr b k cp ys ∧ (∀ j, OwnS b j → w6.heap.size ≤ j) ∧ Ch Nil w6 wr) (fun i _ _ => n - (intOf i).toNat)
  case atStart => exact ⟨0, none, 0, by omega, rfl, rfl, Row.nil _ _ _ _, fun j e => (by cases e), Ch.refl _ _⟩
  case round =>
    obtain ⟨k, b, cp, hk, rfl, rfl, r7, g7, c7⟩ := hrel
    have R7 := Lib.hid r7
    have G7 := Lib.hid g7
    have C7 := Lib.hid c7
    clear r7 g7 c7
    by_cases hlt : k < n
    · obtain ⟨x, hx⟩ : ∃ x, ys[k]? = some x := ⟨_, List.getElem?_eq_getElem (by rw [← LEN.out]; exact hlt)⟩
      obtain ⟨ga, rfl, -⟩ := R6.out.form (by omega)
      have hxm := List.mem_of_getElem? hx
      have q1 := C7.out.keeps (R6.out.cell k (by omega)) (fun e => e)
      have hp : ptrL (ys.map nd) k = .pointer (some ⟨x.e + 1, 0, none⟩) := by unfold ptrL; rw [List.getD_eq_getElem?_getD, List.getElem?_map, hx]; rfl
      rw [hp] at q1
      have q2 := C7.out.keeps (H6.out.f x (RP.out x hxm) (FR.out x hxm)).v (fun e => e)
      have HX := Lib.hid hx
      have R8 := Lib.hid (Row.kept (S := Nil) R7.out ((Ch.refl Nil wr).alloc (Obj.cells #[.pointer (some ⟨x.e, 0, none⟩)] 76)) (fun _ _ e => e))
      have hkz : (k : Int) < (n : Int) := by omega
      have hkz0 : (0 : Int) ≤ (k : Int) := by omega
      clear hp hx
      go_wp2_with (at_builtin; refine append_row _ rfl _ _ _ rfl 76 (.pointer none) 1 8 Tryd.underlying80 (by kernel_rfl) rfl (by omega) (by omega) rfl R8.out (by omega) wr.heap.size 1 [.pointer (some ⟨x.e, 0, none⟩)] 76 rfl rfl (heap_alloc_new wr _) (by simp [Value.oneCell']) (valAt (ys.map nd) pre) (fun i hi => rfl) (by intro j u hu; obtain rfl : j = 0 := (by cases j; rfl; simp at hu); simp at hu; subst hu; simpa using valAt_get HX.out) _ rfl ?_)
      intro gb cp6 w8 row8 ch8 at8 lt8
      have ROW := Lib.hid row8
      have CH := Lib.hid ((((Ch.refl Nil wr).alloc _).mono (fun _ _ e => e.elim)).trans ch8)
      have AT := Lib.hid at8
      clear row8 ch8 at8 lt8 R8
      go_wp2
      go_roundw
      case rel =>
        refine ⟨k + 1, _, cp6, by omega, by go_num, rfl, ROW.out, ?_, C7.out.up CH.out G7.out⟩
        intro j e
        cases e
        have := C7.out.size
        rcases AT.out with h' | h'
        · exact G7.out _ h'
        · (try simp at h'); (try simp only); omega
      case measure => simp [intOf]; omega
    · obtain rfl : k = n := by omega
      go_wp2
      go_ret
      refine ⟨b, cp, by rw [← LEN.out]; rfl, by rw [← LEN.out]; exact R7.out, fun j e => by have := G7.out j e; omega, ?_, C6.out.then C7.out (fun _ _ e => e.elim)⟩
      exact H6.out.kept C7.out (fun _ _ e => e)

/-- a wheel of which the first k levels are there -/
structure MakW (w : World) (g : Wh) (now k : Nat) (W : World) : Prop where
  t : W.cell? ⟨g.wb, 0, none⟩ = some (.int .u64 (now : Nat))
  p : ∀ h, h < k → W.cell? ⟨g.wb, 1 + h, none⟩ = some (.pointer (some ⟨g.vb h, 0, none⟩))
  z : ∀ h, k ≤ h → h < 4 → W.cell? ⟨g.wb, 1 + h, none⟩ = some (.pointer none)
  b : W.cell? ⟨g.wb, 5, none⟩ = some (.pointer (some ⟨g.lb, 0, none⟩))
  kb : Blk W g.wb
  v : ∀ h, h < k → IsLv W (g.vb h) (g.hd h) (fun _ => []) pre
  l : IsL W g.lb [] pre
  d : ∀ h h' j, h < k → h' < k → LvB (g.vb h) (g.hd h) (fun _ => []) j → LvB (g.vb h') (g.hd h') (fun _ => []) j → h = h'
  nl : ∀ h, h < k → ¬ LvB (g.vb h) (g.hd h) (fun _ => []) g.lb
  nw : ∀ h, h < k → ¬ LvB (g.vb h) (g.hd h) (fun _ => []) g.wb
  lw : g.lb ≠ g.wb
  hi : w.heap.size ≤ g.wb ∧ w.heap.size ≤ g.lb ∧ ∀ h j, h < k → LvB (g.vb h) (g.hd h) (fun _ => []) j → w.heap.size ≤ j
  c : Ch Nil w W
theorem lvB_sb {h j : Nat} (hh : h < 4) (hj : (j = g.vb h ∨ ∃ s, s < 64 ∧ j = g.hd h s)) : LvB (g.vb h) (g.hd h) (fun _ => []) j := by
  rcases hj with rfl | ⟨s, hs, rfl⟩
  · exact .inl rfl
  · exact .inr ⟨s, hs, .inl rfl⟩
theorem nrow_nil {h : Nat} : nrow (fun _ => []) h = fun _ => [] := by funext s; unfold nrow; split <;> rfl
theorem MakW.kept {W w5 : World} {k : Nat} (m : MakW w g now k W) (c : Ch Nil W w5) : MakW w g now k w5 :=
  ⟨c.keeps m.t (fun e => e), fun h hh => c.keeps (m.p h hh) (fun e => e), fun h h1 h2 => c.keeps (m.z h h1 h2) (fun e => e), c.keeps m.b (fun e => e), m.kb.kept c (fun e => e), fun h hh => (m.v h hh).kept c (fun _ _ e => e), m.l.kept c (fun _ _ e => e), m.d, m.nl, m.nw, m.lw, m.hi, m.c.trans c⟩
theorem MakW.more {W w5 : World} {k vb' : Nat} {hd' : Nat → Nat} (m : MakW w g now k W) (hk : k < 4) (h5 : IsLv w5 vb' hd' (fun _ => []) pre) (g5 : ∀ j, LvB vb' hd' (fun _ => []) j → W.heap.size ≤ j) (c5 : Ch Nil W w5) :
    MakW w ⟨g.wb, upd g.vb k vb', upd g.hd k hd', g.lb⟩ now (k + 1) (w5.setCell ⟨g.wb, 1 + k, none⟩ (.pointer (some ⟨vb', 0, none⟩))) := by
  have m' := m.kept c5
  have c : Ch (One g.wb) w5 (w5.setCell ⟨g.wb, 1 + k, none⟩ (.pointer (some ⟨vb', 0, none⟩))) := (Ch.refl _ _).setB (1 + k) _
  have wlt := m.kb.lt
  have llt := m.l.lt (.inl rfl)
  have vlt : ∀ h j, h < k → LvB (g.vb h) (g.hd h) (fun _ => []) j → j < W.heap.size := fun h j hh hj => (m.v h hh).lt hj
  have hw := m.c.size
  have U : ∀ h j, h < k + 1 → LvB (upd g.vb k vb' h) (upd g.hd k hd' h) (fun _ => []) j → (h = k ∧ W.heap.size ≤ j) ∨ (h < k ∧ LvB (g.vb h) (g.hd h) (fun _ => []) j) := fun h j hh hj => by
    by_cases e : h = k
    · subst e; rw [upd_same, upd_same] at hj; exact .inl ⟨rfl, g5 j hj⟩
    · rw [upd_other _ _ _ _ e, upd_other _ _ _ _ e] at hj; exact .inr ⟨by omega, hj⟩
  refine ⟨(cell_ne (by omega) _).trans m'.t, fun h hh => ?_, fun h h1 h2 => (cell_ne (by omega) _).trans (m'.z h (by omega) h2), (cell_ne (by omega) _).trans m'.b, m'.kb.set _ _, fun h hh => ?_, m'.l.kept c fun j hj e => ?_, fun h h' j hh hh' hj hj' => ?_, fun h hh hj => ?_, fun h hh hj => ?_, m.lw, ⟨m.hi.1, m.hi.2.1, fun h j hh hj => ?_⟩, m'.c.up c (fun i e => e ▸ m.hi.1)⟩
  · show World.cell? _ _ = some (Value.pointer (some ⟨upd g.vb k vb' h, 0, none⟩))
    by_cases e : h = k
    · subst e; rw [upd_same]; exact World.cell?_setCell_same _ _ _ (m'.z h (Nat.le_refl _) hk)
    · rw [upd_other _ _ _ _ e]; exact (cell_ne (by omega) _).trans (m'.p h (by omega))
  · show IsLv _ (upd g.vb k vb' h) (upd g.hd k hd' h) _ _
    by_cases e : h = k
    · subst e; rw [upd_same, upd_same]
      exact h5.kept c fun j hj e => by have := g5 j hj; have e' : j = g.wb := e; omega
    · rw [upd_other _ _ _ _ e, upd_other _ _ _ _ e]
      exact (m'.v h (by omega)).kept c fun j hj e => m.nw h (by omega) (e ▸ hj)
  · rcases hj with rfl | hj
    · exact m.lw e
    · cases hj
  · rcases U h j hh hj with ⟨rfl, h1⟩ | ⟨h1, h2⟩ <;> rcases U h' j hh' hj' with ⟨rfl, h3⟩ | ⟨h3, h4⟩
    · rfl
    · have := vlt _ _ h3 h4; omega
    · have := vlt _ _ h1 h2; omega
    · exact m.d _ _ _ h1 h3 h2 h4
  · rcases U h _ hh hj with ⟨rfl, h1⟩ | ⟨h1, h2⟩
    · simp only at h1; omega
    · exact m.nl h h1 h2
  · rcases U h _ hh hj with ⟨rfl, h1⟩ | ⟨h1, h2⟩
    · simp only at h1; omega
    · exact m.nw h h1 h2
  · rcases U h _ hh hj with ⟨rfl, h1⟩ | ⟨h1, h2⟩
    · omega
    · exact m.hi.2.2 h j h1 h2
theorem MakW.sb {W : World} (m : MakW w g now 4 W) {h j : Nat} (hj : SB g h j) : (h < 4 ∧ LvB (g.vb h) (g.hd h) (fun _ => []) j) ∨ (h = 4 ∧ j = g.lb) := by
  rcases hj with ⟨hh, hj⟩ | hj
  · exact .inl ⟨hh, lvB_sb hh hj⟩
  · exact .inr hj
theorem MakW.made {W : World} (m : MakW w g now 4 W) (hn : now < 18446744073709551616) : IsW W g now (fun _ => []) [] := by
  refine ⟨m.t, m.p, m.b, m.kb, fun h hh => by rw [nrow_nil]; exact m.v h hh, m.l, fun x hx => (by cases hx), fun x hx => (by cases hx), ⟨fun h h' k a b => ?_, fun h a => ?_, fun x hx => (by cases hx), fun x y hx => (by cases hx), fun x y hx => (by cases hx)⟩, ⟨fun p hp x hx => (by cases hx), fun p q x _ _ hx => (by cases hx)⟩, hn, fun x hx => (by cases hx)⟩
  · rcases m.sb a with ⟨h1, h2⟩ | ⟨rfl, rfl⟩ <;> rcases m.sb b with ⟨h3, h4⟩ | ⟨rfl, h4⟩
    · exact m.d _ _ _ h1 h3 h2 h4
    · subst h4; exact absurd h2 (m.nl _ h1)
    · exact absurd h4 (m.nl _ h3)
    · rfl
  · rcases m.sb a with ⟨h1, h2⟩ | ⟨rfl, h2⟩
    · exact m.nw _ h1 h2
    · exact m.lw h2.symm
theorem MakW.high {W : World} (m : MakW w g now 4 W) : ∀ k, WS g [] k → w.heap.size ≤ k := by
  rintro k (rfl | ⟨h, hk⟩ | ⟨x, hx, -⟩)
  · exact m.hi.1
  · rcases m.sb hk with ⟨h1, h2⟩ | ⟨rfl, rfl⟩
    · exact m.hi.2.2 _ _ h1 h2
    · exact m.hi.2.1
  · cases hx

set_option maxHeartbeats 1000000 in
set_option maxRecDepth 100000 in
theorem neww_of (w : World) (now : Nat) (hn : now < 18446744073709551616) :
    Calls Tryd.prog 30 #[.int .u64 (now : Nat)] w fun e w' => ∃ g : Wh, e = .returned (.pointer (some ⟨g.wb, 0, none⟩)) ∧ IsW w' g now (fun _ => []) [] ∧ (∀ k, WS g [] k → w.heap.size ≤ k) ∧ Ch Nil w w' := by
  have HN := Lib.hid hn
  clear hn
  go_enter Tryd.func30, Tryd.ntmps30
  go_wp2_with fail
  refine (new_of _ pre).mono ?_
  rintro e w1 ⟨lb, rfl, hlb, h1, c1⟩
  have llt := h1.lt (.inl rfl)
  have H1 := Lib.hid h1
  have C1 := Lib.hid c1
  have sz1 := c1.size
  clear h1 c1
  obtain ⟨wb, hwb⟩ : ∃ wb, wb = w1.heap.size := ⟨_, rfl⟩
  obtain ⟨w2, hw2⟩ : ∃ w2, w2 = w1.alloc (.cells #[.int .u64 (now : Nat), .pointer none, .pointer none, .pointer none, .pointer none, .pointer (some ⟨lb, 0, none⟩)] 126) := ⟨_, rfl⟩
  have m0 : MakW w ⟨wb, fun _ => 0, fun _ _ => 0, lb⟩ now 0 w2 := by
    subst hw2
    subst hwb
    refine ⟨by rw [cell_fresh]; rfl, fun h hh => by omega, fun h _ hh => ?_, by rw [cell_fresh]; rfl, Blk.new _ _ _, fun h hh => by omega, H1.out.kept (S := Nil) ((Ch.refl _ _).alloc _) (fun _ _ e => e), fun h h' j hh => by omega, fun h hh => by omega, fun h hh => by omega, by simp only; omega, ⟨by simp only; omega, hlb, fun h j hh => by omega⟩, C1.out.alloc _⟩
    rw [cell_fresh]
    have : h = 0 ∨ h = 1 ∨ h = 2 ∨ h = 3 := by omega
    rcases this with rfl | rfl | rfl | rfl <;> rfl
  have M0 := Lib.hid m0
  have HW2 := Lib.hid hw2
  have HWB := Lib.hid hwb
  clear m0 hw2 hwb H1 C1
  go_wp2
  rw [← HW2.out, ← HWB.out]
  clear HW2 HWB
  go_loopw [9] (fun i wr => ∃ (k : Nat) (vb : Nat → Nat) (hd : Nat → Nat → Nat), k ≤ 4 ∧ i = .int .i64 k ∧ MakW w ⟨wb, vb, hd, lb⟩ now k wr) (fun i _ => 4 - (intOf i).toNat)
  case atStart => exact ⟨0, _, _, by omega, rfl, M0.out⟩
  case round =>
    obtain ⟨k, vb, hd, hk, rfl, hm⟩ := hrel
    have HM := Lib.hid hm
    clear hm
    by_cases hlt : k < 4
    · have hkz : (k : Int) < 4 := by omega
      have hkz0 : (0 : Int) ≤ (k : Int) := by omega
      go_upto_region 5 with (fail)
      have HMd : Hid (MakW w ⟨wb, vb, hd, lb⟩ now k wr.drew) := HM.out.kept (Ch.refl _ _).drew
      refine wp_region_held_drew (S := fun _ => True) (by kernel_rfl) trivial (fun hHeld => ?_)
      generalize wr.drew = W at *
      refine take_at (v := ?_) 0 (some 12) rfl (by kernel_rfl) (by kernel_rfl) (by kernel_rfl) (by kernel_rfl) (fun _ _ _ h => h) (Or.inl ⟨by rfl, ?_⟩) (by assumption) ?_
      rotate_left
      · intro w hSw; (try dsimp only at hSw); go_simp; try (with_reducible rfl)
      (try simp only [Act.put, List.setIfInBounds_toArray, List.set_cons_zero, List.set_cons_succ])
      refine take_at (v := ?_) 1 (some 13) rfl (by kernel_rfl) (by kernel_rfl) (by kernel_rfl) (by kernel_rfl) (fun _ _ _ h => h) (Or.inl ⟨by rfl, ?_⟩) (by assumption) ?_
      rotate_left
      · intro w hSw; (try dsimp only at hSw); go_simp; try (with_reducible rfl)
      (try simp only [Act.put, List.setIfInBounds_toArray, List.set_cons_zero, List.set_cons_succ])
      refine take_at (v := ?_) 3 (some 15) rfl (by kernel_rfl) (by kernel_rfl) (by kernel_rfl) (by kernel_rfl) (fun _ _ _ h => h) (Or.inl ⟨by rfl, ?_⟩) (by assumption) ?_
      rotate_left
      · intro w hSw; (try dsimp only at hSw); go_simp; try (with_reducible rfl)
      (try simp only [Act.put, List.setIfInBounds_toArray, List.set_cons_zero, List.set_cons_succ])
      refine take_at (v := ?_) 4 (some 16) rfl (by kernel_rfl) (by kernel_rfl) (by kernel_rfl) (by kernel_rfl) (fun _ _ _ h => h) (Or.inl ⟨by rfl, ?_⟩) (by assumption) ?_
      rotate_left
      · intro w hSw; (try dsimp only at hSw); go_simp; try (with_reducible rfl)
      (try simp only [Act.put, List.setIfInBounds_toArray, List.set_cons_zero, List.set_cons_succ])
      refine wpAnyH_ready (rs := [2]) (by kernel_rfl) (by simp) ?_
      refine AllReadyH.cons rfl (fun K hK => ?_) AllReadyH.nil
      go_simp
      refine (newv_of _ pre).mono ?_
      rintro e w5 ⟨vb', hd', rfl, h5, g5, c5⟩
      have q1 := c5.keeps (HMd.out.z k (Nat.le_refl _) hlt) (fun e => e)
      have q2 : w5.frozen? ⟨wb, 1 + k, none⟩ = false := (HMd.out.kb.kept c5 (fun e => e)).fz (1 + k)
      have NEXT := Lib.hid (HMd.out.more hlt h5 g5 c5)
      clear h5 c5 g5
      refine hK.out _ _ trivial (fun hHeld => ?_)
      clear hK K
      (try simp only [Act.put, List.setIfInBounds_toArray, List.set_cons_zero, List.set_cons_succ])
      refine take_at (v := ?_) 5 (some 17) rfl (by kernel_rfl) (by kernel_rfl) (by kernel_rfl) (by kernel_rfl) (fun _ _ _ h => h) (Or.inl ⟨by rfl, ?_⟩) (by assumption) ?_
      rotate_left
      · intro w hSw; (try dsimp only at hSw); go_simp; try (with_reducible rfl)
      (try simp only [Act.put, List.setIfInBounds_toArray, List.set_cons_zero, List.set_cons_succ])
      refine wpAnyH_ready (rs := [6]) (by kernel_rfl) (by simp) ?_
      refine AllReadyH.cons rfl (fun K hK => ?_) AllReadyH.nil
      go_simp
      refine hK.out _ _ trivial (fun hHeld => ?_)
      clear hK K
      refine wpAnyH_done (by kernel_rfl) ?_ _
      go_wp2
      go_roundw
      case rel => exact ⟨k + 1, _, _, by omega, by go_num, NEXT.out⟩
      case measure => simp [intOf]; omega
    · obtain rfl : k = 4 := by omega
      go_wp2
      go_ret
      exact ⟨⟨wb, vb, hd, lb⟩, rfl, HM.out.made HN.out, HM.out.high, HM.out.c⟩
end
end Go.Proofs.YtldnmpiaofppgaaDoor.LT

/-
  Contracts of package wheel's Insert, Advance, Remove, of verge/api.Tasks, over the row of all entries that are there.
-/
namespace Go.Proofs.YtldnmpiaofppgaaDoor.LT
open Go.RowKit Verge
attribute [local go_sem] Oper.semAt_some
set_option linter.unusedVariables false
set_option linter.unusedSimpArgs false
section
variable {S : Nat → Prop} {w w' : World} {g : Wh} {now : Nat} {R : Nat → List Ent} {P Q : List Ent} {x : Ent} {ys : List Ent} {a : Option Addr} {cap : Nat}
/-- an entry more -/
theorem IsW.more (H : IsW w g now R P) (hx : w.heap.size ≤ x.e) (c : Ch Nil w w') (he : IsE w' x) (hn : IsN w' (x.e + 1) x.e none none none) (hd : x.d < 18446744073709551616) : IsW w' g now R (P ++ [x]) := by
  have K := H.kept c (fun _ _ e => e)
  have wlt := H.k.lt
  have F := H.x
  have mem : ∀ y, y ∈ P ++ [x] → y ∈ P ∨ y = x := fun y hy => by simpa using hy
  have elt : ∀ y, y ∈ P → y.e < w.heap.size ∧ y.e + 1 < w.heap.size := fun y hy => H.ent_lt hy
  refine ⟨K.t, K.p, K.b, K.k, K.v, K.l, fun y hy => ?_, fun y hy hf => ?_, ⟨F.sd, F.sw, fun y hy => ?_, fun y z hy hz => ?_, fun y z hy hz e => ?_⟩, ⟨fun p hp y hy => List.mem_append_left _ (H.y.r p hp y hy), H.y.un⟩, H.nl, fun y hy => ?_⟩
  · rcases mem y hy with h | rfl
    · exact K.e y h
    · exact he
  · rcases mem y hy with h | rfl
    · exact K.f y h hf
    · exact hn
  · rcases mem y hy with h | rfl
    · exact F.oe y h
    · refine ⟨by omega, by omega, fun h => ⟨fun e => ?_, fun e => ?_⟩⟩ <;> have := H.sb_lt e <;> omega
  · rcases mem y hy with h | rfl <;> rcases mem z hz with h' | rfl
    · exact F.on y z h h'
    · have := elt y h; omega
    · have := elt z h'; omega
    · omega
  · rcases mem y hy with h | rfl <;> rcases mem z hz with h' | rfl
    · exact F.oi y z h h' e
    · have := elt y h; omega
    · have := elt z h'; omega
    · rfl
  · rcases mem y hy with h | rfl
    · exact H.dl y h
    · exact hd
/-- the time set -/
theorem IsW.setNow (H : IsW w g now R P) (t : Nat) (ht : t < 18446744073709551616) : IsW (w.setCell ⟨g.wb, 0, none⟩ (.int .u64 (t : Nat))) g t R P := by
  have c : Ch (One g.wb) w (w.setCell ⟨g.wb, 0, none⟩ (.int .u64 (t : Nat))) := (Ch.refl _ _).setB 0 _
  have F := H.x
  refine ⟨World.cell?_setCell_same _ _ _ H.t, fun h hh => (cell_ne (by omega) _).trans (H.p h hh), (cell_ne (by omega) _).trans H.b, H.k.set _ _, fun h hh => (H.v h hh).kept c fun k hk e => ?_, H.l.kept c fun k hk e => ?_, fun y hy => (H.e y hy).kept c (F.oe y hy).1, fun y hy hf => (H.f y hy hf).kept c (F.oe y hy).2.1, F, H.y, ht, H.dl⟩
  · have e' : k = g.wb := e
    subst e'; exact CB.wb F H.y (lvB_cb hh hk)
  · have e' : k = g.wb := e
    subst e'; exact CB.wb F H.y (lB_cb hk)

/-- a wheel by the row of its entries, in the order in which they came: each stands where its deadline leads it, ahead of the time -/
structure IsQ (w : World) (g : Wh) (now : Nat) (Q P : List Ent) : Prop where
  w : IsW w g now (rowsOf Q now) P
  p : ∀ x, x ∈ Q → x ∈ P
  a : ∀ x, x ∈ Q → now < x.d
  n : Q.Nodup
theorem IsQ.kept (H : IsQ w g now Q P) (c : Ch S w w') (hn : ∀ k, WS g P k → ¬ S k) : IsQ w' g now Q P := ⟨H.w.kept c hn, H.p, H.a, H.n⟩
theorem IsQ.lt (H : IsQ w g now Q P) {k : Nat} (hk : WS g P k) : k < w.heap.size := H.w.ws_lt hk
theorem IsQ.new (H : IsW w g now (fun _ => []) []) : IsQ w g now [] [] := ⟨H, fun _ h => h, fun x h => (by cases h), List.nodup_nil⟩
theorem WS.more {k : Nat} (hk : WS g (P ++ [x]) k) : WS g P k ∨ k = x.e ∨ k = x.e + 1 := by
  rcases hk with rfl | h | ⟨y, hy, h⟩
  · exact .inl (.inl rfl)
  · exact .inl (.inr (.inl h))
  · rcases List.mem_append.1 hy with hy | hy
    · exact .inl (.inr (.inr ⟨y, hy, h⟩))
    · simp at hy; subst hy; exact .inr h

theorem ins_made (w : World) (d : Nat) (u : Tk) (t1 t2 t3 : TypeId) : ∀ w1 w2 w4 : World, w1 = w.alloc (.cells #[.int .u64 (d : Nat), .int .u64 (u.i : Nat), .int .i64 u.s, .int .u64 (u.g : Nat), .int .u64 (u.d : Nat), .int .u64 (u.p : Nat), .int .u64 (d : Nat), .pointer (some ⟨w.heap.size + 1, 0, none⟩)] t1) → w2 = w1.alloc (.cells #[.pointer (some ⟨w.heap.size, 0, none⟩), .pointer none, .pointer none, .pointer none] t2) → w4 = w2.alloc (.cells #[.pointer (some ⟨w.heap.size, 0, none⟩)] t3) →
    Ch Nil w w4 ∧ IsE w4 ⟨w.heap.size, d, u⟩ ∧ IsN w4 (w.heap.size + 1) w.heap.size none none none ∧ w4.cell? ⟨w.heap.size + 2, 0, none⟩ = some (.pointer (some ⟨w.heap.size, 0, none⟩)) := by
  intro w1 w2 w4 h1 h2 h4
  have s1 : w1.heap.size = w.heap.size + 1 := by rw [h1, World.size_alloc]
  have s2 : w2.heap.size = w.heap.size + 2 := by rw [h2, World.size_alloc, s1]
  have c12 : Ch Nil w1 w2 := by rw [h2]; exact (Ch.refl _ _).alloc _
  have c24 : Ch Nil w2 w4 := by rw [h4]; exact (Ch.refl _ _).alloc _
  have c01 : Ch Nil w w1 := by rw [h1]; exact (Ch.refl _ _).alloc _
  have f : ∀ i v, (#[.int .u64 (d : Nat), .int .u64 (u.i : Nat), .int .i64 u.s, .int .u64 (u.g : Nat), .int .u64 (u.d : Nat), .int .u64 (u.p : Nat), .int .u64 (d : Nat), .pointer (some ⟨w.heap.size + 1, 0, none⟩)] : Array Value)[i]? = some v → w4.cell? ⟨w.heap.size, i, none⟩ = some v := fun i v hv => (c12.trans c24).keeps (by rw [h1, cell_fresh]; exact hv) (fun e => e)
  have b1 : Blk w1 w.heap.size := by rw [h1]; exact Blk.new w _ _
  have n2 : IsN w2 (w.heap.size + 1) w.heap.size none none none := by
    have := IsN.made w1 w.heap.size t2
    rw [s1, ← h2] at this
    exact this
  refine ⟨(c01.trans c12).trans c24, ⟨f 0 _ rfl, fun j hj => by
    rcases lt5 hj with rfl | rfl | rfl | rfl | rfl <;> exact f _ _ rfl, f 6 _ rfl, f 7 _ rfl, b1.kept (c12.trans c24) (fun e => e)⟩, n2.kept c24 (fun e => e), ?_⟩
  have := cell_fresh w2 #[.pointer (some ⟨w.heap.size, 0, none⟩)] t3 0
  rw [← h4, s2] at this
  rw [this]; rfl

set_option maxHeartbeats 1000000 in
theorem IsQ.insert (H : IsQ w g now Q P) (d : Nat) (u : Tk) (hd : now < d) (hd2 : d < 18446744073709551616) (hl : Q.length ≤ 90000) :
    Calls Tryd.prog 32 #[.pointer (some ⟨g.wb, 0, none⟩), .int .u64 (d : Nat), .agg #[.int .u64 (u.i : Nat), .int .i64 u.s, .int .u64 (u.g : Nat), .int .u64 (u.d : Nat), .int .u64 (u.p : Nat)]] w fun e w' => ∃ b, e = .returned (.tuple #[.pointer (some ⟨b, 0, none⟩), .int .i64 0]) ∧ w.heap.size ≤ b ∧ IsQ w' g now (Q ++ [⟨b, d, u⟩]) (P ++ [⟨b, d, u⟩]) ∧ Ch (WS g P) w w' := by
  have hz : (now : Int) < (d : Int) := by omega
  have cA : Ch Nil w (w.alloc (Obj.cells #[.int .u64 (u.i : Nat), .int .i64 u.s, .int .u64 (u.g : Nat), .int .u64 (u.d : Nat), .int .u64 (u.p : Nat)] 37)) := (Ch.refl _ _).alloc _
  have H0 := Lib.hid (H.kept cA (fun _ _ e => e))
  have BX := IsTk.new w 37 u
  have CA := Lib.hid cA
  have szA := cA.size
  clear H cA
  go_enter Tryd.func32, Tryd.ntmps32
  go_upto_region 1 with (fail)
  generalize w.alloc (Obj.cells #[.int .u64 (u.i : Nat), .int .i64 u.s, .int .u64 (u.g : Nat), .int .u64 (u.d : Nat), .int .u64 (u.p : Nat)] 37) = wa at H0 BX CA szA ⊢
  obtain ⟨B, hB⟩ : ∃ B, B = w.heap.size := ⟨_, rfl⟩
  rw [← hB] at BX ⊢
  clear hB
  have c0 := H0.out.w.t
  obtain ⟨x0, x1, x2, x3, x4⟩ := BX.cells0
  go_wp2_with fail
  obtain ⟨m1, m2, m3, m4⟩ := ins_made wa d u 130 132 76 _ _ _ rfl rfl rfl
  have h1 := H0.out.w.more (x := ⟨wa.heap.size, d, u⟩) (Nat.le_refl _) m1 m2 m3 hd2
  have nQ : ∀ p, p ≤ 256 → (⟨wa.heap.size, d, u⟩ : Ent) ∉ rowsOf Q now p := fun p _ hm => by
    have := (H0.out.w.ent_lt (H0.out.p _ (mem_rowsOf.1 hm).1)).1
    simp only at this; omega
  have hg : ∀ k, WS g (P ++ [⟨wa.heap.size, d, u⟩]) k → k < wa.heap.size ∨ k = wa.heap.size ∨ k = wa.heap.size + 1 := fun k hk => by
    rcases WS.more hk with h | h
    · exact .inl (H0.out.lt h)
    · exact .inr h
  refine (h1.place [⟨wa.heap.size, d, u⟩] _ 1 (fun y hy => by simp at hy; subst hy; simp) (fun y hy => by simp at hy; subst hy; exact nQ) (by simp) (.inr ⟨wa.heap.size + 2, rfl, fun e => by have := hg _ e; omega, fun i y hy => ?_⟩) (fun p _ => by have := rowsOf_len (Q := Q) (now := now) (p := p); omega) (by simp)).mono ?_
  · obtain rfl : i = 0 := by cases i; rfl; simp at hy
    simp at hy; subst hy; exact m4
  · rintro e w9 ⟨⟨r, rfl⟩, h9, c9⟩
    have p9 : IsW w9 g now (rowsOf (Q ++ [⟨wa.heap.size, d, u⟩]) now) (P ++ [⟨wa.heap.size, d, u⟩]) := by
      rw [← rows_more]
      rw [show [(⟨wa.heap.size, d, u⟩ : Ent)] = [] ++ [⟨wa.heap.size, d, u⟩] from rfl, ← plR_more, plR_nil] at h9
      exact h9
    have C9 : Hid (Ch (WS g P) wa w9) := Lib.hid ((m1.mono fun _ _ e => e.elim).then c9 fun i hi hk => by
      rcases WS.more hk with h | h | h
      · exact h
      · simp only at h; omega
      · simp only at h; omega)
    have P9 := Lib.hid p9
    clear m1 m2 m3 m4 h1 h9 c9 p9 hg
    go_wp2
    go_ret2
    refine ⟨wa.heap.size, rfl, szA, ⟨P9.out, fun y hy => ?_, fun y hy => ?_, ?_⟩, (CA.out.mono fun _ _ e => e.elim).trans C9.out⟩
    · rcases List.mem_append.1 hy with hy | hy
      · exact List.mem_append_left _ (H0.out.p y hy)
      · exact List.mem_append_right _ hy
    · rcases List.mem_append.1 hy with hy | hy
      · exact H0.out.a y hy
      · simp at hy; subst hy; exact hd
    · refine List.nodup_append.2 ⟨H0.out.n, by simp, fun y hy z hz e => ?_⟩
      simp at hz; subst hz; subst e
      exact nQ (spotN d now) (spotN_le _ _) (mem_rowsOf.2 ⟨hy, rfl⟩)
/-- a level's hand emptied and each placed anew -/
theorem own_free (H : IsW w g now R P) {k : Nat} (hk : w.heap.size ≤ k) : ¬ WS g P k := fun e => by have := H.ws_lt e; omega

set_option maxHeartbeats 2000000 in
set_option maxRecDepth 100000 in
theorem IsQ.advance (H : IsQ w g now Q P) (hn : now + 1 < 18446744073709551616) (hl : Q.length ≤ 45000) :
    Calls Tryd.prog 35 #[.pointer (some ⟨g.wb, 0, none⟩)] w fun e w' => ∃ a cap, e = .returned (.tuple #[.slice a (dueQ Q (now + 1)).length cap, .int .i64 0]) ∧ RowX w' a (dueQ Q (now + 1)).length cap (dueQ Q (now + 1)) ∧ (∀ k, OwnS a k → w.heap.size ≤ k) ∧ IsQ w' g (now + 1) (leftQ Q (now + 1)) P ∧ Ch (WS g P) w w' := by
  have c0 := H.w.t
  have f0 := H.w.k.fz 0
  have HA := Lib.hid H.a
  have HQ := Lib.hid H
  have AD := Lib.hid (add_ok (now : Int) 1 (by omega) (by omega) (by omega))
  have W1 := Lib.hid (H.w.setNow (now + 1) hn)
  have CS : Hid (Ch (WS g P) w (w.setCell ⟨g.wb, 0, none⟩ (.int .u64 ((now + 1 : Nat) : Int)))) := Lib.hid ((Ch.refl _ _).set (p := ⟨g.wb, 0, none⟩) (fun _ => .inl rfl) _)
  have LEN : Hid (∀ t p, (rowsOf Q t p).length ≤ 45000) := Lib.hid fun t p => by have := rowsOf_len (Q := Q) (now := t) (p := p); omega
  have HN := Lib.hid hn
  obtain ⟨t, ht⟩ : ∃ t, t = now + 1 := ⟨_, rfl⟩
  have hti : ((now : Int) + 1) = (t : Int) := by omega
  have TN := Lib.hid ht
  rw [← ht] at W1 CS ⊢
  rw [hti] at AD
  have HT := Lib.hid hti
  clear H hti ht hn
  go_enter Tryd.func35, Tryd.ntmps35
  go_wp2_with fail
  refine (AD.out _).mono ?_
  rintro e w1 ⟨rfl, rfl⟩
  go_wp2_with fail
  generalize w.setCell ⟨g.wb, 0, none⟩ (.int .u64 (t : Int)) = w1 at *
  refine (zeros_q t W1.out.nl _).mono ?_
  rintro e w2 ⟨z, hz, rfl, c2⟩
  have HZ := Lib.hid hz
  have hz11 := hz.1
  have W2 := Lib.hid (W1.out.kept c2 (fun _ _ e => e))
  have C2 := Lib.hid (CS.out.then c2 (fun _ _ e => e.elim))
  clear hz c2 W1 CS c0 f0
  by_cases h4 : 4 ≤ z
  · have h4z : (4 : Int) ≤ (z : Int) := by omega
    have h3z : (3 : Int) < (z : Int) := by omega
    have b2 := W2.out.b
    go_wp2_with fail
    refine (W2.out.drainB (by have := LEN.out now 256; omega)).mono ?_
    rintro e w3 ⟨a3, cap3, rfl, r3, g3, h3, c3⟩
    have PL := Lib.hid (h3.place (rowsOf Q now 256) a3 cap3 (W2.out.y.r 256 (by omega)) (W2.out.taken (by omega)) (W2.out.nodup (by omega)) (RowX.given r3 fun k hk => own_free W2.out (g3 k hk)) (fun p _ => by
      have := LEN.out now p
      by_cases e : p = 256
      · subst e; rw [upd_same]; simp
      · rw [upd_other _ _ _ _ e]; omega) (by have := LEN.out now 256; omega))
    rw [plR_step, TN.out, step_beyond HA.out (by rw [← TN.out]; exact HZ.out) h4, ← TN.out] at PL
    have C3 := Lib.hid (C2.out.trans c3)
    clear r3 g3 h3 c3 W2 C2 b2
    go_wp2_with fail
    refine PL.out.mono ?_
    rintro e w4 ⟨⟨r, rfl⟩, h4', c4⟩
    have START : Hid (∃ R, IsW w4 g t R P ∧ (R = rowsOf Q t ∨ (3 = z ∧ R = rowsOf Q now))) := Lib.hid ⟨_, h4', .inl rfl⟩
    have CT := Lib.hid (C3.out.trans c4)
    clear h4' c4 C3 PL
    go_wp2
    go_loopw [7] (fun i wr => ∃ (h : Nat) (R : Nat → List Ent), h ≤ 3 ∧ i = .int .i64 h ∧ IsW wr g t R P ∧ (R = rowsOf Q t ∨ (h = z ∧ R = rowsOf Q now)) ∧ Ch (WS g P) w wr) (fun i _ => (intOf i).toNat)
    case atStart =>
      obtain ⟨R, h1, h2⟩ := START.out
      exact ⟨3, R, by omega, rfl, h1, h2.imp id (fun h => ⟨by have := h.1; omega, h.2⟩), CT.out⟩
    case round =>
      obtain ⟨h, R, hh, rfl, h1, h2, c1⟩ := hrel
      have hlen : ∀ p, (R p).length ≤ 45000 := fun p => by
        rcases h2 with h2 | ⟨-, h2⟩ <;> (rw [h2]; exact LEN.out _ _)
      have H1 := Lib.hid h1
      have H2 := Lib.hid h2
      have C1 := Lib.hid c1
      have HL := Lib.hid hlen
      clear h1 h2 c1 hlen
      by_cases hpos : 0 < h
      · have hp0 : (0 : Int) < (h : Int) := by omega
        have hlt := hand_lt t h (by omega)
        go_wp2_with fail
        refine (H1.out.take (h := h) (by omega) (by have := HL.out (hand t h); omega)).mono ?_
        rintro e w5 ⟨a5, cap5, rfl, r5, g5, h5, c5⟩
        have PL := Lib.hid (h5.place (R (hand t h)) a5 cap5 (H1.out.y.r _ (by omega)) (H1.out.taken (by omega)) (H1.out.nodup (by omega)) (RowX.given r5 fun k hk => own_free H1.out (g5 k hk)) (fun p _ => by
          have := HL.out p
          by_cases e : p = hand t h
          · subst e; rw [upd_same]; simp
          · rw [upd_other _ _ _ _ e]; omega) (by have := HL.out (hand t h); omega))
        rw [plR_step] at PL
        have NX : Hid (stepR R (hand t h) t = rowsOf Q t) := Lib.hid (by
          rcases H2.out with h2 | ⟨rfl, h2⟩
          · rw [h2]; exact stepR_empty (rows_hand (fun x hx => by have := HA.out x hx; have := TN.out; omega) (by omega) (by omega))
          · rw [h2, TN.out]; exact step_level HA.out (by rw [← TN.out]; exact HZ.out) (by omega) (by omega))
        rw [NX.out] at PL
        have C5 := Lib.hid (C1.out.trans c5)
        clear r5 g5 h5 c5 NX
        go_wp2_with fail
        refine PL.out.mono ?_
        rintro e w6 ⟨⟨r, rfl⟩, h6, c6⟩
        have H6 := Lib.hid h6
        have C6 := Lib.hid (C5.out.trans c6)
        clear h6 c6 PL C5
        go_wp2
        go_roundw
        case rel => exact ⟨h - 1, _, by omega, by go_num, H6.out, .inl rfl, C6.out⟩
        case measure => simp [intOf]; omega
      · obtain rfl : h = 0 := by omega
        have RT : Hid (R = rowsOf Q t) := Lib.hid (by
          rcases H2.out with h2 | ⟨e, h2⟩
          · exact h2
          · rw [h2, TN.out]; exact step_none HA.out (by rw [← TN.out]; rw [← e] at HZ; exact HZ.out))
        have AH : Hid (∀ x, x ∈ Q → t ≤ x.d) := Lib.hid fun x hx => by have := HA.out x hx; have := TN.out; omega
        have TK := Lib.hid (H1.out.take (h := 0) (by omega) (by have := HL.out (hand t 0); omega))
        rw [RT.out, rows_due AH.out, rows_left AH.out] at TK
        clear H1 HL
        go_wp2_with fail
        refine TK.out.mono ?_
        rintro e w5 ⟨a5, cap5, rfl, r5, g5, h5, c5⟩
        have H5 := Lib.hid h5
        have R5 := Lib.hid r5
        have G5 := Lib.hid g5
        have C5 := Lib.hid (C1.out.trans c5)
        have sz := C1.out.size
        clear r5 g5 h5 c5 TK
        go_wp2
        go_ret2
        refine ⟨a5, cap5, rfl, R5.out, fun k hk => by have := G5.out k hk; omega, ⟨H5.out, fun x hx => HQ.out.p x (List.mem_filter.1 hx).1, fun x hx => ?_, HQ.out.n.filter _⟩, C5.out⟩
        rw [TN.out] at hx ⊢
        exact left_ahead HA.out x hx
  · have h4z : (z : Int) < 4 := by omega
    have CT := C2
    by_cases h3 : z < 3
    · have h3z : (z : Int) < 3 := by omega
      have START : Hid (∃ R, IsW w2 g t R P ∧ (R = rowsOf Q t ∨ (z = z ∧ R = rowsOf Q now))) := Lib.hid ⟨_, W2.out, .inr ⟨rfl, rfl⟩⟩
      clear W2 C2
      go_wp2
      go_loopw [7] (fun i wr => ∃ (h : Nat) (R : Nat → List Ent), h ≤ 3 ∧ i = .int .i64 h ∧ IsW wr g t R P ∧ (R = rowsOf Q t ∨ (h = z ∧ R = rowsOf Q now)) ∧ Ch (WS g P) w wr) (fun i _ => (intOf i).toNat)
      case atStart =>
        obtain ⟨R, h1, h2⟩ := START.out
        exact ⟨z, R, by omega, rfl, h1, h2.imp id (fun h => ⟨by have := h.1; omega, h.2⟩), CT.out⟩
      case round =>
        obtain ⟨h, R, hh, rfl, h1, h2, c1⟩ := hrel
        have hlen : ∀ p, (R p).length ≤ 45000 := fun p => by
          rcases h2 with h2 | ⟨-, h2⟩ <;> (rw [h2]; exact LEN.out _ _)
        have H1 := Lib.hid h1
        have H2 := Lib.hid h2
        have C1 := Lib.hid c1
        have HL := Lib.hid hlen
        clear h1 h2 c1 hlen
        by_cases hpos : 0 < h
        · have hp0 : (0 : Int) < (h : Int) := by omega
          have hlt := hand_lt t h (by omega)
          go_wp2_with fail
          refine (H1.out.take (h := h) (by omega) (by have := HL.out (hand t h); omega)).mono ?_
          rintro e w5 ⟨a5, cap5, rfl, r5, g5, h5, c5⟩
          have PL := Lib.hid (h5.place (R (hand t h)) a5 cap5 (H1.out.y.r _ (by omega)) (H1.out.taken (by omega)) (H1.out.nodup (by omega)) (RowX.given r5 fun k hk => own_free H1.out (g5 k hk)) (fun p _ => by
            have := HL.out p
            by_cases e : p = hand t h
            · subst e; rw [upd_same]; simp
            · rw [upd_other _ _ _ _ e]; omega) (by have := HL.out (hand t h); omega))
          rw [plR_step] at PL
          have NX : Hid (stepR R (hand t h) t = rowsOf Q t) := Lib.hid (by
            rcases H2.out with h2 | ⟨rfl, h2⟩
            · rw [h2]; exact stepR_empty (rows_hand (fun x hx => by have := HA.out x hx; have := TN.out; omega) (by omega) (by omega))
            · rw [h2, TN.out]; exact step_level HA.out (by rw [← TN.out]; exact HZ.out) (by omega) (by omega))
          rw [NX.out] at PL
          have C5 := Lib.hid (C1.out.trans c5)
          clear r5 g5 h5 c5 NX
          go_wp2_with fail
          refine PL.out.mono ?_
          rintro e w6 ⟨⟨r, rfl⟩, h6, c6⟩
          have H6 := Lib.hid h6
          have C6 := Lib.hid (C5.out.trans c6)
          clear h6 c6 PL C5
          go_wp2
          go_roundw
          case rel => exact ⟨h - 1, _, by omega, by go_num, H6.out, .inl rfl, C6.out⟩
          case measure => simp [intOf]; omega
        · obtain rfl : h = 0 := by omega
          have RT : Hid (R = rowsOf Q t) := Lib.hid (by
            rcases H2.out with h2 | ⟨e, h2⟩
            · exact h2
            · rw [h2, TN.out]; exact step_none HA.out (by rw [← TN.out]; rw [← e] at HZ; exact HZ.out))
          have AH : Hid (∀ x, x ∈ Q → t ≤ x.d) := Lib.hid fun x hx => by have := HA.out x hx; have := TN.out; omega
          have TK := Lib.hid (H1.out.take (h := 0) (by omega) (by have := HL.out (hand t 0); omega))
          rw [RT.out, rows_due AH.out, rows_left AH.out] at TK
          clear H1 HL
          go_wp2_with fail
          refine TK.out.mono ?_
          rintro e w5 ⟨a5, cap5, rfl, r5, g5, h5, c5⟩
          have H5 := Lib.hid h5
          have R5 := Lib.hid r5
          have G5 := Lib.hid g5
          have C5 := Lib.hid (C1.out.trans c5)
          have sz := C1.out.size
          clear r5 g5 h5 c5 TK
          go_wp2
          go_ret2
          refine ⟨a5, cap5, rfl, R5.out, fun k hk => by have := G5.out k hk; omega, ⟨H5.out, fun x hx => HQ.out.p x (List.mem_filter.1 hx).1, fun x hx => ?_, HQ.out.n.filter _⟩, C5.out⟩
          rw [TN.out] at hx ⊢
          exact left_ahead HA.out x hx
    · have h3z : (3 : Int) ≤ (z : Int) := by omega
      have START : Hid (∃ R, IsW w2 g t R P ∧ (R = rowsOf Q t ∨ (3 = z ∧ R = rowsOf Q now))) := Lib.hid ⟨_, W2.out, .inr ⟨by omega, rfl⟩⟩
      clear W2 C2
      go_wp2
      go_loopw [7] (fun i wr => ∃ (h : Nat) (R : Nat → List Ent), h ≤ 3 ∧ i = .int .i64 h ∧ IsW wr g t R P ∧ (R = rowsOf Q t ∨ (h = z ∧ R = rowsOf Q now)) ∧ Ch (WS g P) w wr) (fun i _ => (intOf i).toNat)
      case atStart =>
        obtain ⟨R, h1, h2⟩ := START.out
        exact ⟨3, R, by omega, rfl, h1, h2.imp id (fun h => ⟨by have := h.1; omega, h.2⟩), CT.out⟩
      case round =>
        obtain ⟨h, R, hh, rfl, h1, h2, c1⟩ := hrel
        have hlen : ∀ p, (R p).length ≤ 45000 := fun p => by
          rcases h2 with h2 | ⟨-, h2⟩ <;> (rw [h2]; exact LEN.out _ _)
        have H1 := Lib.hid h1
        have H2 := Lib.hid h2
        have C1 := Lib.hid c1
        have HL := Lib.hid hlen
        clear h1 h2 c1 hlen
        by_cases hpos : 0 < h
        · have hp0 : (0 : Int) < (h : Int) := by omega
          have hlt := hand_lt t h (by omega)
          go_wp2_with fail
          refine (H1.out.take (h := h) (by omega) (by have := HL.out (hand t h); omega)).mono ?_
          rintro e w5 ⟨a5, cap5, rfl, r5, g5, h5, c5⟩
          have PL := Lib.hid (h5.place (R (hand t h)) a5 cap5 (H1.out.y.r _ (by omega)) (H1.out.taken (by omega)) (H1.out.nodup (by omega)) (RowX.given r5 fun k hk => own_free H1.out (g5 k hk)) (fun p _ => by
            have := HL.out p
            by_cases e : p = hand t h
            · subst e; rw [upd_same]; simp
            · rw [upd_other _ _ _ _ e]; omega) (by have := HL.out (hand t h); omega))
          rw [plR_step] at PL
          have NX : Hid (stepR R (hand t h) t = rowsOf Q t) := Lib.hid (by
            rcases H2.out with h2 | ⟨rfl, h2⟩
            · rw [h2]; exact stepR_empty (rows_hand (fun x hx => by have := HA.out x hx; have := TN.out; omega) (by omega) (by omega))
            · rw [h2, TN.out]; exact step_level HA.out (by rw [← TN.out]; exact HZ.out) (by omega) (by omega))
          rw [NX.out] at PL
          have C5 := Lib.hid (C1.out.trans c5)
          clear r5 g5 h5 c5 NX
          go_wp2_with fail
          refine PL.out.mono ?_
          rintro e w6 ⟨⟨r, rfl⟩, h6, c6⟩
          have H6 := Lib.hid h6
          have C6 := Lib.hid (C5.out.trans c6)
          clear h6 c6 PL C5
          go_wp2
          go_roundw
          case rel => exact ⟨h - 1, _, by omega, by go_num, H6.out, .inl rfl, C6.out⟩
          case measure => simp [intOf]; omega
        · obtain rfl : h = 0 := by omega
          have RT : Hid (R = rowsOf Q t) := Lib.hid (by
            rcases H2.out with h2 | ⟨e, h2⟩
            · exact h2
            · rw [h2, TN.out]; exact step_none HA.out (by rw [← TN.out]; rw [← e] at HZ; exact HZ.out))
          have AH : Hid (∀ x, x ∈ Q → t ≤ x.d) := Lib.hid fun x hx => by have := HA.out x hx; have := TN.out; omega
          have TK := Lib.hid (H1.out.take (h := 0) (by omega) (by have := HL.out (hand t 0); omega))
          rw [RT.out, rows_due AH.out, rows_left AH.out] at TK
          clear H1 HL
          go_wp2_with fail
          refine TK.out.mono ?_
          rintro e w5 ⟨a5, cap5, rfl, r5, g5, h5, c5⟩
          have H5 := Lib.hid h5
          have R5 := Lib.hid r5
          have G5 := Lib.hid g5
          have C5 := Lib.hid (C1.out.trans c5)
          have sz := C1.out.size
          clear r5 g5 h5 c5 TK
          go_wp2
          go_ret2
          refine ⟨a5, cap5, rfl, R5.out, fun k hk => by have := G5.out k hk; omega, ⟨H5.out, fun x hx => HQ.out.p x (List.mem_filter.1 hx).1, fun x hx => ?_, HQ.out.n.filter _⟩, C5.out⟩
          rw [TN.out] at hx ⊢
          exact left_ahead HA.out x hx
theorem advance_over (w : World) (wb : Nat) (hn : w.cell? ⟨wb, 0, none⟩ = some (.int .u64 18446744073709551615)) :
    Calls Tryd.prog 35 #[.pointer (some ⟨wb, 0, none⟩)] w fun e w' => e = .returned (.tuple #[.slice none 0 0, .int .i64 9]) ∧ w = w' := by
  have AD := Lib.hid (add_over 18446744073709551615 1 (by omega) (by omega) (by omega) (by omega) (by omega))
  go_enter Tryd.func35, Tryd.ntmps35
  go_wp2_with fail
  refine (AD.out _).mono ?_
  rintro e w1 ⟨rfl, rfl⟩
  go_wp2
  go_ret2
  exact ⟨rfl, rfl⟩
theorem advance_nil (w : World) :
    Calls Tryd.prog 35 #[.pointer none] w fun e w' => e = .returned (.tuple #[.slice none 0 0, .int .i64 6]) ∧ w = w' := by
  go_enter Tryd.func35, Tryd.ntmps35
  go_wp2
  go_ret2
  exact ⟨rfl, rfl⟩
end
end Go.Proofs.YtldnmpiaofppgaaDoor.LT
