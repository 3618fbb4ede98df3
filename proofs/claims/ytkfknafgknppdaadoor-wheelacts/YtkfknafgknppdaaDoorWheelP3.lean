/-
  Contracts of package wheel's take, New, Insert, of ints; what lies beyond drained.
-/
import Derived.Test.YtkfknafgknppdaaDoorWheelP2
import Derived.Test.YtkfknafgknppdaaDoorLevelPNew
namespace Go.Proofs.YtkfknafgknppdaaDoor.LP
open Go.RowKit Verge
attribute [local go_sem] Oper.semAt_some
set_option linter.unusedVariables false
set_option linter.unusedSimpArgs false
/-- a row of pointers to entries -/
abbrev RowX (w : World) (a : Option Addr) (n cap : Nat) (ys : List Ent) : Prop := RowE w a n cap (valAt (ys.map nd) pre)
section
variable {S : Nat → Prop} {w w' : World} {g : Wh} {now : Nat} {R : Nat → List Ent} {P : List Ent} {x : Ent} {ys : List Ent} {a : Option Addr} {cap : Nat}
theorem valAt_get {i : Nat} (h : ys[i]? = some x) : valAt (ys.map nd) pre i = .pointer (some ⟨x.e, 0, none⟩) := by
  unfold valAt; rw [List.getD_eq_getElem?_getD, List.getElem?_map, h]; rfl
theorem RowX.cell {b n i : Nat} (h : RowX w (some ⟨b, 0, none⟩) n cap ys) (hi : i < n) (hx : ys[i]? = some x) : w.cell? ⟨b, i, none⟩ = some (.pointer (some ⟨x.e, 0, none⟩)) := by
  have := Row.cell h i (by omega)
  rwa [valAt_get hx] at this
theorem RowX.given {T : Nat → Prop} (h : RowX w a ys.length cap ys) (hT : ∀ k, OwnS a k → ¬ T k) : Given w a ys T := by
  cases ys with
  | nil => exact .inl rfl
  | cons y t =>
    obtain ⟨b, rfl, -⟩ := Row.form h (by simp)
    exact .inr ⟨b, rfl, hT b rfl, fun i x hx => RowX.cell h (List.getElem?_eq_some_iff.1 hx).1 hx⟩
theorem IsW.sb_lt (H : IsW w g now R P) {h k : Nat} (hk : SB g h k) : k < w.heap.size := by
  rcases hk with ⟨hh, (rfl | ⟨s, hs, rfl⟩)⟩ | ⟨rfl, rfl⟩
  · exact (H.v h hh).lt (.inl rfl)
  · exact (H.v h hh).lt (.inr ⟨s, hs, .inl rfl⟩)
  · exact H.l.lt (.inl rfl)
theorem IsW.ent_lt (H : IsW w g now R P) (hx : x ∈ P) : x.e < w.heap.size ∧ x.e + 1 < w.heap.size := by
  refine ⟨(H.e x hx).k.lt, ?_⟩
  by_cases hf : ∀ p, p ≤ 256 → x ∉ R p
  · exact (H.f x hx hf).lt
  · have : ∃ p, p ≤ 256 ∧ x ∈ R p := Classical.byContradiction fun hn => hf fun p hp hm => hn ⟨p, hp, hm⟩
    obtain ⟨p, hp, hm⟩ := this
    by_cases e : p = 256
    · subst e; exact H.l.lt (.inr (List.mem_map_of_mem hm))
    · refine (H.v (p / 64) (by omega)).lt (.inr ⟨p % 64, by omega, .inr ?_⟩)
      rw [nrow_at (by omega), show 64 * (p / 64) + p % 64 = p by omega]
      exact List.mem_map_of_mem hm
theorem IsW.ws_lt (H : IsW w g now R P) {k : Nat} (hk : WS g P k) : k < w.heap.size := by
  rcases hk with rfl | ⟨h, hk⟩ | ⟨x, hx, (rfl | rfl)⟩
  · exact H.k.lt
  · exact H.sb_lt hk
  · exact (H.ent_lt hx).1
  · exact (H.ent_lt hx).2
theorem nodup_of_nd {l : List Ent} (h : ∀ (i j b : Nat), (l.map nd)[i]? = some b → (l.map nd)[j]? = some b → i = j) : l.Nodup := by
  refine List.pairwise_iff_getElem.2 fun i j hi hj hij e => ?_
  have := h i j (l[i].e + 1) (by rw [List.getElem?_map, List.getElem?_eq_getElem hi]; rfl) (by rw [List.getElem?_map, List.getElem?_eq_getElem hj, ← e]; rfl)
  omega
theorem IsW.nodup (H : IsW w g now R P) {p : Nat} (hp : p ≤ 256) : (R p).Nodup := by
  by_cases e : p = 256
  · subst e; exact nodup_of_nd H.l.nd
  · have := ((H.v (p / 64) (by omega)).l (p % 64) (by omega)).nd
    rw [nrow_at (by omega), show 64 * (p / 64) + p % 64 = p by omega] at this
    exact nodup_of_nd this
/-- what was taken out of a row stands in none -/
theorem IsW.taken (H : IsW w g now R P) {p : Nat} (hp : p ≤ 256) : ∀ x, x ∈ R p → ∀ q, q ≤ 256 → x ∉ upd R p [] q := by
  intro x hx q hq hm
  by_cases e : q = p
  · subst e; rw [upd_same] at hm; cases hm
  · rw [upd_other _ _ _ _ e] at hm; exact e (H.y.un _ _ _ hq hp hm hx)
theorem plR_step {p : Nat} : plR (upd R p []) now (R p) = stepR R p now := by
  funext q; unfold plR stepR upd; rfl
/-- a level's slot emptied -/
theorem IsW.takeL {h s : Nat} (H : IsW w g now R P) (hh : h < 4) (hs : s < 64) (hl : (R (64 * h + s)).length ≤ 100000) :
    Calls Tryd.prog 49 #[.pointer (some ⟨g.vb h, 0, none⟩), .int .i64 (s : Nat)] w fun e w' => ∃ a cap, e = .returned (.slice a (R (64 * h + s)).length cap) ∧ RowP w' a (R (64 * h + s)).length cap ((R (64 * h + s)).map nd) ∧ (∀ k, OwnS a k → w.heap.size ≤ k) ∧ IsW w' g now (upd R (64 * h + s) []) P ∧ Ch (WS g P) w w' := by
  have hd : (64 * h + s) / 64 = h := by omega
  have hm : (64 * h + s) % 64 = s := by omega
  refine (vtake_of (H.v h hh) hs (by rw [nrow_len hs]; exact hl)).mono ?_
  rintro e w' ⟨a, cap, rfl, r1, g1, h1, n1, c1⟩
  rw [nrow_len hs, nrow_at hs] at r1
  rw [nrow_at hs] at n1
  have c2 : Ch (fun k => CB g R ((64 * h + s) / 64) k ∨ ∃ y : Ent, False ∧ k = y.e + 1) w w' := c1.mono fun k _ hk => .inl (by rw [hd]; exact lvB_cb hh hk)
  refine ⟨a, cap, by rw [nrow_len hs], r1, g1, H.turned (N := fun _ => False) (by omega) c2 (fun y e => e.elim) (fun y hy => by cases hy) (fun _ => ?_) (fun e => by omega) (fun y hy hn hc => ?_), c1.mono fun k _ hk => CB.ws H.y (lvB_cb hh hk)⟩
  · rw [hd, hm]; exact h1
  · rcases hc with hc | hc
    · exact n1 (y.e + 1) (List.mem_map_of_mem (f := nd) hc)
    · exact hc.elim
/-- what lies beyond drained -/
theorem IsW.drainB (H : IsW w g now R P) (hl : (R 256).length ≤ 100000) :
    Calls Tryd.prog 28 #[.pointer (some ⟨g.lb, 0, none⟩)] w fun e w' => ∃ a cap, e = .returned (.slice a (R 256).length cap) ∧ RowX w' a (R 256).length cap (R 256) ∧ (∀ k, OwnS a k → w.heap.size ≤ k) ∧ IsW w' g now (upd R 256 []) P ∧ Ch (WS g P) w w' := by
  refine (H.l.drain (by rw [List.length_map]; exact hl)).mono ?_
  rintro e w' ⟨a, cap, rfl, r1, g1, h1, n1, c1⟩
  rw [List.length_map] at r1
  have c2 : Ch (fun k => CB g R (256 / 64) k ∨ ∃ y : Ent, False ∧ k = y.e + 1) w w' := c1.mono fun k _ hk => .inl (lB_cb hk)
  refine ⟨a, cap, by rw [List.length_map], r1, g1, H.turned (N := fun _ => False) (by omega) c2 (fun y e => e.elim) (fun y hy => by cases hy) (fun e => by omega) (fun _ => h1) (fun y hy hn hc => ?_), c1.mono fun k _ hk => CB.ws H.y (lB_cb hk)⟩
  rcases hc with hc | hc
  · exact n1 (y.e + 1) (List.mem_map_of_mem (f := nd) hc)
  · exact hc.elim

set_option maxHeartbeats 1000000 in
theorem IsW.take {h : Nat} (H : IsW w g now R P) (hh : h < 4) (hl : (R (hand now h)).length ≤ 100000) :
    Calls Tryd.prog 29 #[.pointer (some ⟨g.wb, 0, none⟩), .int .i64 (h : Nat)] w fun e w' => ∃ a cap, e = .returned (.slice a (R (hand now h)).length cap) ∧ RowX w' a (R (hand now h)).length cap (R (hand now h)) ∧ (∀ k, OwnS a k → w.heap.size ≤ k) ∧ IsW w' g now (upd R (hand now h) []) P ∧ Ch (WS g P) w w' := by
  have hz : (h : Int) < 4 := by omega
  have hz0 : (0 : Int) ≤ (h : Int) := by omega
  have DG := Lib.hid (digit_at now h H.nl (by omega))
  have FR := Lib.hid (H.taken (p := hand now h) (by have := hand_lt now h hh; omega))
  have RP := Lib.hid (H.y.r (hand now h) (by have := hand_lt now h hh; omega))
  have dlt := dg_lt now h
  have H0 := Lib.hid H
  obtain ⟨ys, hys⟩ : ∃ ys, ys = R (hand now h) := ⟨_, rfl⟩
  have YS := Lib.hid hys
  rw [← hys] at FR RP hl ⊢
  clear H hys
  go_enter Tryd.func29, Tryd.ntmps29
  go_upto_region 2 with (fail)
  have HD : Hid (IsW w.drew g now R P) := Lib.hid (H0.out.kept (S := Nil) (Ch.refl _ _).drew (fun _ _ e => e))
  have CD : Hid (Ch (WS g P) w w.drew) := Lib.hid (Ch.refl _ _).drew
  have sz0 : w.heap.size ≤ w.drew.heap.size := Nat.le_refl _
  clear H0
  refine wp_region_held_drew (S := fun w' => w'.cell? ⟨g.wb, 1 + h, none⟩ = some (.pointer (some ⟨g.vb h, 0, none⟩)) ∧ w'.cell? ⟨g.wb, 0, none⟩ = some (.int .u64 (now : Nat))) (by kernel_rfl) ⟨HD.out.p h hh, HD.out.t⟩ (fun hHeld => ?_)
  generalize w.drew = W at *
  refine take_at (v := ?_) 0 (some 8) rfl (by kernel_rfl) (by kernel_rfl) (by kernel_rfl) (by kernel_rfl) (fun _ _ _ h => h) (Or.inl ⟨by rfl, ?_⟩) (by assumption) ?_
  rotate_left
  · intro w hSw; (try dsimp only at hSw); go_simp; try (with_reducible rfl)
  (try simp only [Act.put, List.setIfInBounds_toArray, List.set_cons_zero, List.set_cons_succ])
  refine take_at (v := ?_) 1 (some 9) rfl (by kernel_rfl) (by kernel_rfl) (by kernel_rfl) (by kernel_rfl) (fun _ _ _ h => h) (Or.inl ⟨by rfl, ?_⟩) (by assumption) ?_
  rotate_left
  · intro w hSw; (try dsimp only at hSw); go_simp; try (with_reducible rfl)
  (try simp only [Act.put, List.setIfInBounds_toArray, List.set_cons_zero, List.set_cons_succ])
  refine take_at (v := ?_) 2 (some 10) rfl (by kernel_rfl) (by kernel_rfl) (by kernel_rfl) (by kernel_rfl) (fun _ _ _ h => h) (Or.inl ⟨by rfl, ?_⟩) (by assumption) ?_
  rotate_left
  · intro w hSw; (try dsimp only at hSw); go_simp; try (with_reducible rfl)
  (try simp only [Act.put, List.setIfInBounds_toArray, List.set_cons_zero, List.set_cons_succ])
  refine take_at (v := ?_) 3 (some 11) rfl (by kernel_rfl) (by kernel_rfl) (by kernel_rfl) (by kernel_rfl) (fun _ _ _ h => h) (Or.inl ⟨by rfl, ?_⟩) (by assumption) ?_
  rotate_left
  · intro w hSw; (try dsimp only at hSw); go_simp; try (with_reducible rfl)
  (try simp only [Act.put, List.setIfInBounds_toArray, List.set_cons_zero, List.set_cons_succ])
  refine take_at (v := ?_) 4 (some 12) rfl (by kernel_rfl) (by kernel_rfl) (by kernel_rfl) (by kernel_rfl) (fun _ _ _ h => h) (Or.inl ⟨by rfl, ?_⟩) (by assumption) ?_
  rotate_left
  · intro w hSw; (try dsimp only at hSw); go_simp; try (with_reducible rfl)
  (try simp only [Act.put, List.setIfInBounds_toArray, List.set_cons_zero, List.set_cons_succ])
  refine take_at (v := ?_) 5 (some 13) rfl (by kernel_rfl) (by kernel_rfl) (by kernel_rfl) (by kernel_rfl) (fun _ _ _ h => h) (Or.inl ⟨by rfl, ?_⟩) (by assumption) ?_
  rotate_left
  · intro w hSw; (try dsimp only at hSw); go_simp; try (with_reducible rfl)
  (try simp only [Act.put, List.setIfInBounds_toArray, List.set_cons_zero, List.set_cons_succ])
  refine take_at (v := ?_) 6 (some 14) rfl (by kernel_rfl) (by kernel_rfl) (by kernel_rfl) (by kernel_rfl) (fun _ _ _ h => h) (Or.inl ⟨by rfl, ?_⟩) (by assumption) ?_
  rotate_left
  · intro w hSw; (try dsimp only at hSw); go_simp; try (with_reducible rfl)
  (try simp only [Act.put, List.setIfInBounds_toArray, List.set_cons_zero, List.set_cons_succ])
  refine take_at (v := ?_) 7 (some 15) rfl (by kernel_rfl) (by kernel_rfl) (by kernel_rfl) (by kernel_rfl) (fun _ _ _ h => h) (Or.inl ⟨by rfl, ?_⟩) (by assumption) ?_
  rotate_left
  · intro w hSw; (try dsimp only at hSw); go_simp; try (with_reducible rfl)
  (try simp only [Act.put, List.setIfInBounds_toArray, List.set_cons_zero, List.set_cons_succ])
  refine take_at (v := ?_) 8 (some 16) rfl (by kernel_rfl) (by kernel_rfl) (by kernel_rfl) (by kernel_rfl) (fun _ _ _ h => h) (Or.inl ⟨by rfl, ?_⟩) (by assumption) ?_
  rotate_left
  · intro w hSw; (try dsimp only at hSw); go_simp; try (with_reducible rfl)
  (try simp only [Act.put, List.setIfInBounds_toArray, List.set_cons_zero, List.set_cons_succ])
  refine take_at (v := ?_) 9 (some 17) rfl (by kernel_rfl) (by kernel_rfl) (by kernel_rfl) (by kernel_rfl) (fun _ _ _ h => h) (Or.inl ⟨by rfl, ?_⟩) (by assumption) ?_
  rotate_left
  · intro w hSw; (try dsimp only at hSw); go_simp; try (with_reducible rfl)
  (try simp only [Act.put, List.setIfInBounds_toArray, List.set_cons_zero, List.set_cons_succ])
  refine take_at (v := ?_) 10 (some 18) rfl (by kernel_rfl) (by kernel_rfl) (by kernel_rfl) (by kernel_rfl) (fun _ _ _ h => h) (Or.inl ⟨by rfl, ?_⟩) (by assumption) ?_
  rotate_left
  · intro w hSw; (try dsimp only at hSw); go_simp; try (with_reducible rfl)
  (try simp only [Act.put, List.setIfInBounds_toArray, List.set_cons_zero, List.set_cons_succ])
  refine take_at (v := ?_) 14 (some 22) rfl (by kernel_rfl) (by kernel_rfl) (by kernel_rfl) (by kernel_rfl) (fun _ _ _ h => h) (Or.inl ⟨by rfl, ?_⟩) (by assumption) ?_
  rotate_left
  · intro w hSw; (try dsimp only at hSw); go_simp; try (with_reducible rfl)
  (try simp only [Act.put, List.setIfInBounds_toArray, List.set_cons_zero, List.set_cons_succ])
  refine wpAnyH_ready (rs := [11]) (by kernel_rfl) (by simp) ?_
  refine AllReadyH.cons rfl (fun K hK => ?_) AllReadyH.nil
  go_simp
  refine (DG.out _).mono ?_
  rintro e w5 ⟨rfl, rfl⟩
  refine hK.out _ _ ⟨HD.out.p h hh, HD.out.t⟩ (fun hHeld => ?_)
  clear hK K
  (try simp only [Act.put, List.setIfInBounds_toArray, List.set_cons_zero, List.set_cons_succ])
  refine wpAnyH_ready (rs := [12]) (by kernel_rfl) (by simp) ?_
  refine AllReadyH.cons rfl (fun K hK => ?_) AllReadyH.nil
  go_simp
  refine (HD.out.takeL hh dlt (by rw [show 64 * h + dg now h = hand now h from rfl, ← YS.out]; exact hl)).mono ?_
  rintro e w6 ⟨a, cap, rfl, r6, g6, h6, c6⟩
  rw [show 64 * h + dg now h = hand now h from rfl] at r6 h6 ⊢
  rw [← YS.out] at r6 ⊢
  have p6 := h6.p h hh
  have t6 := h6.t
  have H6 := Lib.hid h6
  have R6 := Lib.hid r6
  have C6 := Lib.hid (CD.out.trans c6)
  have sz6 := c6.size
  have lc6 := r6.len_cap
  clear h6 r6 g6 c6 HD CD
  refine hK.out _ _ ⟨p6, t6⟩ (fun hHeld => ?_)
  clear hK K p6 t6
  (try simp only [Act.put, List.setIfInBounds_toArray, List.set_cons_zero, List.set_cons_succ])
  refine take_at (v := ?_) 13 (some 21) rfl (by kernel_rfl) (by kernel_rfl) (by kernel_rfl) (by kernel_rfl) (fun _ _ _ h => h) (Or.inl ⟨by rfl, ?_⟩) (by assumption) ?_
  rotate_left
  · intro w hSw; (try dsimp only at hSw); go_simp; try (with_reducible rfl)
  (try simp only [Act.put, List.setIfInBounds_toArray, List.set_cons_zero, List.set_cons_succ])
  refine wpAnyH_done (by kernel_rfl) ?_ _
  obtain ⟨n, hn⟩ : ∃ n, n = ys.length := ⟨_, rfl⟩
  have LEN := Lib.hid hn
  rw [← hn] at R6 lc6 hl ⊢
  clear hn
  go_wp2
  go_loopw [22, 5] (fun i s wr => ∃ (k : Nat) (b : Option Addr) (cp : Nat), k ≤ n ∧ i = .int .i64 k ∧ s = .slice b k cp ∧ RowX wr b k cp ys ∧ (∀ j, OwnS b j → w6.heap.size ≤ j) ∧ Ch Nil w6 wr) (fun i _ _ => n - (intOf i).toNat)
  case atStart => exact ⟨0, none, 0, by omega, rfl, rfl, Row.nil _ _ _ _, fun j e => (by cases e), Ch.refl _ _⟩
  case round =>
    obtain ⟨k, b, cp, hk, rfl, rfl, r7, g7, c7⟩ := hrel
    have R7 := Lib.hid r7
    have G7 := Lib.hid g7
    have C7 := Lib.hid c7
    clear r7 g7 c7
    by_cases hlt : k < n
    · obtain ⟨x, hx⟩ : ∃ x, ys[k]? = some x := ⟨_, List.getElem?_eq_getElem (by rw [← LEN.out]; exact hlt)⟩
      obtain ⟨ga, rfl, -⟩ := R6.out.form (by omega)
      have hxm := List.mem_of_getElem? hx
      have q1 := C7.out.keeps (R6.out.cell k (by omega)) (fun e => e)
      have hp : ptrL (ys.map nd) k = .pointer (some ⟨x.e + 1, 0, none⟩) := by unfold ptrL; rw [List.getD_eq_getElem?_getD, List.getElem?_map, hx]; rfl
      rw [hp] at q1
      have q2 := C7.out.keeps (H6.out.f x (RP.out x hxm) (FR.out x hxm)).v (fun e => e)
      have HX := Lib.hid hx
      have R8 := Lib.hid (Row.kept (S := Nil) R7.out ((Ch.refl Nil wr).alloc (Obj.cells #[.pointer (some ⟨x.e, 0, none⟩)] 34)) (fun _ _ e => e))
      have hkz : (k : Int) < (n : Int) := by omega
      have hkz0 : (0 : Int) ≤ (k : Int) := by omega
      clear hp hx
      go_wp2_with (at_builtin; refine append_row _ rfl _ _ _ rfl 34 (.pointer none) 1 8 Tryd.underlying31 (by kernel_rfl) rfl (by omega) (by omega) rfl R8.out (by omega) wr.heap.size 1 [.pointer (some ⟨x.e, 0, none⟩)] 34 rfl rfl (heap_alloc_new wr _) (by simp [Value.oneCell']) (valAt (ys.map nd) pre) (fun i hi => rfl) (by intro j u hu; obtain rfl : j = 0 := (by cases j; rfl; simp at hu); simp at hu; subst hu; simpa using valAt_get HX.out) _ rfl ?_)
      intro gb cp6 w8 row8 ch8 at8 lt8
      have ROW := Lib.hid row8
      have CH := Lib.hid ((((Ch.refl Nil wr).alloc _).mono (fun _ _ e => e.elim)).trans ch8)
      have AT := Lib.hid at8
      clear row8 ch8 at8 lt8 R8
      go_wp2
      go_roundw
      case rel =>
        refine ⟨k + 1, _, cp6, by omega, by go_num, rfl, ROW.out, ?_, C7.out.up CH.out G7.out⟩
        intro j e
        cases e
        have := C7.out.size
        rcases AT.out with h' | h'
        · exact G7.out _ h'
        · (try simp at h'); (try simp only); omega
      case measure => simp [intOf]; omega
    · obtain rfl : k = n := by omega
      go_wp2
      go_ret
      refine ⟨b, cp, by rw [← LEN.out]; rfl, by rw [← LEN.out]; exact R7.out, fun j e => by have := G7.out j e; omega, ?_, C6.out.then C7.out (fun _ _ e => e.elim)⟩
      exact H6.out.kept C7.out (fun _ _ e => e)

/-- a wheel of which the first k levels are there -/
structure MakW (w : World) (g : Wh) (now k : Nat) (W : World) : Prop where
  t : W.cell? ⟨g.wb, 0, none⟩ = some (.int .u64 (now : Nat))
  p : ∀ h, h < k → W.cell? ⟨g.wb, 1 + h, none⟩ = some (.pointer (some ⟨g.vb h, 0, none⟩))
  z : ∀ h, k ≤ h → h < 4 → W.cell? ⟨g.wb, 1 + h, none⟩ = some (.pointer none)
  b : W.cell? ⟨g.wb, 5, none⟩ = some (.pointer (some ⟨g.lb, 0, none⟩))
  kb : Blk W g.wb
  v : ∀ h, h < k → IsLv W (g.vb h) (g.hd h) (fun _ => []) pre
  l : IsL W g.lb [] pre
  d : ∀ h h' j, h < k → h' < k → LvB (g.vb h) (g.hd h) (fun _ => []) j → LvB (g.vb h') (g.hd h') (fun _ => []) j → h = h'
  nl : ∀ h, h < k → ¬ LvB (g.vb h) (g.hd h) (fun _ => []) g.lb
  nw : ∀ h, h < k → ¬ LvB (g.vb h) (g.hd h) (fun _ => []) g.wb
  lw : g.lb ≠ g.wb
  hi : w.heap.size ≤ g.wb ∧ w.heap.size ≤ g.lb ∧ ∀ h j, h < k → LvB (g.vb h) (g.hd h) (fun _ => []) j → w.heap.size ≤ j
  c : Ch Nil w W
theorem lvB_sb {h j : Nat} (hh : h < 4) (hj : (j = g.vb h ∨ ∃ s, s < 64 ∧ j = g.hd h s)) : LvB (g.vb h) (g.hd h) (fun _ => []) j := by
  rcases hj with rfl | ⟨s, hs, rfl⟩
  · exact .inl rfl
  · exact .inr ⟨s, hs, .inl rfl⟩
theorem nrow_nil {h : Nat} : nrow (fun _ => []) h = fun _ => [] := by funext s; unfold nrow; split <;> rfl
theorem MakW.kept {W w5 : World} {k : Nat} (m : MakW w g now k W) (c : Ch Nil W w5) : MakW w g now k w5 :=
  ⟨c.keeps m.t (fun e => e), fun h hh => c.keeps (m.p h hh) (fun e => e), fun h h1 h2 => c.keeps (m.z h h1 h2) (fun e => e), c.keeps m.b (fun e => e), m.kb.kept c (fun e => e), fun h hh => (m.v h hh).kept c (fun _ _ e => e), m.l.kept c (fun _ _ e => e), m.d, m.nl, m.nw, m.lw, m.hi, m.c.trans c⟩
theorem MakW.more {W w5 : World} {k vb' : Nat} {hd' : Nat → Nat} (m : MakW w g now k W) (hk : k < 4) (h5 : IsLv w5 vb' hd' (fun _ => []) pre) (g5 : ∀ j, LvB vb' hd' (fun _ => []) j → W.heap.size ≤ j) (c5 : Ch Nil W w5) :
    MakW w ⟨g.wb, upd g.vb k vb', upd g.hd k hd', g.lb⟩ now (k + 1) (w5.setCell ⟨g.wb, 1 + k, none⟩ (.pointer (some ⟨vb', 0, none⟩))) := by
  have m' := m.kept c5
  have c : Ch (One g.wb) w5 (w5.setCell ⟨g.wb, 1 + k, none⟩ (.pointer (some ⟨vb', 0, none⟩))) := (Ch.refl _ _).setB (1 + k) _
  have wlt := m.kb.lt
  have llt := m.l.lt (.inl rfl)
  have vlt : ∀ h j, h < k → LvB (g.vb h) (g.hd h) (fun _ => []) j → j < W.heap.size := fun h j hh hj => (m.v h hh).lt hj
  have hw := m.c.size
  have U : ∀ h j, h < k + 1 → LvB (upd g.vb k vb' h) (upd g.hd k hd' h) (fun _ => []) j → (h = k ∧ W.heap.size ≤ j) ∨ (h < k ∧ LvB (g.vb h) (g.hd h) (fun _ => []) j) := fun h j hh hj => by
    by_cases e : h = k
    · subst e; rw [upd_same, upd_same] at hj; exact .inl ⟨rfl, g5 j hj⟩
    · rw [upd_other _ _ _ _ e, upd_other _ _ _ _ e] at hj; exact .inr ⟨by omega, hj⟩
  refine ⟨(cell_ne (by omega) _).trans m'.t, fun h hh => ?_, fun h h1 h2 => (cell_ne (by omega) _).trans (m'.z h (by omega) h2), (cell_ne (by omega) _).trans m'.b, m'.kb.set _ _, fun h hh => ?_, m'.l.kept c fun j hj e => ?_, fun h h' j hh hh' hj hj' => ?_, fun h hh hj => ?_, fun h hh hj => ?_, m.lw, ⟨m.hi.1, m.hi.2.1, fun h j hh hj => ?_⟩, m'.c.up c (fun i e => e ▸ m.hi.1)⟩
  · show World.cell? _ _ = some (Value.pointer (some ⟨upd g.vb k vb' h, 0, none⟩))
    by_cases e : h = k
    · subst e; rw [upd_same]; exact World.cell?_setCell_same _ _ _ (m'.z h (Nat.le_refl _) hk)
    · rw [upd_other _ _ _ _ e]; exact (cell_ne (by omega) _).trans (m'.p h (by omega))
  · show IsLv _ (upd g.vb k vb' h) (upd g.hd k hd' h) _ _
    by_cases e : h = k
    · subst e; rw [upd_same, upd_same]
      exact h5.kept c fun j hj e => by have := g5 j hj; have e' : j = g.wb := e; omega
    · rw [upd_other _ _ _ _ e, upd_other _ _ _ _ e]
      exact (m'.v h (by omega)).kept c fun j hj e => m.nw h (by omega) (e ▸ hj)
  · rcases hj with rfl | hj
    · exact m.lw e
    · cases hj
  · rcases U h j hh hj with ⟨rfl, h1⟩ | ⟨h1, h2⟩ <;> rcases U h' j hh' hj' with ⟨rfl, h3⟩ | ⟨h3, h4⟩
    · rfl
    · have := vlt _ _ h3 h4; omega
    · have := vlt _ _ h1 h2; omega
    · exact m.d _ _ _ h1 h3 h2 h4
  · rcases U h _ hh hj with ⟨rfl, h1⟩ | ⟨h1, h2⟩
    · simp only at h1; omega
    · exact m.nl h h1 h2
  · rcases U h _ hh hj with ⟨rfl, h1⟩ | ⟨h1, h2⟩
    · simp only at h1; omega
    · exact m.nw h h1 h2
  · rcases U h _ hh hj with ⟨rfl, h1⟩ | ⟨h1, h2⟩
    · omega
    · exact m.hi.2.2 h j h1 h2
theorem MakW.sb {W : World} (m : MakW w g now 4 W) {h j : Nat} (hj : SB g h j) : (h < 4 ∧ LvB (g.vb h) (g.hd h) (fun _ => []) j) ∨ (h = 4 ∧ j = g.lb) := by
  rcases hj with ⟨hh, hj⟩ | hj
  · exact .inl ⟨hh, lvB_sb hh hj⟩
  · exact .inr hj
theorem MakW.made {W : World} (m : MakW w g now 4 W) (hn : now < 18446744073709551616) : IsW W g now (fun _ => []) [] := by
  refine ⟨m.t, m.p, m.b, m.kb, fun h hh => by rw [nrow_nil]; exact m.v h hh, m.l, fun x hx => (by cases hx), fun x hx => (by cases hx), ⟨fun h h' k a b => ?_, fun h a => ?_, fun x hx => (by cases hx), fun x y hx => (by cases hx), fun x y hx => (by cases hx)⟩, ⟨fun p hp x hx => (by cases hx), fun p q x _ _ hx => (by cases hx)⟩, hn, fun x hx => (by cases hx)⟩
  · rcases m.sb a with ⟨h1, h2⟩ | ⟨rfl, rfl⟩ <;> rcases m.sb b with ⟨h3, h4⟩ | ⟨rfl, h4⟩
    · exact m.d _ _ _ h1 h3 h2 h4
    · subst h4; exact absurd h2 (m.nl _ h1)
    · exact absurd h4 (m.nl _ h3)
    · rfl
  · rcases m.sb a with ⟨h1, h2⟩ | ⟨rfl, h2⟩
    · exact m.nw _ h1 h2
    · exact m.lw h2.symm
theorem MakW.high {W : World} (m : MakW w g now 4 W) : ∀ k, WS g [] k → w.heap.size ≤ k := by
  rintro k (rfl | ⟨h, hk⟩ | ⟨x, hx, -⟩)
  · exact m.hi.1
  · rcases m.sb hk with ⟨h1, h2⟩ | ⟨rfl, rfl⟩
    · exact m.hi.2.2 _ _ h1 h2
    · exact m.hi.2.1
  · cases hx

set_option maxHeartbeats 1000000 in
set_option maxRecDepth 100000 in
theorem neww_of (w : World) (now : Nat) (hn : now < 18446744073709551616) :
    Calls Tryd.prog 5 #[.int .u64 (now : Nat)] w fun e w' => ∃ g : Wh, e = .returned (.pointer (some ⟨g.wb, 0, none⟩)) ∧ IsW w' g now (fun _ => []) [] ∧ (∀ k, WS g [] k → w.heap.size ≤ k) ∧ Ch Nil w w' := by
  have HN := Lib.hid hn
  clear hn
  go_enter Tryd.func5, Tryd.ntmps5
  go_wp2_with fail
  refine (new_of _ pre).mono ?_
  rintro e w1 ⟨lb, rfl, hlb, h1, c1⟩
  have llt := h1.lt (.inl rfl)
  have H1 := Lib.hid h1
  have C1 := Lib.hid c1
  have sz1 := c1.size
  clear h1 c1
  obtain ⟨wb, hwb⟩ : ∃ wb, wb = w1.heap.size := ⟨_, rfl⟩
  obtain ⟨w2, hw2⟩ : ∃ w2, w2 = w1.alloc (.cells #[.int .u64 (now : Nat), .pointer none, .pointer none, .pointer none, .pointer none, .pointer (some ⟨lb, 0, none⟩)] 62) := ⟨_, rfl⟩
  have m0 : MakW w ⟨wb, fun _ => 0, fun _ _ => 0, lb⟩ now 0 w2 := by
    subst hw2
    subst hwb
    refine ⟨by rw [cell_fresh]; rfl, fun h hh => by omega, fun h _ hh => ?_, by rw [cell_fresh]; rfl, Blk.new _ _ _, fun h hh => by omega, H1.out.kept (S := Nil) ((Ch.refl _ _).alloc _) (fun _ _ e => e), fun h h' j hh => by omega, fun h hh => by omega, fun h hh => by omega, by simp only; omega, ⟨by simp only; omega, hlb, fun h j hh => by omega⟩, C1.out.alloc _⟩
    rw [cell_fresh]
    have : h = 0 ∨ h = 1 ∨ h = 2 ∨ h = 3 := by omega
    rcases this with rfl | rfl | rfl | rfl <;> rfl
  have M0 := Lib.hid m0
  have HW2 := Lib.hid hw2
  have HWB := Lib.hid hwb
  clear m0 hw2 hwb H1 C1
  go_wp2
  rw [← HW2.out, ← HWB.out]
  clear HW2 HWB
  go_loopw [9] (fun i wr => ∃ (k : Nat) (vb : Nat → Nat) (hd : Nat → Nat → Nat), k ≤ 4 ∧ i = .int .i64 k ∧ MakW w ⟨wb, vb, hd, lb⟩ now k wr) (fun i _ => 4 - (intOf i).toNat)
  case atStart => exact ⟨0, _, _, by omega, rfl, M0.out⟩
  case round =>
    obtain ⟨k, vb, hd, hk, rfl, hm⟩ := hrel
    have HM := Lib.hid hm
    clear hm
    by_cases hlt : k < 4
    · have hkz : (k : Int) < 4 := by omega
      have hkz0 : (0 : Int) ≤ (k : Int) := by omega
      go_upto_region 5 with (fail)
      have HMd : Hid (MakW w ⟨wb, vb, hd, lb⟩ now k wr.drew) := HM.out.kept (Ch.refl _ _).drew
      refine wp_region_held_drew (S := fun _ => True) (by kernel_rfl) trivial (fun hHeld => ?_)
      generalize wr.drew = W at *
      refine take_at (v := ?_) 0 (some 12) rfl (by kernel_rfl) (by kernel_rfl) (by kernel_rfl) (by kernel_rfl) (fun _ _ _ h => h) (Or.inl ⟨by rfl, ?_⟩) (by assumption) ?_
      rotate_left
      · intro w hSw; (try dsimp only at hSw); go_simp; try (with_reducible rfl)
      (try simp only [Act.put, List.setIfInBounds_toArray, List.set_cons_zero, List.set_cons_succ])
      refine take_at (v := ?_) 1 (some 13) rfl (by kernel_rfl) (by kernel_rfl) (by kernel_rfl) (by kernel_rfl) (fun _ _ _ h => h) (Or.inl ⟨by rfl, ?_⟩) (by assumption) ?_
      rotate_left
      · intro w hSw; (try dsimp only at hSw); go_simp; try (with_reducible rfl)
      (try simp only [Act.put, List.setIfInBounds_toArray, List.set_cons_zero, List.set_cons_succ])
      refine take_at (v := ?_) 3 (some 15) rfl (by kernel_rfl) (by kernel_rfl) (by kernel_rfl) (by kernel_rfl) (fun _ _ _ h => h) (Or.inl ⟨by rfl, ?_⟩) (by assumption) ?_
      rotate_left
      · intro w hSw; (try dsimp only at hSw); go_simp; try (with_reducible rfl)
      (try simp only [Act.put, List.setIfInBounds_toArray, List.set_cons_zero, List.set_cons_succ])
      refine take_at (v := ?_) 4 (some 16) rfl (by kernel_rfl) (by kernel_rfl) (by kernel_rfl) (by kernel_rfl) (fun _ _ _ h => h) (Or.inl ⟨by rfl, ?_⟩) (by assumption) ?_
      rotate_left
      · intro w hSw; (try dsimp only at hSw); go_simp; try (with_reducible rfl)
      (try simp only [Act.put, List.setIfInBounds_toArray, List.set_cons_zero, List.set_cons_succ])
      refine wpAnyH_ready (rs := [2]) (by kernel_rfl) (by simp) ?_
      refine AllReadyH.cons rfl (fun K hK => ?_) AllReadyH.nil
      go_simp
      refine (newv_of _ pre).mono ?_
      rintro e w5 ⟨vb', hd', rfl, h5, g5, c5⟩
      have q1 := c5.keeps (HMd.out.z k (Nat.le_refl _) hlt) (fun e => e)
      have q2 : w5.frozen? ⟨wb, 1 + k, none⟩ = false := (HMd.out.kb.kept c5 (fun e => e)).fz (1 + k)
      have NEXT := Lib.hid (HMd.out.more hlt h5 g5 c5)
      clear h5 c5 g5
      refine hK.out _ _ trivial (fun hHeld => ?_)
      clear hK K
      (try simp only [Act.put, List.setIfInBounds_toArray, List.set_cons_zero, List.set_cons_succ])
      refine take_at (v := ?_) 5 (some 17) rfl (by kernel_rfl) (by kernel_rfl) (by kernel_rfl) (by kernel_rfl) (fun _ _ _ h => h) (Or.inl ⟨by rfl, ?_⟩) (by assumption) ?_
      rotate_left
      · intro w hSw; (try dsimp only at hSw); go_simp; try (with_reducible rfl)
      (try simp only [Act.put, List.setIfInBounds_toArray, List.set_cons_zero, List.set_cons_succ])
      refine wpAnyH_ready (rs := [6]) (by kernel_rfl) (by simp) ?_
      refine AllReadyH.cons rfl (fun K hK => ?_) AllReadyH.nil
      go_simp
      refine hK.out _ _ trivial (fun hHeld => ?_)
      clear hK K
      refine wpAnyH_done (by kernel_rfl) ?_ _
      go_wp2
      go_roundw
      case rel => exact ⟨k + 1, _, _, by omega, by go_num, NEXT.out⟩
      case measure => simp [intOf]; omega
    · obtain rfl : k = 4 := by omega
      go_wp2
      go_ret
      exact ⟨⟨wb, vb, hd, lb⟩, rfl, HM.out.made HN.out, HM.out.high, HM.out.c⟩
end
end Go.Proofs.YtkfknafgknppdaaDoor.LP
