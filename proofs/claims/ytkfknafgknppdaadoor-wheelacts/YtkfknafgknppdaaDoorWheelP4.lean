/-
  Contracts of package wheel's Insert, Advance, Remove, of ints, over the row of all entries that are there.
-/
import Derived.Test.YtkfknafgknppdaaDoorWheelP3
namespace Go.Proofs.YtkfknafgknppdaaDoor.LP
open Go.RowKit Verge
attribute [local go_sem] Oper.semAt_some
set_option linter.unusedVariables false
set_option linter.unusedSimpArgs false
section
variable {S : Nat → Prop} {w w' : World} {g : Wh} {now : Nat} {R : Nat → List Ent} {P Q : List Ent} {x : Ent} {ys : List Ent} {a : Option Addr} {cap : Nat}
/-- an entry more -/
theorem IsW.more (H : IsW w g now R P) (hx : w.heap.size ≤ x.e) (c : Ch Nil w w') (he : IsE w' x) (hn : IsN w' (x.e + 1) x.e none none none) (hd : x.d < 18446744073709551616) : IsW w' g now R (P ++ [x]) := by
  have K := H.kept c (fun _ _ e => e)
  have wlt := H.k.lt
  have F := H.x
  have mem : ∀ y, y ∈ P ++ [x] → y ∈ P ∨ y = x := fun y hy => by simpa using hy
  have elt : ∀ y, y ∈ P → y.e < w.heap.size ∧ y.e + 1 < w.heap.size := fun y hy => H.ent_lt hy
  refine ⟨K.t, K.p, K.b, K.k, K.v, K.l, fun y hy => ?_, fun y hy hf => ?_, ⟨F.sd, F.sw, fun y hy => ?_, fun y z hy hz => ?_, fun y z hy hz e => ?_⟩, ⟨fun p hp y hy => List.mem_append_left _ (H.y.r p hp y hy), H.y.un⟩, H.nl, fun y hy => ?_⟩
  · rcases mem y hy with h | rfl
    · exact K.e y h
    · exact he
  · rcases mem y hy with h | rfl
    · exact K.f y h hf
    · exact hn
  · rcases mem y hy with h | rfl
    · exact F.oe y h
    · refine ⟨by omega, by omega, fun h => ⟨fun e => ?_, fun e => ?_⟩⟩ <;> have := H.sb_lt e <;> omega
  · rcases mem y hy with h | rfl <;> rcases mem z hz with h' | rfl
    · exact F.on y z h h'
    · have := elt y h; omega
    · have := elt z h'; omega
    · omega
  · rcases mem y hy with h | rfl <;> rcases mem z hz with h' | rfl
    · exact F.oi y z h h' e
    · have := elt y h; omega
    · have := elt z h'; omega
    · rfl
  · rcases mem y hy with h | rfl
    · exact H.dl y h
    · exact hd
/-- the time set -/
theorem IsW.setNow (H : IsW w g now R P) (t : Nat) (ht : t < 18446744073709551616) : IsW (w.setCell ⟨g.wb, 0, none⟩ (.int .u64 (t : Nat))) g t R P := by
  have c : Ch (One g.wb) w (w.setCell ⟨g.wb, 0, none⟩ (.int .u64 (t : Nat))) := (Ch.refl _ _).setB 0 _
  have F := H.x
  refine ⟨World.cell?_setCell_same _ _ _ H.t, fun h hh => (cell_ne (by omega) _).trans (H.p h hh), (cell_ne (by omega) _).trans H.b, H.k.set _ _, fun h hh => (H.v h hh).kept c fun k hk e => ?_, H.l.kept c fun k hk e => ?_, fun y hy => (H.e y hy).kept c (F.oe y hy).1, fun y hy hf => (H.f y hy hf).kept c (F.oe y hy).2.1, F, H.y, ht, H.dl⟩
  · have e' : k = g.wb := e
    subst e'; exact CB.wb F H.y (lvB_cb hh hk)
  · have e' : k = g.wb := e
    subst e'; exact CB.wb F H.y (lB_cb hk)

/-- a wheel by the row of its entries, in the order in which they came: each stands where its deadline leads it, ahead of the time -/
structure IsQ (w : World) (g : Wh) (now : Nat) (Q P : List Ent) : Prop where
  w : IsW w g now (rowsOf Q now) P
  p : ∀ x, x ∈ Q → x ∈ P
  a : ∀ x, x ∈ Q → now < x.d
  n : Q.Nodup
theorem IsQ.kept (H : IsQ w g now Q P) (c : Ch S w w') (hn : ∀ k, WS g P k → ¬ S k) : IsQ w' g now Q P := ⟨H.w.kept c hn, H.p, H.a, H.n⟩
theorem IsQ.lt (H : IsQ w g now Q P) {k : Nat} (hk : WS g P k) : k < w.heap.size := H.w.ws_lt hk
theorem IsQ.new (H : IsW w g now (fun _ => []) []) : IsQ w g now [] [] := ⟨H, fun _ h => h, fun x h => (by cases h), List.nodup_nil⟩
theorem WS.more {k : Nat} (hk : WS g (P ++ [x]) k) : WS g P k ∨ k = x.e ∨ k = x.e + 1 := by
  rcases hk with rfl | h | ⟨y, hy, h⟩
  · exact .inl (.inl rfl)
  · exact .inl (.inr (.inl h))
  · rcases List.mem_append.1 hy with hy | hy
    · exact .inl (.inr (.inr ⟨y, hy, h⟩))
    · simp at hy; subst hy; exact .inr h

theorem ins_made (w : World) (d : Nat) (u : Int) (t1 t2 t3 : TypeId) : ∀ w1 w2 w4 : World, w1 = w.alloc (.cells #[.int .u64 (d : Nat), .int .i64 u, .int .u64 (d : Nat), .pointer (some ⟨w.heap.size + 1, 0, none⟩)] t1) → w2 = w1.alloc (.cells #[.pointer (some ⟨w.heap.size, 0, none⟩), .pointer none, .pointer none, .pointer none] t2) → w4 = w2.alloc (.cells #[.pointer (some ⟨w.heap.size, 0, none⟩)] t3) →
    Ch Nil w w4 ∧ IsE w4 ⟨w.heap.size, d, u⟩ ∧ IsN w4 (w.heap.size + 1) w.heap.size none none none ∧ w4.cell? ⟨w.heap.size + 2, 0, none⟩ = some (.pointer (some ⟨w.heap.size, 0, none⟩)) := by
  intro w1 w2 w4 h1 h2 h4
  have s1 : w1.heap.size = w.heap.size + 1 := by rw [h1, World.size_alloc]
  have s2 : w2.heap.size = w.heap.size + 2 := by rw [h2, World.size_alloc, s1]
  have c12 : Ch Nil w1 w2 := by rw [h2]; exact (Ch.refl _ _).alloc _
  have c24 : Ch Nil w2 w4 := by rw [h4]; exact (Ch.refl _ _).alloc _
  have c01 : Ch Nil w w1 := by rw [h1]; exact (Ch.refl _ _).alloc _
  have f : ∀ i v, (#[.int .u64 (d : Nat), .int .i64 u, .int .u64 (d : Nat), .pointer (some ⟨w.heap.size + 1, 0, none⟩)] : Array Value)[i]? = some v → w4.cell? ⟨w.heap.size, i, none⟩ = some v := fun i v hv => (c12.trans c24).keeps (by rw [h1, cell_fresh]; exact hv) (fun e => e)
  have b1 : Blk w1 w.heap.size := by rw [h1]; exact Blk.new w _ _
  have n2 : IsN w2 (w.heap.size + 1) w.heap.size none none none := by
    have := IsN.made w1 w.heap.size t2
    rw [s1, ← h2] at this
    exact this
  refine ⟨(c01.trans c12).trans c24, ⟨f 0 _ rfl, f 1 _ rfl, f 2 _ rfl, f 3 _ rfl, b1.kept (c12.trans c24) (fun e => e)⟩, n2.kept c24 (fun e => e), ?_⟩
  have := cell_fresh w2 #[.pointer (some ⟨w.heap.size, 0, none⟩)] t3 0
  rw [← h4, s2] at this
  rw [this]; rfl

set_option maxHeartbeats 1000000 in
theorem IsQ.insert (H : IsQ w g now Q P) (d : Nat) (u : Int) (hd : now < d) (hd2 : d < 18446744073709551616) (hl : Q.length ≤ 90000) :
    Calls Tryd.prog 6 #[.pointer (some ⟨g.wb, 0, none⟩), .int .u64 (d : Nat), .int .i64 u] w fun e w' => ∃ b, e = .returned (.tuple #[.pointer (some ⟨b, 0, none⟩), .int .i64 0]) ∧ w.heap.size ≤ b ∧ IsQ w' g now (Q ++ [⟨b, d, u⟩]) (P ++ [⟨b, d, u⟩]) ∧ Ch (WS g P) w w' := by
  have c0 := H.w.t
  have hz : (now : Int) < (d : Int) := by omega
  have H0 := Lib.hid H
  clear H
  go_enter Tryd.func6, Tryd.ntmps6
  go_wp2_with fail
  obtain ⟨m1, m2, m3, m4⟩ := ins_made w d u 40 65 34 _ _ _ rfl rfl rfl
  have h1 := H0.out.w.more (x := ⟨w.heap.size, d, u⟩) (Nat.le_refl _) m1 m2 m3 hd2
  have nQ : ∀ p, p ≤ 256 → (⟨w.heap.size, d, u⟩ : Ent) ∉ rowsOf Q now p := fun p _ hm => by
    have := (H0.out.w.ent_lt (H0.out.p _ (mem_rowsOf.1 hm).1)).1
    simp only at this; omega
  have hg : ∀ k, WS g (P ++ [⟨w.heap.size, d, u⟩]) k → k < w.heap.size ∨ k = w.heap.size ∨ k = w.heap.size + 1 := fun k hk => by
    rcases WS.more hk with h | h
    · exact .inl (H0.out.lt h)
    · exact .inr h
  refine (h1.place [⟨w.heap.size, d, u⟩] _ 1 (fun y hy => by simp at hy; subst hy; simp) (fun y hy => by simp at hy; subst hy; exact nQ) (by simp) (.inr ⟨w.heap.size + 2, rfl, fun e => by have := hg _ e; omega, fun i y hy => ?_⟩) (fun p _ => by have := rowsOf_len (Q := Q) (now := now) (p := p); omega) (by simp)).mono ?_
  · obtain rfl : i = 0 := by cases i; rfl; simp at hy
    simp at hy; subst hy; exact m4
  · rintro e w9 ⟨⟨r, rfl⟩, h9, c9⟩
    have p9 : IsW w9 g now (rowsOf (Q ++ [⟨w.heap.size, d, u⟩]) now) (P ++ [⟨w.heap.size, d, u⟩]) := by
      rw [← rows_more]
      rw [show [(⟨w.heap.size, d, u⟩ : Ent)] = [] ++ [⟨w.heap.size, d, u⟩] from rfl, ← plR_more, plR_nil] at h9
      exact h9
    have C9 : Hid (Ch (WS g P) w w9) := Lib.hid ((m1.mono fun _ _ e => e.elim).then c9 fun i hi hk => by
      rcases WS.more hk with h | h | h
      · exact h
      · simp only at h; omega
      · simp only at h; omega)
    have P9 := Lib.hid p9
    clear m1 m2 m3 m4 h1 h9 c9 p9 hg
    go_wp2
    go_ret2
    refine ⟨w.heap.size, rfl, Nat.le_refl _, ⟨P9.out, fun y hy => ?_, fun y hy => ?_, ?_⟩, C9.out⟩
    · rcases List.mem_append.1 hy with hy | hy
      · exact List.mem_append_left _ (H0.out.p y hy)
      · exact List.mem_append_right _ hy
    · rcases List.mem_append.1 hy with hy | hy
      · exact H0.out.a y hy
      · simp at hy; subst hy; exact hd
    · refine List.nodup_append.2 ⟨H0.out.n, by simp, fun y hy z hz e => ?_⟩
      simp at hz; subst hz; subst e
      exact nQ (spotN d now) (spotN_le _ _) (mem_rowsOf.2 ⟨hy, rfl⟩)
theorem insert_late (w : World) (wb now d : Nat) (v : Int) (hn : w.cell? ⟨wb, 0, none⟩ = some (.int .u64 (now : Nat))) (hd : d ≤ now) :
    Calls Tryd.prog 6 #[.pointer (some ⟨wb, 0, none⟩), .int .u64 (d : Nat), .int .i64 v] w fun e w' => e = .returned (.tuple #[.pointer none, .int .i64 1]) ∧ w = w' := by
  have hz : (d : Int) ≤ (now : Int) := by omega
  go_enter Tryd.func6, Tryd.ntmps6
  go_wp2
  go_ret2
  exact ⟨rfl, rfl⟩
theorem insert_nil (w : World) (d : Nat) (v : Int) :
    Calls Tryd.prog 6 #[.pointer none, .int .u64 (d : Nat), .int .i64 v] w fun e w' => e = .returned (.tuple #[.pointer none, .int .i64 6]) ∧ w = w' := by
  go_enter Tryd.func6, Tryd.ntmps6
  go_wp2
  go_ret2
  exact ⟨rfl, rfl⟩

/-- a level's hand emptied and each placed anew -/
theorem own_free (H : IsW w g now R P) {k : Nat} (hk : w.heap.size ≤ k) : ¬ WS g P k := fun e => by have := H.ws_lt e; omega

set_option maxHeartbeats 2000000 in
set_option maxRecDepth 100000 in
theorem IsQ.advance (H : IsQ w g now Q P) (hn : now + 1 < 18446744073709551616) (hl : Q.length ≤ 45000) :
    Calls Tryd.prog 10 #[.pointer (some ⟨g.wb, 0, none⟩)] w fun e w' => ∃ a cap, e = .returned (.tuple #[.slice a (dueQ Q (now + 1)).length cap, .int .i64 0]) ∧ RowX w' a (dueQ Q (now + 1)).length cap (dueQ Q (now + 1)) ∧ (∀ k, OwnS a k → w.heap.size ≤ k) ∧ IsQ w' g (now + 1) (leftQ Q (now + 1)) P ∧ Ch (WS g P) w w' := by
  have c0 := H.w.t
  have f0 := H.w.k.fz 0
  have HA := Lib.hid H.a
  have HQ := Lib.hid H
  have AD := Lib.hid (add_ok (now : Int) 1 (by omega) (by omega) (by omega))
  have W1 := Lib.hid (H.w.setNow (now + 1) hn)
  have CS : Hid (Ch (WS g P) w (w.setCell ⟨g.wb, 0, none⟩ (.int .u64 ((now + 1 : Nat) : Int)))) := Lib.hid ((Ch.refl _ _).set (p := ⟨g.wb, 0, none⟩) (fun _ => .inl rfl) _)
  have LEN : Hid (∀ t p, (rowsOf Q t p).length ≤ 45000) := Lib.hid fun t p => by have := rowsOf_len (Q := Q) (now := t) (p := p); omega
  have HN := Lib.hid hn
  obtain ⟨t, ht⟩ : ∃ t, t = now + 1 := ⟨_, rfl⟩
  have hti : ((now : Int) + 1) = (t : Int) := by omega
  have TN := Lib.hid ht
  rw [← ht] at W1 CS ⊢
  rw [hti] at AD
  have HT := Lib.hid hti
  clear H hti ht hn
  go_enter Tryd.func10, Tryd.ntmps10
  go_wp2_with fail
  refine (AD.out _).mono ?_
  rintro e w1 ⟨rfl, rfl⟩
  go_wp2_with fail
  generalize w.setCell ⟨g.wb, 0, none⟩ (.int .u64 (t : Int)) = w1 at *
  refine (zeros_q t W1.out.nl _).mono ?_
  rintro e w2 ⟨z, hz, rfl, c2⟩
  have HZ := Lib.hid hz
  have hz11 := hz.1
  have W2 := Lib.hid (W1.out.kept c2 (fun _ _ e => e))
  have C2 := Lib.hid (CS.out.then c2 (fun _ _ e => e.elim))
  clear hz c2 W1 CS c0 f0
  by_cases h4 : 4 ≤ z
  · have h4z : (4 : Int) ≤ (z : Int) := by omega
    have h3z : (3 : Int) < (z : Int) := by omega
    have b2 := W2.out.b
    go_wp2_with fail
    refine (W2.out.drainB (by have := LEN.out now 256; omega)).mono ?_
    rintro e w3 ⟨a3, cap3, rfl, r3, g3, h3, c3⟩
    have PL := Lib.hid (h3.place (rowsOf Q now 256) a3 cap3 (W2.out.y.r 256 (by omega)) (W2.out.taken (by omega)) (W2.out.nodup (by omega)) (RowX.given r3 fun k hk => own_free W2.out (g3 k hk)) (fun p _ => by
      have := LEN.out now p
      by_cases e : p = 256
      · subst e; rw [upd_same]; simp
      · rw [upd_other _ _ _ _ e]; omega) (by have := LEN.out now 256; omega))
    rw [plR_step, TN.out, step_beyond HA.out (by rw [← TN.out]; exact HZ.out) h4, ← TN.out] at PL
    have C3 := Lib.hid (C2.out.trans c3)
    clear r3 g3 h3 c3 W2 C2 b2
    go_wp2_with fail
    refine PL.out.mono ?_
    rintro e w4 ⟨⟨r, rfl⟩, h4', c4⟩
    have START : Hid (∃ R, IsW w4 g t R P ∧ (R = rowsOf Q t ∨ (3 = z ∧ R = rowsOf Q now))) := Lib.hid ⟨_, h4', .inl rfl⟩
    have CT := Lib.hid (C3.out.trans c4)
    clear h4' c4 C3 PL
    go_wp2
    go_loopw [7] (fun i wr => ∃ (h : Nat) (R : Nat → List Ent), h ≤ 3 ∧ i = .int .i64 h ∧ IsW wr g t R P ∧ (R = rowsOf Q t ∨ (h = z ∧ R = rowsOf Q now)) ∧ Ch (WS g P) w wr) (fun i _ => (intOf i).toNat)
    case atStart =>
      obtain ⟨R, h1, h2⟩ := START.out
      exact ⟨3, R, by omega, rfl, h1, h2.imp id (fun h => ⟨by have := h.1; omega, h.2⟩), CT.out⟩
    case round =>
      obtain ⟨h, R, hh, rfl, h1, h2, c1⟩ := hrel
      have hlen : ∀ p, (R p).length ≤ 45000 := fun p => by
        rcases h2 with h2 | ⟨-, h2⟩ <;> (rw [h2]; exact LEN.out _ _)
      have H1 := Lib.hid h1
      have H2 := Lib.hid h2
      have C1 := Lib.hid c1
      have HL := Lib.hid hlen
      clear h1 h2 c1 hlen
      by_cases hpos : 0 < h
      · have hp0 : (0 : Int) < (h : Int) := by omega
        have hlt := hand_lt t h (by omega)
        go_wp2_with fail
        refine (H1.out.take (h := h) (by omega) (by have := HL.out (hand t h); omega)).mono ?_
        rintro e w5 ⟨a5, cap5, rfl, r5, g5, h5, c5⟩
        have PL := Lib.hid (h5.place (R (hand t h)) a5 cap5 (H1.out.y.r _ (by omega)) (H1.out.taken (by omega)) (H1.out.nodup (by omega)) (RowX.given r5 fun k hk => own_free H1.out (g5 k hk)) (fun p _ => by
          have := HL.out p
          by_cases e : p = hand t h
          · subst e; rw [upd_same]; simp
          · rw [upd_other _ _ _ _ e]; omega) (by have := HL.out (hand t h); omega))
        rw [plR_step] at PL
        have NX : Hid (stepR R (hand t h) t = rowsOf Q t) := Lib.hid (by
          rcases H2.out with h2 | ⟨rfl, h2⟩
          · rw [h2]; exact stepR_empty (rows_hand (fun x hx => by have := HA.out x hx; have := TN.out; omega) (by omega) (by omega))
          · rw [h2, TN.out]; exact step_level HA.out (by rw [← TN.out]; exact HZ.out) (by omega) (by omega))
        rw [NX.out] at PL
        have C5 := Lib.hid (C1.out.trans c5)
        clear r5 g5 h5 c5 NX
        go_wp2_with fail
        refine PL.out.mono ?_
        rintro e w6 ⟨⟨r, rfl⟩, h6, c6⟩
        have H6 := Lib.hid h6
        have C6 := Lib.hid (C5.out.trans c6)
        clear h6 c6 PL C5
        go_wp2
        go_roundw
        case rel => exact ⟨h - 1, _, by omega, by go_num, H6.out, .inl rfl, C6.out⟩
        case measure => simp [intOf]; omega
      · obtain rfl : h = 0 := by omega
        have RT : Hid (R = rowsOf Q t) := Lib.hid (by
          rcases H2.out with h2 | ⟨e, h2⟩
          · exact h2
          · rw [h2, TN.out]; exact step_none HA.out (by rw [← TN.out]; rw [← e] at HZ; exact HZ.out))
        have AH : Hid (∀ x, x ∈ Q → t ≤ x.d) := Lib.hid fun x hx => by have := HA.out x hx; have := TN.out; omega
        have TK := Lib.hid (H1.out.take (h := 0) (by omega) (by have := HL.out (hand t 0); omega))
        rw [RT.out, rows_due AH.out, rows_left AH.out] at TK
        clear H1 HL
        go_wp2_with fail
        refine TK.out.mono ?_
        rintro e w5 ⟨a5, cap5, rfl, r5, g5, h5, c5⟩
        have H5 := Lib.hid h5
        have R5 := Lib.hid r5
        have G5 := Lib.hid g5
        have C5 := Lib.hid (C1.out.trans c5)
        have sz := C1.out.size
        clear r5 g5 h5 c5 TK
        go_wp2
        go_ret2
        refine ⟨a5, cap5, rfl, R5.out, fun k hk => by have := G5.out k hk; omega, ⟨H5.out, fun x hx => HQ.out.p x (List.mem_filter.1 hx).1, fun x hx => ?_, HQ.out.n.filter _⟩, C5.out⟩
        rw [TN.out] at hx ⊢
        exact left_ahead HA.out x hx
  · have h4z : (z : Int) < 4 := by omega
    have CT := C2
    by_cases h3 : z < 3
    · have h3z : (z : Int) < 3 := by omega
      have START : Hid (∃ R, IsW w2 g t R P ∧ (R = rowsOf Q t ∨ (z = z ∧ R = rowsOf Q now))) := Lib.hid ⟨_, W2.out, .inr ⟨rfl, rfl⟩⟩
      clear W2 C2
      go_wp2
      go_loopw [7] (fun i wr => ∃ (h : Nat) (R : Nat → List Ent), h ≤ 3 ∧ i = .int .i64 h ∧ IsW wr g t R P ∧ (R = rowsOf Q t ∨ (h = z ∧ R = rowsOf Q now)) ∧ Ch (WS g P) w wr) (fun i _ => (intOf i).toNat)
      case atStart =>
        obtain ⟨R, h1, h2⟩ := START.out
        exact ⟨z, R, by omega, rfl, h1, h2.imp id (fun h => ⟨by have := h.1; omega, h.2⟩), CT.out⟩
      case round =>
        obtain ⟨h, R, hh, rfl, h1, h2, c1⟩ := hrel
        have hlen : ∀ p, (R p).length ≤ 45000 := fun p => by
          rcases h2 with h2 | ⟨-, h2⟩ <;> (rw [h2]; exact LEN.out _ _)
        have H1 := Lib.hid h1
        have H2 := Lib.hid h2
        have C1 := Lib.hid c1
        have HL := Lib.hid hlen
        clear h1 h2 c1 hlen
        by_cases hpos : 0 < h
        · have hp0 : (0 : Int) < (h : Int) := by omega
          have hlt := hand_lt t h (by omega)
          go_wp2_with fail
          refine (H1.out.take (h := h) (by omega) (by have := HL.out (hand t h); omega)).mono ?_
          rintro e w5 ⟨a5, cap5, rfl, r5, g5, h5, c5⟩
          have PL := Lib.hid (h5.place (R (hand t h)) a5 cap5 (H1.out.y.r _ (by omega)) (H1.out.taken (by omega)) (H1.out.nodup (by omega)) (RowX.given r5 fun k hk => own_free H1.out (g5 k hk)) (fun p _ => by
            have := HL.out p
            by_cases e : p = hand t h
            · subst e; rw [upd_same]; simp
            · rw [upd_other _ _ _ _ e]; omega) (by have := HL.out (hand t h); omega))
          rw [plR_step] at PL
          have NX : Hid (stepR R (hand t h) t = rowsOf Q t) := Lib.hid (by
            rcases H2.out with h2 | ⟨rfl, h2⟩
            · rw [h2]; exact stepR_empty (rows_hand (fun x hx => by have := HA.out x hx; have := TN.out; omega) (by omega) (by omega))
            · rw [h2, TN.out]; exact step_level HA.out (by rw [← TN.out]; exact HZ.out) (by omega) (by omega))
          rw [NX.out] at PL
          have C5 := Lib.hid (C1.out.trans c5)
          clear r5 g5 h5 c5 NX
          go_wp2_with fail
          refine PL.out.mono ?_
          rintro e w6 ⟨⟨r, rfl⟩, h6, c6⟩
          have H6 := Lib.hid h6
          have C6 := Lib.hid (C5.out.trans c6)
          clear h6 c6 PL C5
          go_wp2
          go_roundw
          case rel => exact ⟨h - 1, _, by omega, by go_num, H6.out, .inl rfl, C6.out⟩
          case measure => simp [intOf]; omega
        · obtain rfl : h = 0 := by omega
          have RT : Hid (R = rowsOf Q t) := Lib.hid (by
            rcases H2.out with h2 | ⟨e, h2⟩
            · exact h2
            · rw [h2, TN.out]; exact step_none HA.out (by rw [← TN.out]; rw [← e] at HZ; exact HZ.out))
          have AH : Hid (∀ x, x ∈ Q → t ≤ x.d) := Lib.hid fun x hx => by have := HA.out x hx; have := TN.out; omega
          have TK := Lib.hid (H1.out.take (h := 0) (by omega) (by have := HL.out (hand t 0); omega))
          rw [RT.out, rows_due AH.out, rows_left AH.out] at TK
          clear H1 HL
          go_wp2_with fail
          refine TK.out.mono ?_
          rintro e w5 ⟨a5, cap5, rfl, r5, g5, h5, c5⟩
          have H5 := Lib.hid h5
          have R5 := Lib.hid r5
          have G5 := Lib.hid g5
          have C5 := Lib.hid (C1.out.trans c5)
          have sz := C1.out.size
          clear r5 g5 h5 c5 TK
          go_wp2
          go_ret2
          refine ⟨a5, cap5, rfl, R5.out, fun k hk => by have := G5.out k hk; omega, ⟨H5.out, fun x hx => HQ.out.p x (List.mem_filter.1 hx).1, fun x hx => ?_, HQ.out.n.filter _⟩, C5.out⟩
          rw [TN.out] at hx ⊢
          exact left_ahead HA.out x hx
    · have h3z : (3 : Int) ≤ (z : Int) := by omega
      have START : Hid (∃ R, IsW w2 g t R P ∧ (R = rowsOf Q t ∨ (3 = z ∧ R = rowsOf Q now))) := Lib.hid ⟨_, W2.out, .inr ⟨by omega, rfl⟩⟩
      clear W2 C2
      go_wp2
      go_loopw [7] (fun i wr => ∃ (h : Nat) (R : Nat → List Ent), h ≤ 3 ∧ i = .int .i64 h ∧ IsW wr g t R P ∧ (R = rowsOf Q t ∨ (h = z ∧ R = rowsOf Q now)) ∧ Ch (WS g P) w wr) (fun i _ => (intOf i).toNat)
      case atStart =>
        obtain ⟨R, h1, h2⟩ := START.out
        exact ⟨3, R, by omega, rfl, h1, h2.imp id (fun h => ⟨by have := h.1; omega, h.2⟩), CT.out⟩
      case round =>
        obtain ⟨h, R, hh, rfl, h1, h2, c1⟩ := hrel
        have hlen : ∀ p, (R p).length ≤ 45000 := fun p => by
          rcases h2 with h2 | ⟨-, h2⟩ <;> (rw [h2]; exact LEN.out _ _)
        have H1 := Lib.hid h1
        have H2 := Lib.hid h2
        have C1 := Lib.hid c1
        have HL := Lib.hid hlen
        clear h1 h2 c1 hlen
        by_cases hpos : 0 < h
        · have hp0 : (0 : Int) < (h : Int) := by omega
          have hlt := hand_lt t h (by omega)
          go_wp2_with fail
          refine (H1.out.take (h := h) (by omega) (by have := HL.out (hand t h); omega)).mono ?_
          rintro e w5 ⟨a5, cap5, rfl, r5, g5, h5, c5⟩
          have PL := Lib.hid (h5.place (R (hand t h)) a5 cap5 (H1.out.y.r _ (by omega)) (H1.out.taken (by omega)) (H1.out.nodup (by omega)) (RowX.given r5 fun k hk => own_free H1.out (g5 k hk)) (fun p _ => by
            have := HL.out p
            by_cases e : p = hand t h
            · subst e; rw [upd_same]; simp
            · rw [upd_other _ _ _ _ e]; omega) (by have := HL.out (hand t h); omega))
          rw [plR_step] at PL
          have NX : Hid (stepR R (hand t h) t = rowsOf Q t) := Lib.hid (by
            rcases H2.out with h2 | ⟨rfl, h2⟩
            · rw [h2]; exact stepR_empty (rows_hand (fun x hx => by have := HA.out x hx; have := TN.out; omega) (by omega) (by omega))
            · rw [h2, TN.out]; exact step_level HA.out (by rw [← TN.out]; exact HZ.out) (by omega) (by omega))
          rw [NX.out] at PL
          have C5 := Lib.hid (C1.out.trans c5)
          clear r5 g5 h5 c5 NX
          go_wp2_with fail
          refine PL.out.mono ?_
          rintro e w6 ⟨⟨r, rfl⟩, h6, c6⟩
          have H6 := Lib.hid h6
          have C6 := Lib.hid (C5.out.trans c6)
          clear h6 c6 PL C5
          go_wp2
          go_roundw
          case rel => exact ⟨h - 1, _, by omega, by go_num, H6.out, .inl rfl, C6.out⟩
          case measure => simp [intOf]; omega
        · obtain rfl : h = 0 := by omega
          have RT : Hid (R = rowsOf Q t) := Lib.hid (by
            rcases H2.out with h2 | ⟨e, h2⟩
            · exact h2
            · rw [h2, TN.out]; exact step_none HA.out (by rw [← TN.out]; rw [← e] at HZ; exact HZ.out))
          have AH : Hid (∀ x, x ∈ Q → t ≤ x.d) := Lib.hid fun x hx => by have := HA.out x hx; have := TN.out; omega
          have TK := Lib.hid (H1.out.take (h := 0) (by omega) (by have := HL.out (hand t 0); omega))
          rw [RT.out, rows_due AH.out, rows_left AH.out] at TK
          clear H1 HL
          go_wp2_with fail
          refine TK.out.mono ?_
          rintro e w5 ⟨a5, cap5, rfl, r5, g5, h5, c5⟩
          have H5 := Lib.hid h5
          have R5 := Lib.hid r5
          have G5 := Lib.hid g5
          have C5 := Lib.hid (C1.out.trans c5)
          have sz := C1.out.size
          clear r5 g5 h5 c5 TK
          go_wp2
          go_ret2
          refine ⟨a5, cap5, rfl, R5.out, fun k hk => by have := G5.out k hk; omega, ⟨H5.out, fun x hx => HQ.out.p x (List.mem_filter.1 hx).1, fun x hx => ?_, HQ.out.n.filter _⟩, C5.out⟩
          rw [TN.out] at hx ⊢
          exact left_ahead HA.out x hx
theorem advance_over (w : World) (wb : Nat) (hn : w.cell? ⟨wb, 0, none⟩ = some (.int .u64 18446744073709551615)) :
    Calls Tryd.prog 10 #[.pointer (some ⟨wb, 0, none⟩)] w fun e w' => e = .returned (.tuple #[.slice none 0 0, .int .i64 9]) ∧ w = w' := by
  have AD := Lib.hid (add_over 18446744073709551615 1 (by omega) (by omega) (by omega) (by omega) (by omega))
  go_enter Tryd.func10, Tryd.ntmps10
  go_wp2_with fail
  refine (AD.out _).mono ?_
  rintro e w1 ⟨rfl, rfl⟩
  go_wp2
  go_ret2
  exact ⟨rfl, rfl⟩
theorem advance_nil (w : World) :
    Calls Tryd.prog 10 #[.pointer none] w fun e w' => e = .returned (.tuple #[.slice none 0 0, .int .i64 6]) ∧ w = w' := by
  go_enter Tryd.func10, Tryd.ntmps10
  go_wp2
  go_ret2
  exact ⟨rfl, rfl⟩
end
end Go.Proofs.YtkfknafgknppdaaDoor.LP
