/-
  Contracts of package wheel's spot, place, take, whole, of ints.
-/
import Derived.Test.YtkfknafgknppdaaDoorWheelP1
import Derived.Test.YtkfknafgknppdaaDoorTimesWalks5
import Derived.Test.YtkfknafgknppdaaDoorHeld
import Derived.RegionTactic
import Derived.Deep.Cut
import Derived.Deep.CutRange
import Derived.Deep.CutBlock
namespace Go.Proofs.YtkfknafgknppdaaDoor.LP
open Go.RowKit Verge
attribute [local go_sem] Oper.semAt_some
set_option linter.unusedVariables false
set_option linter.unusedSimpArgs false
section
variable {S : Nat → Prop} {w w' : World} {g : Wh} {now : Nat} {R : Nat → List Ent} {P : List Ent} {x : Ent}
theorem apart_q (a b : Nat) (ha : a < 18446744073709551616) (hb : b < 18446744073709551616) (w : World) :
    Calls Tryd.prog 41 #[.int .u64 a, .int .u64 b] w fun e W' => e = .returned (.int .i64 (ap a b 11)) ∧ Ch Nil w W' := (callsIn_wide.1 (apart_in a b ha hb 3 (Nat.le_refl _) w)).mono fun e W' h => ⟨h.1, Ch.of_below h.2⟩
theorem zeros_q (t : Nat) (ht : t < 18446744073709551616) (w : World) :
    Calls Tryd.prog 27 #[.int .u64 t] w fun e W' => ∃ z : Nat, Zeros t z ∧ e = .returned (.int .i64 z) ∧ Ch Nil w W' := (callsIn_wide.1 (zeros_in t ht 3 (Nat.le_refl _) w)).mono fun e W' ⟨z, h1, h2, h3⟩ => ⟨z, h1, h2, Ch.of_below h3⟩

set_option maxHeartbeats 1000000 in
theorem spot_at (w : World) (wb e now d : Nat) (hn : w.cell? ⟨wb, 0, none⟩ = some (.int .u64 (now : Nat))) (hd : w.cell? ⟨e, 2, none⟩ = some (.int .u64 (d : Nat))) (ln : now < 18446744073709551616) (ld : d < 18446744073709551616) :
    Calls Tryd.prog 23 #[.pointer (some ⟨wb, 0, none⟩), .pointer (some ⟨e, 0, none⟩)] w fun r w' => r = .returned (.tuple #[.int .i64 (hgt d now : Nat), .int .i64 (dg d (hgt d now) : Nat)]) ∧ Ch Nil w w' := by
  have AP := Lib.hid (apart_q d now ld ln)
  obtain ⟨a, ha⟩ : ∃ a, a = ap d now 11 := ⟨_, rfl⟩
  obtain ⟨h, hh⟩ : ∃ h, h = hgt d now := ⟨_, rfl⟩
  have hm : (if 0 < a then a else 0) = (h : Int) := by
    rw [hh, ha]; unfold hgt
    rw [Int.toNat_of_nonneg (by omega)]
    split <;> omega
  have hlt : h < 11 := by rw [hh]; exact (spot_hgt d now ld ln).2.2
  rw [← ha] at AP
  rw [← hh]
  have HM := Lib.hid hm
  have LN := Lib.hid ln
  have LD := Lib.hid ld
  clear ha hh hm ln ld
  go_enter Tryd.func23, Tryd.ntmps23
  go_upto_region 1 with (fail)
  have C0 : Hid (Ch Nil w w.drew) := Lib.hid ((Ch.refl _ _).drew)
  have n0 : w.drew.cell? ⟨wb, 0, none⟩ = some (.int .u64 (now : Nat)) := hn
  have d0 : w.drew.cell? ⟨e, 2, none⟩ = some (.int .u64 (d : Nat)) := hd
  refine wp_region_held_drew (S := fun w' => w'.cell? ⟨wb, 0, none⟩ = some (.int .u64 (now : Nat)) ∧ w'.cell? ⟨e, 2, none⟩ = some (.int .u64 (d : Nat))) (by kernel_rfl) ⟨n0, d0⟩ (fun hHeld => ?_)
  generalize w.drew = W at *
  refine take_at (v := ?_) 0 (some 6) rfl (by kernel_rfl) (by kernel_rfl) (by kernel_rfl) (by kernel_rfl) (fun _ _ _ h => h) (Or.inl ⟨by rfl, ?_⟩) (by assumption) ?_
  rotate_left
  · intro w hSw; (try dsimp only at hSw); go_simp; try (with_reducible rfl)
  (try simp only [Act.put, List.setIfInBounds_toArray, List.set_cons_zero, List.set_cons_succ])
  refine take_at (v := ?_) 1 (some 7) rfl (by kernel_rfl) (by kernel_rfl) (by kernel_rfl) (by kernel_rfl) (fun _ _ _ h => h) (Or.inl ⟨by rfl, ?_⟩) (by assumption) ?_
  rotate_left
  · intro w hSw; (try dsimp only at hSw); go_simp; try (with_reducible rfl)
  (try simp only [Act.put, List.setIfInBounds_toArray, List.set_cons_zero, List.set_cons_succ])
  refine take_at (v := ?_) 2 (some 8) rfl (by kernel_rfl) (by kernel_rfl) (by kernel_rfl) (by kernel_rfl) (fun _ _ _ h => h) (Or.inl ⟨by rfl, ?_⟩) (by assumption) ?_
  rotate_left
  · intro w hSw; (try dsimp only at hSw); go_simp; try (with_reducible rfl)
  (try simp only [Act.put, List.setIfInBounds_toArray, List.set_cons_zero, List.set_cons_succ])
  refine take_at (v := ?_) 3 (some 9) rfl (by kernel_rfl) (by kernel_rfl) (by kernel_rfl) (by kernel_rfl) (fun _ _ _ h => h) (Or.inl ⟨by rfl, ?_⟩) (by assumption) ?_
  rotate_left
  · intro w hSw; (try dsimp only at hSw); go_simp; try (with_reducible rfl)
  (try simp only [Act.put, List.setIfInBounds_toArray, List.set_cons_zero, List.set_cons_succ])
  refine take_at (v := ?_) 4 (some 10) rfl (by kernel_rfl) (by kernel_rfl) (by kernel_rfl) (by kernel_rfl) (fun _ _ _ h => h) (Or.inl ⟨by rfl, ?_⟩) (by assumption) ?_
  rotate_left
  · intro w hSw; (try dsimp only at hSw); go_simp; try (with_reducible rfl)
  (try simp only [Act.put, List.setIfInBounds_toArray, List.set_cons_zero, List.set_cons_succ])
  refine take_at (v := ?_) 5 (some 11) rfl (by kernel_rfl) (by kernel_rfl) (by kernel_rfl) (by kernel_rfl) (fun _ _ _ h => h) (Or.inl ⟨by rfl, ?_⟩) (by assumption) ?_
  rotate_left
  · intro w hSw; (try dsimp only at hSw); go_simp; try (with_reducible rfl)
  (try simp only [Act.put, List.setIfInBounds_toArray, List.set_cons_zero, List.set_cons_succ])
  refine take_at (v := ?_) 6 (some 12) rfl (by kernel_rfl) (by kernel_rfl) (by kernel_rfl) (by kernel_rfl) (fun _ _ _ h => h) (Or.inl ⟨by rfl, ?_⟩) (by assumption) ?_
  rotate_left
  · intro w hSw; (try dsimp only at hSw); go_simp; try (with_reducible rfl)
  (try simp only [Act.put, List.setIfInBounds_toArray, List.set_cons_zero, List.set_cons_succ])
  refine take_at (v := ?_) 7 (some 13) rfl (by kernel_rfl) (by kernel_rfl) (by kernel_rfl) (by kernel_rfl) (fun _ _ _ h => h) (Or.inl ⟨by rfl, ?_⟩) (by assumption) ?_
  rotate_left
  · intro w hSw; (try dsimp only at hSw); go_simp; try (with_reducible rfl)
  (try simp only [Act.put, List.setIfInBounds_toArray, List.set_cons_zero, List.set_cons_succ])
  refine wpAnyH_ready (rs := [8]) (by kernel_rfl) (by simp) ?_
  refine AllReadyH.cons rfl (fun K hK => ?_) AllReadyH.nil
  go_simp
  refine (AP.out _).mono ?_
  rintro r w5 ⟨rfl, c5⟩
  have n5 := c5.keeps n0 (fun e => e)
  have d5 := c5.keeps d0 (fun e => e)
  have C5 := Lib.hid (C0.out.trans c5)
  clear c5 n0 d0 hn hd
  refine hK.out _ _ ⟨n5, d5⟩ (fun hHeld => ?_)
  clear hK K
  (try simp only [Act.put, List.setIfInBounds_toArray, List.set_cons_zero, List.set_cons_succ])
  have hm := HM.out
  refine take_at (v := ?_) 9 (some 15) rfl (by kernel_rfl) (by kernel_rfl) (by kernel_rfl) (by kernel_rfl) (fun _ _ _ h => h) (Or.inl ⟨by rfl, ?_⟩) (by assumption) ?_
  rotate_left
  · intro w hSw; (try dsimp only at hSw); go_simp; try (with_reducible rfl)
  (try simp only [Act.put, List.setIfInBounds_toArray, List.set_cons_zero, List.set_cons_succ])
  refine take_at (v := ?_) 10 (some 4) rfl (by kernel_rfl) (by kernel_rfl) (by kernel_rfl) (by kernel_rfl) (fun _ _ _ h => h) (Or.inl ⟨by rfl, ?_⟩) (by assumption) ?_
  rotate_left
  · intro w hSw; (try dsimp only at hSw); go_simp; try (with_reducible rfl)
  (try simp only [Act.put, List.setIfInBounds_toArray, List.set_cons_zero, List.set_cons_succ])
  refine wpAnyH_done (by kernel_rfl) ?_ _
  clear hm HM
  go_wp2_with fail
  refine (digit_at d h LD.out hlt _).mono ?_
  rintro r w6 ⟨rfl, rfl⟩
  go_wp2
  go_ret2
  exact ⟨rfl, C5.out⟩

theorem IsW.spot (H : IsW w g now R P) (hx : x ∈ P) :
    Calls Tryd.prog 23 #[.pointer (some ⟨g.wb, 0, none⟩), .pointer (some ⟨x.e, 0, none⟩)] w fun r w' => r = .returned (.tuple #[.int .i64 (hgt x.d now : Nat), .int .i64 (dg x.d (hgt x.d now) : Nat)]) ∧ Ch Nil w w' :=
  spot_at w g.wb x.e now x.d H.t (H.e x hx).c H.nl (H.dl x hx)

theorem nodes_not {p : Nat} (H : IsW w g now R P) (hp : p ≤ 256) (hx : x ∈ P) (hf : ∀ p, p ≤ 256 → x ∉ R p) : x.e + 1 ∉ (R p).map nd := by
  intro h
  obtain ⟨y, hy, e⟩ := List.mem_map.1 h
  obtain rfl := H.x.oi x y hx (H.y.r _ hp y hy) (by simp at e; omega)
  exact hf p hp hy
/-- what lies beyond takes a node -/
theorem IsW.putB (H : IsW w g now R P) (hx : x ∈ P) (hf : ∀ p, p ≤ 256 → x ∉ R p) (hl : (R 256).length ≤ 1000000) :
    Calls Tryd.prog 39 #[.pointer (some ⟨g.lb, 0, none⟩), .pointer (some ⟨x.e + 1, 0, none⟩)] w fun e w' => e = .returned (.int .i64 0) ∧ IsW w' g now (upd R 256 (R 256 ++ [x])) P ∧ Ch (WS g P) w w' := by
  have hlb : x.e + 1 ≠ g.lb := fun e => ((H.x.oe x hx).2.2 4).2 (.inr ⟨rfl, e⟩)
  refine (H.l.put (b := x.e + 1) (H.f x hx hf) (nodes_not H (by omega) hx hf) hlb (by rw [List.length_map]; exact hl)).mono ?_
  rintro e w' ⟨rfl, h1, c1⟩
  have c2 : Ch (fun k => CB g R (256 / 64) k ∨ ∃ y, y = x ∧ k = y.e + 1) w w' := c1.mono fun k _ hk => by
    rcases hk with hk | hk
    · exact .inl (lB_cb hk)
    · exact .inr ⟨x, rfl, hk⟩
  refine ⟨rfl, H.turned (N := fun y => y = x) (by omega) c2 (fun y e => by subst e; exact ⟨hx, hf⟩) (fun y hy => by simpa using hy) (fun e => by omega) (fun _ => by rw [List.map_append]; exact h1) (fun y hy hn hc => ?_), c2.mono fun k _ hk => ?_⟩
  · exact absurd (List.mem_append.2 (hc.imp id fun e => by simp [e])) hn
  · rcases hk with hk | ⟨y, rfl, rfl⟩
    · exact CB.ws H.y hk
    · exact H.nd_ws hx
/-- a level takes a node -/
theorem IsW.putL {h s : Nat} (H : IsW w g now R P) (hh : h < 4) (hs : s < 64) (hx : x ∈ P) (hf : ∀ p, p ≤ 256 → x ∉ R p) (hl : (R (64 * h + s)).length ≤ 1000000) :
    Calls Tryd.prog 40 #[.pointer (some ⟨g.vb h, 0, none⟩), .int .i64 (s : Nat), .pointer (some ⟨x.e + 1, 0, none⟩)] w fun e w' => e = .returned (.int .i64 0) ∧ IsW w' g now (upd R (64 * h + s) (R (64 * h + s) ++ [x])) P ∧ Ch (WS g P) w w' := by
  have hd : (64 * h + s) / 64 = h := by omega
  have hm : (64 * h + s) % 64 = s := by omega
  refine (vput_of (b := x.e + 1) (H.v h hh) hs (H.f x hx hf) (fun e => CB.free H.x H.y hx hf (lvB_cb hh e)) (by rw [nrow_len hs]; exact hl)).mono ?_
  rintro e w' ⟨rfl, h1, c1⟩
  have c2 : Ch (fun k => CB g R ((64 * h + s) / 64) k ∨ ∃ y, y = x ∧ k = y.e + 1) w w' := c1.mono fun k _ hk => by
    rcases hk with hk | hk
    · exact .inl (by rw [hd]; exact lvB_cb hh hk)
    · exact .inr ⟨x, rfl, hk⟩
  refine ⟨rfl, H.turned (N := fun y => y = x) (by omega) c2 (fun y e => by subst e; exact ⟨hx, hf⟩) (fun y hy => by simpa using hy) (fun _ => ?_) (fun e => by omega) (fun y hy hn hc => ?_), c2.mono fun k _ hk => ?_⟩
  · rw [hd, hm, List.map_append]
    rw [nrow_at hs] at h1
    exact h1
  · exact absurd (List.mem_append.2 (hc.imp id fun e => by simp [e])) hn
  · rcases hk with hk | ⟨y, rfl, rfl⟩
    · exact CB.ws H.y hk
    · exact H.nd_ws hx

/-- entries placed one behind the other -/
def plR (R : Nat → List Ent) (now : Nat) (ns : List Ent) : Nat → List Ent := fun q => R q ++ ns.filter fun x => decide (spotN x.d now = q)
theorem plR_nil : plR R now [] = R := by funext q; simp [plR]
theorem plR_more {ns : List Ent} : upd (plR R now ns) (spotN x.d now) (plR R now ns (spotN x.d now) ++ [x]) = plR R now (ns ++ [x]) := by
  funext q
  by_cases e : q = spotN x.d now
  · subst e; rw [upd_same]; simp [plR]
  · rw [upd_other _ _ _ _ e]
    unfold plR
    rw [List.filter_append]
    simp only [List.filter_cons, List.filter_nil]
    rw [if_neg (by simpa using fun e' => e e'.symm), List.append_nil]
theorem plR_mem {ns : List Ent} {q : Nat} {y : Ent} (h : y ∈ plR R now ns q) : y ∈ R q ∨ y ∈ ns := by
  rcases List.mem_append.1 h with h | h
  · exact .inl h
  · exact .inr (List.mem_filter.1 h).1
theorem plR_len {ns : List Ent} {q : Nat} : (plR R now ns q).length ≤ (R q).length + ns.length := by
  unfold plR; rw [List.length_append]; have := List.length_filter_le (fun x => decide (spotN x.d now = q)) ns; omega

/-- where the entries that are handed over lie -/
def Given (w : World) (a : Option Addr) (ns : List Ent) (T : Nat → Prop) : Prop := ns = [] ∨ ∃ b, a = some ⟨b, 0, none⟩ ∧ ¬ T b ∧ ∀ i x, ns[i]? = some x → w.cell? ⟨b, i, none⟩ = some (.pointer (some ⟨x.e, 0, none⟩))

set_option maxHeartbeats 2000000 in
set_option maxRecDepth 100000 in
theorem IsW.place (H : IsW w g now R P) (ns : List Ent) (a : Option Addr) (cap : Nat) (hP : ∀ x, x ∈ ns → x ∈ P) (hf : ∀ x, x ∈ ns → ∀ p, p ≤ 256 → x ∉ R p) (hnd : ns.Nodup) (hg : Given w a ns (WS g P)) (hl : ∀ p, p ≤ 256 → (R p).length ≤ 100000) (hn : ns.length ≤ 100000) :
    Calls Tryd.prog 19 #[.pointer (some ⟨g.wb, 0, none⟩), .slice a ns.length cap] w fun e w' => (∃ r, e = .returned r) ∧ IsW w' g now (plR R now ns) P ∧ Ch (WS g P) w w' := by
  have H0 := Lib.hid H
  have HP := Lib.hid hP
  have HF := Lib.hid hf
  have ND := Lib.hid hnd
  have HG := Lib.hid hg
  have HL := Lib.hid hl
  obtain ⟨n, hln⟩ : ∃ n, n = ns.length := ⟨_, rfl⟩
  have LEN := Lib.hid hln
  rw [← hln]
  rw [← hln] at hn
  clear H hP hf hnd hg hl hln
  go_enter Tryd.func19, Tryd.ntmps19
  go_wp2
  go_loopw [10] (fun i wr => ∃ k : Nat, k ≤ n ∧ i = .int .i64 k ∧ IsW wr g now (plR R now (ns.take k)) P ∧ Ch (WS g P) w wr) (fun i _ => n - (intOf i).toNat)
  case atStart => exact ⟨0, by omega, rfl, by rw [List.take_zero, plR_nil]; exact H0.out, Ch.refl _ _⟩
  case round =>
    obtain ⟨k, hk, rfl, h1, c1⟩ := hrel
    have H1 := Lib.hid h1
    have C1 := Lib.hid c1
    clear h1 c1
    by_cases hlt : k < n
    · have hkl : k < ns.length := by rw [← LEN.out]; exact hlt
      obtain ⟨x, hx⟩ : ∃ x, ns[k]? = some x := ⟨_, List.getElem?_eq_getElem hkl⟩
      have hxm := List.mem_of_getElem? hx
      have hxP := HP.out x hxm
      have hfree : ∀ p, p ≤ 256 → x ∉ plR R now (ns.take k) p := fun p hp hm => by
        rcases plR_mem hm with h | h
        · exact HF.out x hxm p hp h
        · obtain ⟨i, hi⟩ := List.mem_iff_getElem?.1 h
          rw [List.getElem?_take] at hi
          split at hi
          · have := (List.getElem?_inj hkl ND.out).1 (hx.trans hi.symm); omega
          · cases hi
      have hlen : ∀ p, p ≤ 256 → (plR R now (ns.take k) p).length ≤ 1000000 := fun p hp => by
        have := plR_len (R := R) (now := now) (ns := ns.take k) (q := p)
        have := HL.out p hp
        rw [List.length_take] at *
        have := LEN.out
        omega
      obtain ⟨b, rfl, hb, hcell⟩ : ∃ b, a = some ⟨b, 0, none⟩ ∧ ¬ WS g P b ∧ ∀ i x, ns[i]? = some x → w.cell? ⟨b, i, none⟩ = some (.pointer (some ⟨x.e, 0, none⟩)) := by
        rcases HG.out with h | h
        · rw [h] at hkl; simp at hkl
        · exact h
      have q1 := C1.out.keeps (hcell k x hx) hb
      have SP := Lib.hid (H1.out.spot hxP)
      have SH := Lib.hid (spot_hgt x.d now (H1.out.dl x hxP) H1.out.nl)
      have DL := Lib.hid (dg_lt x.d (hgt x.d now))
      have FREE := Lib.hid hfree
      have LENS := Lib.hid hlen
      have TK : Hid (ns.take (k + 1) = ns.take k ++ [x]) := Lib.hid (by rw [List.take_add_one, hx]; rfl)
      have hkz : (k : Int) < (n : Int) := by omega
      have hkz0 : (0 : Int) ≤ (k : Int) := by omega
      clear hfree hlen hcell hx
      go_wp2_with fail
      refine SP.out.mono ?_
      rintro e w5 ⟨rfl, c5⟩
      have H5 := Lib.hid (H1.out.kept c5 (fun _ _ e => e))
      have C5 := Lib.hid (C1.out.then c5 (fun _ _ e => e.elim))
      clear c5 SP H1 C1
      generalize hgt x.d now = h at *
      generalize dg x.d h = s at *
      by_cases h4 : 4 ≤ h
      · have hz : (4 : Int) ≤ (h : Int) := by omega
        have s1 := SH.out.2.1 h4
        have S1 := Lib.hid s1
        clear s1
        go_upto_region 5 with (fail)
        have HD : Hid (IsW w5.drew g now (plR R now (ns.take k)) P) := Lib.hid (H5.out.kept (S := Nil) (Ch.refl _ _).drew (fun _ _ e => e))
        have CD : Hid (Ch (WS g P) w w5.drew) := Lib.hid C5.out.drew
        clear H5 C5
        refine wp_region_held_drew (S := fun w' => w'.cell? ⟨g.wb, 5, none⟩ = some (.pointer (some ⟨g.lb, 0, none⟩)) ∧ w'.cell? ⟨x.e, 3, none⟩ = some (.pointer (some ⟨x.e + 1, 0, none⟩))) (by kernel_rfl) ⟨HD.out.b, (HD.out.e x hxP).n⟩ (fun hHeld => ?_)
        generalize w5.drew = W at *
        refine take_at (v := ?_) 0 (some 22) rfl (by kernel_rfl) (by kernel_rfl) (by kernel_rfl) (by kernel_rfl) (fun _ _ _ h => h) (Or.inl ⟨by rfl, ?_⟩) (by assumption) ?_
        rotate_left
        · intro w hSw; (try dsimp only at hSw); go_simp; try (with_reducible rfl)
        (try simp only [Act.put, List.setIfInBounds_toArray, List.set_cons_zero, List.set_cons_succ])
        refine take_at (v := ?_) 1 (some 23) rfl (by kernel_rfl) (by kernel_rfl) (by kernel_rfl) (by kernel_rfl) (fun _ _ _ h => h) (Or.inl ⟨by rfl, ?_⟩) (by assumption) ?_
        rotate_left
        · intro w hSw; (try dsimp only at hSw); go_simp; try (with_reducible rfl)
        (try simp only [Act.put, List.setIfInBounds_toArray, List.set_cons_zero, List.set_cons_succ])
        refine take_at (v := ?_) 2 (some 24) rfl (by kernel_rfl) (by kernel_rfl) (by kernel_rfl) (by kernel_rfl) (fun _ _ _ h => h) (Or.inl ⟨by rfl, ?_⟩) (by assumption) ?_
        rotate_left
        · intro w hSw; (try dsimp only at hSw); go_simp; try (with_reducible rfl)
        (try simp only [Act.put, List.setIfInBounds_toArray, List.set_cons_zero, List.set_cons_succ])
        refine take_at (v := ?_) 3 (some 25) rfl (by kernel_rfl) (by kernel_rfl) (by kernel_rfl) (by kernel_rfl) (fun _ _ _ h => h) (Or.inl ⟨by rfl, ?_⟩) (by assumption) ?_
        rotate_left
        · intro w hSw; (try dsimp only at hSw); go_simp; try (with_reducible rfl)
        (try simp only [Act.put, List.setIfInBounds_toArray, List.set_cons_zero, List.set_cons_succ])
        refine take_at (v := ?_) 4 (some 26) rfl (by kernel_rfl) (by kernel_rfl) (by kernel_rfl) (by kernel_rfl) (fun _ _ _ h => h) (Or.inl ⟨by rfl, ?_⟩) (by assumption) ?_
        rotate_left
        · intro w hSw; (try dsimp only at hSw); go_simp; try (with_reducible rfl)
        (try simp only [Act.put, List.setIfInBounds_toArray, List.set_cons_zero, List.set_cons_succ])
        refine take_at (v := ?_) 5 (some 27) rfl (by kernel_rfl) (by kernel_rfl) (by kernel_rfl) (by kernel_rfl) (fun _ _ _ h => h) (Or.inl ⟨by rfl, ?_⟩) (by assumption) ?_
        rotate_left
        · intro w hSw; (try dsimp only at hSw); go_simp; try (with_reducible rfl)
        (try simp only [Act.put, List.setIfInBounds_toArray, List.set_cons_zero, List.set_cons_succ])
        refine take_at (v := ?_) 6 (some 28) rfl (by kernel_rfl) (by kernel_rfl) (by kernel_rfl) (by kernel_rfl) (fun _ _ _ h => h) (Or.inl ⟨by rfl, ?_⟩) (by assumption) ?_
        rotate_left
        · intro w hSw; (try dsimp only at hSw); go_simp; try (with_reducible rfl)
        (try simp only [Act.put, List.setIfInBounds_toArray, List.set_cons_zero, List.set_cons_succ])
        refine take_at (v := ?_) 7 (some 29) rfl (by kernel_rfl) (by kernel_rfl) (by kernel_rfl) (by kernel_rfl) (fun _ _ _ h => h) (Or.inl ⟨by rfl, ?_⟩) (by assumption) ?_
        rotate_left
        · intro w hSw; (try dsimp only at hSw); go_simp; try (with_reducible rfl)
        (try simp only [Act.put, List.setIfInBounds_toArray, List.set_cons_zero, List.set_cons_succ])
        refine wpAnyH_ready (rs := [8]) (by kernel_rfl) (by simp) ?_
        refine AllReadyH.cons rfl (fun K hK => ?_) AllReadyH.nil
        go_simp
        refine (HD.out.putB hxP FREE.out (LENS.out 256 (by omega))).mono ?_
        rintro e w6 ⟨rfl, h6, c6⟩
        have nb := h6.b
        have ne := (h6.e x hxP).n
        have NEXT := Lib.hid h6
        have C6 := Lib.hid (CD.out.trans c6)
        clear h6 c6
        refine hK.out _ _ ⟨nb, ne⟩ (fun hHeld => ?_)
        clear hK K nb ne
        (try simp only [Act.put, List.setIfInBounds_toArray, List.set_cons_zero, List.set_cons_succ])
        refine wpAnyH_done (by kernel_rfl) ?_ _
        go_wp2
        go_roundw
        case rel =>
          refine ⟨k + 1, by omega, by go_num, ?_, C6.out⟩
          have h6 := NEXT.out
          rw [← S1.out, plR_more, ← TK.out] at h6
          exact h6
        case measure => simp [intOf]; omega
      · have hz : (h : Int) < 4 := by omega
        have hz0 : (0 : Int) ≤ (h : Int) := by omega
        have s1 := SH.out.1 (by omega)
        have S1 := Lib.hid s1
        clear s1
        go_upto_region 6 with (fail)
        have HD : Hid (IsW w5.drew g now (plR R now (ns.take k)) P) := Lib.hid (H5.out.kept (S := Nil) (Ch.refl _ _).drew (fun _ _ e => e))
        have CD : Hid (Ch (WS g P) w w5.drew) := Lib.hid C5.out.drew
        clear H5 C5
        refine wp_region_held_drew (S := fun w' => w'.cell? ⟨g.wb, 1 + h, none⟩ = some (.pointer (some ⟨g.vb h, 0, none⟩)) ∧ w'.cell? ⟨x.e, 3, none⟩ = some (.pointer (some ⟨x.e + 1, 0, none⟩))) (by kernel_rfl) ⟨HD.out.p h (by omega), (HD.out.e x hxP).n⟩ (fun hHeld => ?_)
        generalize w5.drew = W at *
        refine take_at (v := ?_) 0 (some 31) rfl (by kernel_rfl) (by kernel_rfl) (by kernel_rfl) (by kernel_rfl) (fun _ _ _ h => h) (Or.inl ⟨by rfl, ?_⟩) (by assumption) ?_
        rotate_left
        · intro w hSw; (try dsimp only at hSw); go_simp; try (with_reducible rfl)
        (try simp only [Act.put, List.setIfInBounds_toArray, List.set_cons_zero, List.set_cons_succ])
        refine take_at (v := ?_) 1 (some 32) rfl (by kernel_rfl) (by kernel_rfl) (by kernel_rfl) (by kernel_rfl) (fun _ _ _ h => h) (Or.inl ⟨by rfl, ?_⟩) (by assumption) ?_
        rotate_left
        · intro w hSw; (try dsimp only at hSw); go_simp; try (with_reducible rfl)
        (try simp only [Act.put, List.setIfInBounds_toArray, List.set_cons_zero, List.set_cons_succ])
        refine take_at (v := ?_) 2 (some 33) rfl (by kernel_rfl) (by kernel_rfl) (by kernel_rfl) (by kernel_rfl) (fun _ _ _ h => h) (Or.inl ⟨by rfl, ?_⟩) (by assumption) ?_
        rotate_left
        · intro w hSw; (try dsimp only at hSw); go_simp; try (with_reducible rfl)
        (try simp only [Act.put, List.setIfInBounds_toArray, List.set_cons_zero, List.set_cons_succ])
        refine take_at (v := ?_) 3 (some 34) rfl (by kernel_rfl) (by kernel_rfl) (by kernel_rfl) (by kernel_rfl) (fun _ _ _ h => h) (Or.inl ⟨by rfl, ?_⟩) (by assumption) ?_
        rotate_left
        · intro w hSw; (try dsimp only at hSw); go_simp; try (with_reducible rfl)
        (try simp only [Act.put, List.setIfInBounds_toArray, List.set_cons_zero, List.set_cons_succ])
        refine take_at (v := ?_) 4 (some 35) rfl (by kernel_rfl) (by kernel_rfl) (by kernel_rfl) (by kernel_rfl) (fun _ _ _ h => h) (Or.inl ⟨by rfl, ?_⟩) (by assumption) ?_
        rotate_left
        · intro w hSw; (try dsimp only at hSw); go_simp; try (with_reducible rfl)
        (try simp only [Act.put, List.setIfInBounds_toArray, List.set_cons_zero, List.set_cons_succ])
        refine take_at (v := ?_) 5 (some 36) rfl (by kernel_rfl) (by kernel_rfl) (by kernel_rfl) (by kernel_rfl) (fun _ _ _ h => h) (Or.inl ⟨by rfl, ?_⟩) (by assumption) ?_
        rotate_left
        · intro w hSw; (try dsimp only at hSw); go_simp; try (with_reducible rfl)
        (try simp only [Act.put, List.setIfInBounds_toArray, List.set_cons_zero, List.set_cons_succ])
        refine take_at (v := ?_) 6 (some 37) rfl (by kernel_rfl) (by kernel_rfl) (by kernel_rfl) (by kernel_rfl) (fun _ _ _ h => h) (Or.inl ⟨by rfl, ?_⟩) (by assumption) ?_
        rotate_left
        · intro w hSw; (try dsimp only at hSw); go_simp; try (with_reducible rfl)
        (try simp only [Act.put, List.setIfInBounds_toArray, List.set_cons_zero, List.set_cons_succ])
        refine take_at (v := ?_) 7 (some 38) rfl (by kernel_rfl) (by kernel_rfl) (by kernel_rfl) (by kernel_rfl) (fun _ _ _ h => h) (Or.inl ⟨by rfl, ?_⟩) (by assumption) ?_
        rotate_left
        · intro w hSw; (try dsimp only at hSw); go_simp; try (with_reducible rfl)
        (try simp only [Act.put, List.setIfInBounds_toArray, List.set_cons_zero, List.set_cons_succ])
        refine take_at (v := ?_) 8 (some 39) rfl (by kernel_rfl) (by kernel_rfl) (by kernel_rfl) (by kernel_rfl) (fun _ _ _ h => h) (Or.inl ⟨by rfl, ?_⟩) (by assumption) ?_
        rotate_left
        · intro w hSw; (try dsimp only at hSw); go_simp; try (with_reducible rfl)
        (try simp only [Act.put, List.setIfInBounds_toArray, List.set_cons_zero, List.set_cons_succ])
        refine take_at (v := ?_) 9 (some 40) rfl (by kernel_rfl) (by kernel_rfl) (by kernel_rfl) (by kernel_rfl) (fun _ _ _ h => h) (Or.inl ⟨by rfl, ?_⟩) (by assumption) ?_
        rotate_left
        · intro w hSw; (try dsimp only at hSw); go_simp; try (with_reducible rfl)
        (try simp only [Act.put, List.setIfInBounds_toArray, List.set_cons_zero, List.set_cons_succ])
        refine take_at (v := ?_) 10 (some 41) rfl (by kernel_rfl) (by kernel_rfl) (by kernel_rfl) (by kernel_rfl) (fun _ _ _ h => h) (Or.inl ⟨by rfl, ?_⟩) (by assumption) ?_
        rotate_left
        · intro w hSw; (try dsimp only at hSw); go_simp; try (with_reducible rfl)
        (try simp only [Act.put, List.setIfInBounds_toArray, List.set_cons_zero, List.set_cons_succ])
        refine wpAnyH_ready (rs := [11]) (by kernel_rfl) (by simp) ?_
        refine AllReadyH.cons rfl (fun K hK => ?_) AllReadyH.nil
        go_simp
        refine (HD.out.putL (h := h) (s := s) (by omega) DL.out hxP FREE.out (LENS.out _ (by have := DL.out; omega))).mono ?_
        rintro e w6 ⟨rfl, h6, c6⟩
        have nb := h6.p h (by omega)
        have ne := (h6.e x hxP).n
        have NEXT := Lib.hid h6
        have C6 := Lib.hid (CD.out.trans c6)
        clear h6 c6
        refine hK.out _ _ ⟨nb, ne⟩ (fun hHeld => ?_)
        clear hK K nb ne
        (try simp only [Act.put, List.setIfInBounds_toArray, List.set_cons_zero, List.set_cons_succ])
        refine wpAnyH_done (by kernel_rfl) ?_ _
        go_wp2
        go_roundw
        case rel =>
          refine ⟨k + 1, by omega, by go_num, ?_, C6.out⟩
          have h6 := NEXT.out
          rw [← S1.out, plR_more, ← TK.out] at h6
          exact h6
        case measure => simp [intOf]; omega
    · obtain rfl : k = n := by omega
      go_wp2
      go_end0
      refine ⟨⟨_, rfl⟩, ?_, C1.out⟩
      have h1 := H1.out
      rwa [LEN.out, List.take_length] at h1
end
end Go.Proofs.YtkfknafgknppdaaDoor.LP
