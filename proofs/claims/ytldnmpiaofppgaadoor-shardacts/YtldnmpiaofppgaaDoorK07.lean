import Derived.Test.YtldnmpiaofppgaaDoorK06
import Derived.Deep.QuietTactic
import Derived.BigQuiet
import Derived.WalkSmall
import Derived.Test.YtldnmpiaofppgaaDoorRows
import Derived.Deep.RegionHeld
import Derived.RegionTactic
import Derived.Deep.Cut
import Derived.Deep.CutRange
import Derived.Deep.CutBlock
import Derived.Test.YtldnmpiaofppgaaDoorK04
/-
  Contracts of package times' Apart, Cut, Add, Later: what each returns, at every argument; nothing that was there is changed.
-/
namespace Go.Proofs.YtldnmpiaofppgaaDoor
open Go.RowKit Go.Shelf Verge
set_option linter.unusedVariables false
attribute [local go_sem] Oper.semAt_some

theorem ret2 {k k' : IntKind} {a b a' b' : Int} (h : a = b) (h' : a' = b') : Ending.returned (.tuple #[.int k a, .int k' a']) = .returned (.tuple #[.int k b, .int k' b']) := by rw [h, h']

/-- the level of the last digit that isn't 0; -1: none -/
def hi (pre : List (Nat × Nat)) : Int := pre.foldl (fun h x => if x.2 = 0 then h else x.1) (-1)
theorem hi_snoc (pre : List (Nat × Nat)) (x : Nat × Nat) : hi (pre ++ [x]) = if x.2 = 0 then hi pre else x.1 := by simp [hi]
theorem hi_ap (a b : Nat) : ∀ k, k ≤ 11 → hi ((pairs (a ^^^ b)).take k) = ap a b k
  | 0, _ => rfl
  | k + 1, h => by
    rw [pairs_take _ _ (by omega), hi_snoc, hi_ap a b k (by omega)]
    by_cases e : dg a k = dg b k
    · rw [ap_eq a b k e, if_pos ((dg_xor_zero a b k).2 e)]
    · rw [ap_ne a b k e, if_neg (fun h => e ((dg_xor_zero a b k).1 h))]

set_option maxRecDepth 100000 in
set_option maxHeartbeats 2000000 in
theorem apart_in (a b : Nat) (ha : a < 18446744073709551616) (hb : b < 18446744073709551616) (n : Nat) (hn : 3 ≤ n) (w : World) :
    CallsIn Fence.wide n Tryd.prog 94 #[.int .u64 a, .int .u64 b] w fun e W' => e = .returned (.int .i64 (ap a b 11)) ∧ Below w.heap.size w W' := by
  have h1 : 1 ≤ n := by omega
  obtain ⟨t, et⟩ : ∃ t, t = a ^^^ b := ⟨_, rfl⟩
  have hx : bits .xor .u64 (a : Int) (b : Int) = (t : Int) := by rw [et]; exact u64_xor_nat a b ha hb
  have ht : t < 18446744073709551616 := by
    rw [et]; exact Nat.xor_lt_two_pow (n := 64) ha hb
  have HA : Hid (hi (pairs t) = ap a b 11) := by
    have := hi_ap a b 11 (Nat.le_refl _)
    rw [pairs_all] at this
    rw [et]; exact this
  clear et ha hb
  refine callsIn_of_wp_marks Tryd.func94 rfl trivial ?_ rfl
  simp only [Tryd.ntmps94, List.size_toArray, List.length_cons, List.length_nil, Nat.reduceAdd, Nat.reduceSub, Array.replicate_succ, Array.replicate_zero, List.push_toArray, List.append_toArray, List.nil_append, List.cons_append]
  gi_wp2_with (refine ⟨trivial, ?_⟩; gi_at_call 82; refine (each_in _ _ _).mono ?_; rintro e w' ⟨rfl, rfl⟩)
  have c0 := cell_new w (.int .i64 (-1)) 3
  have c1 := cell_new (w.alloc (.cells #[.int .i64 (-1)] 3)) (.int .u64 t) 29
  rw [World.size_alloc] at c1
  have hB0 : Below w.heap.size w ((w.alloc (.cells #[.int .i64 (-1)] 3)).alloc (.cells #[.int .u64 t] 29)) := ((Below.refl _ w).alloc (Nat.le_refl _) _).alloc (by simp) _
  refine wpIn_rangeFunc_ownF (F := Fence.wide) rfl h1 (gf := 98) (lb := #[.pointer (some ⟨w.heap.size + 1, 0, none⟩)]) rfl trivial (enters_of Tryd.func98 (by kernel_rfl) rfl)
    (each_stops (n - 1) (by omega) (w.heap.size + 1) t ht _ (by simp) c1.1) kpBox_t (fun W l o o' _ h ho _ => kpBox_b W l o o' h ho) (Below.refl _ _) (fun _ => rfl)
    (fun pre W => (W.cell? ⟨w.heap.size, 0, none⟩ = some (.int .i64 (hi pre)) ∧ W.frozen? ⟨w.heap.size, 0, none⟩ = false) ∧ Below w.heap.size w W)
    (fun _ _ _ => False)
    (OwnFrom.and (Own.from (fun s X Y row hs hg hr => ⟨cell_kept hs.1 hg hr, (frozen_kept hs.1 hg hr).trans hs.2⟩) _) (ownFrom_below (Nat.le_refl _) (by simp; omega)))
    (fun _ _ _ _ _ hs _ _ => hs)
    ⟨⟨cell_alloc _ c0.1, frozen_alloc _ c0.1 c0.2⟩, hB0⟩
    (fun x => { tmps := #[.int .u64 a, .int .u64 b, undef, undef, .int .i64 0, .pointer (some ⟨w.heap.size, 0, none⟩), .int .i64 x.1, .int .i64 x.2, .int .u64 a, .int .u64 b, .int .u64 t, .func (.func 98) #[] #[.pointer (some ⟨w.heap.size + 1, 0, none⟩)], .int .i64 x.1, .int .i64 x.2, undef, undef, undef, undef], defers := [] }) ?assign ?body ?done ?stop
  case assign =>
    intro l x W K hK
    gi_wp2
    exact hK
  case body =>
    rintro l pre x W ⟨⟨hc, hf⟩, hB⟩ _
    have hs := hi_snoc pre x
    have HS := Lib.hid hs
    clear hs
    gi_wp2
    · rename_i h
      have h' : ¬ x.2 = 0 := by simpa using h
      refine ⟨KeepsOthers.setCell _ _ _, kpBox_setCell _ _ _ (by omega), ⟨?_, by rw [World.frozen?_setCell]; exact hf⟩, hB.setCell (p := ⟨w.heap.size, 0, none⟩) (by simp) _⟩
      rw [HS.out, if_neg h']
      exact World.cell?_setCell_same' _ _ _ (by rw [hc]; rfl)
    · rename_i h
      have h' : x.2 = 0 := by simpa using h
      refine ⟨KeepsOthers.refl _, kpBox_refl _, ⟨?_, hf⟩, hB⟩
      rw [HS.out, if_pos h']
      exact hc
  case done =>
    rintro D ys W hD rfl ⟨⟨hc, hf⟩, hB⟩ hK
    rw [HA.out] at hc
    gi_wp2
    refine ⟨by simp, .inl ⟨_, _, rfl, run_takeDeferred hK, ?_⟩⟩
    exact ⟨_, results_tmp rfl _ _ _, rfl, hB.trans (belowK_b (w := w) (Nat.le_refl _) W D _ _ (by simp at hD; omega) hK rfl rfl)⟩
  case stop =>
    rintro D c pre W _ _ h _
    exact h.elim

theorem shift_back (t k : Nat) (ht : t < 18446744073709551616) : IntKind.u64.wrap ((t : Int) / 2 ^ (6 * k) * 2 ^ (6 * k)) = (ct t k : Nat) := by
  have e : ((t : Int) / 2 ^ (6 * k) * 2 ^ (6 * k)) = ((ct t k : Nat) : Int) := by
    unfold ct; rw [← pow6]; simp
  rw [e, IntKind.wrap_u64]
  have := ct_le t k
  omega

theorem wrap_over (a b : Int) (ha : 0 ≤ a) (ha' : a < 18446744073709551616) (hb : 0 ≤ b) (hb' : b < 18446744073709551616) (h : 18446744073709551616 ≤ a + b) : IntKind.u64.wrap (a + b) < a := by
  rw [IntKind.wrap_u64]; omega

/-- a sum that fits, and one that doesn't -/
theorem add_ok (a b : Int) (ha : 0 ≤ a) (hb : 0 ≤ b) (h : a + b < 18446744073709551616) (w : World) :
    Calls Tryd.prog 59 #[.int .u64 a, .int .u64 b] w fun e w' => e = .returned (.tuple #[.int .u64 (a + b), .int .i64 0]) ∧ w = w' := by
  go_enter Tryd.func59, Tryd.ntmps59
  go_wp2
  go_ret2
  exact ⟨rfl, rfl⟩
theorem add_over (a b : Int) (ha : 0 ≤ a) (ha' : a < 18446744073709551616) (hb : 0 ≤ b) (hb' : b < 18446744073709551616) (h : 18446744073709551616 ≤ a + b) (w : World) :
    Calls Tryd.prog 59 #[.int .u64 a, .int .u64 b] w fun e w' => e = .returned (.tuple #[.int .u64 0, .int .i64 9]) ∧ w = w' := by
  have hw := wrap_over a b ha ha' hb hb' h
  clear ha' hb' h
  go_enter Tryd.func59, Tryd.ntmps59
  go_wp2
  go_ret2
  exact ⟨rfl, rfl⟩

/-- the greater one of d and now + 1; none behind the greatest time -/
theorem later_ok (d now : Int) (hd : 0 ≤ d) (hd' : d < 18446744073709551616) (h0 : 0 ≤ now) (h : now < 18446744073709551615) (w : World) :
    Calls Tryd.prog 31 #[.int .u64 d, .int .u64 now] w fun e w' => e = .returned (.tuple #[.int .u64 (max d (now + 1)), .int .i64 0]) ∧ w = w' := by
  go_enter Tryd.func31, Tryd.ntmps31
  go_wp2_with (go_at_call 59; refine (add_ok _ _ (by omega) (by omega) (by omega) _).mono ?_; rintro e w' ⟨rfl, rfl⟩)
  all_goals
    go_ret2
    exact ⟨ret2 (by omega) rfl, rfl⟩
theorem later_over (d : Int) (w : World) :
    Calls Tryd.prog 31 #[.int .u64 d, .int .u64 18446744073709551615] w fun e w' => e = .returned (.tuple #[.int .u64 0, .int .i64 9]) ∧ w = w' := by
  go_enter Tryd.func31, Tryd.ntmps31
  go_wp2_with (go_at_call 59; refine (add_over _ _ (by omega) (by omega) (by omega) (by omega) (by omega) _).mono ?_; rintro e w' ⟨rfl, rfl⟩)
  go_ret2
  exact ⟨rfl, rfl⟩
end Go.Proofs.YtldnmpiaofppgaaDoor

/-
  Contracts of the functions that give the document's own answer of layer 1 (vergeref01: Digits, Ints, Apart, Zeros, Cut) and of times.Digits: what each returns; nothing that was there is changed.
-/
namespace Go.Proofs.YtldnmpiaofppgaaDoor
open Go.RowKit Go.Shelf Verge
set_option linter.unusedVariables false
attribute [local go_sem] Oper.semAt_some

theorem Tryd.infoInt : (Tryd.prog.info? 3).map (fun i => (i.zero, i.size, i.bytes)) = some (some (.int .i64 0), 1, 8) := by kernel_rfl

def dvals (t k : Nat) : List Value := (List.range k).map fun j => Value.int .i64 (dg t j : Nat)
theorem dvals_len (t k : Nat) : (dvals t k).length = k := by simp [dvals]
theorem dvals_succ (t k : Nat) : dvals t (k + 1) = dvals t k ++ [Value.int .i64 (dg t k : Nat)] := by simp [dvals, List.range_succ]
theorem dvals_get (t k i : Nat) (h : i < k) : (dvals t k)[i]? = some (Value.int .i64 (dg t i : Nat)) := by simp [dvals, h]

/-- block g holds the eleven digits of t -/
def DigCells (w : World) (g t : Nat) : Prop := ∀ i, i < 11 → w.cell? ⟨g, i, none⟩ = some (.int .i64 (dg t i : Nat))
theorem DigCells.below {B : Nat} {w w' : World} {g t : Nat} (h : DigCells w g t) (hb : Below B w w') (hg : g < B) : DigCells w' g t := fun i hi => (hb.cell (p := ⟨g, i, none⟩) hg).trans (h i hi)
theorem digs_of_owns {W : World} {base : Nat} {e : TypeId} {v : Value} {t : Nat} (h : W.ownsRow base e 1 v 11 (dvals t 11)) :
    ∃ g cap, v = .slice (some ⟨g, 0, none⟩) 11 cap ∧ base ≤ g ∧ g < W.heap.size ∧ 11 ≤ cap ∧ DigCells W g t := by
  obtain ⟨g, cap, rfl⟩ := ownsRow_succ h
  refine ⟨g, cap, rfl, (h.lt g rfl).1, (h.lt g rfl).2, ?_, ?_⟩
  · obtain ⟨_, h2 | ⟨g', cap', cur, e1, _, _, h3, _⟩⟩ := h
    · cases h2.1
    · cases e1; exact h3
  · intro i hi
    rw [h.cellAt i (by omega), dvals_get _ _ _ hi]

theorem div_next (t k : Nat) : t / 64 ^ k / 64 = t / 64 ^ (k + 1) := by rw [Nat.pow_succ, Nat.div_div_eq_div_mul]

def DigsPost (w : World) (t : Nat) (e : Ending) (w' : World) : Prop :=
  ∃ g cap, e = .returned (.slice (some ⟨g, 0, none⟩) 11 cap) ∧ w.heap.size ≤ g ∧ g < w'.heap.size ∧ 11 ≤ cap ∧ DigCells w' g t ∧ Below w.heap.size w w'

set_option maxHeartbeats 1600000 in
set_option maxRecDepth 1000000 in
theorem refDigits_any (t : Nat) (ht : t < 18446744073709551616) (w : World) :
    Calls Tryd.prog 62 #[.int .u64 t] w (DigsPost w t) := by
  obtain ⟨i0, hi, hz0, hz1, hz2⟩ := info_parts Tryd.infoInt
  go_enter Tryd.func62, Tryd.ntmps62
  go_wp2
  go_loopw [0, 3, 4] (fun tt v i wr => ∃ (k : Nat) (u : Nat), k ≤ 11 ∧ i = .int .i64 k ∧ Hid (u = t / 64 ^ k) ∧ u < 18446744073709551616 ∧ tt = .int .u64 u ∧ wr.ownsRow w.heap.size 3 1 v k (dvals t k) ∧ Below w.heap.size w wr)
    (fun _ _ i _ => 11 - (intOf i).toNat)
  case atStart => exact ⟨0, t, by omega, rfl, by show t = t / 64 ^ 0; simp, ht, rfl, World.ownsRow_nil _ _ _ _, Below.refl _ _⟩
  case round =>
    obtain ⟨k, u, hk, rfl, hu, hub, rfl, hown, hnx⟩ := hrel
    by_cases hlt : k < 11
    · have hd : Hid ((u : Int) % 64 = (dg t k : Nat)) := by
        show (u : Int) % 64 = (dg t k : Nat)
        rw [hu.out]; unfold dg; omega
      have hm1 : 0 ≤ (u : Int) % 64 := by omega
      have hm2 : (u : Int) % 64 < 64 := by omega
      go_wp2_with (at_builtin; refine wpList_append_own _ rfl _ _ 135 rfl w.heap.size 3 i0 (.int .i64 0) 1 8 Tryd.underlying135 hi hz0 hz1 hz2 rfl (by decide) _ _ _ rfl (hown.alloc _) ⟨wr.heap.size, 0, none⟩ 1 1 [.int .i64 ((u : Int) % 64)] rfl rfl ?c1 ?c2 ?c3 ?c4 ?c5 ?_)
      case c1 =>
        intro j u hj
        match j, hj with
        | 0, hj => simp at hj; subst hj; simp [Addr.add]
      case c2 => intro u hu; simp at hu; subst hu; rfl
      case c3 => unfold maxLen; omega
      case c4 => omega
      case c5 => have := hnx.size; simp; omega
      · intro v' w1 hown' hgrow _
        rw [hd.out, ← dvals_succ] at hown'
        have hb' : Below w.heap.size w w1 := (hnx.alloc hnx.size _).grown hgrow (by have := hnx.size; simp; omega) (fun k' e => (hown.lt k' e).1)
        obtain ⟨g', cap', rfl⟩ := ownsRow_succ hown'
        have HO := Lib.hid hown'
        clear hown' hgrow hown
        go_wp2
        go_roundw
        case rel => exact ⟨k + 1, u / 64, by omega, by go_num, by show u / 64 = _; rw [hu.out, div_next], by omega, by go_num, HO.out, hb'⟩
        case measure => simp [intOf]; omega
    · obtain rfl : k = 11 := by omega
      obtain ⟨g, cap, rfl, hg1, hg2, hg3, hg4⟩ := digs_of_owns hown
      have HG := Lib.hid hg4
      clear hg4 hown
      go_wp2
      go_ret
      exact ⟨g, cap, rfl, hg1, hg2, hg3, HG.out, hnx⟩
end Go.Proofs.YtldnmpiaofppgaaDoor

/-
  Contracts of vergeref01's Ints, Apart, Zeros, Cut: what each returns; nothing that was there is changed.
-/
namespace Go.Proofs.YtldnmpiaofppgaaDoor
open Go.RowKit Go.Shelf Verge
set_option linter.unusedVariables false
attribute [local go_sem] Oper.semAt_some

set_option maxHeartbeats 1600000 in
set_option maxRecDepth 1000000 in
theorem refApart_any (a b : Nat) (ha : a < 18446744073709551616) (hb : b < 18446744073709551616) (w : World) :
    Calls Tryd.prog 61 #[.int .u64 a, .int .u64 b] w fun e w' => e = .returned (.int .i64 (ap a b 11)) ∧ Below w.heap.size w w' := by
  go_enter Tryd.func61, Tryd.ntmps61
  go_wp2_with fail
  refine (refDigits_any a ha _).mono ?_
  rintro e w1 ⟨g, c, rfl, hg1, hg2, hc, hdc, hb1⟩
  have H1 := Lib.hid hdc
  clear hdc
  go_wp2_with fail
  refine (refDigits_any b hb _).mono ?_
  rintro e w2 ⟨h, d, rfl, hh1, hh2, hd, hdd, hb2⟩
  have H1 := Lib.hid (H1.out.below hb2 hg2)
  have H2 := Lib.hid hdd
  clear hdd
  have hg3 : g < w2.heap.size := by omega
  have hB : Below w.heap.size w w2 := hb1.trans (hb2.mono hb1.size)
  have H3 : Hid (∀ l, 11 ≤ l → l < 11 → dg a l = dg b l) := fun l h1 h2 => absurd h1 (by omega)
  go_wp2
  go_loopw [7] (fun i wr => ∃ k : Nat, k ≤ 11 ∧ i = .int .i64 (k - 1) ∧ Hid (∀ l, k ≤ l → l < 11 → dg a l = dg b l) ∧ Below w2.heap.size w2 wr) (fun i _ => (intOf i + 1).toNat)
  case atStart => exact ⟨11, by omega, by go_num, H3, Below.refl _ _⟩
  case round =>
    obtain ⟨k, hk, rfl, hq, hnx⟩ := hrel
    clear H3
    have HF := Lib.hid (ap_skip a b k hq.out hk)
    by_cases hlt : 0 < k
    · obtain ⟨j, rfl⟩ : ∃ j, k = j + 1 := ⟨k - 1, by omega⟩
      have ej : ((j + 1 : Nat) : Int) - 1 = j := by omega
      rw [ej]
      clear ej
      have c1 := (hnx.cell (p := ⟨g, j, none⟩) hg3).trans (H1.out j (by omega))
      have c2 := (hnx.cell (p := ⟨h, j, none⟩) hh2).trans (H2.out j (by omega))
      by_cases hdj : dg a j = dg b j
      · have hne : (((dg a j : Nat) : Int) != ((dg b j : Nat) : Int)) = false := by simp [hdj]
        have HD := Lib.hid hdj
        clear hdj
        go_wp2
        go_quiet (fail)
        go_wp2
        go_roundw
        case rel =>
          refine ⟨j, by omega, by go_num, ?_, below_drewN hnx _⟩
          intro l hl hl2
          by_cases e : l = j
          · rw [e]; exact HD.out
          · exact hq.out l (by omega) hl2
        case measure => simp [intOf]
      · have hne : (((dg a j : Nat) : Int) != ((dg b j : Nat) : Int)) = true := by rw [bne_iff_ne]; omega
        have HD := Lib.hid (HF.out.trans (ap_ne a b j hdj))
        clear hdj
        go_wp2
        go_quiet (fail)
        go_wp2
        go_ret
        exact ⟨ret_int HD.out.symm, hB.trans ((below_drewN hnx _).mono hB.size)⟩
    · obtain rfl : k = 0 := by omega
      go_wp2
      go_ret
      exact ⟨ret_int HF.out.symm, hB.trans (hnx.mono hB.size)⟩

set_option maxHeartbeats 1600000 in
set_option maxRecDepth 1000000 in
theorem refZeros_any (t : Nat) (ht : t < 18446744073709551616) (w : World) :
    Calls Tryd.prog 67 #[.int .u64 t] w fun e w' => ∃ z : Nat, Zeros t z ∧ e = .returned (.int .i64 z) ∧ Below w.heap.size w w' := by
  go_enter Tryd.func67, Tryd.ntmps67
  go_wp2_with fail
  refine (refDigits_any t ht _).mono ?_
  rintro e w1 ⟨g, c, rfl, hg1, hg2, hc, hdc, hb1⟩
  have H1 := Lib.hid hdc
  clear hdc
  go_wp2
  go_loop [4] (fun i => ∃ k : Nat, k ≤ 11 ∧ i = .int .i64 k ∧ Hid (∀ l, l < k → dg t l = 0)) (fun i => 11 - (intOf i).toNat)
  case atStart => exact ⟨0, by omega, rfl, fun l h => absurd h (by omega)⟩
  case round =>
    obtain ⟨k, hk, rfl, hq⟩ := hrel
    by_cases hlt : k < 11
    · have c1 := H1.out k hlt
      have hd1 : decide ((k : Int) < 11) = true := by simp; omega
      by_cases hz : dg t k = 0
      · have hz' : (((dg t k : Nat) : Int) == 0) = true := by rw [hz]; rfl
        have HZ := Lib.hid hz
        clear hz
        go_wp2
        go_round
        case rel =>
          refine ⟨k + 1, by omega, by go_num, ?_⟩
          intro l hl
          by_cases e : l = k
          · rw [e]; exact HZ.out
          · exact hq.out l (by omega)
        case measure => simp [intOf]; omega
      · have hz' : (((dg t k : Nat) : Int) == 0) = false := by rw [beq_eq_false_iff_ne]; omega
        have HZ := Lib.hid hz
        clear hz
        go_wp2
        go_ret
        exact ⟨k, ⟨hk, hq.out, .inr HZ.out⟩, rfl, hb1⟩
    · obtain rfl : k = 11 := by omega
      go_wp2
      go_ret
      exact ⟨11, ⟨hk, hq.out, .inl rfl⟩, rfl, hb1⟩
end Go.Proofs.YtldnmpiaofppgaaDoor

/-
  A drawn region, operation by operation: what yields in every world that keeps S is taken first, at a slot that is named.
-/
namespace Go.Proofs.YtldnmpiaofppgaaDoor
theorem take_at {P : Program} {md : Region.Mode} {ops : Array Oper} {Q : Exit → Act → World → Prop} {S : World → Prop} (i : Nat) (d : Option Tmp) {oi : Oper} {v : Value} {fuel : Nat} {listed : Array Bool} {a : Act} {w : World} (hi : ops[i]? = some oi) (hd : oi.dst = d)
    (hs : Region.noSelect ops = true) (hf : Region.free md ops listed i = true) (hr : (Region.ready md ops listed).contains i = true)
    (hQ : ∀ c a w, Q (.panic c) (a.put oi.dst v) w → Q (.panic c) a w) (hy : YieldsIf P ops S oi v a) (hS : S w)
    (h : wpAnyH P md ops Q S fuel (listed.setIfInBounds i true) (a.put d v) w) : wpAnyH P md ops Q S (fuel + 1) listed a w := by
  subst hd
  exact wpAnyH_take hi hs hf hr hQ hy hS h
end Go.Proofs.YtldnmpiaofppgaaDoor

/-
  Contracts of package wheel's spot, place, take, whole, of verge/api.Tasks.
-/
namespace Go.Proofs.YtldnmpiaofppgaaDoor.LT
open Go.RowKit Verge
attribute [local go_sem] Oper.semAt_some
set_option linter.unusedVariables false
set_option linter.unusedSimpArgs false
section
variable {S : Nat → Prop} {w w' : World} {g : Wh} {now : Nat} {R : Nat → List Ent} {P : List Ent} {x : Ent}
theorem apart_q (a b : Nat) (ha : a < 18446744073709551616) (hb : b < 18446744073709551616) (w : World) :
    Calls Tryd.prog 94 #[.int .u64 a, .int .u64 b] w fun e W' => e = .returned (.int .i64 (ap a b 11)) ∧ Ch Nil w W' := (callsIn_wide.1 (apart_in a b ha hb 3 (Nat.le_refl _) w)).mono fun e W' h => ⟨h.1, Ch.of_below h.2⟩
theorem zeros_q (t : Nat) (ht : t < 18446744073709551616) (w : World) :
    Calls Tryd.prog 63 #[.int .u64 t] w fun e W' => ∃ z : Nat, Zeros t z ∧ e = .returned (.int .i64 z) ∧ Ch Nil w W' := (callsIn_wide.1 (zeros_in t ht 3 (Nat.le_refl _) w)).mono fun e W' ⟨z, h1, h2, h3⟩ => ⟨z, h1, h2, Ch.of_below h3⟩

set_option maxHeartbeats 1000000 in
theorem spot_at (w : World) (wb e now d : Nat) (hn : w.cell? ⟨wb, 0, none⟩ = some (.int .u64 (now : Nat))) (hd : w.cell? ⟨e, 6, none⟩ = some (.int .u64 (d : Nat))) (ln : now < 18446744073709551616) (ld : d < 18446744073709551616) :
    Calls Tryd.prog 79 #[.pointer (some ⟨wb, 0, none⟩), .pointer (some ⟨e, 0, none⟩)] w fun r w' => r = .returned (.tuple #[.int .i64 (hgt d now : Nat), .int .i64 (dg d (hgt d now) : Nat)]) ∧ Ch Nil w w' := by
  have AP := Lib.hid (apart_q d now ld ln)
  obtain ⟨a, ha⟩ : ∃ a, a = ap d now 11 := ⟨_, rfl⟩
  obtain ⟨h, hh⟩ : ∃ h, h = hgt d now := ⟨_, rfl⟩
  have hm : (if 0 < a then a else 0) = (h : Int) := by
    rw [hh, ha]; unfold hgt
    rw [Int.toNat_of_nonneg (by omega)]
    split <;> omega
  have hlt : h < 11 := by rw [hh]; exact (spot_hgt d now ld ln).2.2
  rw [← ha] at AP
  rw [← hh]
  have HM := Lib.hid hm
  have LN := Lib.hid ln
  have LD := Lib.hid ld
  clear ha hh hm ln ld
  go_enter Tryd.func79, Tryd.ntmps79
  go_upto_region 1 with (fail)
  have C0 : Hid (Ch Nil w w.drew) := Lib.hid ((Ch.refl _ _).drew)
  have n0 : w.drew.cell? ⟨wb, 0, none⟩ = some (.int .u64 (now : Nat)) := hn
  have d0 : w.drew.cell? ⟨e, 6, none⟩ = some (.int .u64 (d : Nat)) := hd
  refine wp_region_held_drew (S := fun w' => w'.cell? ⟨wb, 0, none⟩ = some (.int .u64 (now : Nat)) ∧ w'.cell? ⟨e, 6, none⟩ = some (.int .u64 (d : Nat))) (by kernel_rfl) ⟨n0, d0⟩ (fun hHeld => ?_)
  generalize w.drew = W at *
  refine take_at (v := ?_) 0 (some 6) rfl (by kernel_rfl) (by kernel_rfl) (by kernel_rfl) (by kernel_rfl) (fun _ _ _ h => h) (Or.inl ⟨by rfl, ?_⟩) (by assumption) ?_
  rotate_left
  · intro w hSw; (try dsimp only at hSw); go_simp; try (with_reducible rfl)
  (try simp only [Act.put, List.setIfInBounds_toArray, List.set_cons_zero, List.set_cons_succ])
  refine take_at (v := ?_) 1 (some 7) rfl (by kernel_rfl) (by kernel_rfl) (by kernel_rfl) (by kernel_rfl) (fun _ _ _ h => h) (Or.inl ⟨by rfl, ?_⟩) (by assumption) ?_
  rotate_left
  · intro w hSw; (try dsimp only at hSw); go_simp; try (with_reducible rfl)
  (try simp only [Act.put, List.setIfInBounds_toArray, List.set_cons_zero, List.set_cons_succ])
  refine take_at (v := ?_) 2 (some 8) rfl (by kernel_rfl) (by kernel_rfl) (by kernel_rfl) (by kernel_rfl) (fun _ _ _ h => h) (Or.inl ⟨by rfl, ?_⟩) (by assumption) ?_
  rotate_left
  · intro w hSw; (try dsimp only at hSw); go_simp; try (with_reducible rfl)
  (try simp only [Act.put, List.setIfInBounds_toArray, List.set_cons_zero, List.set_cons_succ])
  refine take_at (v := ?_) 3 (some 9) rfl (by kernel_rfl) (by kernel_rfl) (by kernel_rfl) (by kernel_rfl) (fun _ _ _ h => h) (Or.inl ⟨by rfl, ?_⟩) (by assumption) ?_
  rotate_left
  · intro w hSw; (try dsimp only at hSw); go_simp; try (with_reducible rfl)
  (try simp only [Act.put, List.setIfInBounds_toArray, List.set_cons_zero, List.set_cons_succ])
  refine take_at (v := ?_) 4 (some 10) rfl (by kernel_rfl) (by kernel_rfl) (by kernel_rfl) (by kernel_rfl) (fun _ _ _ h => h) (Or.inl ⟨by rfl, ?_⟩) (by assumption) ?_
  rotate_left
  · intro w hSw; (try dsimp only at hSw); go_simp; try (with_reducible rfl)
  (try simp only [Act.put, List.setIfInBounds_toArray, List.set_cons_zero, List.set_cons_succ])
  refine take_at (v := ?_) 5 (some 11) rfl (by kernel_rfl) (by kernel_rfl) (by kernel_rfl) (by kernel_rfl) (fun _ _ _ h => h) (Or.inl ⟨by rfl, ?_⟩) (by assumption) ?_
  rotate_left
  · intro w hSw; (try dsimp only at hSw); go_simp; try (with_reducible rfl)
  (try simp only [Act.put, List.setIfInBounds_toArray, List.set_cons_zero, List.set_cons_succ])
  refine take_at (v := ?_) 6 (some 12) rfl (by kernel_rfl) (by kernel_rfl) (by kernel_rfl) (by kernel_rfl) (fun _ _ _ h => h) (Or.inl ⟨by rfl, ?_⟩) (by assumption) ?_
  rotate_left
  · intro w hSw; (try dsimp only at hSw); go_simp; try (with_reducible rfl)
  (try simp only [Act.put, List.setIfInBounds_toArray, List.set_cons_zero, List.set_cons_succ])
  refine take_at (v := ?_) 7 (some 13) rfl (by kernel_rfl) (by kernel_rfl) (by kernel_rfl) (by kernel_rfl) (fun _ _ _ h => h) (Or.inl ⟨by rfl, ?_⟩) (by assumption) ?_
  rotate_left
  · intro w hSw; (try dsimp only at hSw); go_simp; try (with_reducible rfl)
  (try simp only [Act.put, List.setIfInBounds_toArray, List.set_cons_zero, List.set_cons_succ])
  refine wpAnyH_ready (rs := [8]) (by kernel_rfl) (by simp) ?_
  refine AllReadyH.cons rfl (fun K hK => ?_) AllReadyH.nil
  go_simp
  refine (AP.out _).mono ?_
  rintro r w5 ⟨rfl, c5⟩
  have n5 := c5.keeps n0 (fun e => e)
  have d5 := c5.keeps d0 (fun e => e)
  have C5 := Lib.hid (C0.out.trans c5)
  clear c5 n0 d0 hn hd
  refine hK.out _ _ ⟨n5, d5⟩ (fun hHeld => ?_)
  clear hK K
  (try simp only [Act.put, List.setIfInBounds_toArray, List.set_cons_zero, List.set_cons_succ])
  have hm := HM.out
  refine take_at (v := ?_) 9 (some 15) rfl (by kernel_rfl) (by kernel_rfl) (by kernel_rfl) (by kernel_rfl) (fun _ _ _ h => h) (Or.inl ⟨by rfl, ?_⟩) (by assumption) ?_
  rotate_left
  · intro w hSw; (try dsimp only at hSw); go_simp; try (with_reducible rfl)
  (try simp only [Act.put, List.setIfInBounds_toArray, List.set_cons_zero, List.set_cons_succ])
  refine take_at (v := ?_) 10 (some 4) rfl (by kernel_rfl) (by kernel_rfl) (by kernel_rfl) (by kernel_rfl) (fun _ _ _ h => h) (Or.inl ⟨by rfl, ?_⟩) (by assumption) ?_
  rotate_left
  · intro w hSw; (try dsimp only at hSw); go_simp; try (with_reducible rfl)
  (try simp only [Act.put, List.setIfInBounds_toArray, List.set_cons_zero, List.set_cons_succ])
  refine wpAnyH_done (by kernel_rfl) ?_ _
  clear hm HM
  go_wp2_with fail
  refine (digit_at d h LD.out hlt _).mono ?_
  rintro r w6 ⟨rfl, rfl⟩
  go_wp2
  go_ret2
  exact ⟨rfl, C5.out⟩

theorem IsW.spot (H : IsW w g now R P) (hx : x ∈ P) :
    Calls Tryd.prog 79 #[.pointer (some ⟨g.wb, 0, none⟩), .pointer (some ⟨x.e, 0, none⟩)] w fun r w' => r = .returned (.tuple #[.int .i64 (hgt x.d now : Nat), .int .i64 (dg x.d (hgt x.d now) : Nat)]) ∧ Ch Nil w w' :=
  spot_at w g.wb x.e now x.d H.t (H.e x hx).c H.nl (H.dl x hx)

theorem nodes_not {p : Nat} (H : IsW w g now R P) (hp : p ≤ 256) (hx : x ∈ P) (hf : ∀ p, p ≤ 256 → x ∉ R p) : x.e + 1 ∉ (R p).map nd := by
  intro h
  obtain ⟨y, hy, e⟩ := List.mem_map.1 h
  obtain rfl := H.x.oi x y hx (H.y.r _ hp y hy) (by simp at e; omega)
  exact hf p hp hy
/-- what lies beyond takes a node -/
theorem IsW.putB (H : IsW w g now R P) (hx : x ∈ P) (hf : ∀ p, p ≤ 256 → x ∉ R p) (hl : (R 256).length ≤ 1000000) :
    Calls Tryd.prog 80 #[.pointer (some ⟨g.lb, 0, none⟩), .pointer (some ⟨x.e + 1, 0, none⟩)] w fun e w' => e = .returned (.int .i64 0) ∧ IsW w' g now (upd R 256 (R 256 ++ [x])) P ∧ Ch (WS g P) w w' := by
  have hlb : x.e + 1 ≠ g.lb := fun e => ((H.x.oe x hx).2.2 4).2 (.inr ⟨rfl, e⟩)
  refine (H.l.put (b := x.e + 1) (H.f x hx hf) (nodes_not H (by omega) hx hf) hlb (by rw [List.length_map]; exact hl)).mono ?_
  rintro e w' ⟨rfl, h1, c1⟩
  have c2 : Ch (fun k => CB g R (256 / 64) k ∨ ∃ y, y = x ∧ k = y.e + 1) w w' := c1.mono fun k _ hk => by
    rcases hk with hk | hk
    · exact .inl (lB_cb hk)
    · exact .inr ⟨x, rfl, hk⟩
  refine ⟨rfl, H.turned (N := fun y => y = x) (by omega) c2 (fun y e => by subst e; exact ⟨hx, hf⟩) (fun y hy => by simpa using hy) (fun e => by omega) (fun _ => by rw [List.map_append]; exact h1) (fun y hy hn hc => ?_), c2.mono fun k _ hk => ?_⟩
  · exact absurd (List.mem_append.2 (hc.imp id fun e => by simp [e])) hn
  · rcases hk with hk | ⟨y, rfl, rfl⟩
    · exact CB.ws H.y hk
    · exact H.nd_ws hx
/-- a level takes a node -/
theorem IsW.putL {h s : Nat} (H : IsW w g now R P) (hh : h < 4) (hs : s < 64) (hx : x ∈ P) (hf : ∀ p, p ≤ 256 → x ∉ R p) (hl : (R (64 * h + s)).length ≤ 1000000) :
    Calls Tryd.prog 81 #[.pointer (some ⟨g.vb h, 0, none⟩), .int .i64 (s : Nat), .pointer (some ⟨x.e + 1, 0, none⟩)] w fun e w' => e = .returned (.int .i64 0) ∧ IsW w' g now (upd R (64 * h + s) (R (64 * h + s) ++ [x])) P ∧ Ch (WS g P) w w' := by
  have hd : (64 * h + s) / 64 = h := by omega
  have hm : (64 * h + s) % 64 = s := by omega
  refine (vput_of (b := x.e + 1) (H.v h hh) hs (H.f x hx hf) (fun e => CB.free H.x H.y hx hf (lvB_cb hh e)) (by rw [nrow_len hs]; exact hl)).mono ?_
  rintro e w' ⟨rfl, h1, c1⟩
  have c2 : Ch (fun k => CB g R ((64 * h + s) / 64) k ∨ ∃ y, y = x ∧ k = y.e + 1) w w' := c1.mono fun k _ hk => by
    rcases hk with hk | hk
    · exact .inl (by rw [hd]; exact lvB_cb hh hk)
    · exact .inr ⟨x, rfl, hk⟩
  refine ⟨rfl, H.turned (N := fun y => y = x) (by omega) c2 (fun y e => by subst e; exact ⟨hx, hf⟩) (fun y hy => by simpa using hy) (fun _ => ?_) (fun e => by omega) (fun y hy hn hc => ?_), c2.mono fun k _ hk => ?_⟩
  · rw [hd, hm, List.map_append]
    rw [nrow_at hs] at h1
    exact h1
  · exact absurd (List.mem_append.2 (hc.imp id fun e => by simp [e])) hn
  · rcases hk with hk | ⟨y, rfl, rfl⟩
    · exact CB.ws H.y hk
    · exact H.nd_ws hx

/-- entries placed one behind the other -/
def plR (R : Nat → List Ent) (now : Nat) (ns : List Ent) : Nat → List Ent := fun q => R q ++ ns.filter fun x => decide (spotN x.d now = q)
theorem plR_nil : plR R now [] = R := by funext q; simp [plR]
theorem plR_more {ns : List Ent} : upd (plR R now ns) (spotN x.d now) (plR R now ns (spotN x.d now) ++ [x]) = plR R now (ns ++ [x]) := by
  funext q
  by_cases e : q = spotN x.d now
  · subst e; rw [upd_same]; simp [plR]
  · rw [upd_other _ _ _ _ e]
    unfold plR
    rw [List.filter_append]
    simp only [List.filter_cons, List.filter_nil]
    rw [if_neg (by simpa using fun e' => e e'.symm), List.append_nil]
theorem plR_mem {ns : List Ent} {q : Nat} {y : Ent} (h : y ∈ plR R now ns q) : y ∈ R q ∨ y ∈ ns := by
  rcases List.mem_append.1 h with h | h
  · exact .inl h
  · exact .inr (List.mem_filter.1 h).1
theorem plR_len {ns : List Ent} {q : Nat} : (plR R now ns q).length ≤ (R q).length + ns.length := by
  unfold plR; rw [List.length_append]; have := List.length_filter_le (fun x => decide (spotN x.d now = q)) ns; omega

/-- where the entries that are handed over lie -/
def Given (w : World) (a : Option Addr) (ns : List Ent) (T : Nat → Prop) : Prop := ns = [] ∨ ∃ b, a = some ⟨b, 0, none⟩ ∧ ¬ T b ∧ ∀ i x, ns[i]? = some x → w.cell? ⟨b, i, none⟩ = some (.pointer (some ⟨x.e, 0, none⟩))

set_option maxHeartbeats 2000000 in
set_option maxRecDepth 100000 in
theorem IsW.place (H : IsW w g now R P) (ns : List Ent) (a : Option Addr) (cap : Nat) (hP : ∀ x, x ∈ ns → x ∈ P) (hf : ∀ x, x ∈ ns → ∀ p, p ≤ 256 → x ∉ R p) (hnd : ns.Nodup) (hg : Given w a ns (WS g P)) (hl : ∀ p, p ≤ 256 → (R p).length ≤ 100000) (hn : ns.length ≤ 100000) :
    Calls Tryd.prog 60 #[.pointer (some ⟨g.wb, 0, none⟩), .slice a ns.length cap] w fun e w' => (∃ r, e = .returned r) ∧ IsW w' g now (plR R now ns) P ∧ Ch (WS g P) w w' := by
  have H0 := Lib.hid H
  have HP := Lib.hid hP
  have HF := Lib.hid hf
  have ND := Lib.hid hnd
  have HG := Lib.hid hg
  have HL := Lib.hid hl
  obtain ⟨n, hln⟩ : ∃ n, n = ns.length := ⟨_, rfl⟩
  have LEN := Lib.hid hln
  rw [← hln]
  rw [← hln] at hn
  clear H hP hf hnd hg hl hln
  go_enter Tryd.func60, Tryd.ntmps60
  go_wp2
  go_loopw [10] (fun i wr => ∃ k : Nat, k ≤ n ∧ i = .int .i64 k ∧ IsW wr g now (plR R now (ns.take k)) P ∧ Ch (WS g P) w wr) (fun i _ => n - (intOf i).toNat)
  case atStart => exact ⟨0, by omega, rfl, by rw [List.take_zero, plR_nil]; exact H0.out, Ch.refl _ _⟩
  case round =>
    obtain ⟨k, hk, rfl, h1, c1⟩ := hrel
    have H1 := Lib.hid h1
    have C1 := Lib.hid c1
    clear h1 c1
    by_cases hlt : k < n
    · have hkl : k < ns.length := by rw [← LEN.out]; exact hlt
      obtain ⟨x, hx⟩ : ∃ x, ns[k]? = some x := ⟨_, List.getElem?_eq_getElem hkl⟩
      have hxm := List.mem_of_getElem? hx
      have hxP := HP.out x hxm
      have hfree : ∀ p, p ≤ 256 → x ∉ plR R now (ns.take k) p := fun p hp hm => by
        rcases plR_mem hm with h | h
        · exact HF.out x hxm p hp h
        · obtain ⟨i, hi⟩ := List.mem_iff_getElem?.1 h
          rw [List.getElem?_take] at hi
          split at hi
          · have := (List.getElem?_inj hkl ND.out).1 (hx.trans hi.symm); omega
          · cases hi
      have hlen : ∀ p, p ≤ 256 → (plR R now (ns.take k) p).length ≤ 1000000 := fun p hp => by
        have := plR_len (R := R) (now := now) (ns := ns.take k) (q := p)
        have := HL.out p hp
        rw [List.length_take] at *
        have := LEN.out
        omega
      obtain ⟨b, rfl, hb, hcell⟩ : ∃ b, a = some ⟨b, 0, none⟩ ∧ ¬ WS g P b ∧ ∀ i x, ns[i]? = some x → w.cell? ⟨b, i, none⟩ = some (.pointer (some ⟨x.e, 0, none⟩)) := by
        rcases HG.out with h | h
        · rw [h] at hkl; simp at hkl
        · exact h
      have q1 := C1.out.keeps (hcell k x hx) hb
      have SP := Lib.hid (H1.out.spot hxP)
      have SH := Lib.hid (spot_hgt x.d now (H1.out.dl x hxP) H1.out.nl)
      have DL := Lib.hid (dg_lt x.d (hgt x.d now))
      have FREE := Lib.hid hfree
      have LENS := Lib.hid hlen
      have TK : Hid (ns.take (k + 1) = ns.take k ++ [x]) := Lib.hid (by rw [List.take_add_one, hx]; rfl)
      have hkz : (k : Int) < (n : Int) := by omega
      have hkz0 : (0 : Int) ≤ (k : Int) := by omega
      clear hfree hlen hcell hx
      go_wp2_with fail
      refine SP.out.mono ?_
      rintro e w5 ⟨rfl, c5⟩
      have H5 := Lib.hid (H1.out.kept c5 (fun _ _ e => e))
      have C5 := Lib.hid (C1.out.then c5 (fun _ _ e => e.elim))
      clear c5 SP H1 C1
      generalize hgt x.d now = h at *
      generalize dg x.d h = s at *
      by_cases h4 : 4 ≤ h
      · have hz : (4 : Int) ≤ (h : Int) := by omega
        have s1 := SH.out.2.1 h4
        have S1 := Lib.hid s1
        clear s1
        go_upto_region 5 with (fail)
        have HD : Hid (IsW w5.drew g now (plR R now (ns.take k)) P) := Lib.hid (H5.out.kept (S := Nil) (Ch.refl _ _).drew (fun _ _ e => e))
        have CD : Hid (Ch (WS g P) w w5.drew) := Lib.hid C5.out.drew
        clear H5 C5
        refine wp_region_held_drew (S := fun w' => w'.cell? ⟨g.wb, 5, none⟩ = some (.pointer (some ⟨g.lb, 0, none⟩)) ∧ w'.cell? ⟨x.e, 7, none⟩ = some (.pointer (some ⟨x.e + 1, 0, none⟩))) (by kernel_rfl) ⟨HD.out.b, (HD.out.e x hxP).n⟩ (fun hHeld => ?_)
        generalize w5.drew = W at *
        refine take_at (v := ?_) 0 (some 22) rfl (by kernel_rfl) (by kernel_rfl) (by kernel_rfl) (by kernel_rfl) (fun _ _ _ h => h) (Or.inl ⟨by rfl, ?_⟩) (by assumption) ?_
        rotate_left
        · intro w hSw; (try dsimp only at hSw); go_simp; try (with_reducible rfl)
        (try simp only [Act.put, List.setIfInBounds_toArray, List.set_cons_zero, List.set_cons_succ])
        refine take_at (v := ?_) 1 (some 23) rfl (by kernel_rfl) (by kernel_rfl) (by kernel_rfl) (by kernel_rfl) (fun _ _ _ h => h) (Or.inl ⟨by rfl, ?_⟩) (by assumption) ?_
        rotate_left
        · intro w hSw; (try dsimp only at hSw); go_simp; try (with_reducible rfl)
        (try simp only [Act.put, List.setIfInBounds_toArray, List.set_cons_zero, List.set_cons_succ])
        refine take_at (v := ?_) 2 (some 24) rfl (by kernel_rfl) (by kernel_rfl) (by kernel_rfl) (by kernel_rfl) (fun _ _ _ h => h) (Or.inl ⟨by rfl, ?_⟩) (by assumption) ?_
        rotate_left
        · intro w hSw; (try dsimp only at hSw); go_simp; try (with_reducible rfl)
        (try simp only [Act.put, List.setIfInBounds_toArray, List.set_cons_zero, List.set_cons_succ])
        refine take_at (v := ?_) 3 (some 25) rfl (by kernel_rfl) (by kernel_rfl) (by kernel_rfl) (by kernel_rfl) (fun _ _ _ h => h) (Or.inl ⟨by rfl, ?_⟩) (by assumption) ?_
        rotate_left
        · intro w hSw; (try dsimp only at hSw); go_simp; try (with_reducible rfl)
        (try simp only [Act.put, List.setIfInBounds_toArray, List.set_cons_zero, List.set_cons_succ])
        refine take_at (v := ?_) 4 (some 26) rfl (by kernel_rfl) (by kernel_rfl) (by kernel_rfl) (by kernel_rfl) (fun _ _ _ h => h) (Or.inl ⟨by rfl, ?_⟩) (by assumption) ?_
        rotate_left
        · intro w hSw; (try dsimp only at hSw); go_simp; try (with_reducible rfl)
        (try simp only [Act.put, List.setIfInBounds_toArray, List.set_cons_zero, List.set_cons_succ])
        refine take_at (v := ?_) 5 (some 27) rfl (by kernel_rfl) (by kernel_rfl) (by kernel_rfl) (by kernel_rfl) (fun _ _ _ h => h) (Or.inl ⟨by rfl, ?_⟩) (by assumption) ?_
        rotate_left
        · intro w hSw; (try dsimp only at hSw); go_simp; try (with_reducible rfl)
        (try simp only [Act.put, List.setIfInBounds_toArray, List.set_cons_zero, List.set_cons_succ])
        refine take_at (v := ?_) 6 (some 28) rfl (by kernel_rfl) (by kernel_rfl) (by kernel_rfl) (by kernel_rfl) (fun _ _ _ h => h) (Or.inl ⟨by rfl, ?_⟩) (by assumption) ?_
        rotate_left
        · intro w hSw; (try dsimp only at hSw); go_simp; try (with_reducible rfl)
        (try simp only [Act.put, List.setIfInBounds_toArray, List.set_cons_zero, List.set_cons_succ])
        refine take_at (v := ?_) 7 (some 29) rfl (by kernel_rfl) (by kernel_rfl) (by kernel_rfl) (by kernel_rfl) (fun _ _ _ h => h) (Or.inl ⟨by rfl, ?_⟩) (by assumption) ?_
        rotate_left
        · intro w hSw; (try dsimp only at hSw); go_simp; try (with_reducible rfl)
        (try simp only [Act.put, List.setIfInBounds_toArray, List.set_cons_zero, List.set_cons_succ])
        refine wpAnyH_ready (rs := [8]) (by kernel_rfl) (by simp) ?_
        refine AllReadyH.cons rfl (fun K hK => ?_) AllReadyH.nil
        go_simp
        refine (HD.out.putB hxP FREE.out (LENS.out 256 (by omega))).mono ?_
        rintro e w6 ⟨rfl, h6, c6⟩
        have nb := h6.b
        have ne := (h6.e x hxP).n
        have NEXT := Lib.hid h6
        have C6 := Lib.hid (CD.out.trans c6)
        clear h6 c6
        refine hK.out _ _ ⟨nb, ne⟩ (fun hHeld => ?_)
        clear hK K nb ne
        (try simp only [Act.put, List.setIfInBounds_toArray, List.set_cons_zero, List.set_cons_succ])
        refine wpAnyH_done (by kernel_rfl) ?_ _
        go_wp2
        go_roundw
        case rel =>
          refine ⟨k + 1, by omega, by go_num, ?_, C6.out⟩
          have h6 := NEXT.out
          rw [← S1.out, plR_more, ← TK.out] at h6
          exact h6
        case measure => simp [intOf]; omega
      · have hz : (h : Int) < 4 := by omega
        have hz0 : (0 : Int) ≤ (h : Int) := by omega
        have s1 := SH.out.1 (by omega)
        have S1 := Lib.hid s1
        clear s1
        go_upto_region 6 with (fail)
        have HD : Hid (IsW w5.drew g now (plR R now (ns.take k)) P) := Lib.hid (H5.out.kept (S := Nil) (Ch.refl _ _).drew (fun _ _ e => e))
        have CD : Hid (Ch (WS g P) w w5.drew) := Lib.hid C5.out.drew
        clear H5 C5
        refine wp_region_held_drew (S := fun w' => w'.cell? ⟨g.wb, 1 + h, none⟩ = some (.pointer (some ⟨g.vb h, 0, none⟩)) ∧ w'.cell? ⟨x.e, 7, none⟩ = some (.pointer (some ⟨x.e + 1, 0, none⟩))) (by kernel_rfl) ⟨HD.out.p h (by omega), (HD.out.e x hxP).n⟩ (fun hHeld => ?_)
        generalize w5.drew = W at *
        refine take_at (v := ?_) 0 (some 31) rfl (by kernel_rfl) (by kernel_rfl) (by kernel_rfl) (by kernel_rfl) (fun _ _ _ h => h) (Or.inl ⟨by rfl, ?_⟩) (by assumption) ?_
        rotate_left
        · intro w hSw; (try dsimp only at hSw); go_simp; try (with_reducible rfl)
        (try simp only [Act.put, List.setIfInBounds_toArray, List.set_cons_zero, List.set_cons_succ])
        refine take_at (v := ?_) 1 (some 32) rfl (by kernel_rfl) (by kernel_rfl) (by kernel_rfl) (by kernel_rfl) (fun _ _ _ h => h) (Or.inl ⟨by rfl, ?_⟩) (by assumption) ?_
        rotate_left
        · intro w hSw; (try dsimp only at hSw); go_simp; try (with_reducible rfl)
        (try simp only [Act.put, List.setIfInBounds_toArray, List.set_cons_zero, List.set_cons_succ])
        refine take_at (v := ?_) 2 (some 33) rfl (by kernel_rfl) (by kernel_rfl) (by kernel_rfl) (by kernel_rfl) (fun _ _ _ h => h) (Or.inl ⟨by rfl, ?_⟩) (by assumption) ?_
        rotate_left
        · intro w hSw; (try dsimp only at hSw); go_simp; try (with_reducible rfl)
        (try simp only [Act.put, List.setIfInBounds_toArray, List.set_cons_zero, List.set_cons_succ])
        refine take_at (v := ?_) 3 (some 34) rfl (by kernel_rfl) (by kernel_rfl) (by kernel_rfl) (by kernel_rfl) (fun _ _ _ h => h) (Or.inl ⟨by rfl, ?_⟩) (by assumption) ?_
        rotate_left
        · intro w hSw; (try dsimp only at hSw); go_simp; try (with_reducible rfl)
        (try simp only [Act.put, List.setIfInBounds_toArray, List.set_cons_zero, List.set_cons_succ])
        refine take_at (v := ?_) 4 (some 35) rfl (by kernel_rfl) (by kernel_rfl) (by kernel_rfl) (by kernel_rfl) (fun _ _ _ h => h) (Or.inl ⟨by rfl, ?_⟩) (by assumption) ?_
        rotate_left
        · intro w hSw; (try dsimp only at hSw); go_simp; try (with_reducible rfl)
        (try simp only [Act.put, List.setIfInBounds_toArray, List.set_cons_zero, List.set_cons_succ])
        refine take_at (v := ?_) 5 (some 36) rfl (by kernel_rfl) (by kernel_rfl) (by kernel_rfl) (by kernel_rfl) (fun _ _ _ h => h) (Or.inl ⟨by rfl, ?_⟩) (by assumption) ?_
        rotate_left
        · intro w hSw; (try dsimp only at hSw); go_simp; try (with_reducible rfl)
        (try simp only [Act.put, List.setIfInBounds_toArray, List.set_cons_zero, List.set_cons_succ])
        refine take_at (v := ?_) 6 (some 37) rfl (by kernel_rfl) (by kernel_rfl) (by kernel_rfl) (by kernel_rfl) (fun _ _ _ h => h) (Or.inl ⟨by rfl, ?_⟩) (by assumption) ?_
        rotate_left
        · intro w hSw; (try dsimp only at hSw); go_simp; try (with_reducible rfl)
        (try simp only [Act.put, List.setIfInBounds_toArray, List.set_cons_zero, List.set_cons_succ])
        refine take_at (v := ?_) 7 (some 38) rfl (by kernel_rfl) (by kernel_rfl) (by kernel_rfl) (by kernel_rfl) (fun _ _ _ h => h) (Or.inl ⟨by rfl, ?_⟩) (by assumption) ?_
        rotate_left
        · intro w hSw; (try dsimp only at hSw); go_simp; try (with_reducible rfl)
        (try simp only [Act.put, List.setIfInBounds_toArray, List.set_cons_zero, List.set_cons_succ])
        refine take_at (v := ?_) 8 (some 39) rfl (by kernel_rfl) (by kernel_rfl) (by kernel_rfl) (by kernel_rfl) (fun _ _ _ h => h) (Or.inl ⟨by rfl, ?_⟩) (by assumption) ?_
        rotate_left
        · intro w hSw; (try dsimp only at hSw); go_simp; try (with_reducible rfl)
        (try simp only [Act.put, List.setIfInBounds_toArray, List.set_cons_zero, List.set_cons_succ])
        refine take_at (v := ?_) 9 (some 40) rfl (by kernel_rfl) (by kernel_rfl) (by kernel_rfl) (by kernel_rfl) (fun _ _ _ h => h) (Or.inl ⟨by rfl, ?_⟩) (by assumption) ?_
        rotate_left
        · intro w hSw; (try dsimp only at hSw); go_simp; try (with_reducible rfl)
        (try simp only [Act.put, List.setIfInBounds_toArray, List.set_cons_zero, List.set_cons_succ])
        refine take_at (v := ?_) 10 (some 41) rfl (by kernel_rfl) (by kernel_rfl) (by kernel_rfl) (by kernel_rfl) (fun _ _ _ h => h) (Or.inl ⟨by rfl, ?_⟩) (by assumption) ?_
        rotate_left
        · intro w hSw; (try dsimp only at hSw); go_simp; try (with_reducible rfl)
        (try simp only [Act.put, List.setIfInBounds_toArray, List.set_cons_zero, List.set_cons_succ])
        refine wpAnyH_ready (rs := [11]) (by kernel_rfl) (by simp) ?_
        refine AllReadyH.cons rfl (fun K hK => ?_) AllReadyH.nil
        go_simp
        refine (HD.out.putL (h := h) (s := s) (by omega) DL.out hxP FREE.out (LENS.out _ (by have := DL.out; omega))).mono ?_
        rintro e w6 ⟨rfl, h6, c6⟩
        have nb := h6.p h (by omega)
        have ne := (h6.e x hxP).n
        have NEXT := Lib.hid h6
        have C6 := Lib.hid (CD.out.trans c6)
        clear h6 c6
        refine hK.out _ _ ⟨nb, ne⟩ (fun hHeld => ?_)
        clear hK K nb ne
        (try simp only [Act.put, List.setIfInBounds_toArray, List.set_cons_zero, List.set_cons_succ])
        refine wpAnyH_done (by kernel_rfl) ?_ _
        go_wp2
        go_roundw
        case rel =>
          refine ⟨k + 1, by omega, by go_num, ?_, C6.out⟩
          have h6 := NEXT.out
          rw [← S1.out, plR_more, ← TK.out] at h6
          exact h6
        case measure => simp [intOf]; omega
    · obtain rfl : k = n := by omega
      go_wp2
      go_end0
      refine ⟨⟨_, rfl⟩, ?_, C1.out⟩
      have h1 := H1.out
      rwa [LEN.out, List.take_length] at h1
end
end Go.Proofs.YtldnmpiaofppgaaDoor.LT

/-
  Contract of package level's New.
-/
namespace Go.Proofs.YtldnmpiaofppgaaDoor.LT
open Go.RowKit Verge
attribute [local go_sem] Oper.semAt_some
set_option linter.unusedVariables false
set_option linter.unusedSimpArgs false

/-- a level of which the first k lists are there -/
structure Making (w : World) (vb : Nat) (k : Nat) (hd : Nat → Nat) (V : Nat → Nat) (W : World) : Prop where
  s : ∀ i, i < k → W.cell? ⟨vb, i, none⟩ = some (.pointer (some ⟨hd i, 0, none⟩))
  z : ∀ i, k ≤ i → i < 64 → W.cell? ⟨vb, i, none⟩ = some (.pointer none)
  m : W.cell? ⟨vb, 64, none⟩ = some (.int .u64 0)
  b : Blk W vb
  l : ∀ i, i < k → IsL W (hd i) [] V
  d : ∀ i j, i < k → j < k → i ≠ j → hd i ≠ hd j
  nv : ∀ i, i < k → hd i ≠ vb
  hi : w.heap.size ≤ vb ∧ ∀ i, i < k → w.heap.size ≤ hd i
  c : Ch Nil w W

section
variable {S : Nat → Prop} {w W w5 : World} {vb k lb : Nat} {hd : Nat → Nat} {V : Nat → Nat}
theorem Making.kept (h : Making w vb k hd V W) (c : Ch Nil W w5) : Making w vb k hd V w5 :=
  ⟨fun i hi => c.keeps (h.s i hi) (fun e => e), fun i h1 h2 => c.keeps (h.z i h1 h2) (fun e => e), c.keeps h.m (fun e => e), h.b.kept c (fun e => e), fun i hi => (h.l i hi).kept c (fun _ _ e => e), h.d, h.nv, h.hi, h.c.trans c⟩
theorem Making.drew (h : Making w vb k hd V W) : Making w vb k hd V W.drew := h.kept (Ch.refl _ _).drew
/-- a list more -/
theorem Making.more (h : Making w vb k hd V W) (hk : k < 64) (hlb : W.heap.size ≤ lb) (h5 : IsL w5 lb [] V) (c5 : Ch Nil W w5) : Making w vb (k + 1) (upd hd k lb) V (w5.setCell ⟨vb, k, none⟩ (.pointer (some ⟨lb, 0, none⟩))) := by
  have h' := h.kept c5
  have vlt := h.b.lt
  have llt : ∀ i, i < k → hd i < W.heap.size := fun i hi => (h.l i hi).lt (.inl rfl)
  have c : Ch (One vb) w5 (w5.setCell ⟨vb, k, none⟩ (.pointer (some ⟨lb, 0, none⟩))) := (Ch.refl _ _).setB k _
  have hw := h.c.size
  refine ⟨fun i hi => ?_, fun i h1 h2 => (cell_ne (by omega) _).trans (h'.z i (by omega) h2), (cell_ne (by omega) _).trans h'.m, h'.b.set _ _, fun i hi => ?_, fun i j hi hj hne => ?_, fun i hi => ?_, ⟨h.hi.1, fun i hi => ?_⟩, h'.c.up c (fun i e => e ▸ h.hi.1)⟩
  · by_cases e : i = k
    · subst e; rw [upd_same]; exact World.cell?_setCell_same _ _ _ (h'.z i (Nat.le_refl _) hk)
    · rw [upd_other _ _ _ _ e]; exact (cell_ne (fun e' => e e'.symm) _).trans (h'.s i (by omega))
  · by_cases e : i = k
    · subst e; rw [upd_same]
      refine h5.kept c ?_
      rintro j (rfl | hj) e
      · have : j = vb := e; omega
      · cases hj
    · rw [upd_other _ _ _ _ e]
      refine (h'.l i (by omega)).kept c ?_
      rintro j (rfl | hj) e
      · exact h.nv i (by omega) e
      · cases hj
  · by_cases ei : i = k
    · subst ei; rw [upd_same, upd_other _ _ _ _ (fun e => hne e.symm)]; have := llt j (by omega); omega
    · rw [upd_other _ _ _ _ ei]
      by_cases ej : j = k
      · subst ej; rw [upd_same]; have := llt i (by omega); omega
      · rw [upd_other _ _ _ _ ej]; exact h.d i j (by omega) (by omega) hne
  · by_cases e : i = k
    · subst e; rw [upd_same]; omega
    · rw [upd_other _ _ _ _ e]; exact h.nv i (by omega)
  · by_cases e : i = k
    · subst e; rw [upd_same]; omega
    · rw [upd_other _ _ _ _ e]; exact h.hi.2 i (by omega)
theorem Making.made (h : Making w vb 64 hd V W) : IsLv W vb hd (fun _ => []) V := by
  refine ⟨h.s, ?_, h.b, h.l, ?_, ?_⟩
  · rw [mapX_empty (fun _ _ => rfl)]; exact h.m
  · rintro i j hi hj hne k (rfl | hk) (e | hk')
    · exact h.d i j hi hj hne e
    · cases hk'
    · cases hk
    · cases hk
  · rintro i hi (e | hk)
    · exact h.nv i hi e.symm
    · cases hk
theorem Making.high (h : Making w vb 64 hd V W) : ∀ k, LvB vb hd (fun _ => []) k → w.heap.size ≤ k := by
  rintro k (rfl | ⟨i, hi, (rfl | hk)⟩)
  · exact h.hi.1
  · exact h.hi.2 i hi
  · cases hk
end
/-- a level's zero: 64 nil pointers, the empty map -/
def lvZ : Array Value := (Array.replicate 64 (.pointer none)).push (.int .u64 0)
theorem zero_of {P : Program} {t : TypeId} {z : Value} (h : (P.info? t).map (fun i => i.zero) = some (some z)) (w : World) : (zeroValue t).run P w = .ok z w := by
  obtain ⟨i, hi, hz⟩ := Option.map_eq_some_iff.1 h
  simp [zeroValue, typeInfo, hi, hz]
theorem lvZ_zero (w : World) : (zeroValue 154).run Tryd.prog w = .ok (.agg lvZ) w := zero_of (by kernel_rfl) w
theorem lvZ_at (i : Nat) (h : i < 64) : lvZ[i]? = some (.pointer none) := by
  unfold lvZ; rw [Array.getElem?_push, if_neg (by simp; omega), Array.getElem?_replicate, if_pos h]
theorem lvZ_map : lvZ[64]? = some (.int .u64 0) := by
  unfold lvZ; rw [Array.getElem?_push, if_pos (by simp)]

set_option maxHeartbeats 1000000 in
set_option maxRecDepth 100000 in
theorem newv_of (w : World) (V : Nat → Nat) :
    Calls Tryd.prog 58 #[] w fun e w' => ∃ vb hd, e = .returned (.pointer (some ⟨vb, 0, none⟩)) ∧ IsLv w' vb hd (fun _ => []) V ∧ (∀ k, LvB vb hd (fun _ => []) k → w.heap.size ≤ k) ∧ Ch Nil w w' := by
  have z1 := lvZ_zero
  go_enter Tryd.func58, Tryd.ntmps58
  go_wp2
  go_loopw [5] (fun i wr => ∃ (k : Nat) (hd : Nat → Nat), k ≤ 64 ∧ i = .int .i64 k ∧ Making w w.heap.size k hd V wr) (fun i _ => 64 - (intOf i).toNat)
  case atStart =>
    refine ⟨0, fun _ => 0, by omega, rfl, ⟨fun i hi => by omega, fun i _ hi => ?_, ?_, Blk.new _ _ _, fun i hi => by omega, fun i j hi => by omega, fun i hi => by omega, ⟨Nat.le_refl _, fun i hi => by omega⟩, (Ch.refl _ _).alloc _⟩⟩
    · rw [cell_fresh]; exact lvZ_at i hi
    · rw [cell_fresh]; exact lvZ_map
  case round =>
    obtain ⟨k, hd, hk, rfl, hm⟩ := hrel
    have HM := Lib.hid hm
    clear hm
    by_cases hlt : k < 64
    · have hkz : (k : Int) < 64 := by omega
      have hkz0 : (0 : Int) ≤ (k : Int) := by omega
      go_upto_region 5 with (fail)
      have HMd : Hid (Making w w.heap.size k hd V wr.drew) := HM.out.drew
      have vlt : w.heap.size < wr.drew.heap.size := HM.out.b.lt
      refine wp_region_held_drew (S := fun _ => True) (by kernel_rfl) trivial (fun hHeld => ?_)
      generalize wr.drew = W at *
      refine take_at (v := ?_) 0 (some 8) rfl (by kernel_rfl) (by kernel_rfl) (by kernel_rfl) (by kernel_rfl) (fun _ _ _ h => h) (Or.inl ⟨by rfl, ?_⟩) (by assumption) ?_
      rotate_left
      · intro w hSw; (try dsimp only at hSw); go_simp; try (with_reducible rfl)
      (try simp only [Act.put, List.setIfInBounds_toArray, List.set_cons_zero, List.set_cons_succ])
      refine take_at (v := ?_) 1 (some 9) rfl (by kernel_rfl) (by kernel_rfl) (by kernel_rfl) (by kernel_rfl) (fun _ _ _ h => h) (Or.inl ⟨by rfl, ?_⟩) (by assumption) ?_
      rotate_left
      · intro w hSw; (try dsimp only at hSw); go_simp; try (with_reducible rfl)
      (try simp only [Act.put, List.setIfInBounds_toArray, List.set_cons_zero, List.set_cons_succ])
      refine take_at (v := ?_) 3 (some 11) rfl (by kernel_rfl) (by kernel_rfl) (by kernel_rfl) (by kernel_rfl) (fun _ _ _ h => h) (Or.inl ⟨by rfl, ?_⟩) (by assumption) ?_
      rotate_left
      · intro w hSw; (try dsimp only at hSw); go_simp; try (with_reducible rfl)
      (try simp only [Act.put, List.setIfInBounds_toArray, List.set_cons_zero, List.set_cons_succ])
      refine take_at (v := ?_) 4 (some 12) rfl (by kernel_rfl) (by kernel_rfl) (by kernel_rfl) (by kernel_rfl) (fun _ _ _ h => h) (Or.inl ⟨by rfl, ?_⟩) (by assumption) ?_
      rotate_left
      · intro w hSw; (try dsimp only at hSw); go_simp; try (with_reducible rfl)
      (try simp only [Act.put, List.setIfInBounds_toArray, List.set_cons_zero, List.set_cons_succ])
      refine wpAnyH_ready (rs := [2]) (by kernel_rfl) (by simp) ?_
      refine AllReadyH.cons rfl (fun K hK => ?_) AllReadyH.nil
      go_simp
      refine (new_of _ V).mono ?_
      rintro e w5 ⟨lb, rfl, hlb, h5, c5⟩
      have hle : w.heap.size < lb := Nat.lt_of_lt_of_le vlt hlb
      have q1 := c5.keeps (HMd.out.z k (Nat.le_refl _) hlt) (fun e => e)
      have q2 : w5.frozen? ⟨w.heap.size, k, none⟩ = false := (HMd.out.b.kept c5 (fun e => e)).fz k
      have NEXT := Lib.hid (HMd.out.more hlt hlb h5 c5)
      clear h5 c5
      refine hK.out _ _ trivial (fun hHeld => ?_)
      clear hK K
      (try simp only [Act.put, List.setIfInBounds_toArray, List.set_cons_zero, List.set_cons_succ])
      refine take_at (v := ?_) 5 (some 13) rfl (by kernel_rfl) (by kernel_rfl) (by kernel_rfl) (by kernel_rfl) (fun _ _ _ h => h) (Or.inl ⟨by rfl, ?_⟩) (by assumption) ?_
      rotate_left
      · intro w hSw; (try dsimp only at hSw); go_simp; try (with_reducible rfl)
      (try simp only [Act.put, List.setIfInBounds_toArray, List.set_cons_zero, List.set_cons_succ])
      refine wpAnyH_ready (rs := [6]) (by kernel_rfl) (by simp) ?_
      refine AllReadyH.cons rfl (fun K hK => ?_) AllReadyH.nil
      go_simp
      refine hK.out _ _ trivial (fun hHeld => ?_)
      clear hK K
      refine wpAnyH_done (by kernel_rfl) ?_ _
      go_wp2
      go_roundw
      case rel => exact ⟨k + 1, _, by omega, by go_num, NEXT.out⟩
      case measure => simp [intOf]; omega
    · obtain rfl : k = 64 := by omega
      go_wp2
      go_ret
      exact ⟨_, hd, rfl, HM.out.made, HM.out.high, HM.out.c⟩
end Go.Proofs.YtldnmpiaofppgaaDoor.LT
