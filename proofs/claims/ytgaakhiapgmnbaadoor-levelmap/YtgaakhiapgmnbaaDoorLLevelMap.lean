/-
  LevelMap: for every row of acts the statement 'behind whatever was put, removed and taken, a slot's bit is set just if it has a node' returns true, and its argument reads as before. (The table of math/bits reads as the program's text lays it: tied by the card.)
-/
import Derived.Test.YtgaakhiapgmnbaaDoorLevelAlive
import Derived.Test.YtgaakhiapgmnbaaDoorLevelPool
import Derived.Test.YtgaakhiapgmnbaaDoorIsTab
import Derived.Test.YtgaakhiapgmnbaaDoorTie
import Derived.Test.YtgaakhiapgmnbaaDoorCards
import Derived.SevenTiedAt
import Derived.ChangeOld
import Derived.Below
import Derived.Deep.Cut
import Derived.Deep.CutRange
import Derived.Deep.CutBlock
namespace Go.Proofs.YtgaakhiapgmnbaaDoor
open Go.ChangeShapes Go.WideShapes Go.ChangeAt Go.RowKit Verge LI
set_option linter.unusedVariables false
set_option linter.unusedSimpArgs false
attribute [local go_sem] Oper.semAt_some

/-- behind an act: the row of nodes, the level -/
def LMc (w : World) (vb : Nat) (hd : Nat → Nat) (k : Nat) (ns : Value) (W : World) : Prop :=
  ∃ X V c nb ad cap, ns = .slice ad c cap ∧ LM w vb hd k X V c nb ad cap W

set_option maxHeartbeats 4000000 in
set_option maxRecDepth 100000 in
theorem LevelMap_walk (a : Option Addr) (len cap : Nat) (w : World) (hv : IsTab [.i .i64, .i .i64, .i .i64] w a len cap) (T : Tab w) :
    Calls Tryd.prog 4 #[.slice a len cap] w fun e w' => e = .returned (.bool true) ∧ Below w.heap.size w w' := by
  have hsm := hv.small
  have HV := Lib.hid hv
  have HT := Lib.hid T
  have t0 := T.lt
  clear hv T
  go_enter Tryd.func4, Tryd.ntmps4
  go_wp2_with fail
  refine (alive_any _ HT.out).mono ?_
  rintro e w1 ⟨rfl, c1⟩
  have C1 := Lib.hid c1
  clear c1
  by_cases h100 : 100 < len
  · go_wp2
    go_ret
    exact ⟨rfl, C1.out.below (Nat.le_refl _) (fun _ _ h => h.elim)⟩
  have hz2 : (len : Int) ≤ 100 := by omega
  go_wp2_with fail
  refine (newv_of _ (fun _ => 0)).mono ?_
  rintro e w2 ⟨vb, hd, rfl, h2, g2, c2⟩
  have hw := C1.out.size
  have M0 : Hid (LMc w vb hd 0 (.slice none 0 0) w2) :=
    Lib.hid ⟨_, _, 0, fun _ => 0, none, 0, rfl, h2, Row.nil _ _ _ _, fun j hj => by omega, fun s _ => by simp, by omega, fun g hg => (by cases hg), fun j hj => Nat.le_trans hw (g2 j hj), fun j hj => by omega, fun g hg => (by cases hg), C1.out.trans c2⟩
  clear h2 g2 c2
  go_wp2
  go_loopw [4, 5] (fun ns i wr => ∃ k : Nat, k ≤ len ∧ i = .int .i64 k ∧ LMc w vb hd k ns wr) (fun _ i _ => len - (intOf i).toNat)
  case atStart => exact ⟨0, by omega, rfl, M0.out⟩
  case round =>
    clear M0
    obtain ⟨k, hk, rfl, X, V, c, nb, ad, cap', rfl, hm⟩ := hrel
    have M := Lib.hid hm
    clear hm
    by_cases hlt : k < len
    · rcases HV.out with ⟨-, h0, -⟩ | ⟨x, rfl, hcap1, hcap2, hx⟩
      · omega
      obtain ⟨_, q0, y0, rfl, -⟩ := hx k hlt 0 _ rfl
      obtain ⟨_, q1, y1, rfl, wy1⟩ := hx k hlt 1 _ rfl
      obtain ⟨_, q2, y2, rfl, wy2⟩ := hx k hlt 2 _ rfl
      have q0' := M.out.ch.keeps q0 (fun e => e)
      have q1' := cell_at (k * 3) 1 (M.out.ch.keeps q1 (fun e => e))
      have q2' := cell_at (k * 3) 2 (M.out.ch.keeps q2 (fun e => e))
      rw [show k * [Leaf.i .i64, .i .i64, .i .i64].length + 0 = k * 3 from rfl] at q0'
      have hkz : (k : Int) < (len : Int) := by omega
      have hkz0 : (0 : Int) ≤ (k : Int) := by omega
      clear hx q0 q1 q2 wy1 wy2
      go_upto_block 2 with (fail)
      clear q0' q1' q2'
      have M4 := Lib.hid (M.out.nil (w5 := wr.alloc (.cells #[.int .i64 y0, .int .i64 y1, .int .i64 y2] 36)) ((Ch.refl _ _).alloc _))
      have b0 : (wr.alloc (.cells #[.int .i64 y0, .int .i64 y1, .int .i64 y2] 36)).cell? ⟨wr.heap.size, 0, none⟩ = some (.int .i64 y0) := by simp [cell_fresh]
      have b1 : (wr.alloc (.cells #[.int .i64 y0, .int .i64 y1, .int .i64 y2] 36)).cell? ⟨wr.heap.size, 1, none⟩ = some (.int .i64 y1) := by simp [cell_fresh]
      have b2 : (wr.alloc (.cells #[.int .i64 y0, .int .i64 y1, .int .i64 y2] 36)).cell? ⟨wr.heap.size, 2, none⟩ = some (.int .i64 y2) := by simp [cell_fresh]
      generalize wr.alloc (.cells #[.int .i64 y0, .int .i64 y1, .int .i64 y2] 36) = w4 at M4 b0 b1 b2 ⊢
      have tbx : ¬ LvB vb hd X wr.heap.size := fun e => by have := M.out.low.1 _ e; omega
      generalize wr.heap.size = tb at b0 b1 b2 tbx ⊢
      clear M
      have hcn := M4.out.cn
      go_cut [4, 7] from 18 to 98 (fun ns _ wc => LMc w vb hd (k + 1) ns wc)
      case first =>
        by_cases z0 : y0 = 0
        · subst z0
          -- Put of a new node
          obtain ⟨l1, l2, l3⟩ := M4.out.low
          have cn : Ch Nil w4 (w4.alloc (.cells #[.int .i64 (k : Nat), .pointer none, .pointer none, .pointer none] 30)) := (Ch.refl _ _).alloc _
          have M5 := Lib.hid (M4.out.nil cn)
          have d1 := cn.keeps b1 (fun e => e)
          have nn : IsN (w4.alloc (.cells #[.int .i64 (k : Nat), .pointer none, .pointer none, .pointer none] 30)) w4.heap.size (k : Nat) none none none := IsN.made w4 _ _
          have x1 : ¬ LvB vb hd X w4.heap.size := fun e => by have := l1 _ e; omega
          have x2 : ∀ j, j < c → nb j ≠ w4.heap.size := fun j hj e => by have := l2 j hj; omega
          have x3 : ¬ OwnS ad w4.heap.size := fun e => by have := l3 _ e; omega
          have x4 : w.heap.size ≤ w4.heap.size := M4.out.ch.size
          have x5 : w4.heap.size < (w4.alloc (.cells #[.int .i64 (k : Nat), .pointer none, .pointer none, .pointer none] 30)).heap.size := by simp
          have NN := Lib.hid nn
          have X1 := Lib.hid x1
          have X2 := Lib.hid x2
          have X3 := Lib.hid x3
          clear nn x1 x2 x3 l1 l2 l3 cn
          go_upto_region 15 with (fail)
          generalize w4.alloc (.cells #[.int .i64 (k : Nat), .pointer none, .pointer none, .pointer none] 30) = w5 at M5 d1 NN x5 ⊢
          generalize w4.heap.size = b at NN X1 X2 X3 x4 x5 ⊢
          clear b0 b1 b2
          by_cases hr : 0 ≤ y1 ∧ y1 < 64
          · obtain ⟨hr0, hr1⟩ := hr
            obtain ⟨s, rfl⟩ := Int.eq_ofNat_of_zero_le hr0
            have hs : s < 64 := by omega
            have P := Lib.hid (vput_of (s := s) (b := b) (M5.out.val X1.out (k : Nat)) hs (by rw [upd_same]; exact NN.out) X1.out (by have := M5.out.ln s hs; omega))
            go_wp2_with fail
            refine P.out.mono ?_
            rintro e w6 ⟨rfl, h6, c6⟩
            have H6 := Lib.hid h6
            have C6 := Lib.hid c6
            have R6 := Lib.hid ((M5.out.r.kept c6 (fun j hj e => by rcases e with e | e; exact (M5.out.ra j hj).1 e; exact X3.out (e ▸ hj))).kept (S := Nil) ((Ch.refl Nil w6).alloc (Obj.cells #[.pointer (some ⟨b, 0, none⟩)] 27)) (fun _ _ e => e))
            clear h6 c6 P d1
            go_wp2_with (at_builtin; refine append_row _ rfl _ _ _ rfl 27 (.pointer none) 1 8 Tryd.underlying26 (by kernel_rfl) rfl (by omega) (by omega) rfl R6.out (by omega) w6.heap.size 1 [.pointer (some ⟨b, 0, none⟩)] 27 rfl rfl (heap_alloc_new w6 _) (by simp [Value.oneCell']) (ptrM (upd nb c b)) (fun i hi => by dsimp only [ptrM]; rw [upd_other _ _ _ _ (by omega)]) (by intro j u hu; obtain rfl : j = 0 := (by cases j; rfl; simp at hu); simp at hu; subst hu; simp [ptrM, upd_same]) _ rfl ?_)
            intro g cap7 w7 row7 ch7 at7 lt7
            have c7 : Ch (OwnS ad) w6 w7 := (((Ch.refl Nil w6).alloc _).mono (fun _ _ e => e.elim)).trans ch7
            have FIN := Lib.hid (M5.out.put X1.out X2.out X3.out x4 x5 hs H6.out C6.out c7 row7 at7 (by simp))
            clear ch7 row7 at7 lt7 R6 c7
            go_wp2
            go_meet
            case rel => exact ⟨_, _, _, _, _, _, rfl, FIN.out⟩
          · have hz : y1 < 0 ∨ 64 ≤ y1 := by omega
            go_wp2_with fail
            refine (vput_range vb y1 hz _ _).mono ?_
            rintro e w6 ⟨rfl, rfl⟩
            clear d1
            go_wp2
            go_meet
            case rel => exact ⟨_, _, _, _, _, _, rfl, M5.out.more⟩
        · have e0 : (y0 == 0) = false := by rw [beq_eq_false_iff_ne]; exact z0
          by_cases z1 : y0 = 1 ∧ 0 < c
          · obtain ⟨rfl, hc⟩ := z1
            -- Remove
            obtain ⟨m1, hm1⟩ : ∃ m1, (if 0 < y2 then y2 else 0) = m1 := ⟨_, rfl⟩
            have g1 : 0 ≤ m1 := by rw [← hm1]; split <;> omega
            obtain ⟨j, hj⟩ : ∃ j : Nat, m1 % (c : Int) = (j : Int) := ⟨(m1 % (c : Int)).toNat, by have := Int.emod_nonneg m1 (show (c : Int) ≠ 0 by omega); omega⟩
            have hjc : j < c := by have := Int.emod_lt_of_pos m1 (show (0 : Int) < c by omega); omega
            obtain ⟨g, rfl, -⟩ := M4.out.r.form hc
            have q1 : w4.drew.cell? ⟨g, j, none⟩ = some (.pointer (some ⟨nb j, 0, none⟩)) := M4.out.r.cell j (by omega)
            have lc := M4.out.r.len_cap
            have hjz : (j : Int) < (c : Int) := by omega
            have hjz0 : (0 : Int) ≤ (j : Int) := by omega
            have dc : decide (0 < c) = true := by rw [decide_eq_true_eq]; exact hc
            have dc2 : decide ((0 : Int) < (c : Int)) = true := by rw [decide_eq_true_eq]; omega
            have hcz : (0 : Int) < (c : Int) := by omega
            have hc0 : ¬ ((c : Int) = 0) := by omega
            have hc1 : ((c : Int) == 0) = false := by rw [beq_eq_false_iff_ne]; exact hc0
            have hc2 : ¬ (c = 0) := by omega
            have D1 : w4.drew.cell? ⟨tb, 1, none⟩ = some (.int .i64 y1) := b1
            have D2 : w4.drew.cell? ⟨tb, 2, none⟩ = some (.int .i64 y2) := b2
            have M5 := Lib.hid (M4.out.nil ((Ch.refl Nil w4).drew))
            have HM1 := Lib.hid hm1
            have HJ : Hid (m1.tmod (c : Int) = (j : Int)) := Lib.hid ((Int.tmod_eq_emod_of_nonneg g1).trans hj)
            clear hm1 hj
            go_upto_region 18 with (fail)
            have hm1 := HM1.out
            have hj := HJ.out
            refine wp_region_held_drew (S := fun w' => w'.cell? ⟨g, j, none⟩ = some (.pointer (some ⟨nb j, 0, none⟩)) ∧ w'.cell? ⟨tb, 1, none⟩ = some (.int .i64 y1) ∧ w'.cell? ⟨tb, 2, none⟩ = some (.int .i64 y2)) (by kernel_rfl) ⟨q1, D1, D2⟩ (fun hHeld => ?_)
            clear b0 b1 b2
            generalize w4.drew = w5 at M5 q1 D1 D2 hHeld ⊢
            refine take_at (v := ?_) 0 (some 54) rfl (by kernel_rfl) (by kernel_rfl) (by kernel_rfl) (by kernel_rfl) (fun _ _ _ h => h) (Or.inl ⟨by rfl, ?_⟩) (by assumption) ?_
            rotate_left
            · intro w hSw; (try dsimp only at hSw); go_simp; try (with_reducible rfl)
            (try simp only [Act.put, List.setIfInBounds_toArray, List.set_cons_zero, List.set_cons_succ])
            refine take_at (v := ?_) 1 (some 55) rfl (by kernel_rfl) (by kernel_rfl) (by kernel_rfl) (by kernel_rfl) (fun _ _ _ h => h) (Or.inl ⟨by rfl, ?_⟩) (by assumption) ?_
            rotate_left
            · intro w hSw; (try dsimp only at hSw); go_simp; try (with_reducible rfl)
            (try simp only [Act.put, List.setIfInBounds_toArray, List.set_cons_zero, List.set_cons_succ])
            refine take_at (v := ?_) 2 (some 56) rfl (by kernel_rfl) (by kernel_rfl) (by kernel_rfl) (by kernel_rfl) (fun _ _ _ h => h) (Or.inl ⟨by rfl, ?_⟩) (by assumption) ?_
            rotate_left
            · intro w hSw; (try dsimp only at hSw); go_simp; try (with_reducible rfl)
            (try simp only [Act.put, List.setIfInBounds_toArray, List.set_cons_zero, List.set_cons_succ])
            refine take_at (v := ?_) 3 (some 57) rfl (by kernel_rfl) (by kernel_rfl) (by kernel_rfl) (by kernel_rfl) (fun _ _ _ h => h) (Or.inl ⟨by rfl, ?_⟩) (by assumption) ?_
            rotate_left
            · intro w hSw; (try dsimp only at hSw); go_simp; try (with_reducible rfl)
            (try simp only [Act.put, List.setIfInBounds_toArray, List.set_cons_zero, List.set_cons_succ])
            refine take_at (v := ?_) 4 (some 58) rfl (by kernel_rfl) (by kernel_rfl) (by kernel_rfl) (by kernel_rfl) (fun _ _ _ h => h) (Or.inl ⟨by rfl, ?_⟩) (by assumption) ?_
            rotate_left
            · intro w hSw; (try dsimp only at hSw); go_simp; try (with_reducible rfl)
            (try simp only [Act.put, List.setIfInBounds_toArray, List.set_cons_zero, List.set_cons_succ])
            refine take_at (v := ?_) 5 (some 59) rfl (by kernel_rfl) (by kernel_rfl) (by kernel_rfl) (by kernel_rfl) (fun _ _ _ h => h) (Or.inl ⟨by rfl, ?_⟩) (by assumption) ?_
            rotate_left
            · intro w hSw; (try dsimp only at hSw); go_simp; try (with_reducible rfl)
            (try simp only [Act.put, List.setIfInBounds_toArray, List.set_cons_zero, List.set_cons_succ])
            refine take_at (v := ?_) 6 (some 60) rfl (by kernel_rfl) (by kernel_rfl) (by kernel_rfl) (by kernel_rfl) (fun _ _ _ h => h) (Or.inl ⟨by rfl, ?_⟩) (by assumption) ?_
            rotate_left
            · intro w hSw; (try dsimp only at hSw); go_simp; try (with_reducible rfl)
            (try simp only [Act.put, List.setIfInBounds_toArray, List.set_cons_zero, List.set_cons_succ])
            refine take_at (v := ?_) 7 (some 61) rfl (by kernel_rfl) (by kernel_rfl) (by kernel_rfl) (by kernel_rfl) (fun _ _ _ h => h) (Or.inl ⟨by rfl, ?_⟩) (by assumption) ?_
            rotate_left
            · intro w hSw; (try dsimp only at hSw); go_simp; try (with_reducible rfl)
            (try simp only [Act.put, List.setIfInBounds_toArray, List.set_cons_zero, List.set_cons_succ])
            refine take_at (v := ?_) 8 (some 62) rfl (by kernel_rfl) (by kernel_rfl) (by kernel_rfl) (by kernel_rfl) (fun _ _ _ h => h) (Or.inl ⟨by rfl, ?_⟩) (by assumption) ?_
            rotate_left
            · intro w hSw; (try dsimp only at hSw); go_simp; try (with_reducible rfl)
            (try simp only [Act.put, List.setIfInBounds_toArray, List.set_cons_zero, List.set_cons_succ])
            refine take_at (v := ?_) 9 (some 63) rfl (by kernel_rfl) (by kernel_rfl) (by kernel_rfl) (by kernel_rfl) (fun _ _ _ h => h) (Or.inl ⟨by rfl, ?_⟩) (by assumption) ?_
            rotate_left
            · intro w hSw; (try dsimp only at hSw); go_simp; try (with_reducible rfl)
            (try simp only [Act.put, List.setIfInBounds_toArray, List.set_cons_zero, List.set_cons_succ])
            refine take_at (v := ?_) 10 (some 64) rfl (by kernel_rfl) (by kernel_rfl) (by kernel_rfl) (by kernel_rfl) (fun _ _ _ h => h) (Or.inl ⟨by rfl, ?_⟩) (by assumption) ?_
            rotate_left
            · intro w hSw; (try dsimp only at hSw); go_simp; try (with_reducible rfl)
            (try simp only [Act.put, List.setIfInBounds_toArray, List.set_cons_zero, List.set_cons_succ])
            refine take_at (v := ?_) 11 (some 65) rfl (by kernel_rfl) (by kernel_rfl) (by kernel_rfl) (by kernel_rfl) (fun _ _ _ h => h) (Or.inl ⟨by rfl, ?_⟩) (by assumption) ?_
            rotate_left
            · intro w hSw; (try dsimp only at hSw); go_simp; try (with_reducible rfl)
            (try simp only [Act.put, List.setIfInBounds_toArray, List.set_cons_zero, List.set_cons_succ])
            refine wpAnyH_ready (rs := [12]) (by kernel_rfl) (by simp) ?_
            refine AllReadyH.cons rfl (fun K hK => ?_) AllReadyH.nil
            go_simp
            clear hm1 hj HM1 HJ
            by_cases hr : 0 ≤ y1 ∧ y1 < 64
            · obtain ⟨hr0, hr1⟩ := hr
              obtain ⟨s, rfl⟩ := Int.eq_ofNat_of_zero_le hr0
              refine (M5.out.rem (s := s) (by omega) hjc (by omega)).mono ?_
              rintro e w6 ⟨⟨r, rfl⟩, ⟨X', m6⟩, c6⟩
              have M6 := Lib.hid m6
              refine hK.out _ _ ⟨c6.keeps q1 (M5.out.ra g rfl).1, c6.keeps D1 tbx, c6.keeps D2 tbx⟩ (fun hHeld => ?_)
              clear hK K m6 c6 q1 D1 D2
              (try simp only [Act.put, List.setIfInBounds_toArray, List.set_cons_zero, List.set_cons_succ])
              refine wpAnyH_done (by kernel_rfl) ?_ _
              go_wp2
              go_meet
              case rel => exact ⟨_, _, _, _, _, _, rfl, M6.out.more⟩
            · have hz : y1 < 0 ∨ 64 ≤ y1 := by omega
              refine (vrem_range vb y1 hz _ _).mono ?_
              rintro e w6 ⟨rfl, rfl⟩
              refine hK.out _ _ ⟨q1, D1, D2⟩ (fun hHeld => ?_)
              clear hK K q1 D1 D2
              (try simp only [Act.put, List.setIfInBounds_toArray, List.set_cons_zero, List.set_cons_succ])
              refine wpAnyH_done (by kernel_rfl) ?_ _
              go_wp2
              go_meet
              case rel => exact ⟨_, _, _, _, _, _, rfl, M5.out.more⟩
          · by_cases z2 : y0 = 2
            · subst z2
              by_cases hr : 0 ≤ y1 ∧ y1 < 64
              · obtain ⟨hr0, hr1⟩ := hr
                obtain ⟨s, rfl⟩ := Int.eq_ofNat_of_zero_le hr0
                go_wp2_with fail
                refine (M4.out.take (s := s) (by omega) (by omega)).mono ?_
                rintro e w6 ⟨⟨a', n', cp', rfl⟩, X', m6⟩
                have M6 := Lib.hid m6
                clear m6 b0 b1 b2
                go_wp2
                go_meet
                case rel => exact ⟨_, _, _, _, _, _, rfl, M6.out.more⟩
              · have hz : y1 < 0 ∨ 64 ≤ y1 := by omega
                go_wp2_with fail
                refine (vtake_range vb y1 hz _).mono ?_
                rintro e w6 ⟨rfl, rfl⟩
                clear b0 b1 b2
                go_wp2
                go_meet
                case rel => exact ⟨_, _, _, _, _, _, rfl, M4.out.more⟩
            · have e2 : (y0 == 2) = false := by rw [beq_eq_false_iff_ne]; exact z2
              by_cases z3 : y0 = 1
              · subst z3
                have hc : c = 0 := by omega
                subst hc
                go_wp2
                clear b0 b1 b2
                go_meet
                case rel => exact ⟨_, _, _, _, _, _, rfl, M4.out.more⟩
              · have e1 : (y0 == 1) = false := by rw [beq_eq_false_iff_ne]; exact z3
                go_wp2
                clear b0 b1 b2
                go_meet
                case rel => exact ⟨_, _, _, _, _, _, rfl, M4.out.more⟩
      case rest =>
        clear M4 b0 b1 b2 hcn
        obtain ⟨X, V, c, nb, ad, cap', rfl, hm⟩ := hcut
        have M := Lib.hid hm
        have LN := Lib.hid hm.ln
        clear hm
        go_wp2
        obtain ⟨wo, hwo⟩ : ∃ wo : World, wo = wc := ⟨_, rfl⟩
        rw [← hwo] at M
        have HWO := Lib.hid hwo
        clear hwo
        go_loopw [8, 9] (fun n i wr => ∃ j : Nat, j ≤ 64 ∧ n = .int .i64 (totUpto X j : Nat) ∧ i = .int .i64 j ∧ LM w vb hd (k + 1) X V c nb ad cap' wr) (fun _ i _ => 64 - (intOf i).toNat)
        case atStart => exact ⟨0, by omega, rfl, rfl, by rw [← HWO.out]; exact M.out⟩
        case round =>
          clear M HWO
          obtain ⟨j, hj, rfl, rfl, hm⟩ := hrel
          have M := Lib.hid hm
          clear hm
          have tl := totUpto_le (X := X) (b := k + 1) j (fun i hi => LN.out i (by omega))
          have tl2 : totUpto X j ≤ 7000 := Nat.le_trans tl (Nat.le_trans (Nat.mul_le_mul hj (show k + 1 ≤ 100 by omega)) (by decide))
          clear tl
          by_cases hlt2 : j < 64
          · have hjz : (j : Int) < 64 := by omega
            have hjz0 : (0 : Int) ≤ (j : Int) := by omega
            have l1 := LN.out j hlt2
            have P := Lib.hid (vat_of (s := j) M.out.l hlt2 (by omega))
            have hst : totUpto X (j + 1) = totUpto X j + (X j).length := rfl
            have HST := Lib.hid hst
            clear hst
            go_wp2_with fail
            refine P.out.mono ?_
            rintro e w5 ⟨a5, c5, rfl, r5, g5, ch5⟩
            have M5 := Lib.hid (M.out.nil ch5)
            clear r5 g5 ch5 P M
            have P := Lib.hid (map_of M5.out.l)
            go_wp2_with fail
            refine P.out.mono ?_
            rintro e w6 ⟨rfl, rfl⟩
            clear P
            go_wp2_with fail
            refine (has_any (mapX X) j mapX_lt _).mono ?_
            rw [mapX_has hlt2]
            rintro e w6 ⟨rfl, rfl⟩
            have P := Lib.hid (vat_of (s := j) M5.out.l hlt2 (by omega))
            have hb : decide (X j ≠ []) = decide (0 < (X j).length) := by
              rw [decide_eq_decide, List.length_pos_iff]
            rw [hb]
            clear hb
            go_wp2_with fail
            refine P.out.mono ?_
            rintro e w7 ⟨a7, c7, rfl, r7, g7, ch7⟩
            have M7 := Lib.hid (M5.out.nil ch7)
            clear r7 g7 ch7 P M5
            generalize (X j).length = xl at *
            have eqb : (decide (0 < xl) != decide ((0 : Int) < (xl : Int))) = false := by
              have : decide ((0 : Int) < (xl : Int)) = decide (0 < xl) := by rw [decide_eq_decide]; omega
              rw [this]; simp
            generalize totUpto X j = tj at *
            go_wp2
            go_roundw
            case rel => exact ⟨j + 1, by omega, by rw [HST.out]; go_num, by go_num, M7.out⟩
            case measure => simp [intOf]; omega
          · obtain rfl : j = 64 := by omega
            have P := Lib.hid (vlen_of M.out.l (HT.out.keeps M.out.ch (fun e => e)) (fun i hi => by have := LN.out i hi; omega))
            go_wp2_with fail
            refine P.out.mono ?_
            rintro e w5 ⟨rfl, ch5⟩
            have M5 := Lib.hid (M.out.nil ch5)
            clear ch5 P M
            rw [show totX X = totUpto X 64 from rfl]
            generalize totUpto X 64 = tj at *
            go_wp2
            go_roundw
            case rel => exact ⟨k + 1, by omega, by go_num, _, _, _, _, _, _, rfl, M5.out⟩
            case measure => simp [intOf]; omega
    · obtain rfl : k = len := by omega
      go_wp2
      go_ret
      exact ⟨rfl, M.out.ch.below (Nat.le_refl _) (fun _ _ h => h.elim)⟩

theorem LevelMap_own : ownKnob Tryd.prog.godebug = none := by kernel_rfl
theorem LevelMap_laidOut : laidOutB Tryd.prog = true := by kernel_rfl

set_option maxRecDepth 100000 in
theorem LevelMap_lifted (os : Os) (started : os.Started) (H : Type) (enc : TypeId × Value → H) :
    ReturnsInHanded {} Tryd.checked os 4 .any (fun w args => (Rows.levelMapSpec.pre enc Tryd.prog Tryd.f4 [] false w args ∧ laidMetH Tryd.prog laidTab w) ∧ sizedMet enc Tryd.prog Tryd.f4 (OpenSpec.ofChange Rows.levelMapSpec) false w args) (Rows.levelMapSpec.post enc Tryd.prog Tryd.f4 false true false false) := by
  refine returnsInHanded_of_change_and (C := Tryd.checked) (X := fun w _ => laidMetH Tryd.prog laidTab w) (fun _ _ _ hh h => h.of_heap hh) LevelMap_own started (by kernel_rfl) Tryd.func4
    (ChangeSpec.witness_shaped (enc := enc) (C := Tryd.checked) (os := os) (X := fun w _ => laidMetH Tryd.prog laidTab w) false (World.doorLaid Tryd.prog doorSteps os) #[.slice none 0 0] 8 rfl (World.shaped_of_RefB (by kernel_rfl) (by kernel_rfl)) (by kernel_rfl) (by kernel_rfl) (by kernel_rfl) (door_met os _)) ?_
  intro W base args ds gs before hval0 hW _ _ hL _
  have TB := tab_of_laid hL
  have hval : ∀ (j : Nat) t v, Tryd.f4.params[j]? = some t → args[j]? = some v → Value.okWide Tryd.prog W .any base t v := hval0
  have hW' := hW
  obtain ⟨p, q, hA0, hV, rfl, hfz, hnd⟩ := hW
  have hA : DataW.TrodAll enc Tryd.prog W 0 (fun _ => true) true Tryd.f4.params.toList args.toList ds p := hA0
  rw [Tryd.params4] at hA hval
  obtain ⟨v0, vs0, d0, ds0, p0, q0, hargs, rfl, rfl, h0, r0⟩ := trodAll_cons hA
  obtain ⟨rfl, rfl, rfl⟩ := trodAll_nil r0
  obtain rfl : args = #[v0] := by cases args; simp_all
  obtain ⟨rfl, rfl⟩ := trodVars_none hV
  obtain ⟨a0, len0, cap0, rfl⟩ := okWide_slice Tryd.underlying22 (hval 0 22 v0 rfl rfl)
  have k0 := h0
  have lt0 : ∀ x ∈ p0, x.block < W.heap.size := by obtain ⟨m, hm⟩ := k0; exact DataW.trod_lt m _ _ _ hm
  have w0 : IsTab [.i .i64, .i .i64, .i .i64] W a0 len0 cap0 := by
    obtain ⟨fuel, hf⟩ := h0
    exact open_tab _ Tryd.underlying22 Tryd.underlying36 (by kernel_rfl) (by kernel_rfl) hf
  clear hA0 hval0
  refine (LevelMap_walk a0 len0 cap0 W w0 TB).mono fun e W' ⟨he, bel⟩ => ?_
  subst he
  exact ⟨_, rfl, _, _, _, [], _, [], hW', trodAll_mk1 (shut_bool Tryd.underlying4 _), (trodAll_cons_mk (Below.trod LevelMap_laidOut (by kernel_rfl) (of_decide_eq_true (by kernel_rfl)) k0 bel lt0) trodAll_mk0), rfl, bel.frame _, fun h => by cases h⟩

theorem levelMap_holds : Rows.LevelMapSaid :=
  OpenClaim.holds_of_wide 4 Tryd.f4 rfl rfl rfl rfl rfl rfl rfl ⟨rfl, rfl, rfl, rfl, rfl⟩ rfl rfl rfl rfl rfl (by kernel_rfl) Tryd.func4 (by kernel_rfl)
    (of_decide_eq_true (by kernel_rfl)) (by unfold Func.isWrapper; rw [if_neg (of_decide_eq_false (by kernel_rfl))]; exact ⟨rfl, rfl⟩)
    (fun os started H enc _ => LevelMap_lifted os started H enc)

theorem levelMap_card_holds : Rows.LevelMapCardSaid :=
  Claim7.holds_tied_plain_at .later [] [.data] true (true, "a12f025456261448af86dfd14c67baf3c7b44116e69f89940250fcbef63c66f8") false
    levelMap_holds (fun _ h => by cases h) (by kernel_rfl) (fun _ h => by cases h) levelMap_row_tie rfl ⟨rfl, rfl⟩ (by kernel_rfl) rfl
    (fun f fn hf hfn => by
      obtain rfl : f = 4 := Option.some.inj ((show Tryd.prog.funcNamed Rows.levelMapRow.func = some 4 by kernel_rfl).symm.trans hf) |>.symm
      obtain rfl : fn = Tryd.f4 := (Option.some.inj (Tryd.func4.symm.trans hfn)).symm
      exact ⟨by kernel_rfl, fun j t ht => by
        rw [Tryd.params4] at ht
        have hm : t ∈ [22] := by have := Array.mem_of_getElem? ht; simp at this; simp [this]
        have hall : ([22].all fun u => !Tryd.prog.wantsStandIn u) = true := by kernel_rfl
        exact (show Tryd.prog.wantsStandIn t = false by simpa using List.all_eq_true.1 hall t hm)⟩)
    (by kernel_rfl)
end Go.Proofs.YtgaakhiapgmnbaaDoor
