/-
  The document's example, as the statements ask it.
-/
import Derived.Test.YtgaakhiapgmnbaaDoorLevelTake
import Derived.Test.YtgaakhiapgmnbaaDoorLevelNew
namespace Go.Proofs.YtgaakhiapgmnbaaDoor
open Go.RowKit Verge LI
attribute [local go_sem] Oper.semAt_some
set_option linter.unusedVariables false
set_option linter.unusedSimpArgs false

theorem with_lit (m : Nat) (s r : Nat) (hm : m < 18446744073709551616) (e : withN m s = r) (w : World) :
    Calls Tryd.prog 20 #[.int .u64 (m : Nat), .int .i64 (s : Nat)] w fun e w' => e = .returned (.int .u64 (r : Nat)) ∧ w = w' := by
  subst e; exact with_any m s hm w
/-- two nodes held against each other: the same -/
theorem eqlN_same {w : World} {b : Nat} (h : Blk w b) : (binOp .eql 27 (.pointer (some ⟨b, 0, none⟩)) (.pointer (some ⟨b, 0, none⟩))).run Tryd.prog w = .ok (.bool true) w := by
  have hE := eqlN (w := w) (some b) (some b) (fun x e => by cases e; exact h) (fun x e => by cases e; exact h)
  rw [decide_eq_true rfl] at hE
  simpa only [pt_some] using hE
theorem mapX_upd {X : Nat → List Nat} {s : Nat} (hs : s < 64) (ys : List Nat) : mapX (upd X s ys) = if ys = [] then woN (mapX X) s else withN (mapX X) s := by
  rw [← markN_mapX (X := X) (Y := upd X s ys) hs (fun i hi hne => (upd_other _ _ _ _ hne).symm)]
  unfold markN; rw [upd_same]

set_option maxHeartbeats 2000000 in
set_option maxRecDepth 100000 in
theorem alive_any (w : World) (T : Tab w) :
    Calls Tryd.prog 7 #[] w fun e w' => e = .returned (.bool true) ∧ Ch Nil w w' := by
  have HT := Lib.hid T.lt
  clear T
  go_enter Tryd.func7, Tryd.ntmps7
  go_wp2_with fail
  refine (newv_of _ (fun _ => 0)).mono ?_
  rintro e w1 ⟨vb, hd, rfl, h1, g1, c1⟩
  have H1 := Lib.hid h1
  have C1 := Lib.hid c1
  have G1 := Lib.hid g1
  have LT1 := Lib.hid fun k (hk : LvB vb hd (fun _ => []) k) => h1.lt hk
  clear h1 c1 g1
  obtain ⟨na, hna⟩ : ∃ na, na = w1.heap.size := ⟨_, rfl⟩
  obtain ⟨w2, hw2⟩ : ∃ w2, w2 = w1.alloc (.cells #[.int .i64 1, .pointer none, .pointer none, .pointer none] 30) := ⟨_, rfl⟩
  have s2 : w2.heap.size = na + 1 := by rw [hw2, hna]; simp
  obtain ⟨w3, hw3⟩ : ∃ w3, w3 = w2.alloc (.cells #[.int .i64 2, .pointer none, .pointer none, .pointer none] 30) := ⟨_, rfl⟩
  have c3 : Ch Nil w1 w3 := by rw [hw3, hw2]; exact ((Ch.refl _ _).alloc _).alloc _
  have n1 : IsN w3 na 1 none none none := by
    have := IsN.made w1 1 30
    rw [← hw2, ← hna] at this
    exact this.kept (S := Nil) (by rw [hw3]; exact (Ch.refl _ _).alloc _) (fun e => e)
  have n2 : IsN w3 (na + 1) 2 none none none := by
    have := IsN.made w2 2 30
    rw [← hw3, s2] at this
    exact this
  have h3 : IsLv w3 vb hd (fun _ => []) (upd (fun _ => 1) (na + 1) 2) := (H1.out.kept c3 (fun _ _ e => e)).congr _ (fun i b _ hb => by cases hb)
  have x1 : ¬ LvB vb hd (fun _ => []) na := fun e => by have := LT1.out _ e; omega
  have x2 : ¬ LvB vb hd (fun _ => []) (na + 1) := fun e => by have := LT1.out _ e; omega
  have C3 := Lib.hid (C1.out.trans c3)
  have H3 := Lib.hid h3
  have hw1 := C1.out.size
  have P1 := Lib.hid (vput_of (s := 3) (b := na) h3 (by omega) (by rw [upd_other _ _ _ _ (by omega)]; exact n1) x1 (by simp))
  have N2 := Lib.hid n2
  have X2 := Lib.hid x2
  clear h3 n1 n2 c3 x1 x2
  have hle : w1.heap.size ≤ na := by omega
  have HA := Lib.hid hna
  have HW2 := Lib.hid hw2
  have HW3 := Lib.hid hw3
  have S2 := Lib.hid s2
  clear hna hw2 hw3 s2
  go_upto_region 5 with (fail)
  rw [← HW2.out, ← HA.out, ← HW3.out]
  clear HA HW2 HW3
  go_wp2_with fail
  refine P1.out.mono ?_
  rintro e w4 ⟨rfl, h4, c4⟩
  have v4 : ¬ LvB vb hd (upd (fun _ => []) 3 ([] ++ [na])) (na + 1) := fun e => by
    rcases LvB.upd (P := One na) (X := fun _ => []) (by omega) (fun b hb => by simpa using hb) e with e | e
    · exact X2.out e
    · have : na + 1 = na := e; omega
  have P2 := Lib.hid (vput_of (s := 40) (b := na + 1) h4 (by omega) (by rw [upd_same]; exact N2.out.kept c4 (by rintro (e | e); exact X2.out e; omega)) v4 (by simp [upd]))
  have C4 := Lib.hid (C3.out.up c4 (by rintro k (hk | rfl); exact G1.out k hk; omega))
  clear h4 c4 v4 H3 N2
  go_wp2_with fail
  refine P2.out.mono ?_
  rintro e w5 ⟨rfl, h5, c5⟩
  have hi4 : ∀ k, LvB vb hd (upd (fun _ => []) 3 ([] ++ [na])) k ∨ k = na + 1 → w.heap.size ≤ k := by
    rintro k (hk | rfl)
    · rcases LvB.upd (P := One na) (X := fun _ => []) (by omega) (fun b hb => by simpa using hb) hk with e | e
      · exact G1.out _ e
      · have : k = na := e; omega
    · omega
  have C5 := Lib.hid (C4.out.up c5 hi4)
  clear c5 P1 P2
  obtain ⟨Y, hY⟩ : ∃ Y, Y = upd (upd (fun _ => ([] : List Nat)) 3 ([] ++ [na])) 40 (upd (fun _ => ([] : List Nat)) 3 ([] ++ [na]) 40 ++ [na + 1]) := ⟨_, rfl⟩
  rw [← hY] at h5
  have y3 : Y 3 = [na] := by rw [hY]; rfl
  have hiY : ∀ k, LvB vb hd Y k → w.heap.size ≤ k := by
    intro k hk
    rw [hY] at hk
    exact hi4 k (LvB.upd (P := One (na + 1)) (by omega) (fun b hb => by simpa using hb) hk)
  have m0 : mapX Y = 1099511627784 := by
    rw [hY, mapX_upd (by omega), if_neg (by simp), mapX_upd (by omega), if_neg (by simp), mapX_empty (fun _ _ => rfl)]; decide
  have m1 : mapX (upd Y 3 []) = 1099511627776 := by
    rw [mapX_upd (by omega), if_pos rfl, m0]; decide
  have M := Lib.hid (map_of h5)
  rw [m0] at M
  have TK := Lib.hid (vtake_of (s := 3) h5 (by omega) (by rw [y3]; simp))
  rw [y3] at TK
  have HIY := Lib.hid hiY
  have M1 := Lib.hid m1
  clear h5 y3 m0 m1 hY hi4 hiY
  go_wp2_with fail
  refine M.out.mono ?_
  rintro e w6 ⟨rfl, rfl⟩
  go_wp2_with fail
  refine TK.out.mono ?_
  rintro e w7 ⟨a, cap, rfl, r7, -, h7, n7, c7⟩
  obtain ⟨g, rfl, -⟩ := r7.form (by simp)
  have q0 : w7.cell? ⟨g, 0, none⟩ = some (.pointer (some ⟨na, 0, none⟩)) := r7.cell 0 (by simp)
  have q1 := eqlN_same (n7 na (by simp)).k
  have lc := r7.len_cap
  simp only [List.length_cons, List.length_nil, Nat.zero_add] at lc ⊢
  have M7 := Lib.hid (map_of h7)
  rw [M1.out] at M7
  have C7 := Lib.hid (C5.out.up c7 HIY.out)
  clear r7 h7 n7 c7 TK
  go_wp2_with fail
  refine (with_lit 0 3 8 (by decide) (by decide) _).mono ?_
  rintro e w8 ⟨rfl, rfl⟩
  go_wp2_with fail
  refine (with_lit 8 40 1099511627784 (by decide) (by decide) _).mono ?_
  rintro e w8 ⟨rfl, rfl⟩
  go_wp2_with fail
  refine M7.out.mono ?_
  rintro e w8 ⟨rfl, rfl⟩
  go_wp2_with fail
  refine (with_lit 0 40 1099511627776 (by decide) (by decide) _).mono ?_
  rintro e w8 ⟨rfl, rfl⟩
  go_wp2
  go_ret
  exact ⟨rfl, C7.out⟩
end Go.Proofs.YtgaakhiapgmnbaaDoor
