/-
  Contract of the document's answer for what comes of an event (vergeref02.Next): it returns what nxZ says.
-/
import Derived.Test.YtjhmmfdmoalfmaaWordWalks5
namespace Go.Proofs.Ytjhmmfdmoalfmaa
open Go.RowKit Verge
attribute [local go_sem] Oper.semAt_some
set_option linter.unusedVariables false

theorem flat6 : ∀ (l : List Rw) (k j : Nat), j < 6 → (l.flatMap rwCells)[k * 6 + j]? = (l[k]?).bind fun r => (rwCells r)[j]?
  | [], k, j, _ => by simp
  | r :: l, 0, j, hj => by
    rw [List.flatMap_cons, List.getElem?_append_left (by simp [rwCells]; omega)]
    simp
  | r :: l, k + 1, j, hj => by
    rw [List.flatMap_cons, List.getElem?_append_right (by simp [rwCells]; omega)]
    have := flat6 l k j hj
    rw [show (k + 1) * 6 + j - (rwCells r).length = k * 6 + j by simp [rwCells]; omega, this]
    simp
theorem tab_at (k : Nat) (hk : k < 18) (j : Nat) (hj : j < 6) : tabCells[k * 6 + j]? = (rwCells (trow k))[j]? := by
  unfold tabCells
  rw [List.getElem?_toArray, flat6 tab k j hj]
  have hk' : k < tab.length := hk
  have : tab[k]? = some (trow k) := by
    unfold trow
    rw [List.getD_eq_getElem?_getD, List.getElem?_eq_getElem hk']; rfl
  rw [this]; rfl
theorem tab_cell (w wr : World) (hb : Below (w.heap.size + 1) (w.alloc (.cells tabCells 106)) wr) (k j : Nat) (hk : k < 18) (hj : j < 6) :
    wr.cell? ⟨w.heap.size, k * 6 + j, none⟩ = (rwCells (trow k))[j]? := by
  rw [hb.cell (show w.heap.size < w.heap.size + 1 by omega), ← tab_at k hk j hj]
  exact World.cell?_alloc_at _ _ _ _ rfl

theorem step_hit {ev s : Nat} {per l : Bool} {k : Nat} (h : ∀ j, j < k → hit ev s per l (trow j) = false) (hk : hit ev s per l (trow k) = false) :
    ∀ j, j < k + 1 → hit ev s per l (trow j) = false := by
  intro j hj
  by_cases e : j = k
  · rw [e]; exact hk
  · exact h j (by omega)

set_option maxHeartbeats 4000000 in
set_option maxRecDepth 100000 in
theorem refNext_ok (n ev : Nat) (per : Bool) (hn : n < 18446744073709551616) (hok : okW n = true) (he : 1 ≤ ev ∧ ev ≤ 10) (w : World) :
    Calls Try.prog 29 #[.int .u64 n, .int .i64 ev, .bool per] w fun e w' =>
      e = .returned (.tuple #[.int .u64 ((nxZ n ev per).1 : Nat), .int .i64 ((nxZ n ev per).2 : Nat)]) ∧ Below w.heap.size w w' := by
  have HO := Lib.hid hok
  have hgl : n / 256 ≤ 4294967295 := (okW_true.1 hok).2.2
  have hs6 : n % 8 ≤ 6 := (okW_true.1 hok).1
  obtain ⟨s, hs⟩ : ∃ s, n % 8 = s := ⟨_, rfl⟩
  obtain ⟨g, hg⟩ : ∃ g, n / 256 = g := ⟨_, rfl⟩
  obtain ⟨l, hl⟩ : ∃ l, lsW n = l := ⟨_, rfl⟩
  obtain ⟨z, hz⟩ : ∃ z : Int, (g : Int) = z := ⟨_, rfl⟩
  rw [hg] at hgl
  rw [hs] at hs6
  have hz0 : 0 ≤ z := by omega
  have hz1 : z ≤ 4294967295 := by omega
  have HZ := Lib.hid hz
  have HS := Lib.hid hs
  have HG := Lib.hid hg
  have HL := Lib.hid hl
  have HE := Lib.hid he
  have HS6 := Lib.hid hs6
  have HGL := Lib.hid hgl
  have hev1 : 1 ≤ ev := he.1
  have hev2 : ev ≤ 10 := he.2
  clear hs hg hl he hok hz hgl hs6
  go_enter Try.func29, Try.ntmps29
  go_wp2_with fail
  refine (parts_any n hn _).mono ?_
  rintro e w1 ⟨rfl, rfl⟩
  rw [HO.out, if_pos rfl, if_pos rfl, Bool.true_and, HS.out, HG.out, HL.out, HZ.out]
  go_wp2_with fail
  refine (rows_any _).mono ?_
  rintro e w1 ⟨rfl, rfl⟩
  go_wp2
  go_loopw [13] (fun i wr => ∃ k : Nat, k ≤ 18 ∧ i = .int .i64 k ∧ Below (w.heap.size + 1) (w.alloc (.cells tabCells 106)) wr ∧ ∀ j, j < k → hit ev s per l (trow j) = false) (fun i _ => 18 - (intOf i).toNat)
  case atStart => exact ⟨0, by omega, rfl, Below.refl _ _, fun j hj => absurd hj (by omega)⟩
  case round =>
    obtain ⟨k, hk, rfl, hb, hno⟩ := hrel
    have HB := Lib.hid hb
    have HN := Lib.hid hno
    clear hno
    by_cases hlt : k < 18
    · have c0 : wr.cell? ⟨w.heap.size, k * 6, none⟩ = some (.int .i64 ((trow k).1 : Nat)) := tab_cell w wr hb k 0 hlt (by omega)
      have c1 : wr.cell? ⟨w.heap.size, k * 6 + 1, none⟩ = some (.int .i64 ((trow k).2.1 : Nat)) := tab_cell w wr hb k 1 hlt (by omega)
      have c2 : wr.cell? ⟨w.heap.size, k * 6 + 2, none⟩ = some (.bool ((trow k).2.2.1)) := tab_cell w wr hb k 2 hlt (by omega)
      have c3 : wr.cell? ⟨w.heap.size, k * 6 + 3, none⟩ = some (.int .i64 ((trow k).2.2.2.1 : Nat)) := tab_cell w wr hb k 3 hlt (by omega)
      have c4 : wr.cell? ⟨w.heap.size, k * 6 + 4, none⟩ = some (.int .u64 ((trow k).2.2.2.2.1 : Nat)) := tab_cell w wr hb k 4 hlt (by omega)
      have c5 : wr.cell? ⟨w.heap.size, k * 6 + 5, none⟩ = some (.int .i64 ((trow k).2.2.2.2.2 : Nat)) := tab_cell w wr hb k 5 hlt (by omega)
      clear hb
      obtain ⟨r1, h1⟩ : ∃ x, (trow k).1 = x := ⟨_, rfl⟩
      obtain ⟨r2, h2⟩ : ∃ x, (trow k).2.1 = x := ⟨_, rfl⟩
      obtain ⟨r3, h3⟩ : ∃ x, (trow k).2.2.1 = x := ⟨_, rfl⟩
      obtain ⟨r4, h4⟩ : ∃ x, (trow k).2.2.2.1 = x := ⟨_, rfl⟩
      obtain ⟨r5, h5⟩ : ∃ x, (trow k).2.2.2.2.1 = x := ⟨_, rfl⟩
      obtain ⟨r6, h6⟩ : ∃ x, (trow k).2.2.2.2.2 = x := ⟨_, rfl⟩
      rw [h1] at c0
      rw [h2] at c1
      rw [h3] at c2
      rw [h4] at c3
      rw [h5] at c4
      rw [h6] at c5
      have H1 := Lib.hid h1
      have H2 := Lib.hid h2
      have H3 := Lib.hid h3
      have H4 := Lib.hid h4
      have H5 := Lib.hid h5
      have H6 := Lib.hid h6
      clear h1 h2 h3 h4 h5 h6
      have HC : Hid (Below (w.heap.size + 1) (w.alloc (.cells tabCells 106)) (wr.alloc (Obj.cells #[Value.int IntKind.i64 ↑r1, Value.int IntKind.i64 ↑r2, Value.bool r3, Value.int IntKind.i64 ↑r4, Value.int IntKind.u64 ↑r5, Value.int IntKind.i64 ↑r6] 106))) :=
        HB.out.alloc (by have := HB.out.size; simpa using this) _
      have HF : Hid (Below w.heap.size w (wr.alloc (Obj.cells #[Value.int IntKind.i64 ↑r1, Value.int IntKind.i64 ↑r2, Value.bool r3, Value.int IntKind.i64 ↑r4, Value.int IntKind.u64 ↑r5, Value.int IntKind.i64 ↑r6] 106))) :=
        ((Below.refl w.heap.size w).alloc (Nat.le_refl _) _).trans (HC.out.mono (by omega))
      by_cases hne : ((r1 : Int) != ev) = true
      · have HH : Hid (hit ev s per l (trow k) = false) := by
          show hit ev s per l (trow k) = false
          unfold hit
          rw [H1.out, show (r1 == ev) = false by simp at hne ⊢; omega]; rfl
        go_wp2
        exact ⟨⟨k + 1, by omega, rfl, HC.out, step_hit HN.out HH.out⟩, by simp [intOf]; omega⟩
      · have e1 : r1 = ev := by simp at hne; omega
        subst e1
        clear hne
        by_cases hne : ((r2 : Int) != s) = true
        · have HH : Hid (hit r1 s per l (trow k) = false) := by
            show hit r1 s per l (trow k) = false
            unfold hit
            rw [H1.out, H2.out, show (r2 == s) = false by simp at hne ⊢; omega]; simp
          go_wp2
          exact ⟨⟨k + 1, by omega, rfl, HC.out, step_hit HN.out HH.out⟩, by simp [intOf]; omega⟩
        · have e2 : r2 = s := by simp at hne; omega
          subst e2
          clear hne
          by_cases ha : (r3 && (!per || l)) = true
          · have HH : Hid (hit r1 r2 per l (trow k) = false) := by
              show hit r1 r2 per l (trow k) = false
              unfold hit
              rw [H1.out, H2.out, H3.out, ha]; simp
            have hr3 : r3 = true := by cases r3 <;> simp_all
            subst hr3
            cases per
            · go_wp2
              exact ⟨⟨k + 1, by omega, rfl, HC.out, step_hit HN.out HH.out⟩, by simp [intOf]; omega⟩
            · have hl : l = true := by simpa using ha
              subst hl
              go_wp2
              exact ⟨⟨k + 1, by omega, rfl, HC.out, step_hit HN.out HH.out⟩, by simp [intOf]; omega⟩
          · have hrm := row_may k hlt per l (by rw [H3.out]; simpa using ha)
            rw [H1.out, H2.out, H4.out, H5.out, H6.out] at hrm
            obtain ⟨m1, m2, m3, m4⟩ := hrm
            have hsm := row_small k hlt
            rw [H4.out, H5.out, H6.out] at hsm
            obtain ⟨-, -, s4, s5, s6⟩ := hsm
            have HM := Lib.hid m1
            have M2 := Lib.hid m2
            have M3 := Lib.hid m3
            have M4 := Lib.hid m4
            clear m1 m2 m3 m4
            have HA := Lib.hid ha
            clear ha
            have hr3 : r3 = false ∨ (r3 = true ∧ per = true ∧ l = false) := by
              have := HA.out
              cases r3 <;> cases per <;> cases l <;> simp_all
            have hr5 : (0 : Int) ≤ r5 := by omega
            have hr5' : (r5 : Int) ≤ 1 := by omega
            by_cases ho : (4294967295 : Int) < z + r5
            · have HX := Lib.hid (nx_over HO.out HE.out (by rw [HS.out, HL.out]; exact HM.out) (by rw [HS.out, HG.out, M3.out]; have := HZ.out; omega))
              rcases hr3 with rfl | ⟨rfl, rfl, rfl⟩
              · go_wp2
                go_ret2
                rw [HX.out]
                exact ⟨rfl, HF.out⟩
              · go_wp2
                go_ret2
                rw [HX.out]
                exact ⟨rfl, HF.out⟩
            · have HX := Lib.hid (nx_go HO.out HE.out (by rw [HS.out, HL.out]; exact HM.out) (by rw [HS.out, HG.out, M3.out]; have := HZ.out; omega))
              have hr6 : r6 = 0 ∨ r6 = 1 ∨ r6 = 2 := by omega
              rcases hr3 with rfl | ⟨rfl, rfl, rfl⟩
              · rcases hr6 with rfl | rfl | rfl
                all_goals
                  go_wp2_with fail
                  rw [show z + (r5 : Int) = ((g + r5 : Nat) : Int) by have := HZ.out; omega]
                  refine (refWord_any r4 (g + r5) _ s4 (by have := HZ.out; omega) _).mono ?_
                  rintro e w1 ⟨rfl, rfl⟩
                  go_wp2
                  go_ret2
                  rw [HX.out]
                  refine ⟨ret2 ?_ rfl, HF.out⟩
                  rw [HS.out, HG.out, M3.out, M2.out, HL.out, M4.out]; rfl
              · rcases hr6 with rfl | rfl | rfl
                all_goals
                  go_wp2_with fail
                  rw [show z + (r5 : Int) = ((g + r5 : Nat) : Int) by have := HZ.out; omega]
                  refine (refWord_any r4 (g + r5) _ s4 (by have := HZ.out; omega) _).mono ?_
                  rintro e w1 ⟨rfl, rfl⟩
                  go_wp2
                  go_ret2
                  rw [HX.out]
                  refine ⟨ret2 ?_ rfl, HF.out⟩
                  rw [HS.out, HG.out, M3.out, M2.out, HL.out, M4.out]; rfl
    · obtain rfl : k = 18 := by omega
      have HM : Hid (mayF ev s (per && !l) = false) := by
        show mayF ev s (per && !l) = false
        cases hm : mayF ev s (per && !l)
        · rfl
        · obtain ⟨k, hk2, hh⟩ := may_row ev (by omega) s (by have := HS6.out; omega) per l hm
          rw [HN.out k hk2] at hh; cases hh
      go_wp2
      go_ret2
      rw [nx_state HO.out HE.out (by rw [HS.out, HL.out]; exact HM.out)]
      exact ⟨rfl, ((Below.refl w.heap.size w).alloc (Nat.le_refl _) _).trans (HB.out.mono (by omega))⟩
end Go.Proofs.Ytjhmmfdmoalfmaa
