/-
  Contracts of package wheel's least, rows and Next, of ints: the least deadline.
-/
import Derived.Test.YtkfknafgknppdaaDoorWheelAlive
import Derived.Test.YtkfknafgknppdaaDoorRangeVal
namespace Verge
theorem spot_mono {d e now : Nat} (h1 : now < d) (h2 : now < e) (h : spotN d now < spotN e now) : d < e := by
  unfold spotN at h
  split at h
  · split at h
    · omega
    · split at h
      · omega
      · split at h
        · omega
        · split at h <;> omega
  · split at h
    · split at h
      · omega
      · split at h
        · omega
        · split at h
          · omega
          · split at h <;> omega
    · split at h
      · split at h
        · omega
        · split at h
          · omega
          · split at h
            · omega
            · split at h <;> omega
      · split at h
        · split at h
          · omega
          · split at h
            · omega
            · split at h
              · omega
              · split at h <;> omega
        · split at h
          · omega
          · split at h
            · omega
            · split at h
              · omega
              · split at h <;> omega
/-- the least of a row's deadlines -/
def IsMin (ys : List Ent) (m : Nat) : Prop := (∃ x, x ∈ ys ∧ x.d = m) ∧ ∀ x, x ∈ ys → m ≤ x.d
theorem fromN_zero (X : Nat → List Nat) : (fromN (mapX X) 0 = -1 ∧ ∀ s : Nat, s < 64 → X s = []) ∨ ∃ s : Nat, s < 64 ∧ fromN (mapX X) 0 = (s : Int) ∧ X s ≠ [] ∧ ∀ s' : Nat, s' < s → X s' = [] := by
  have test : ∀ i, i < 64 → ((mapX X).testBit i = false ↔ X i = []) := fun i hi => by rw [mapX_test hi]; simp
  unfold fromN
  cases hc : (slots (mapX X)).find? (fun x : Nat => decide ((0 : Int) ≤ (x : Int))) with
  | none =>
    refine .inl ⟨rfl, fun s hs => ?_⟩
    rw [List.find?_eq_none] at hc
    refine (test s hs).1 ?_
    cases ht : (mapX X).testBit s
    · rfl
    · exact absurd (by simp) (hc s ((mem_slots _ _).2 ⟨hs, ht⟩))
  | some s =>
    rw [List.find?_eq_some_iff_getElem] at hc
    obtain ⟨-, i, hi, he, hlt⟩ := hc
    have hm : s ∈ slots (mapX X) := he ▸ List.getElem_mem hi
    have hms := (mem_slots _ _).1 hm
    obtain rfl : i = 0 := by
      cases i with
      | zero => rfl
      | succ n => have := hlt 0 (by omega); simp at this
    refine .inr ⟨s, hms.1, rfl, fun e => ?_, fun s' hs' => ?_⟩
    · have := (test s hms.1).2 e; rw [this] at hms; cases hms.2
    · refine (test s' (by omega)).1 ?_
      cases ht : (mapX X).testBit s'
      · rfl
      · have hm' := (mem_slots _ _).2 ⟨show s' < 64 by omega, ht⟩
        obtain ⟨j, hj, hj'⟩ := List.getElem_of_mem hm'
        cases j with
        | zero => omega
        | succ n =>
          have := List.pairwise_iff_getElem.1 (slots_sorted (mapX X)) 0 (n + 1) hi hj (by omega)
          omega
end Verge
namespace Go.Proofs.YtkfknafgknppdaaDoor
open Go.RowKit Go.Shelf Verge LP
attribute [local go_sem] Oper.semAt_some
set_option linter.unusedVariables false
set_option linter.unusedSimpArgs false
section
variable {w0 w w' W : World} {g : Wh} {now : Nat} {P Q ys : List Ent} {x : Ent} {a : Option Addr} {cap : Nat}

set_option maxHeartbeats 1000000 in
theorem least_of (ys : List Ent) (hne : ys ≠ []) (hg : Given w a ys Nil) (he : ∀ x, x ∈ ys → w.cell? ⟨x.e, 2, none⟩ = some (.int .u64 (x.d : Nat))) (hn : ys.length ≤ 100000) :
    Calls Tryd.prog 51 #[.slice a ys.length cap] w fun e w' => ∃ m : Nat, IsMin ys m ∧ e = .returned (.int .u64 (m : Nat)) ∧ w = w' := by
  have hpos : 0 < ys.length := List.length_pos_iff.2 hne
  obtain ⟨ga, rfl, -, hcell⟩ : ∃ b, a = some ⟨b, 0, none⟩ ∧ ¬ Nil b ∧ ∀ i x, ys[i]? = some x → w.cell? ⟨b, i, none⟩ = some (.pointer (some ⟨x.e, 0, none⟩)) := by
    rcases hg with h | h
    · exact absurd h hne
    · exact h
  obtain ⟨x0, hx0⟩ : ∃ x, ys[0]? = some x := ⟨_, List.getElem?_eq_getElem hpos⟩
  have q0 := hcell 0 x0 hx0
  have q1 := he x0 (List.mem_of_getElem? hx0)
  have HC := Lib.hid hcell
  have HE := Lib.hid he
  have HX0 := Lib.hid hx0
  obtain ⟨n, hln⟩ : ∃ n, n = ys.length := ⟨_, rfl⟩
  have LEN := Lib.hid hln
  rw [← hln] at hn hpos ⊢
  have hpz : (0 : Int) < (n : Int) := by omega
  clear hcell he hg hne hln hx0
  go_enter Tryd.func51, Tryd.ntmps51
  go_wp2
  go_loopw [14, 3] (fun i c wr => ∃ (k m : Nat), k ≤ n ∧ i = .int .i64 k ∧ c = .int .u64 (m : Nat) ∧ (∃ x, x ∈ ys ∧ x.d = m) ∧ (∀ j x, j < k → ys[j]? = some x → m ≤ x.d) ∧ wr = w) (fun i _ _ => n - (intOf i).toNat)
  case atStart => exact ⟨0, x0.d, by omega, rfl, rfl, ⟨x0, List.mem_of_getElem? HX0.out, rfl⟩, fun j x hj => by omega, rfl⟩
  case round =>
    obtain ⟨k, m, hk, rfl, rfl, h1, h2, rfl⟩ := hrel
    have H1 := Lib.hid h1
    have H2 := Lib.hid h2
    clear h1 h2
    by_cases hlt : k < n
    · obtain ⟨x, hx⟩ : ∃ x, ys[k]? = some x := ⟨_, List.getElem?_eq_getElem (by rw [← LEN.out]; exact hlt)⟩
      have r1 := HC.out k x hx
      have r2 := HE.out x (List.mem_of_getElem? hx)
      have HX := Lib.hid hx
      have hkz : (k : Int) < (n : Int) := by omega
      have hkz0 : (0 : Int) ≤ (k : Int) := by omega
      obtain ⟨d, hd⟩ : ∃ d, d = x.d := ⟨_, rfl⟩
      rw [← hd] at r2
      have HD := Lib.hid hd
      clear hx hd
      by_cases hdm : d < m
      · have hz : (d : Int) < (m : Int) := by omega
        go_wp2
        go_roundw
        case rel =>
          refine ⟨k + 1, d, by omega, by go_num, rfl, ⟨x, List.mem_of_getElem? HX.out, HD.out.symm⟩, fun j y hj hy => ?_, by first | rfl | trivial⟩
          by_cases e : j = k
          · subst e; rw [HX.out] at hy; cases hy; rw [HD.out]; omega
          · have := H2.out j y (by omega) hy; omega
        case measure => simp [intOf]; omega
      · have hz : (m : Int) ≤ (d : Int) := by omega
        go_wp2
        go_roundw
        case rel =>
          refine ⟨k + 1, m, by omega, by go_num, rfl, H1.out, fun j y hj hy => ?_, by first | rfl | trivial⟩
          by_cases e : j = k
          · subst e; rw [HX.out] at hy; cases hy; rw [← HD.out]; omega
          · exact H2.out j y (by omega) hy
        case measure => simp [intOf]; omega
    · obtain rfl : k = n := by omega
      go_wp2
      go_ret
      refine ⟨m, ⟨H1.out, fun x hx => ?_⟩, rfl, rfl⟩
      obtain ⟨j, hj⟩ := List.mem_iff_getElem?.1 hx
      exact H2.out j x (by rw [LEN.out]; exact (List.getElem?_eq_some_iff.1 hj).1) hj

/-- a row that is told: none, and the level has none; or the first that has any -/
def RowT (Q : List Ent) (now k : Nat) (v : Value) (W : World) : Prop :=
  ∃ a cap ys, v = .slice a ys.length cap ∧ RowX W a ys.length cap ys ∧ ys.length ≤ 100000 ∧ (∀ x, x ∈ ys → x ∈ Q) ∧ ((ys = [] ∧ ∀ x, x ∈ Q → 64 * k ≤ spotN x.d now → 64 * (k + 1) ≤ spotN x.d now) ∨ (ys ≠ [] ∧ ∃ p, (∀ x, x ∈ ys ↔ x ∈ Q ∧ spotN x.d now = p) ∧ ∀ x, x ∈ Q → 64 * k ≤ spotN x.d now → p ≤ spotN x.d now))
theorem RowT.steady {v : Value} {B : Nat} : Steady B (fun k => RowT Q now k v) := fun k W W' r h c hr nc => by
  obtain ⟨a, cap, ys, h1, h2, h3⟩ := h
  exact ⟨a, cap, ys, h1, Row.steady h2 c nc, h3⟩
theorem ix_levels (p0 p1 p2 p3 : Value) (w : World) : (Instr.index 60 (.agg #[p0, p1, p2, p3]) (.int .i64 0)).run Tryd.prog w = .ok p0 w ∧ (Instr.index 60 (.agg #[p0, p1, p2, p3]) (.int .i64 1)).run Tryd.prog w = .ok p1 w ∧ (Instr.index 60 (.agg #[p0, p1, p2, p3]) (.int .i64 2)).run Tryd.prog w = .ok p2 w ∧ (Instr.index 60 (.agg #[p0, p1, p2, p3]) (.int .i64 3)).run Tryd.prog w = .ok p3 w := ⟨by kernel_rfl, by kernel_rfl, by kernel_rfl, by kernel_rfl⟩
/-- a level's first row that has any -/
theorem firstRow_of {h : Nat} (H : IsQ W g now Q P) (hh : h < 4) (s : Int) (hs : s = fromN (mapX (nrow (rowsOf Q now) h)) 0) (hl : Q.length ≤ 100000) :
    Calls Tryd.prog 38 #[.pointer (some ⟨g.vb h, 0, none⟩), .int .i64 s] W fun e w' => ∃ v, e = .returned v ∧ RowT Q now h v w' ∧ Ch Nil W w' := by
  rcases fromN_zero (nrow (rowsOf Q now) h) with ⟨e1, e2⟩ | ⟨t, ht, e1, e2, e3⟩
  · rw [e1] at hs
    subst hs
    refine (vat_range (g.vb h) (-1) (by omega) W).mono ?_
    rintro e w' ⟨rfl, rfl⟩
    refine ⟨_, rfl, ⟨none, 0, [], rfl, Row.nil _ _ _ _, by simp, fun x hx => (by cases hx), .inl ⟨rfl, fun x hx hp => ?_⟩⟩, Ch.refl _ _⟩
    refine Classical.byContradiction fun hn => ?_
    have hr := e2 (spotN x.d now - 64 * h) (by omega)
    rw [nrow_at (by omega), show 64 * h + (spotN x.d now - 64 * h) = spotN x.d now by omega, List.map_eq_nil_iff] at hr
    have : x ∈ rowsOf Q now (spotN x.d now) := mem_rowsOf.2 ⟨hx, rfl⟩
    rw [hr] at this; cases this
  · rw [e1] at hs
    subst hs
    refine (vat_of (H.w.v h hh) ht (by rw [nrow_len ht]; have := rowsOf_len (Q := Q) (now := now) (p := 64 * h + t); omega)).mono ?_
    rintro e w' ⟨a, cap, rfl, r, -, c⟩
    rw [nrow_at ht] at r e2
    rw [nrow_len ht]
    rw [List.length_map] at r
    refine ⟨_, rfl, ⟨a, cap, _, rfl, r, by have := rowsOf_len (Q := Q) (now := now) (p := 64 * h + t); omega, fun x hx => (mem_rowsOf.1 hx).1, .inr ⟨fun e => e2 (by rw [e]; rfl), 64 * h + t, fun x => mem_rowsOf, fun x hx hp => ?_⟩⟩, c⟩
    refine Classical.byContradiction fun hn => ?_
    have hr := e3 (spotN x.d now - 64 * h) (by omega)
    rw [nrow_at (by omega), show 64 * h + (spotN x.d now - 64 * h) = spotN x.d now by omega, List.map_eq_nil_iff] at hr
    have : x ∈ rowsOf Q now (spotN x.d now) := mem_rowsOf.2 ⟨hx, rfl⟩
    rw [hr] at this; cases this
theorem lastRow_of (H : IsQ W g now Q P) (hl : Q.length ≤ 100000) :
    Calls Tryd.prog 54 #[.pointer (some ⟨g.lb, 0, none⟩)] W fun e w' => ∃ v, e = .returned v ∧ RowT Q now 4 v w' ∧ Ch Nil W w' := by
  refine (H.w.l.all (by rw [List.length_map]; have := rowsOf_len (Q := Q) (now := now) (p := 256); omega)).mono ?_
  rintro e w' ⟨a, cap, rfl, r, -, c⟩
  rw [List.length_map] at r ⊢
  refine ⟨_, rfl, ⟨a, cap, _, rfl, r, by have := rowsOf_len (Q := Q) (now := now) (p := 256); omega, fun x hx => (mem_rowsOf.1 hx).1, ?_⟩, c⟩
  by_cases hr : rowsOf Q now 256 = []
  · refine .inl ⟨hr, fun x hx hp => ?_⟩
    have h2 := spotN_le x.d now
    have : x ∈ rowsOf Q now 256 := mem_rowsOf.2 ⟨hx, by omega⟩
    rw [hr] at this; cases this
  · exact .inr ⟨hr, 256, fun x => mem_rowsOf, fun x hx hp => by omega⟩

set_option maxRecDepth 100000 in
set_option maxHeartbeats 2000000 in
theorem rows_tells (n : Nat) (h1 : 1 ≤ n) (hl : Q.length ≤ 100000) (I : Nat → World → Prop) (hQ : ∀ k W, I k W → IsQ W g now Q P) (hT : ∀ k W, I k W → Tab W) :
    TellsVal n Tryd.prog 50 (fun l => #[.pointer (some ⟨g.wb, 0, none⟩)] ++ #[.func (.yield l) #[] #[]]) 5 (RowT Q now) I := by
  intro l J Jx W hJ hC hY h0
  have HQ := Lib.hid fun k W h => hQ k W (hJ k W h)
  have HT := Lib.hid fun k W h => hT k W (hJ k W h)
  have HC := Lib.hid hC
  have HY := Lib.hid hY
  have H0 := Lib.hid h0
  have q0 := (hQ 0 W (hJ 0 W h0)).w.p 0 (by omega)
  have q1 := (hQ 0 W (hJ 0 W h0)).w.p 1 (by omega)
  have q2 := (hQ 0 W (hJ 0 W h0)).w.p 2 (by omega)
  have q3 := (hQ 0 W (hJ 0 W h0)).w.p 3 (by omega)
  have i0 := fun w => (ix_levels (.pointer (some ⟨g.vb 0, 0, none⟩)) (.pointer (some ⟨g.vb 1, 0, none⟩)) (.pointer (some ⟨g.vb 2, 0, none⟩)) (.pointer (some ⟨g.vb 3, 0, none⟩)) w).1
  have i1 := fun w => (ix_levels (.pointer (some ⟨g.vb 0, 0, none⟩)) (.pointer (some ⟨g.vb 1, 0, none⟩)) (.pointer (some ⟨g.vb 2, 0, none⟩)) (.pointer (some ⟨g.vb 3, 0, none⟩)) w).2.1
  have i2 := fun w => (ix_levels (.pointer (some ⟨g.vb 0, 0, none⟩)) (.pointer (some ⟨g.vb 1, 0, none⟩)) (.pointer (some ⟨g.vb 2, 0, none⟩)) (.pointer (some ⟨g.vb 3, 0, none⟩)) w).2.2.1
  have i3 := fun w => (ix_levels (.pointer (some ⟨g.vb 0, 0, none⟩)) (.pointer (some ⟨g.vb 1, 0, none⟩)) (.pointer (some ⟨g.vb 2, 0, none⟩)) (.pointer (some ⟨g.vb 3, 0, none⟩)) w).2.2.2
  clear hQ hT hJ hC hY h0
  refine callsIn_of_wp Tryd.func50 rfl trivial ?_ rfl
  simp only [Tryd.ntmps50, List.size_toArray, List.length_cons, List.length_nil, Nat.reduceAdd, Nat.reduceSub, Array.replicate_succ, Array.replicate_zero, List.push_toArray, List.append_toArray, List.nil_append, List.cons_append]
  gi_wp2
  gi_loopw [12] (fun v wr => ∃ k : Nat, k ≤ 4 ∧ v = .int .i64 k ∧ J k wr) (fun v _ => 4 - (intOf v).toNat)
  case atStart => exact ⟨0, by omega, rfl, H0.out⟩
  case round =>
    obtain ⟨k, hk, rfl, hj⟩ := hrel
    have HJ2 := Lib.hid hj
    clear hj
    by_cases hlt : k < 4
    · have hQ := HQ.out k wr HJ2.out
      have MP := Lib.hid (map_of (hQ.w.v k hlt))
      have FR := Lib.hid (from_any (mapX (nrow (rowsOf Q now) k)) 0 mapX_lt wr (HT.out k wr HJ2.out))
      obtain ⟨s, hs⟩ : ∃ s, s = fromN (mapX (nrow (rowsOf Q now) k)) 0 := ⟨_, rfl⟩
      rw [← hs] at FR
      have HS := Lib.hid hs
      have RW : Hid (∀ W', Ch Nil wr W' → Calls Tryd.prog 38 #[.pointer (some ⟨g.vb k, 0, none⟩), .int .i64 s] W' fun e w' => ∃ v, e = .returned v ∧ RowT Q now k v w' ∧ Ch Nil W' w') := Lib.hid fun W' c => firstRow_of (hQ.kept c (fun _ _ e => e)) hlt s HS.out hl
      clear hQ hs
      generalize mapX (nrow (rowsOf Q now) k) = mm at *
      have : k = 0 ∨ k = 1 ∨ k = 2 ∨ k = 3 := by omega
      rcases this with rfl | rfl | rfl | rfl
      all_goals
        gi_wp2_with (refine ⟨trivial, ?_⟩; first | (gi_at_call 60; refine (callsIn_wide.2 MP.out).mono ?_; rintro e w' ⟨rfl, rfl⟩) | (gi_at_call 61; refine (callsIn_wide.2 FR.out).mono ?_; rintro e w5 ⟨rfl, c5⟩; have C5 := Lib.hid c5; clear c5) | (gi_at_call 38; refine (callsIn_wide.2 (RW.out _ C5.out)).mono ?_; rintro e w6 ⟨v6, rfl, t6, c6⟩; have C6 := Lib.hid (C5.out.trans c6); have T6 := Lib.hid t6; clear c6 t6; have J6 := Lib.hid (HC.out _ _ _ HJ2.out C6.out); obtain ⟨fn, tmps, assign, body, hy, hR⟩ := HY.out _ v6 w6 J6.out (by omega) T6.out; have HR := Lib.hid hR; clear hR))
        refine HR.out.mono ?_
        rintro e W3 (⟨rfl, hJ3⟩ | ⟨rfl, hJx3⟩)
        · have HJ3 := Lib.hid hJ3
          clear hJ3
          gi_wp2
          go_roundw
          case rel => first | exact ⟨1, by omega, by go_num, HJ3.out⟩ | exact ⟨2, by omega, by go_num, HJ3.out⟩ | exact ⟨3, by omega, by go_num, HJ3.out⟩ | exact ⟨4, by omega, by go_num, HJ3.out⟩
          case measure => simp [intOf]
        · have HJ3 := Lib.hid hJx3
          clear hJx3
          gi_wp2
          refine bodyPost_ret (results_none rfl _ _ _) rfl ?_
          exact ⟨⟨_, rfl⟩, .inr ⟨_, by omega, HJ3.out⟩⟩
    · obtain rfl : k = 4 := by omega
      have hQ := HQ.out 4 wr HJ2.out
      have b4 := hQ.w.b
      have LR := Lib.hid (lastRow_of hQ hl)
      clear hQ
      gi_wp2_with (refine ⟨trivial, ?_⟩; gi_at_call 54; refine (callsIn_wide.2 LR.out).mono ?_; rintro e w6 ⟨v6, rfl, t6, c6⟩; have C6 := Lib.hid c6; have T6 := Lib.hid t6; clear c6 t6; have J6 := Lib.hid (HC.out _ _ _ HJ2.out C6.out); obtain ⟨fn, tmps, assign, body, hy, hR⟩ := HY.out 4 v6 w6 J6.out (by omega) T6.out; have HR := Lib.hid hR; clear hR)
      refine HR.out.mono ?_
      rintro e W3 (⟨rfl, hJ3⟩ | ⟨rfl, hJx3⟩)
      · have HJ3 := Lib.hid hJ3
        clear hJ3
        gi_wp2
        go_end0
        exact ⟨⟨_, rfl⟩, .inl HJ3.out⟩
      · have HJ3 := Lib.hid hJx3
        clear hJx3
        gi_wp2
        go_end0
        exact ⟨⟨_, rfl⟩, .inr ⟨4, by omega, HJ3.out⟩⟩
end
end Go.Proofs.YtkfknafgknppdaaDoor
