/-
  The document's level in memory: of each slot the numbers of its nodes; in which slot a node is; a node taken out; the map and how many.
-/
import Derived.Test.YtgaakhiapgmnbaaDoorListInts
import Derived.Test.YtgaakhiapgmnbaaDoorListMem
import Derived.Test.YtgaakhiapgmnbaaDoorLevelPlain
import Derived.Test.YtgaakhiapgmnbaaDoorListPlain
import Derived.WalkKit
namespace Go.Proofs.YtgaakhiapgmnbaaDoor
open Go.RowKit Verge
attribute [local go_sem] Oper.semAt_some
set_option linter.unusedVariables false
set_option linter.unusedSimpArgs false

/-- numbers of nodes, as a row holds them -/
abbrev numR (xs : List Nat) : Nat → Int := fun j => ((xs.getD j 0 : Nat) : Int)
def flt (xs : List Nat) (n j : Nat) : List Nat := (xs.take j).filter (· != n)
theorem flt_yes {xs : List Nat} {n j y : Nat} (h : xs[j]? = some y) (hy : y ≠ n) : flt xs n (j + 1) = flt xs n j ++ [y] := by
  unfold flt; rw [List.take_add_one, h, List.filter_append]; simp [hy]
theorem flt_no {xs : List Nat} {n j : Nat} (h : xs[j]? = some n) : flt xs n (j + 1) = flt xs n j := by
  unfold flt; rw [List.take_add_one, h, List.filter_append]; simp
theorem flt_all (xs : List Nat) (n : Nat) : flt xs n xs.length = xs.filter (· != n) := by unfold flt; rw [List.take_length]
theorem flt_len (xs : List Nat) (n j : Nat) : (flt xs n j).length ≤ xs.length := by
  unfold flt; exact Nat.le_trans (List.length_filter_le _ _) (by rw [List.length_take]; omega)

/-- the document's level in block rb, its blocks in R -/
structure RefV (w : World) (R : Nat → Prop) (rb : Nat) (L : Nat → List Nat) (ra : Nat → Option Addr) (rc : Nat → Nat) : Prop where
  c : ∀ k, k < 64 → w.cell? ⟨rb, k, none⟩ = some (.slice (ra k) (L k).length (rc k))
  b : Blk w rb
  r : ∀ k, k < 64 → RowI w (ra k) (L k).length (rc k) (numR (L k))
  mb : R rb
  mr : ∀ k, k < 64 → ∀ j, OwnS (ra k) j → R j
  nb : ∀ k, k < 64 → ¬ OwnS (ra k) rb
  rr : ∀ k k' j, k < 64 → k' < 64 → OwnS (ra k) j → OwnS (ra k') j → k = k'
  lt : ∀ j, R j → j < w.heap.size
section
variable {S : Nat → Prop} {w w1 w' : World} {R : Nat → Prop} {rb k n c' : Nat} {L : Nat → List Nat} {ra : Nat → Option Addr} {rc : Nat → Nat} {a : Option Addr} {xs : List Nat}
theorem RefV.kept (h : RefV w R rb L ra rc) (c : Ch S w w') (ha : ∀ j, R j → ¬ S j) : RefV w' R rb L ra rc :=
  ⟨fun k hk => c.keeps (h.c k hk) (ha _ h.mb), h.b.kept c (ha _ h.mb), fun k hk => (h.r k hk).kept c (fun j hj => ha j (h.mr k hk j hj)), h.mb, h.mr, h.nb, h.rr, fun j hj => Nat.lt_of_lt_of_le (h.lt j hj) c.size⟩
/-- slot k set anew -/
theorem RefV.setL (h : RefV w R rb L ra rc) (hk : k < 64) (c : Ch (OwnS (ra k)) w w1) (row : RowI w1 a xs.length c' (numR xs)) (ha : ∀ j, OwnS a j → OwnS (ra k) j ∨ w.heap.size ≤ j) :
    RefV (w1.setCell ⟨rb, k, none⟩ (.slice a xs.length c')) (fun j => R j ∨ OwnS a j) rb (upd L k xs) (upd ra k a) (upd rc k c') ∧ Ch R w (w1.setCell ⟨rb, k, none⟩ (.slice a xs.length c')) := by
  have c2 : Ch (One rb) w1 (w1.setCell ⟨rb, k, none⟩ (.slice a xs.length c')) := (Ch.refl _ _).setB k _
  have hlt := h.lt
  have s1 := c.size
  have wbk := h.nb k hk
  have hwb : ¬ OwnS a rb := fun e => by
    rcases ha rb e with e' | e'
    · exact wbk e'
    · have := hlt rb h.mb; omega
  have old : ∀ k', k' < 64 → k' ≠ k → ∀ j, OwnS (ra k') j → ¬ OwnS a j := by
    intro k' hk' hne j hj e
    rcases ha j e with e' | e'
    · exact hne (h.rr k' k j hk' hk hj e')
    · have := hlt j (h.mr k' hk' j hj); omega
  refine ⟨⟨fun k' hk' => ?_, (h.b.kept c wbk).set _ _, fun k' hk' => ?_, .inl h.mb, fun k' hk' j hj => ?_, fun k' hk' => ?_, fun k1 k2 j h1 h2 => ?_, fun j hj => ?_⟩, ?_⟩
  · by_cases e : k' = k
    · subst e; rw [upd_same, upd_same, upd_same]; exact World.cell?_setCell_same _ _ _ (c.keeps (h.c k' hk') wbk)
    · rw [upd_other _ _ _ _ e, upd_other _ _ _ _ e, upd_other _ _ _ _ e, cell_ne (fun e' => e e'.symm)]; exact c.keeps (h.c k' hk') wbk
  · by_cases e : k' = k
    · subst e; rw [upd_same, upd_same, upd_same]; exact row.kept c2 (fun j hj e => hwb (e ▸ hj))
    · rw [upd_other _ _ _ _ e, upd_other _ _ _ _ e, upd_other _ _ _ _ e]
      exact ((h.r k' hk').kept c (fun j hj e' => e (h.rr k' k j hk' hk hj e'))).kept c2 (fun j hj e' => h.nb k' hk' (e' ▸ hj))
  · by_cases e' : k' = k
    · subst e'; rw [upd_same] at hj; exact .inr hj
    · rw [upd_other _ _ _ _ e'] at hj; exact .inl (h.mr k' hk' j hj)
  · by_cases e' : k' = k
    · subst e'; rw [upd_same]; exact hwb
    · rw [upd_other _ _ _ _ e']; exact h.nb k' hk'
  · by_cases e1 : k1 = k
    · by_cases e2 : k2 = k
      · intros; omega
      · rw [e1, upd_same, upd_other _ _ _ _ e2]; intro hj1 hj2; exact absurd hj1 (old k2 h2 e2 j hj2)
    · by_cases e2 : k2 = k
      · rw [e2, upd_same, upd_other _ _ _ _ e1]; intro hj1 hj2; exact absurd hj2 (old k1 h1 e1 j hj1)
      · rw [upd_other _ _ _ _ e1, upd_other _ _ _ _ e2]; exact h.rr k1 k2 j h1 h2
  · refine Nat.lt_of_lt_of_le ?_ c2.size
    rcases hj with hj | hj
    · have := hlt j hj; omega
    · exact row.lt j hj
  · exact (c.mono fun j _ hj => h.mr k hk j hj).then c2 fun j _ e => e ▸ h.mb

set_option maxRecDepth 100000 in
set_option maxHeartbeats 1600000 in
theorem RefV.of (h : RefV w R rb L ra rc) (n : Nat) (hl : ∀ k, k < 64 → (L k).length ≤ 100000) :
    Calls Tryd.prog 9 #[.pointer (some ⟨rb, 0, none⟩), .int .i64 n] w fun e w' => ∃ r : Int, e = .returned (.int .i64 r) ∧ ((r = -1 ∧ ∀ k, k < 64 → n ∉ L k) ∨ ∃ s : Nat, s < 64 ∧ r = (s : Int) ∧ n ∈ L s) ∧ w = w' := by
  have H := Lib.hid h
  have HL := Lib.hid hl
  clear h hl
  go_enter Tryd.func9, Tryd.ntmps9
  go_wp2
  go_loopw [5] (fun i wr => ∃ t : Nat, t ≤ 64 ∧ i = .int .i64 t ∧ (∀ k, k < t → n ∉ L k) ∧ w = wr) (fun i _ => 64 - (intOf i).toNat)
  case atStart => exact ⟨0, by omega, rfl, fun k hk => by omega, rfl⟩
  case round =>
    obtain ⟨t, ht, rfl, hno, rfl⟩ := hrel
    have HNO := Lib.hid hno
    clear hno
    by_cases hlt : t < 64
    · have htz : (t : Int) < 64 := by omega
      go_wp2
      go_loopw [6] (fun i wr => ∃ m : Nat, m ≤ (L t).length ∧ i = .int .i64 m ∧ (∀ j, j < m → (L t)[j]? ≠ some n) ∧ w = wr) (fun i _ => (L t).length - (intOf i).toNat)
      case atStart => exact ⟨0, by omega, rfl, fun k hk => by omega, rfl⟩
      case round =>
        obtain ⟨m, hm, rfl, hnm, rfl⟩ := hrel
        have HNM := Lib.hid hnm
        clear hnm
        have hc := H.out.c t hlt
        have hll := HL.out t hlt
        by_cases hltm : m < (L t).length
        · obtain ⟨g, hg, -⟩ := (H.out.r t hlt).form (by omega)
          rw [hg] at hc
          have hr := H.out.r t hlt
          rw [hg] at hr
          have q1 := Row.cell hr m (by omega)
          have lc := Row.len_cap hr
          clear hr
          obtain ⟨y, hy⟩ : ∃ y, (L t)[m]? = some y := ⟨_, List.getElem?_eq_getElem hltm⟩
          have hyv : numR (L t) m = (y : Int) := by simp only [numR]; rw [List.getD_eq_getElem?_getD, hy]; rfl
          have q2 : w.cell? ⟨g, m, none⟩ = some (.int .i64 (y : Int)) := by rw [← hyv]; exact q1
          have HY := Lib.hid hy
          clear q1 hyv hy hg
          have hmz : (m : Int) < ((L t).length : Int) := by omega
          by_cases e : y = n
          · subst e
            have FIN := Lib.hid (List.mem_of_getElem? HY.out)
            have eb : ((y : Int) == (y : Int)) = true := by simp
            go_wp2
            go_ret
            exact ⟨_, rfl, .inr ⟨t, hlt, rfl, FIN.out⟩, rfl⟩
          · have eb : ((y : Int) == (n : Int)) = false := by rw [beq_eq_false_iff_ne]; omega
            have HE := Lib.hid e
            clear e
            go_wp2
            go_roundw
            case rel =>
              refine ⟨m + 1, by omega, by go_num, fun j hj => ?_, trivial⟩
              by_cases e' : j = m
              · subst e'; rw [HY.out]; intro e2; cases e2; exact HE.out rfl
              · exact HNM.out j (by omega)
            case measure => simp [intOf]; omega
        · obtain rfl : (L t).length = m := by omega
          go_wp2
          go_roundw
          case rel =>
            refine ⟨t + 1, by omega, by go_num, fun j hj => ?_, trivial⟩
            by_cases e' : j = t
            · subst e'; intro hm'
              obtain ⟨i, hi⟩ := List.mem_iff_getElem?.1 hm'
              exact HNM.out i (List.getElem?_eq_some_iff.1 hi).1 hi
            · exact HNO.out j (by omega)
          case measure => simp [intOf]; omega
    · obtain rfl : t = 64 := by omega
      go_wp2
      go_ret
      exact ⟨_, rfl, .inl ⟨rfl, HNO.out⟩, rfl⟩

set_option maxRecDepth 100000 in
set_option maxHeartbeats 1600000 in
theorem RefV.out (h : RefV w R rb L ra rc) (hk : k < 64) (hn : n ∈ L k) (un : ∀ k', k' < 64 → n ∈ L k' → k' = k) (hl : ∀ k, k < 64 → (L k).length ≤ 100000) :
    Calls Tryd.prog 11 #[.pointer (some ⟨rb, 0, none⟩), .int .i64 n] w fun e w' => (∃ r, e = .returned r) ∧ ∃ R' ra' rc', (∀ j, R' j → R j ∨ w.heap.size ≤ j) ∧ RefV w' R' rb (upd L k ((L k).filter (· != n))) ra' rc' ∧ Ch R w w' := by
  have H := Lib.hid h
  have OF := Lib.hid (h.of n hl)
  have UN := Lib.hid un
  have HN := Lib.hid hn
  have hlk := hl k hk
  clear h un hn hl
  have hkz : (k : Int) < 64 := by omega
  have hkz0 : (0 : Int) ≤ (k : Int) := by omega
  go_enter Tryd.func11, Tryd.ntmps11
  go_wp2_with fail
  refine OF.out.mono ?_
  rintro e w2 ⟨r, rfl, hr, rfl⟩
  obtain rfl : r = (k : Int) := by
    rcases hr with ⟨-, h⟩ | ⟨s, hs, rfl, hm⟩
    · exact absurd HN.out (h k hk)
    · rw [UN.out s hs hm]
  clear hr OF
  go_wp2
  go_loopw [5, 6] (fun o i wr => ∃ (j : Nat) (a : Option Addr) (c : Nat), j ≤ (L k).length ∧ i = .int .i64 j ∧ o = .slice a (flt (L k) n j).length c ∧ RowI wr a (flt (L k) n j).length c (numR (flt (L k) n j)) ∧ (∀ g, OwnS a g → w.heap.size ≤ g) ∧ Ch Nil w wr) (fun _ i _ => (L k).length - (intOf i).toNat)
  case atStart => exact ⟨0, none, 0, by omega, rfl, rfl, Row.nil _ _ _ _, fun g hg => (by cases hg), Ch.refl _ _⟩
  case round =>
    obtain ⟨j, a, c, hj, rfl, rfl, hr, ho, hc⟩ := hrel
    have HR := Lib.hid hr
    have HO := Lib.hid ho
    have HC := Lib.hid hc
    have HW := Lib.hid (H.out.kept hc (fun _ _ e => e))
    have fl := flt_len (L k) n j
    clear hr ho hc
    have hcell := HW.out.c k hk
    by_cases hlt : j < (L k).length
    · obtain ⟨g, hg, hgl⟩ := (HW.out.r k hk).form (by omega)
      rw [hg] at hcell
      have hr := HW.out.r k hk
      rw [hg] at hr
      have q1 := Row.cell hr j (by omega)
      have lc := Row.len_cap hr
      clear hr
      obtain ⟨y, hy⟩ : ∃ y, (L k)[j]? = some y := ⟨_, List.getElem?_eq_getElem hlt⟩
      have hyv : numR (L k) j = (y : Int) := by simp only [numR]; rw [List.getD_eq_getElem?_getD, hy]; rfl
      have q2 : wr.cell? ⟨g, j, none⟩ = some (.int .i64 (y : Int)) := by rw [← hyv]; exact q1
      have HY := Lib.hid hy
      have HG := Lib.hid hg
      clear q1 hyv hy hg
      have hjz : (j : Int) < ((L k).length : Int) := by omega
      by_cases e : y = n
      · subst e
        have eb : ((y : Int) != (y : Int)) = false := by simp
        have E1 := Lib.hid (flt_no HY.out)
        go_wp2
        go_roundw
        case rel => exact ⟨j + 1, a, c, by omega, by go_num, by rw [E1.out], by rw [E1.out]; exact HR.out, HO.out, HC.out⟩
        case measure => simp [intOf]; omega
      · have eb : ((y : Int) != (n : Int)) = true := by rw [bne_iff_ne]; omega
        have E1 := Lib.hid (flt_yes HY.out e)
        have E2 : Hid ((flt (L k) n j).length + 1 = (flt (L k) n (j + 1)).length) := Lib.hid (by rw [flt_yes HY.out e]; simp)
        have R5 := Lib.hid (HR.out.kept (S := Nil) ((Ch.refl Nil wr).alloc (.cells #[.int .i64 (y : Int)] 3)) (fun _ _ e => e))
        clear e
        go_wp2_with (at_builtin; refine append_row _ rfl _ _ _ rfl 3 (.int .i64 0) 1 8 Tryd.underlying32 (by kernel_rfl) rfl (by omega) (by omega) rfl R5.out (by omega) wr.heap.size 1 [.int .i64 (y : Int)] 3 rfl rfl (heap_alloc_new wr _) (by simp [Value.oneCell']) (fun i => .int .i64 (numR (flt (L k) n (j + 1)) i)) (fun i hi => by simp only [numR]; rw [E1.out, getD_snoc _ _ _ (by omega)]) (by intro m u hu; obtain rfl : m = 0 := (by cases m; rfl; simp at hu); simp at hu; subst hu; simp only [numR, Nat.mul_one, Nat.add_zero]; rw [E1.out, getD_last]) _ rfl ?_)
        intro g6 cap6 w6 row6 ch6 at6 lt6
        have c6 : Ch (OwnS a) wr w6 := (((Ch.refl Nil wr).alloc _).mono (fun _ _ e => e.elim)).trans ch6
        have C6 := Lib.hid (HC.out.then c6 (fun i hi e => by have := HO.out i e; omega))
        have O6 : Hid (∀ g, OwnS (some ⟨g6, 0, none⟩) g → w.heap.size ≤ g) := Lib.hid (fun g hg => by
          cases hg
          rcases at6 with h' | h'
          · exact HO.out _ h'
          · have := HC.out.size; rw [h']; simp; omega)
        have R6 := Lib.hid row6
        clear ch6 row6 at6 lt6 R5 c6 q2 hcell
        go_wp2
        go_roundw
        case rel => exact ⟨j + 1, some ⟨g6, 0, none⟩, cap6, by omega, by go_num, by rw [E2.out], by rw [← E2.out]; exact R6.out, O6.out, C6.out⟩
        case measure => simp [intOf]; omega
    · obtain rfl : (L k).length = j := by omega
      have fz := HW.out.b.fz k
      have FIN := Lib.hid (H.out.setL (a := a) (c' := c) (xs := (L k).filter (· != n)) hk (HC.out.mono (fun _ _ e => e.elim)) (by rw [← flt_all]; exact HR.out) (fun j hj => .inr (HO.out j hj)))
      have E := Lib.hid (flt_all (L k) n)
      go_wp2
      go_end0
      refine ⟨⟨_, rfl⟩, _, _, _, ?_, by rw [E.out]; exact FIN.out.1, by rw [E.out]; exact FIN.out.2⟩
      rintro m (hm | hm)
      · exact .inl hm
      · exact .inr (HO.out m hm)

/-- the map reckoned from the last slot down -/
theorem map_down {j mm : Nat} (hj : j < 64) (h : mm * 2 ^ (j + 1) + mapUpto L (j + 1) = mapX L) : (if L j = [] then mm * 2 else mm * 2 + 1) * 2 ^ j + mapUpto L j = mapX L := by
  rw [← h]
  have hl := mapUpto_lt (X := L) j (by omega)
  have e : mapUpto L (j + 1) = if L j = [] then mapUpto L j else withN (mapUpto L j) j := rfl
  rw [e]
  split
  · rw [Nat.pow_succ, Nat.mul_assoc, Nat.mul_comm 2]
  · have hw : withN (mapUpto L j) (j : Nat) = 2 ^ j + mapUpto L j := by
      unfold withN
      rw [bitN_at j hj, Nat.or_comm]
      have := Nat.two_pow_add_eq_or_of_lt hl 1
      simpa using this.symm
    rw [hw, Nat.add_mul, Nat.pow_succ, Nat.mul_assoc, Nat.mul_comm 2, Nat.one_mul, Nat.add_assoc]
theorem map_small {j mm : Nat} (h : mm * 2 ^ (j + 1) + mapUpto L (j + 1) = mapX L) : mm * 2 + 1 < 18446744073709551616 + 1 ∧ mm * 2 < 18446744073709551616 := by
  have h1 : mapX L < 18446744073709551616 := mapX_lt
  have h2 : 2 ≤ 2 ^ (j + 1) := by rw [Nat.pow_succ]; have := Nat.one_le_two_pow (n := j); omega
  have h3 := Nat.mul_le_mul_left mm h2
  omega

set_option maxRecDepth 100000 in
set_option maxHeartbeats 1600000 in
theorem RefV.map (h : RefV w R rb L ra rc) (hl : ∀ k, k < 64 → (L k).length ≤ 100000) :
    Calls Tryd.prog 15 #[.pointer (some ⟨rb, 0, none⟩)] w fun e w' => e = .returned (.tuple #[.int .u64 (mapX L : Nat), .int .i64 (totX L : Nat)]) ∧ w = w' := by
  have H := Lib.hid h
  have HL := Lib.hid hl
  clear h hl
  go_enter Tryd.func15, Tryd.ntmps15
  go_wp2
  go_loopw [4, 5, 6] (fun m n i wr => ∃ (j mm nn : Nat), j ≤ 64 ∧ i = .int .i64 ((j : Int) - 1) ∧ m = .int .u64 (mm : Nat) ∧ n = .int .i64 (nn : Nat) ∧ mm * 2 ^ j + mapUpto L j = mapX L ∧ nn + totUpto L j = totX L ∧ w = wr) (fun _ _ i _ => (intOf i + 1).toNat)
  case atStart => exact ⟨64, 0, 0, by omega, rfl, rfl, rfl, by simp, by simp, rfl⟩
  case round =>
    obtain ⟨j, mm, nn, hj, rfl, rfl, rfl, hm, hn, rfl⟩ := hrel
    have HM := Lib.hid hm
    have HN := Lib.hid hn
    clear hm hn
    by_cases h0 : j = 0
    · subst h0
      have e1 : mm = mapX L := by have := HM.out; simpa [mapUpto] using this
      have e2 : nn = totX L := by have := HN.out; simpa [totUpto] using this
      clear HM HN
      subst e1
      subst e2
      go_wp2
      go_ret2
      exact ⟨rfl, rfl⟩
    · obtain ⟨i, rfl⟩ : ∃ i, j = i + 1 := ⟨j - 1, by omega⟩
      have hi : i < 64 := by omega
      have hiz : (i : Int) < 64 := by omega
      have hiz0 : (0 : Int) ≤ (i : Int) := by omega
      have ei : ((i + 1 : Nat) : Int) - 1 = (i : Int) := by omega
      rw [ei]
      have hc := H.out.c i hi
      have hll := HL.out i hi
      have hd := map_down (mm := mm) hi HM.out
      obtain ⟨hs, hs2⟩ := map_small HM.out
      have hlen : totUpto L (i + 1) = totUpto L i + (L i).length := rfl
      have tl : nn ≤ 6400000 := by
        have := totUpto_le (X := L) (b := 100000) 64 HL.out
        have := HN.out
        have e : totX L = totUpto L 64 := rfl
        omega
      have wr1 : IntKind.u64.wrap ((mm : Int) * 2) = ((mm * 2 : Nat) : Int) := by rw [IntKind.wrap_u64]; omega
      have wr2 : IntKind.u64.wrap (((mm * 2 : Nat) : Int) + 1) = ((mm * 2 + 1 : Nat) : Int) := by rw [IntKind.wrap_u64]; omega
      clear ei
      by_cases hx : L i = []
      · rw [if_pos hx] at hd
        have HD := Lib.hid hd
        rw [hx] at hc
        have HNN : Hid (nn + totUpto L i = totX L) := Lib.hid (by have := HN.out; rw [hlen, hx] at this; simpa using this)
        clear hd hx hlen HM HN wr2 hs
        go_wp2
        go_roundw
        case rel => exact ⟨i, mm * 2, nn, by omega, by go_num, rfl, rfl, HD.out, HNN.out, trivial⟩
        case measure => simp [intOf]
      · rw [if_neg hx] at hd
        have HD := Lib.hid hd
        have hpos := List.length_pos_iff.2 hx
        have HNN : Hid (nn + (L i).length + totUpto L i = totX L) := Lib.hid (by have := HN.out; rw [hlen] at this; omega)
        generalize (L i).length = ll at *
        have hpz : (0 : Int) < (ll : Int) := by omega
        clear hd hx hlen HM HN
        go_wp2
        go_roundw
        case rel => exact ⟨i, mm * 2 + 1, nn + ll, by omega, by go_num, rfl, by go_num, HD.out, HNN.out, trivial⟩
        case measure => simp [intOf]
end
end Go.Proofs.YtgaakhiapgmnbaaDoor
