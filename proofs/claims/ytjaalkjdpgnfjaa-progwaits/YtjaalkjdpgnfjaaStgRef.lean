/-
  The statements' bound, and the document's row of numbers.
-/
import Derived.Test.YtjaalkjdpgnfjaaStgChain
import Derived.Test.YtjaalkjdpgnfjaaIsRows
import Derived.Test.YtjaalkjdpgnfjaaIsTab
namespace Go.Proofs.Ytjaalkjdpgnfjaa
open Go.RowKit Verge
attribute [local go_sem] Oper.semAt_some
set_option linter.unusedVariables false
set_option linter.unusedSimpArgs false

theorem add_zero' (x : Addr) : x.add 0 = x := by
  cases x
  simp [Addr.add]
theorem addr_form {w : World} {x : Addr} {v : Value} (h : w.cell? (x.add 0) = some v) : x = ⟨x.block, x.off, none⟩ := by
  rw [add_zero'] at h
  have := spot_of_cell h
  cases x
  simp_all
theorem cell_form {w : World} {x : Addr} {v : Value} {i : Nat} (h : w.cell? (x.add i) = some v) : w.cell? ⟨x.block, x.off + i, none⟩ = some v := by
  have := cell_at 0 i (by rwa [Nat.zero_add])
  rwa [add_zero'] at this
theorem srcB_of {w : World} {a : Option Addr} {len cap : Nat} {zs : List Int} (h : IsRow .i64 w a len cap zs) : SrcB w.heap.size w a (zs.take len) ∧ (zs.take len).length = len := by
  rcases h with ⟨rfl, rfl, rfl, rfl⟩ | ⟨x, rfl, h1, h2, h3, h4, h5⟩
  · exact ⟨.inl rfl, rfl⟩
  · have hl : (zs.take len).length = len := by rw [List.length_take]; omega
    refine ⟨?_, hl⟩
    by_cases hz : len = 0
    · left; exact List.eq_nil_of_length_eq_zero (by omega)
    · have h0 := h4 0 (by omega)
      refine .inr ⟨x.block, x.off, by rw [← addr_form h0], ?_, fun i n hi => ?_⟩
      · have := lt_of_cell (cell_form h0); exact this
      · have hli := (List.getElem?_eq_some_iff.1 hi).1
        have := cell_form (h4 i (by omega))
        rw [this, List.getD_eq_getElem?_getD]
        rw [List.getElem?_take_of_lt (by omega)] at hi
        rw [hi]
        rfl
theorem srcS_of {w : World} {a : Option Addr} {len cap : Nat} (h : IsRows .i64 w a len cap) : ∃ pl, SrcS w.heap.size w a pl ∧ pl.length = len ∧ len ≤ cap ∧ cap ≤ maxLen := by
  rcases h with ⟨rfl, rfl, rfl⟩ | ⟨x, rfl, h1, h2, h3⟩
  · exact ⟨[], .inl rfl, rfl, Nat.le_refl _, by simp [maxLen]⟩
  · have h4 : ∀ i, ∃ l : List Int, i < len → ∃ ai ci, w.cell? (x.add i) = some (.slice ai l.length ci) ∧ SrcB w.heap.size w ai l := by
      intro i
      by_cases hi : i < len
      · obtain ⟨ai, li, ci, zi, hc, hr⟩ := h3 i hi
        obtain ⟨s1, s2⟩ := srcB_of hr
        exact ⟨zi.take li, fun _ => ⟨ai, ci, by rw [s2]; exact hc, s1⟩⟩
      · exact ⟨[], fun e => absurd e hi⟩
    refine ⟨(List.range len).map (fun i => Classical.choose (h4 i)), ?_, by simp, h1, h2⟩
    by_cases hz : len = 0
    · left; subst hz; rfl
    · obtain ⟨ai, ci, hc, -⟩ := Classical.choose_spec (h4 0) (by omega)
      refine .inr ⟨x.block, x.off, by rw [← addr_form hc], ?_, fun i l hi => ?_⟩
      · have := lt_of_cell (cell_form hc); exact this
      · have hli := (List.getElem?_eq_some_iff.1 hi).1
        simp at hli
        obtain ⟨aj, cj, hcj, hsj⟩ := Classical.choose_spec (h4 i) hli
        rw [List.getElem?_map, List.getElem?_range hli] at hi
        simp only [Option.map_some, Option.some.injEq] at hi
        subst hi
        exact ⟨aj, cj, cell_form hcj, hsj⟩

/-- are the rows more than the statements go through? -/
def gr (pl : List (List Int)) : Bool := decide (30 < pl.length) || pl.any (fun l => decide (30 < l.length))
theorem gr_false {pl : List (List Int)} (h : gr pl = false) : pl.length ≤ 30 ∧ ∀ l, l ∈ pl → l.length ≤ 30 := by
  simp [gr] at h
  exact ⟨h.1, h.2⟩
section
variable {B cap : Nat} {w : World} {a : Option Addr} {pl : List (List Int)}
set_option maxHeartbeats 2000000 in
theorem great_of (hs : SrcS B w a pl) (hl : pl.length ≤ maxLen) : Calls Try.prog 8 #[.slice a pl.length cap] w fun e w' => e = .returned (.bool (gr pl)) ∧ Ch Nil w w' := by
  have HS := Lib.hid hs
  obtain ⟨n, hN⟩ : ∃ n, n = pl.length := ⟨_, rfl⟩
  rw [← hN] at hl ⊢
  have HN := Lib.hid hN
  clear hs hN
  go_enter Try.func8, Try.ntmps8
  by_cases hb : 30 < n
  · have hbz : (30 : Int) < (n : Int) := by omega
    have hg : gr pl = true := by rw [HN.out] at hb; simp [gr, hb]
    go_wp2
    go_ret
    exact ⟨by rw [hg]; rfl, Ch.refl _ _⟩
  · have hbz : ¬ (30 : Int) < (n : Int) := by omega
    go_wp2
    go_loopw [3] (fun i wr => ∃ k : Nat, k ≤ n ∧ i = .int .i64 k ∧ Ch Nil w wr ∧ Hid (∀ l, l ∈ pl.take k → l.length ≤ 30)) (fun i _ => n - (intOf i).toNat)
    case atStart => exact ⟨0, by omega, rfl, Ch.refl _ _, Lib.hid (fun l h => (by simp at h))⟩
    case round =>
      obtain ⟨k, hk, rfl, hc, HA⟩ := hrel
      have HC := Lib.hid hc
      by_cases hlt : k < n
      · obtain ⟨l, hv⟩ : ∃ l, pl[k]? = some l := ⟨_, List.getElem?_eq_getElem (by rw [← HN.out]; exact hlt)⟩
        obtain ⟨b, o, rfl, -, hcl⟩ := HS.out.form (by rintro rfl; simp at hv)
        obtain ⟨ai, ci, hx, -⟩ := hcl k l hv
        have hx' := hc.keeps hx (fun e => e)
        have HV := Lib.hid hv
        have hkz : (k : Int) < (n : Int) := by omega
        have hkz0 : (0 : Int) ≤ (k : Int) := by omega
        clear hcl hv hx hc
        by_cases hl30 : 30 < l.length
        · have hlz : (30 : Int) < (l.length : Int) := by omega
          go_wp2
          go_ret
          have hg : gr pl = true := by
            have hm : l ∈ pl := List.mem_of_getElem? HV.out
            simp only [gr, Bool.or_eq_true, List.any_eq_true]
            exact .inr ⟨l, hm, by simpa using hl30⟩
          exact ⟨by rw [hg]; rfl, HC.out⟩
        · have hlz : ¬ (30 : Int) < (l.length : Int) := by omega
          go_wp2
          go_roundw
          case rel =>
            refine ⟨k + 1, by omega, by go_num, HC.out, Lib.hid (fun l' h' => ?_)⟩
            rw [List.take_add_one, HV.out] at h'
            rcases List.mem_append.1 h' with h' | h'
            · exact HA.out l' h'
            · simp at h'; subst h'; omega
          case measure => simp [intOf]; omega
      · obtain rfl : k = n := by omega
        clear hc
        go_wp2
        go_ret
        have hg : gr pl = false := by
          have h2 := HA.out
          rw [List.take_of_length_le (by rw [HN.out]; exact Nat.le_refl _)] at h2
          rw [HN.out] at hb
          simp only [gr, Bool.or_eq_false_iff, decide_eq_false_iff_not, List.any_eq_false]
          exact ⟨hb, fun l hl => by simpa using h2 l hl⟩
        exact ⟨by rw [hg]; rfl, HC.out⟩
/-- a number more behind the row -/
theorem flat_snoc (P : List (List Int)) (l : List Int) : flat (P ++ [l]) = flat P ++ pos l := by simp [flat]
theorem pos_snoc (l : List Int) (v : Int) : pos (l ++ [v]) = pos l ++ if 0 ≤ v then [v] else [] := by
  unfold pos
  rw [List.filter_append]
  by_cases h : 0 ≤ v <;> simp [h]
theorem pos_le (l : List Int) : (pos l).length ≤ l.length := pos_len l
theorem flat_len : ∀ {P : List (List Int)}, (∀ l, l ∈ P → l.length ≤ 30) → (flat P).length ≤ 30 * P.length
  | [], _ => by simp [flat]
  | l :: P, h => by
    rw [flat_cons, List.length_append, List.length_cons]
    have := flat_len (P := P) (fun l' h' => h l' (List.mem_cons_of_mem _ h'))
    have := pos_le l
    have := h l (List.mem_cons_self ..)
    omega
/-- a row of our own of these numbers -/
abbrev RowN (w : World) (a : Option Addr) (cap : Nat) (g : List Int) : Prop := RowI w a g.length cap (num g)
theorem RowN.nil (w : World) : RowN w none 0 [] := Row.nil _ _ _ _
set_option maxHeartbeats 4000000 in
theorem rowRef_of (hs : SrcS B w a pl) (hl : pl.length ≤ 30) (hr : ∀ l, l ∈ pl → l.length ≤ 30) : Calls Try.prog 9 #[.slice a pl.length cap] w fun e w' => ∃ a' cap', e = .returned (.slice a' (flat pl).length cap') ∧ RowN w' a' cap' (flat pl) ∧ Ch Nil w w' ∧ ∀ g, OwnS a' g → w.heap.size ≤ g := by
  have HS := Lib.hid hs
  obtain ⟨n, hN⟩ : ∃ n, n = pl.length := ⟨_, rfl⟩
  rw [← hN] at hl ⊢
  have HN := Lib.hid hN
  have HR := Lib.hid hr
  clear hs hN hr
  go_enter Try.func9, Try.ntmps9
  go_wp2
  go_loopw [3, 4] (fun s i wr => ∃ (k : Nat) (a' : Option Addr) (cap' : Nat), k ≤ n ∧ i = .int .i64 k ∧ s = .slice a' (flat (pl.take k)).length cap' ∧ Ch Nil w wr ∧ RowN wr a' cap' (flat (pl.take k)) ∧ ∀ g, OwnS a' g → w.heap.size ≤ g) (fun _ i _ => n - (intOf i).toNat)
  case atStart => exact ⟨0, none, 0, by omega, rfl, rfl, Ch.refl _ _, RowN.nil _, (fun g h => (by cases h))⟩
  case round =>
    obtain ⟨k, a', cap', hk, rfl, rfl, hc, hrow, ho⟩ := hrel
    have HC := Lib.hid hc
    have HW := Lib.hid hrow
    have HO := Lib.hid ho
    clear hc hrow ho
    by_cases hlt : k < n
    · obtain ⟨l, hv⟩ : ∃ l, pl[k]? = some l := ⟨_, List.getElem?_eq_getElem (by rw [← HN.out]; exact hlt)⟩
      obtain ⟨b, o, rfl, -, hcl⟩ := HS.out.form (by rintro rfl; simp at hv)
      obtain ⟨ai, ci, hx, hy⟩ := hcl k l hv
      have HV := Lib.hid hv
      have HX := Lib.hid hx
      have HY := Lib.hid hy.srcA
      have hl30 : l.length ≤ 30 := HR.out l (List.mem_of_getElem? hv)
      have hkz : (k : Int) < (n : Int) := by omega
      have hkz0 : (0 : Int) ≤ (k : Int) := by omega
      have hfl : (flat (pl.take k)).length ≤ 900 := by
        have := flat_len (P := pl.take k) (fun l' h' => HR.out l' (List.mem_of_mem_take h'))
        have := List.length_take_le k pl
        omega
      clear hcl hv hx hy
      go_wp2
      go_loopw [3, 5] (fun s i wj => ∃ (j : Nat) (aj : Option Addr) (cj : Nat), j ≤ l.length ∧ i = .int .i64 j ∧ s = .slice aj (flat (pl.take k) ++ pos (l.take j)).length cj ∧ Ch Nil w wj ∧ RowN wj aj cj (flat (pl.take k) ++ pos (l.take j)) ∧ ∀ g, OwnS aj g → w.heap.size ≤ g) (fun _ i _ => l.length - (intOf i).toNat)
      case atStart => exact ⟨0, a', cap', by omega, rfl, by simp [pos], HC.out, by simpa [pos] using HW.out, HO.out⟩
      case round =>
        obtain ⟨j, aj, cj, hj, rfl, rfl, hcj, hrj, hoj⟩ := hrel
        have HC2 := Lib.hid hcj
        have HW2 := Lib.hid hrj
        have HO2 := Lib.hid hoj
        have hxk := hcj.keeps HX.out (fun e => e)
        clear hcj hrj hoj
        have hpl : (flat (pl.take k) ++ pos (l.take j)).length ≤ 1000 := by
          have := pos_le (l.take j)
          have := List.length_take_le j l
          rw [List.length_append]; omega
        by_cases hjl : j < l.length
        · obtain ⟨v, hv⟩ : ∃ v, l[j]? = some v := ⟨_, List.getElem?_eq_getElem hjl⟩
          obtain ⟨b2, o2, rfl, hcl2⟩ := HY.out.form (by rintro rfl; simp at hv)
          have hv1 := HC2.out.keeps (hcl2 j v hv) (fun e => e)
          have FT := Lib.hid (show l.take (j + 1) = l.take j ++ [v] by rw [List.take_add_one, hv]; rfl)
          have hjz : (j : Int) < (l.length : Int) := by omega
          have hjz0 : (0 : Int) ≤ (j : Int) := by omega
          clear hcl2 hv
          obtain ⟨FL, hFL⟩ : ∃ FL, FL = flat (pl.take k) ++ pos (l.take j) := ⟨_, rfl⟩
          have HFL := Lib.hid hFL
          rw [← hFL] at hpl HW2 ⊢
          clear hFL
          by_cases h0 : 0 ≤ v
          · have h0d : decide (v ≥ 0) = true := by simpa using h0
            have hA1 : ∀ i, i < FL.length * 1 → (fun i => Value.int .i64 (num (FL ++ [v]) i)) i = (fun i => Value.int .i64 (num FL i)) i := fun i hi => by
              simp only
              rw [num_left (by omega)]
            have hA2 : ∀ i u, [Value.int .i64 v][i]? = some u → (fun i => Value.int .i64 (num (FL ++ [v]) i)) (FL.length * 1 + i) = u := by
              intro i u hu
              obtain rfl : i = 0 := by cases i; rfl; simp at hu
              simp at hu
              subst hu
              simp only [Nat.mul_one, Nat.add_zero]
              rw [num_last]
            have HA := Lib.hid (And.intro hA1 hA2)
            have R5 : Hid (Row (wr.alloc (.cells #[.int .i64 v] 3)) 3 1 aj FL.length cj (fun i => .int .i64 (num FL i))) := Lib.hid (HW2.out.kept (S := Nil) ((Ch.refl Nil wr).alloc (Obj.cells #[.int .i64 v] 3)) (fun _ _ e => e))
            clear hA1 hA2
            go_wp2_with (at_builtin; refine append_row _ rfl _ _ _ rfl 3 (.int .i64 0) 1 8 Try.underlying25 (by kernel_rfl) rfl (by omega) (by omega) rfl R5.out (by omega) wr.heap.size 1 [.int .i64 v] 3 rfl rfl (heap_alloc_new wr _) (by simp [Value.oneCell']) (fun i => Value.int .i64 (num (FL ++ [v]) i)) HA.out.1 HA.out.2 _ rfl ?_)
            intro g6 cap6 w6 row6 ch6 at6 lt6
            have lw2 := HC2.out.size
            have FIN : Hid (RowN w6 (some ⟨g6, 0, none⟩) cap6 (FL ++ [v]) ∧ Ch Nil w w6 ∧ ∀ g', OwnS (some ⟨g6, 0, none⟩) g' → w.heap.size ≤ g') := Lib.hid ⟨by unfold RowN RowI; rw [List.length_append]; exact row6, (HC2.out.alloc _).then ch6 (fun i hi e => by have := HO2.out i e; omega), (fun g' hg' => by
              cases hg'
              rcases at6 with h | h
              · exact HO2.out _ h
              · simp only; omega)⟩
            clear row6 ch6 at6 lt6 R5
            go_wp2
            go_roundw
            case rel =>
              have e : flat (pl.take k) ++ pos (l.take (j + 1)) = FL ++ [v] := by rw [FT.out, pos_snoc, if_pos h0, HFL.out, List.append_assoc]
              exact ⟨j + 1, some ⟨g6, 0, none⟩, cap6, by omega, by go_num, by rw [e, List.length_append]; rfl, FIN.out.2.1, by rw [e]; exact FIN.out.1, FIN.out.2.2⟩
            case measure => simp [intOf]; omega
          · have h0d : decide (v ≥ 0) = false := by simpa using h0
            go_wp2
            go_roundw
            case rel =>
              have e : flat (pl.take k) ++ pos (l.take (j + 1)) = FL := by rw [FT.out, pos_snoc, if_neg h0, HFL.out, List.append_nil]
              exact ⟨j + 1, aj, cj, by omega, by go_num, by rw [e], HC2.out, by rw [e]; exact HW2.out, HO2.out⟩
            case measure => simp [intOf]; omega
        · obtain rfl : j = l.length := by omega
          rw [List.take_length] at HW2 hpl ⊢
          have FT := Lib.hid (show flat (pl.take (k + 1)) = flat (pl.take k) ++ pos l by rw [List.take_add_one, HV.out]; exact flat_snoc _ _)
          go_wp2
          go_roundw
          case rel => exact ⟨k + 1, aj, cj, by omega, by go_num, by rw [FT.out], HC2.out, by rw [FT.out]; exact HW2.out, HO2.out⟩
          case measure => simp [intOf]; omega
    · obtain rfl : k = n := by omega
      rw [List.take_of_length_le (by rw [HN.out]; exact Nat.le_refl _)] at HW ⊢
      go_wp2
      go_ret
      exact ⟨a', cap', rfl, HW.out, HC.out, HO.out⟩
end
end Go.Proofs.Ytjaalkjdpgnfjaa
