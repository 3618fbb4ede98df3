/-
  The document's answers (vergeref12): Same, Of, At.
-/
import Derived.Test.YtpihlchocjdpmaaFirMem
import Derived.Laws.StructEq
import Derived.Lib.Hide
import Derived.Deep.Draws
import Derived.Deep.QuietTactic
import Derived.BigQuiet
namespace Go.Proofs.Ytpihlchocjdpmaa
open Go.RowKit Verge
set_option linter.unusedVariables false
set_option linter.unusedSimpArgs false

theorem eqFr (f g : Fr) (w : World) : (Op.equalIn 10000 43 (.agg #[.int .u64 (f.i : Nat), .int .u64 (f.g : Nat), .int .u64 (f.d : Nat), .int .u64 (f.t : Nat)]) (.agg #[.int .u64 (g.i : Nat), .int .u64 (g.g : Nat), .int .u64 (g.d : Nat), .int .u64 (g.t : Nat)])).run Try.prog w = .ok (decide (f = g)) w := by
  have u3 := Try.underlying23
  have a3 := Try.isAgg23
  have z3 := Try.sizeOf23
  have hS : Try.prog.underlying 43 = some (.struct (Try.prog.fieldsOf 43)) := by kernel_rfl
  have hp : Try.prog.stoodInHeld 43 = false := by kernel_rfl
  rw [show (10000 : Nat) = 9999 + 1 from rfl, run_equalIn_agg w 9999 43 _ _ hS hp]
  simp only [Program.fieldsOf, Try.underlying43]
  go_simp
  obtain ⟨a, b, c, d⟩ := f
  obtain ⟨a', b', c', d'⟩ := g
  by_cases h1 : a = a' <;> by_cases h2 : b = b' <;> by_cases h3 : c = c' <;> by_cases h4 : d = d' <;> simp [h1, h2, h3, h4] <;> omega

set_option maxHeartbeats 1000000 in
theorem same_of {w : World} {a b : Option Addr} {c1 c2 : Nat} {L M : List Fr} (h1 : Src w a L) (h2 : Src w b M) (hl : L.length ≤ 1000000) (hm : M.length ≤ 1000000) :
    Calls Try.prog 11 #[.slice a L.length c1, .slice b M.length c2] w fun e w' => e = .returned (.bool (decide (L = M))) ∧ Ch Nil w w' := by
  obtain ⟨n, hn⟩ : ∃ n, n = L.length := ⟨_, rfl⟩
  obtain ⟨m, hm'⟩ : ∃ m, m = M.length := ⟨_, rfl⟩
  have HN := Lib.hid hn
  have HM := Lib.hid hm'
  have S1 := Lib.hid h1
  have S2 := Lib.hid h2
  rw [← hn] at hl ⊢
  rw [← hm'] at hm ⊢
  clear hn hm' h1 h2
  go_enter Try.func11, Try.ntmps11
  by_cases hne : n = m
  · subst hne
    go_wp2
    go_loopw [5] (fun i wr => ∃ k : Nat, k ≤ n ∧ i = .int .i64 k ∧ Hid (L.take k = M.take k) ∧ Ch Nil w wr) (fun i _ => n - (intOf i).toNat)
    case atStart => exact ⟨0, by omega, rfl, Lib.hid rfl, Ch.refl _ _⟩
    case round =>
      obtain ⟨k, hk, rfl, HT, hc⟩ := hrel
      have HC := Lib.hid hc
      by_cases hlt : k < n
      · obtain ⟨b1, o1, rfl, -, k1⟩ := (S1.out.kept hc (fun _ _ e => e)).form (by rw [← HN.out]; omega)
        obtain ⟨b2, o2, rfl, -, k2⟩ := (S2.out.kept hc (fun _ _ e => e)).form (by rw [← HM.out]; omega)
        obtain ⟨f, hf⟩ : ∃ f, L[k]? = some f := ⟨_, List.getElem?_eq_getElem (by rw [← HN.out]; exact hlt)⟩
        obtain ⟨g, hg⟩ : ∃ f, M[k]? = some f := ⟨_, List.getElem?_eq_getElem (by rw [← HM.out]; exact hlt)⟩
        obtain ⟨f0, f1, f2, f3⟩ := src_cells k1 hf
        obtain ⟨g0, g1, g2, g3⟩ := src_cells k2 hg
        have hkz : (k : Int) < (n : Int) := by omega
        have hkz0 : (0 : Int) ≤ (k : Int) := by omega
        have HF := Lib.hid hf
        have HG := Lib.hid hg
        have hE := eqFr f g
        clear k1 k2 hf hg hc
        by_cases hfg : f = g
        · have hd : decide (f = g) = true := by simp [hfg]
          rw [hd] at hE
          have HFG := Lib.hid hfg
          clear hfg hd
          go_wp2
          go_quiet (fail)
          go_wp2
          go_roundw
          case rel =>
            refine ⟨k + 1, by omega, by go_num, Lib.hid ?_, HC.out.drewN _⟩
            rw [List.take_add_one, List.take_add_one, HT.out, HF.out, HG.out, HFG.out]
          case measure => simp [intOf]; omega
        · have hd : decide (f = g) = false := by simp [hfg]
          rw [hd] at hE
          have HFG := Lib.hid hfg
          clear hfg hd
          go_wp2
          go_quiet (fail)
          go_wp2
          go_ret
          have hd : decide (L = M) = false := decide_eq_false fun e => by
            have h1 := HF.out
            rw [e, HG.out] at h1
            exact HFG.out (Option.some.inj h1).symm
          exact ⟨by rw [hd]; rfl, HC.out.drewN _⟩
      · obtain rfl : k = n := by omega
        clear hc
        go_wp2
        go_ret
        have hd : decide (L = M) = true := decide_eq_true (by
          have := HT.out
          rwa [List.take_of_length_le (by have := HN.out; omega), List.take_of_length_le (by have := HM.out; omega)] at this)
        exact ⟨by rw [hd]; rfl, HC.out⟩
  · have hz : (n : Int) ≠ (m : Int) := by omega
    go_wp2
    go_ret
    have hd : decide (L = M) = false := decide_eq_false fun e => hne (by rw [HN.out, HM.out, e])
    exact ⟨by rw [hd]; rfl, Ch.refl _ _⟩

set_option maxHeartbeats 1000000 in
theorem refOf_of {w : World} {a : Option Addr} {c1 : Nat} {L : List Fr} (x : Nat) (h1 : Src w a L) (hl : L.length ≤ 1000000) :
    Calls Try.prog 14 #[.slice a L.length c1, .int .u64 (x : Nat)] w fun e w' => ∃ a' cap', e = .returned (.slice a' (L.filter fun f => f.i == x).length cap') ∧ FRow w' a' cap' (L.filter fun f => f.i == x) ∧ (∀ g, OwnS a' g → w.heap.size ≤ g) ∧ Ch Nil w w' := by
  obtain ⟨n, hn⟩ : ∃ n, n = L.length := ⟨_, rfl⟩
  have HN := Lib.hid hn
  have S1 := Lib.hid h1
  rw [← hn] at hl ⊢
  clear hn h1
  go_enter Try.func14, Try.ntmps14
  go_wp2
  go_loopw [6, 5] (fun i v wr => ∃ (k : Nat) (a' : Option Addr) (cap' m : Nat), k ≤ n ∧ i = .int .i64 k ∧ v = .slice a' m cap' ∧ Hid (m = ((L.take k).filter fun f => f.i == x).length ∧ FRow wr a' cap' ((L.take k).filter fun f => f.i == x) ∧ (∀ g, OwnS a' g → w.heap.size ≤ g) ∧ Ch Nil w wr)) (fun i _ _ => n - (intOf i).toNat)
  case atStart => exact ⟨0, none, 0, 0, by omega, rfl, rfl, Lib.hid ⟨rfl, Row.nil _ _ _ _, fun g hg => by simp [OwnS] at hg, Ch.refl _ _⟩⟩
  case round =>
    obtain ⟨k, a', cap', m, hk, rfl, rfl, HR⟩ := hrel
    by_cases hlt : k < n
    · obtain ⟨b1, o1, rfl, -, k1⟩ := (S1.out.kept HR.out.2.2.2 (fun _ _ e => e)).form (by rw [← HN.out]; omega)
      obtain ⟨f, hf⟩ : ∃ f, L[k]? = some f := ⟨_, List.getElem?_eq_getElem (by rw [← HN.out]; exact hlt)⟩
      obtain ⟨f0, f1, f2, f3⟩ := src_cells k1 hf
      have hkz : (k : Int) < (n : Int) := by omega
      have hkz0 : (0 : Int) ≤ (k : Int) := by omega
      have HT := Lib.hid (show L.take (k + 1) = L.take k ++ [f] by rw [List.take_add_one, hf]; rfl)
      clear k1 hf
      by_cases hx : f.i = x
      · subst hx
        have HX := Lib.hid (show (L.take (k + 1)).filter (fun g => g.i == f.i) = (L.take k).filter (fun g => g.i == f.i) ++ [f] by rw [HT.out, List.filter_append]; simp)
        have R2 : Hid (FRow (wr.alloc (.cells (frs f).toArray 43)) a' cap' ((L.take k).filter fun g => g.i == f.i)) := Lib.hid (HR.out.2.1.kept (S := Nil) ((Ch.refl _ _).alloc _) (fun _ _ e => e))
        have hfl : ((L.take k).filter fun g => g.i == f.i).length ≤ 1000000 := Nat.le_trans (List.length_filter_le _ _) (by rw [List.length_take]; omega)
        have HL := Lib.hid hfl
        have M1 := Lib.hid HR.out.1
        clear hfl
        go_wp2_with (at_builtin; refine append_fr _ rfl _ _ _ rfl Try.underlying22 (by kernel_rfl) rfl M1.out R2.out HL.out wr.heap.size 1 f 43 rfl (heap_alloc_new wr _) _ rfl ?_)
        intro g cap2 w2 row ch at_ lt
        have ROW := Lib.hid row
        have CH := Lib.hid ch
        have AT := Lib.hid at_
        clear row ch at_ lt
        go_wp2
        go_roundw
        case rel =>
          obtain ⟨e1, r1, g1, c1⟩ := HR.out
          refine ⟨k + 1, _, cap2, m + 1, by omega, by go_num, rfl, Lib.hid ⟨?_, ?_, ?_, ?_⟩⟩
          · rw [HX.out, List.length_append, ← e1]; rfl
          · rw [HX.out]; exact ROW.out
          · intro g' hg'; cases hg'
            rcases AT.out with h | h
            · exact g1 g h
            · have := c1.size; rw [h]; simp; omega
          · refine (c1.alloc _).then CH.out fun i hi e => ?_
            have := g1 i e
            omega
        case measure => simp [intOf]; omega
      · have hz : (f.i : Int) ≠ (x : Int) := by omega
        have HX := Lib.hid (show (L.take (k + 1)).filter (fun f => f.i == x) = (L.take k).filter (fun f => f.i == x) by rw [HT.out, List.filter_append]; simp [hx])
        clear hx
        go_wp2
        go_roundw
        case rel =>
          obtain ⟨e1, r1, g1, c1⟩ := HR.out
          exact ⟨k + 1, _, cap', m, by omega, by go_num, rfl, Lib.hid ⟨by rw [HX.out]; exact e1, by rw [HX.out]; exact r1, g1, c1⟩⟩
        case measure => simp [intOf]; omega
    · obtain rfl : k = n := by omega
      go_wp2
      go_ret
      obtain ⟨e1, r1, g1, c1⟩ := HR.out
      have ht : L.take k = L := List.take_of_length_le (by have := HN.out; omega)
      rw [ht] at e1 r1
      exact ⟨a', cap', by rw [e1]; rfl, r1, g1, c1⟩

set_option maxHeartbeats 1000000 in
theorem refAt_of {w : World} {a : Option Addr} {c1 : Nat} {L : List Fr} (x : Nat) (h1 : Src w a L) (hl : L.length ≤ 1000000) :
    Calls Try.prog 16 #[.slice a L.length c1, .int .u64 (x : Nat)] w fun e w' => ∃ a' cap', e = .returned (.slice a' (L.filter fun f => f.t == x).length cap') ∧ FRow w' a' cap' (L.filter fun f => f.t == x) ∧ (∀ g, OwnS a' g → w.heap.size ≤ g) ∧ Ch Nil w w' := by
  obtain ⟨n, hn⟩ : ∃ n, n = L.length := ⟨_, rfl⟩
  have HN := Lib.hid hn
  have S1 := Lib.hid h1
  rw [← hn] at hl ⊢
  clear hn h1
  go_enter Try.func16, Try.ntmps16
  go_wp2
  go_loopw [6, 5] (fun i v wr => ∃ (k : Nat) (a' : Option Addr) (cap' m : Nat), k ≤ n ∧ i = .int .i64 k ∧ v = .slice a' m cap' ∧ Hid (m = ((L.take k).filter fun f => f.t == x).length ∧ FRow wr a' cap' ((L.take k).filter fun f => f.t == x) ∧ (∀ g, OwnS a' g → w.heap.size ≤ g) ∧ Ch Nil w wr)) (fun i _ _ => n - (intOf i).toNat)
  case atStart => exact ⟨0, none, 0, 0, by omega, rfl, rfl, Lib.hid ⟨rfl, Row.nil _ _ _ _, fun g hg => by simp [OwnS] at hg, Ch.refl _ _⟩⟩
  case round =>
    obtain ⟨k, a', cap', m, hk, rfl, rfl, HR⟩ := hrel
    by_cases hlt : k < n
    · obtain ⟨b1, o1, rfl, -, k1⟩ := (S1.out.kept HR.out.2.2.2 (fun _ _ e => e)).form (by rw [← HN.out]; omega)
      obtain ⟨f, hf⟩ : ∃ f, L[k]? = some f := ⟨_, List.getElem?_eq_getElem (by rw [← HN.out]; exact hlt)⟩
      obtain ⟨f0, f1, f2, f3⟩ := src_cells k1 hf
      have hkz : (k : Int) < (n : Int) := by omega
      have hkz0 : (0 : Int) ≤ (k : Int) := by omega
      have HT := Lib.hid (show L.take (k + 1) = L.take k ++ [f] by rw [List.take_add_one, hf]; rfl)
      clear k1 hf
      by_cases hx : f.t = x
      · subst hx
        have HX := Lib.hid (show (L.take (k + 1)).filter (fun g => g.t == f.t) = (L.take k).filter (fun g => g.t == f.t) ++ [f] by rw [HT.out, List.filter_append]; simp)
        have R2 : Hid (FRow (wr.alloc (.cells (frs f).toArray 43)) a' cap' ((L.take k).filter fun g => g.t == f.t)) := Lib.hid (HR.out.2.1.kept (S := Nil) ((Ch.refl _ _).alloc _) (fun _ _ e => e))
        have hfl : ((L.take k).filter fun g => g.t == f.t).length ≤ 1000000 := Nat.le_trans (List.length_filter_le _ _) (by rw [List.length_take]; omega)
        have HL := Lib.hid hfl
        have M1 := Lib.hid HR.out.1
        clear hfl
        go_wp2_with (at_builtin; refine append_fr _ rfl _ _ _ rfl Try.underlying22 (by kernel_rfl) rfl M1.out R2.out HL.out wr.heap.size 1 f 43 rfl (heap_alloc_new wr _) _ rfl ?_)
        intro g cap2 w2 row ch at_ lt
        have ROW := Lib.hid row
        have CH := Lib.hid ch
        have AT := Lib.hid at_
        clear row ch at_ lt
        go_wp2
        go_roundw
        case rel =>
          obtain ⟨e1, r1, g1, c1⟩ := HR.out
          refine ⟨k + 1, _, cap2, m + 1, by omega, by go_num, rfl, Lib.hid ⟨?_, ?_, ?_, ?_⟩⟩
          · rw [HX.out, List.length_append, ← e1]; rfl
          · rw [HX.out]; exact ROW.out
          · intro g' hg'; cases hg'
            rcases AT.out with h | h
            · exact g1 g h
            · have := c1.size; rw [h]; simp; omega
          · refine (c1.alloc _).then CH.out fun i hi e => ?_
            have := g1 i e
            omega
        case measure => simp [intOf]; omega
      · have hz : (f.t : Int) ≠ (x : Int) := by omega
        have HX := Lib.hid (show (L.take (k + 1)).filter (fun f => f.t == x) = (L.take k).filter (fun f => f.t == x) by rw [HT.out, List.filter_append]; simp [hx])
        clear hx
        go_wp2
        go_roundw
        case rel =>
          obtain ⟨e1, r1, g1, c1⟩ := HR.out
          exact ⟨k + 1, _, cap', m, by omega, by go_num, rfl, Lib.hid ⟨by rw [HX.out]; exact e1, by rw [HX.out]; exact r1, g1, c1⟩⟩
        case measure => simp [intOf]; omega
    · obtain rfl : k = n := by omega
      go_wp2
      go_ret
      obtain ⟨e1, r1, g1, c1⟩ := HR.out
      have ht : L.take k = L := List.take_of_length_le (by have := HN.out; omega)
      rw [ht] at e1 r1
      exact ⟨a', cap', by rw [e1]; rfl, r1, g1, c1⟩

end Go.Proofs.Ytpihlchocjdpmaa
