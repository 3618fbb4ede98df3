/-
  Contract of the document's Faults.
-/
import Derived.Test.YtpihlchocjdpmaaFirFaults
namespace Go.Proofs.Ytpihlchocjdpmaa
open Go.RowKit Verge Go.Maps
set_option linter.unusedVariables false
set_option linter.unusedSimpArgs false
/-- between two rounds of the document's Faults -/
structure RtIn (w : World) (L : List Fr) (k n : Nat) (a : Option Addr) (cap : Nat) (wr : World) : Prop where
  n : n = (faultsTo L k).length
  row : RowI wr a (faultsTo L k).length cap (qf (faultsTo L k))
  own : ∀ g, OwnS a g → w.heap.size ≤ g
  c : Ch Nil w wr
theorem any_step {L : List Fr} {j : Nat} {g f : Fr} (h : L[j]? = some g) : ((L.take (j + 1)).any fun g => g.i == f.i && g.g == f.g) = (((L.take j).any fun g => g.i == f.i && g.g == f.g) || (g.i == f.i && g.g == f.g)) := by
  rw [List.take_add_one, h, List.any_append]
  simp

set_option maxHeartbeats 2000000 in
theorem refFaults_of {w : World} {a : Option Addr} {c1 : Nat} {L : List Fr} (h1 : Src w a L) (hl : L.length ≤ 100000) :
    Calls Try.prog 23 #[.slice a L.length c1] w fun e w' => ∃ a' cap', e = .returned (.slice a' (faultsTo L L.length).length cap') ∧ RowI w' a' (faultsTo L L.length).length cap' (qf (faultsTo L L.length)) ∧ (∀ g, OwnS a' g → w.heap.size ≤ g) ∧ Ch Nil w w' := by
  obtain ⟨n, hn⟩ : ∃ n, n = L.length := ⟨_, rfl⟩
  have HN := Lib.hid hn
  have S1 := Lib.hid h1
  rw [← hn] at hl ⊢
  clear hn h1
  go_enter Try.func23, Try.ntmps23
  go_wp2
  go_loopw [4, 3] (fun i v wr => ∃ (k : Nat) (a' : Option Addr) (cap' m : Nat), k ≤ n ∧ i = .int .i64 k ∧ v = .slice a' m cap' ∧ Hid (RtIn w L k m a' cap' wr)) (fun i _ _ => n - (intOf i).toNat)
  case atStart => exact ⟨0, none, 0, 0, by omega, rfl, rfl, Lib.hid ⟨rfl, Row.nil _ _ _ _, fun g hg => by simp [OwnS] at hg, Ch.refl _ _⟩⟩
  case round =>
    obtain ⟨k, a', cap', m, hk, rfl, rfl, HR⟩ := hrel
    obtain ⟨wo, rfl⟩ : ∃ x, x = wr := ⟨wr, rfl⟩
    by_cases hlt : k < n
    · obtain ⟨b1, o1, rfl, -, k1⟩ := (S1.out.kept HR.out.c (fun _ _ e => e)).form (by rw [← HN.out]; omega)
      obtain ⟨f, hf⟩ : ∃ f, L[k]? = some f := ⟨_, List.getElem?_eq_getElem (by rw [← HN.out]; exact hlt)⟩
      obtain ⟨f0, f1, f2, f3⟩ := src_cells k1 hf
      have hkz : (k : Int) < (n : Int) := by omega
      have hkz0 : (0 : Int) ≤ (k : Int) := by omega
      have HB := Lib.hid (isBad_at hf)
      have K1 := Lib.hid k1
      clear k1 hf
      obtain ⟨b0, hb0⟩ : ∃ b0, b0 = decide (f.t < f.d) := ⟨_, rfl⟩
      have HB0 := Lib.hid hb0
      clear hb0
      go_wp2
      go_quiet (fail)
      go_wp2
      go_loopw [6, 5] (fun i v wr => ∃ (j : Nat) (b : Bool), j ≤ k ∧ i = .int .i64 j ∧ v = .bool b ∧ Hid (b = (b0 || (L.take j).any fun g => g.i == f.i && g.g == f.g)) ∧ Hid (Ch Nil wo wr)) (fun i _ _ => k - (intOf i).toNat)
      case atStart => exact ⟨0, b0, by omega, rfl, by rw [HB0.out], Lib.hid (by simp), Lib.hid ((Ch.refl _ _).drewN _)⟩
      case round =>
        obtain ⟨j, b, hj, rfl, rfl, HV, HCH⟩ := hrel
        by_cases hjk : j < k
        · obtain ⟨g, hg⟩ : ∃ f, L[j]? = some f := ⟨_, List.getElem?_eq_getElem (by rw [← HN.out]; omega)⟩
          obtain ⟨p0, p1, p2, p3⟩ := src_cells (w := wr) (fun i f hf j hj => HCH.out.keeps (K1.out i f hf j hj) (fun e => e)) hg
          have q0 := HCH.out.keeps f0 (fun e => e)
          have q1 := HCH.out.keeps f1 (fun e => e)
          have hjz : (j : Int) < (k : Int) := by omega
          have hjz0 : (0 : Int) ≤ (j : Int) := by omega
          have hjn : (j : Int) < (n : Int) := by omega
          have HG := Lib.hid hg
          clear hg f0 f1 f2 f3
          have way : b = true ∨ (b = false ∧ g.i ≠ f.i) ∨ (b = false ∧ g.i = f.i ∧ g.g ≠ f.g) ∨ (b = false ∧ g.i = f.i ∧ g.g = f.g) := by
            cases b
            · by_cases h1 : g.i = f.i
              · by_cases h2 : g.g = f.g
                · exact .inr (.inr (.inr ⟨rfl, h1, h2⟩))
                · exact .inr (.inr (.inl ⟨rfl, h1, h2⟩))
              · exact .inr (.inl ⟨rfl, h1⟩)
            · exact .inl rfl
          rcases way with rfl | ⟨rfl, h1⟩ | ⟨rfl, h1, h2⟩ | ⟨rfl, h1, h2⟩
          · have hc1 : (b0 || (L.take (j + 1)).any fun g => g.i == f.i && g.g == f.g) = true := by rw [any_step HG.out, ← Bool.or_assoc, ← HV.out]; simp
            have HC1 := Lib.hid hc1
            clear hc1
            go_wp2
            go_quiet (fail)
            go_wp2
            go_roundw
            case rel => exact ⟨j + 1, _, by omega, by go_num, rfl, Lib.hid HC1.out.symm, Lib.hid (HCH.out.drewN _)⟩
            case measure => simp [intOf]; omega
          · have hc1 : (b0 || (L.take (j + 1)).any fun g => g.i == f.i && g.g == f.g) = false := by rw [any_step HG.out, ← Bool.or_assoc, ← HV.out]; simp [h1]
            have HC1 := Lib.hid hc1
            clear hc1
            have hz : (g.i : Int) ≠ (f.i : Int) := by omega
            clear h1
            go_wp2
            go_quiet (fail)
            go_wp2
            go_roundw
            case rel => exact ⟨j + 1, _, by omega, by go_num, rfl, Lib.hid HC1.out.symm, Lib.hid (HCH.out.drewN _)⟩
            case measure => simp [intOf]; omega
          · have hc1 : (b0 || (L.take (j + 1)).any fun g => g.i == f.i && g.g == f.g) = false := by rw [any_step HG.out, ← Bool.or_assoc, ← HV.out]; simp [h2]
            have HC1 := Lib.hid hc1
            clear hc1
            have hz : (g.i : Int) = (f.i : Int) := by omega
            have hz2 : (g.g : Int) ≠ (f.g : Int) := by omega
            clear h1 h2
            go_wp2
            go_quiet (fail)
            go_wp2
            go_roundw
            case rel => exact ⟨j + 1, _, by omega, by go_num, rfl, Lib.hid (by rw [HC1.out]; exact beq_eq_false_iff_ne.2 hz2), Lib.hid (HCH.out.drewN _)⟩
            case measure => simp [intOf]; omega
          · have hc1 : (b0 || (L.take (j + 1)).any fun g => g.i == f.i && g.g == f.g) = true := by rw [any_step HG.out, ← Bool.or_assoc, ← HV.out]; simp [h1, h2]
            have HC1 := Lib.hid hc1
            clear hc1
            have hz : (g.i : Int) = (f.i : Int) := by omega
            have hz2 : (g.g : Int) = (f.g : Int) := by omega
            clear h1 h2
            go_wp2
            go_quiet (fail)
            go_wp2
            go_roundw
            case rel => exact ⟨j + 1, _, by omega, by go_num, rfl, Lib.hid HC1.out.symm, Lib.hid (HCH.out.drewN _)⟩
            case measure => simp [intOf]; omega
        · obtain rfl : j = k := by omega
          have HBB := Lib.hid (show isBad L j = b by rw [HB.out, HV.out, HB0.out])
          have HCW := Lib.hid (HR.out.c.trans HCH.out)
          have HRW := Lib.hid (show RowI wr a' (faultsTo L j).length cap' (qf (faultsTo L j)) from HR.out.row.kept HCH.out (fun _ _ e => e))
          clear f0 f1 f2 f3
          cases hb : b with
          | false =>
            subst hb
            have HX := Lib.hid (show faultsTo L (j + 1) = faultsTo L j by rw [faultsTo_succ, if_neg (by rw [HBB.out]; simp)])
            go_wp2
            go_roundw
            case rel => exact ⟨j + 1, _, cap', m, by omega, by go_num, rfl, Lib.hid ⟨by rw [HX.out]; exact HR.out.n, by rw [HX.out]; exact HRW.out, HR.out.own, HCW.out⟩⟩
            case measure => simp [intOf]; omega
          | true =>
            subst hb
            have HX := Lib.hid (show faultsTo L (j + 1) = faultsTo L j ++ [j] by rw [faultsTo_succ, if_pos HBB.out])
            have R2 : Hid (RowI (wr.alloc (.cells #[.int .i64 (j : Nat)] 3)) a' (faultsTo L j).length cap' (qf (faultsTo L j))) := Lib.hid (HRW.out.kept (S := Nil) ((Ch.refl _ _).alloc _) (fun _ _ e => e))
            have HL : Hid ((faultsTo L j).length ≤ 1000000) := Lib.hid (by have := faultsTo_le L j; omega)
            have HMN := Lib.hid HR.out.n
            go_wp2_with (at_builtin; refine append_nat _ rfl _ _ _ rfl Try.underlying39 (by kernel_rfl) rfl HMN.out R2.out HL.out wr.heap.size 1 j 3 rfl (heap_alloc_new wr _) _ rfl ?_)
            intro g2 cap2 w2 row ch at_ lt
            have ROW := Lib.hid row
            have CH := Lib.hid ch
            have AT := Lib.hid at_
            clear row ch at_
            go_wp2
            go_roundw
            case rel =>
              refine ⟨j + 1, _, cap2, m + 1, by omega, by go_num, rfl, Lib.hid ⟨?_, ?_, ?_, ?_⟩⟩
              · rw [HX.out, List.length_append, ← HMN.out]; rfl
              · rw [HX.out, List.length_append]; exact ROW.out
              · intro g' hg'; cases hg'
                rcases AT.out with h | h
                · exact HR.out.own g2 h
                · have := HCW.out.size
                  show w.heap.size ≤ g2
                  omega
              · exact (HCW.out.alloc _).then CH.out fun i hi e => by have := HR.out.own i e; omega
            case measure => simp [intOf]; omega
    · obtain rfl : k = n := by omega
      go_wp2
      go_ret
      exact ⟨a', cap', by rw [HR.out.n]; rfl, HR.out.row, HR.out.own, HR.out.c⟩
end Go.Proofs.Ytpihlchocjdpmaa
