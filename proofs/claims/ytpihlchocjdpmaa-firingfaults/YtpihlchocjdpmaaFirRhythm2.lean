/-
  Contract of the document's Rhythm.
-/
import Derived.Test.YtpihlchocjdpmaaFirRhythm
namespace Go.Proofs.Ytpihlchocjdpmaa
open Go.RowKit Verge
set_option linter.unusedVariables false
set_option linter.unusedSimpArgs false

/-- at the head of the document's loop -/
structure RyIn (L : List Fr) (s p n k x : Nat) : Prop where
  r : Rhy L s p k
  at_ : k < n → x = s + k * p
  lt : x < 18446744073709551616
theorem wrap_nat (a b : Nat) : IntKind.u64.wrap ((a : Int) + (b : Int)) = (((a + b) % 18446744073709551616 : Nat) : Int) := by rw [IntKind.wrap_u64]; omega

set_option maxHeartbeats 4000000 in
theorem refRhythm_of {w : World} {a : Option Addr} {c1 : Nat} {L : List Fr} (s p : Nat) (hs : s < 18446744073709551616) (hp : p < 18446744073709551616) (h1 : Src w a L) (hok : Oks L) (hl : L.length ≤ 100000) :
    Calls Try.prog 25 #[.slice a L.length c1, .int .u64 (s : Nat), .int .u64 (p : Nat)] w fun e w' => ∃ b, e = .returned (.bool b) ∧ (b = true ↔ Rhy L s p L.length) ∧ Ch Nil w w' := by
  obtain ⟨n, hn⟩ : ∃ n, n = L.length := ⟨_, rfl⟩
  have HN := Lib.hid hn
  have S1 := Lib.hid h1
  have HOK := Lib.hid hok
  rw [← hn] at hl ⊢
  clear hn h1 hok
  obtain ⟨pp, hpe⟩ : ∃ pp, pp = 18446744073709551615 - p := ⟨_, rfl⟩
  have hpp : ((18446744073709551615 : Int) - (p : Int)) = (pp : Int) := by omega
  have HPE := Lib.hid hpe
  clear hpe
  go_enter Try.func25, Try.ntmps25
  go_wp2_with fail
  go_loopw [8, 7] (fun i v wr => ∃ (k x : Nat), k ≤ n ∧ i = .int .i64 (k : Nat) ∧ v = .int .u64 (x : Nat) ∧ Hid (RyIn L s p n k x ∧ Ch Nil w wr)) (fun i _ _ => n - (intOf i).toNat)
  case atStart => exact ⟨0, s, by omega, rfl, rfl, Lib.hid ⟨⟨Rhy.zero _ _ _, fun _ => by omega, hs⟩, Ch.refl _ _⟩⟩
  case round =>
    obtain ⟨k, x, hk, rfl, rfl, HR⟩ := hrel
    by_cases hlt : k < n
    · obtain ⟨b1, o1, rfl, -, k1⟩ := (S1.out.kept HR.out.2 (fun _ _ e => e)).form (by rw [← HN.out]; omega)
      obtain ⟨f, hf⟩ : ∃ f, L[k]? = some f := ⟨_, List.getElem?_eq_getElem (by rw [← HN.out]; exact hlt)⟩
      obtain ⟨f0, f1, f2, f3⟩ := src_cells k1 hf
      have hkz : (k : Int) < (n : Int) := by omega
      have hkz0 : (0 : Int) ≤ (k : Int) := by omega
      have K1 := Lib.hid k1
      have HF := Lib.hid hf
      have HX := Lib.hid (HR.out.1.at_ hlt)
      have hxl := HR.out.1.lt
      have hfok := HOK.out f (List.mem_of_getElem? hf)
      have HFO := Lib.hid hfok
      clear k1 hf hfok
      by_cases hd : f.d = x
      · subst hd
        rcases Nat.eq_zero_or_pos k with rfl | hkp
        · simp only [Nat.zero_mul, Nat.add_zero] at f0 f1 f2 f3
          have NX : Hid (Rhy L s p (0 + 1)) := Lib.hid (Rhy.one HF.out (by have := HX.out; simpa using this))
          by_cases hmore : 0 + 1 < n
          · have hm1 : (1 : Int) < (n : Int) := by omega
            obtain ⟨g, hg⟩ : ∃ f, L[0 + 1]? = some f := ⟨_, List.getElem?_eq_getElem (by rw [← HN.out]; exact hmore)⟩
            by_cases hov : 18446744073709551616 ≤ f.d + p
            · have NO := Lib.hid (show ¬ Rhy L s p n from fun h => by
                have h1 := (h.2 (0) f g (by omega) HF.out hg).1
                have h2 := (HOK.out g (List.mem_of_getElem? hg)).2.2.1
                omega)
              have hm2 : (pp : Int) < (f.d : Int) := by have := HPE.out; omega
              clear hg hov
              go_wp2
              go_quiet (fail)
              go_wp2
              go_ret
              exact ⟨false, rfl, ⟨fun h => (by cases h), fun h => (NO.out h).elim⟩, HR.out.2.drewN _⟩
            · have hm2 : ¬ (pp : Int) < (f.d : Int) := by have := HPE.out; omega
              have hwd : IntKind.u64.wrap ((f.d : Int) + (p : Int)) = ((f.d + p : Nat) : Int) := by rw [IntKind.wrap_u64]; omega
              have HLT : Hid (f.d + p < 18446744073709551616) := Lib.hid (by omega)
              clear hg hov
              go_wp2
              go_quiet (fail)
              go_wp2
              go_roundw
              case rel => exact ⟨0 + 1, f.d + p, by omega, by go_num, by go_num, Lib.hid ⟨⟨NX.out, fun _ => by have := HX.out; rw [this]; simp only [Nat.add_mul, Nat.one_mul, Nat.zero_mul]; omega, HLT.out⟩, HR.out.2.drewN _⟩⟩
              case measure => simp [intOf]; omega
          · have hm1 : ¬ (1 : Int) < (n : Int) := by omega
            have hm1d : decide ((1 : Int) < (n : Int)) = false := decide_eq_false hm1
            have hwd := wrap_nat f.d p
            generalize hy : (f.d + p) % 18446744073709551616 = y at hwd
            have HY := Lib.hid (show y < 18446744073709551616 by rw [← hy]; exact Nat.mod_lt _ (by omega))
            clear hy
            go_wp2
            go_quiet (fail)
            go_wp2
            go_roundw
            case rel => exact ⟨0 + 1, y, by omega, by go_num, by go_num, Lib.hid ⟨⟨NX.out, fun h => absurd h hmore, HY.out⟩, HR.out.2.drewN _⟩⟩
            case measure => simp [intOf]; omega
        · obtain ⟨j, rfl⟩ : ∃ j, k = j + 1 := ⟨k - 1, by omega⟩
          obtain ⟨q, hq⟩ : ∃ f, L[j]? = some f := ⟨_, List.getElem?_eq_getElem (by rw [← HN.out]; omega)⟩
          obtain ⟨q0, q1, q2, q3⟩ := src_cells K1.out hq
          have HQ := Lib.hid hq
          have hqo := (HOK.out q (List.mem_of_getElem? hq)).2.1
          have hjz : ((j : Int) + 1 - 1) = (j : Int) := by omega
          have hj0 : (0 : Int) ≤ (j : Int) := by omega
          have hwj : IntKind.i64.wrap (j : Int) = (j : Int) := IntWalk.i64_in _ (by omega)
          have hjn : (j : Int) < (n : Int) := by omega
          have hjp : (0 : Int) < (j : Int) + 1 := by omega
          have hkz1 : (j : Int) + 1 < (n : Int) := by omega
          have hjj : (0 : Int) ≤ (j : Int) + 1 := by omega
          clear hq
          by_cases hmax : q.g = 18446744073709551615
          · have NO := Lib.hid (show ¬ Rhy L s p n from fun h => by
              have h1 := (h.2 j q f (by omega) HQ.out HF.out).2
              have h2 := HFO.out.2.1
              omega)
            have hz : (q.g : Int) = 18446744073709551615 := by omega
            rw [hz] at q1
            clear hmax hqo
            go_wp2
            go_quiet (fail)
            go_wp2
            go_ret
            exact ⟨false, rfl, ⟨fun h => (by cases h), fun h => (NO.out h).elim⟩, HR.out.2.drewN _⟩
          · have hz : (q.g : Int) ≠ 18446744073709551615 := by omega
            have hw : IntKind.u64.wrap ((q.g : Int) + 1) = ((q.g + 1 : Nat) : Int) := by rw [IntKind.wrap_u64]; omega
            by_cases hg : f.g = q.g + 1
            · have hgz : (f.g : Int) = (q.g : Int) + 1 := by omega
              have HG := Lib.hid hg
              clear hg hmax
              have NX : Hid (Rhy L s p (j + 1 + 1)) := Lib.hid (HR.out.1.r.succ HQ.out HF.out ⟨by have h1 := HR.out.1.r.at HQ.out; have h2 := HX.out; rw [h2, h1, Nat.add_mul]; omega, HG.out⟩)
              by_cases hmore : j + 1 + 1 < n
              · have hm1 : (j : Int) + 1 + 1 < (n : Int) := by omega
                obtain ⟨g, hg⟩ : ∃ f, L[j + 1 + 1]? = some f := ⟨_, List.getElem?_eq_getElem (by rw [← HN.out]; exact hmore)⟩
                by_cases hov : 18446744073709551616 ≤ f.d + p
                · have NO := Lib.hid (show ¬ Rhy L s p n from fun h => by
                    have h1 := (h.2 (j + 1) f g (by omega) HF.out hg).1
                    have h2 := (HOK.out g (List.mem_of_getElem? hg)).2.2.1
                    omega)
                  have hm2 : (pp : Int) < (f.d : Int) := by have := HPE.out; omega
                  clear hg hov
                  go_wp2
                  go_quiet (fail)
                  go_wp2
                  go_ret
                  exact ⟨false, rfl, ⟨fun h => (by cases h), fun h => (NO.out h).elim⟩, HR.out.2.drewN _⟩
                · have hm2 : ¬ (pp : Int) < (f.d : Int) := by have := HPE.out; omega
                  have hwd : IntKind.u64.wrap ((f.d : Int) + (p : Int)) = ((f.d + p : Nat) : Int) := by rw [IntKind.wrap_u64]; omega
                  have HLT : Hid (f.d + p < 18446744073709551616) := Lib.hid (by omega)
                  clear hg hov
                  go_wp2
                  go_quiet (fail)
                  go_wp2
                  go_roundw
                  case rel => exact ⟨j + 1 + 1, f.d + p, by omega, by go_num, by go_num, Lib.hid ⟨⟨NX.out, fun _ => by have := HX.out; rw [this]; simp only [Nat.add_mul, Nat.one_mul, Nat.zero_mul]; omega, HLT.out⟩, HR.out.2.drewN _⟩⟩
                  case measure => simp [intOf]; omega
              · have hm1 : ¬ (j : Int) + 1 + 1 < (n : Int) := by omega
                have hm1d : decide ((j : Int) + 1 + 1 < (n : Int)) = false := decide_eq_false hm1
                have hwd := wrap_nat f.d p
                generalize hy : (f.d + p) % 18446744073709551616 = y at hwd
                have HY := Lib.hid (show y < 18446744073709551616 by rw [← hy]; exact Nat.mod_lt _ (by omega))
                clear hy
                go_wp2
                go_quiet (fail)
                go_wp2
                go_roundw
                case rel => exact ⟨j + 1 + 1, y, by omega, by go_num, by go_num, Lib.hid ⟨⟨NX.out, fun h => absurd h hmore, HY.out⟩, HR.out.2.drewN _⟩⟩
                case measure => simp [intOf]; omega
            · have NO := Lib.hid (show ¬ Rhy L s p n from fun h => hg ((h.2 j q f (by omega) HQ.out HF.out).2))
              have hgz : (f.g : Int) ≠ (q.g : Int) + 1 := by omega
              have hgb : ((f.g : Int) != (q.g : Int) + 1) = true := bne_iff_ne.2 hgz
              clear hg hmax
              go_wp2
              go_quiet (fail)
              go_wp2
              go_ret
              exact ⟨false, rfl, ⟨fun h => (by cases h), fun h => (NO.out h).elim⟩, HR.out.2.drewN _⟩
      · have NO := Lib.hid (show ¬ Rhy L s p n from fun h => hd (by rw [(h.mono (k := k + 1) (by omega)).at HF.out, HX.out]))
        have hz : (f.d : Int) ≠ (x : Int) := by omega
        clear hd
        go_wp2
        go_ret
        exact ⟨false, rfl, ⟨fun h => (by cases h), fun h => (NO.out h).elim⟩, HR.out.2⟩
    · obtain rfl : k = n := by omega
      go_wp2
      go_ret
      exact ⟨true, rfl, ⟨fun _ => HR.out.1.r, fun _ => rfl⟩, HR.out.2⟩
end Go.Proofs.Ytpihlchocjdpmaa
