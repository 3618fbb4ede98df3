/-
  slices.Compact at uint64: of a row what differs from the one ahead.
-/
import Derived.Test.YtpihlchocjdpmaaSortMem
import Derived.Test.YtpihlchocjdpmaaFirInts
import Derived.Lib.SliceRun
namespace Verge
/-- of the first m numbers those that differ from the one ahead -/
def cz (d : Array Nat) : Nat → List Nat
  | 0 => []
  | m + 1 => if m = 0 ∨ d[m]! ≠ d[m - 1]! then cz d m ++ [d[m]!] else cz d m
theorem cz_le (d : Array Nat) : ∀ m, (cz d m).length ≤ m
  | 0 => Nat.le_refl _
  | m + 1 => by
    rw [cz]
    have := cz_le d m
    split
    · simp; omega
    · omega
theorem cz_keep (d : Array Nat) (m : Nat) (h : m = 0 ∨ d[m]! ≠ d[m - 1]!) : cz d (m + 1) = cz d m ++ [d[m]!] := by rw [cz, if_pos h]
theorem cz_skip (d : Array Nat) (m : Nat) (h : m ≠ 0) (h2 : d[m]! = d[m - 1]!) : cz d (m + 1) = cz d m := by
  rw [cz, if_neg]
  rintro (e | e)
  · exact h e
  · exact e h2
/-- behind m numbers the row has k of them, in front, and is as it was behind -/
structure CzIn (d : Array Nat) (m k : Nat) (dk : Array Nat) : Prop where
  n : dk.size = d.size
  len : k = (cz d m).length
  low : ∀ i, i < k → dk[i]! = (cz d m).getD i 0
  high : ∀ i, k ≤ i → dk[i]! = d[i]!
theorem CzIn.skip {d dk : Array Nat} {m k : Nat} (h : CzIn d m k dk) (h0 : m ≠ 0) (h2 : d[m]! = d[m - 1]!) : CzIn d (m + 1) k dk := by
  have e := cz_skip d m h0 h2
  exact ⟨h.n, by rw [e]; exact h.len, fun i hi => by rw [e]; exact h.low i hi, h.high⟩
theorem CzIn.keep {d dk : Array Nat} {m k : Nat} (h : CzIn d m k dk) (hk : k < d.size) (h2 : m = 0 ∨ d[m]! ≠ d[m - 1]!) : CzIn d (m + 1) (k + 1) (dk.setIfInBounds k d[m]!) := by
  have e := cz_keep d m h2
  refine ⟨by simpa using h.n, by rw [e, List.length_append, ← h.len]; rfl, fun i hi => ?_, fun i hi => ?_⟩
  · rw [e]
    by_cases hik : i = k
    · subst hik
      rw [Go.Sort.getElem!_set_same _ _ _ (by have := h.n; omega)]
      have hl := h.len
      simp [List.getD_eq_getElem?_getD, ← hl]
    · rw [Go.Sort.getElem!_set_other _ _ _ _ hik, h.low i (by omega)]
      simp only [List.getD_eq_getElem?_getD]
      rw [List.getElem?_append_left (by have := h.len; omega)]
  · rw [Go.Sort.getElem!_set_other _ _ _ _ (by omega)]
    exact h.high i (by omega)
/-- as long as all differ nothing turns -/
theorem CzIn.keepSame {d : Array Nat} {m : Nat} (h : CzIn d m m d) (hk : m < d.size) (h2 : m = 0 ∨ d[m]! ≠ d[m - 1]!) : CzIn d (m + 1) (m + 1) d := by
  have := h.keep hk h2
  have e : d.setIfInBounds m d[m]! = d := by
    apply Array.ext_getElem?
    intro i
    rw [Array.getElem?_setIfInBounds]
    by_cases hi : m = i
    · subst hi
      rw [if_pos rfl, if_pos hk, getElem!_pos d m hk, Array.getElem?_eq_getElem hk]
    · rw [if_neg hi]
  rw [e] at this
  exact this
theorem CzIn.zero (d : Array Nat) : CzIn d 0 0 d := ⟨rfl, rfl, fun i hi => by omega, fun _ _ => rfl⟩
theorem CzIn.one {d : Array Nat} (h : 0 < d.size) : CzIn d 1 1 d := (CzIn.zero d).keepSame h (.inl rfl)
end Verge
namespace Go.Proofs.Ytpihlchocjdpmaa
open Go.RowKit Go.Sort Verge
set_option linter.unusedVariables false
set_option linter.unusedSimpArgs false
section
variable {w0 w w' : World} {g cap n k : Nat} {d dk : Array Nat}
theorem UR.set1 (h : UR w0 g cap n d w) {i : Nat} (hi : i < n) (x : Nat) : UR w0 g cap n (d.setIfInBounds i x) (w.setCell ⟨g, i, none⟩ (.int .u64 (x : Nat))) := by
  have hs := h.n
  refine ⟨h.row.set i (by omega) _ _ ?_ (fun k hk => by unfold uf; rw [getElem!_set_other d i k _ hk]), by simpa using hs, h.c.setB i _⟩
  unfold uf; rw [getElem!_set_same d i _ (by omega)]
theorem Ch.setCells {S : Nat → Prop} {a : World} (hS : S g) : ∀ (vs : List Value) (o : Nat) (b : World), Ch S a b → Ch S a (b.setCells g o vs)
  | [], _, _, h => h
  | v :: vs, o, b, h => Ch.setCells hS vs (o + 1) _ (h.set (p := ⟨g, o, none⟩) (fun _ => hS) v)
/-- what Compact answers -/
def CmpOut (w : World) (g cap : Nat) (d : Array Nat) (e : Ending) (w' : World) : Prop :=
  e = .returned (.slice (some ⟨g, 0, none⟩) (cz d d.size).length cap) ∧ SrcC w' (some ⟨g, 0, none⟩) (cz d d.size).length (fun i => .int .u64 (((cz d d.size).getD i 0 : Nat) : Int)) ∧ Ch (One g) w w'
theorem cz_out (h : CzIn d n k dk) (u : UR w0 g cap n dk w) (hs : d.size = n) (e : Ending) (he : e = .returned (.slice (some ⟨g, 0, none⟩) k cap)) : CmpOut w0 g cap d e w := by
  refine ⟨by rw [he, hs, ← h.len], ?_, u.c⟩
  have hk : k ≤ n := by rw [h.len]; exact cz_le d n
  rw [hs, ← h.len]
  refine .inr ⟨g, 0, rfl, fun i hi => ?_⟩
  rw [Nat.zero_add, u.cell i (by omega), h.low i hi]
end

set_option maxRecDepth 100000 in
set_option maxHeartbeats 8000000 in
theorem cmp_of {w : World} {g cap n : Nat} {d : Array Nat} (h : UR w g cap n d w) (hn : n ≤ 1000000) :
    Calls Try.prog 32 #[.slice (some ⟨g, 0, none⟩) n cap] w fun e w' => CmpOut w g cap d e w' := by
  have hs := h.n
  obtain ⟨hcap, hcm⟩ := h.row.len_cap
  have H := Lib.hid h
  have HS := Lib.hid hs
  clear h hs
  by_cases h2 : n < 2
  · have z2 : (n : Int) < 2 := by omega
    have hc : CzIn d n n d := by
      rcases Nat.eq_zero_or_pos n with rfl | hp
      · exact CzIn.zero d
      · obtain rfl : n = 1 := by omega
        exact CzIn.one (by have := HS.out; omega)
    have HC := Lib.hid hc
    clear hc
    go_enter Try.func32, Try.ntmps32
    go_wp2
    go_ret
    exact cz_out HC.out H.out HS.out _ rfl
  · have z2 : ¬ (n : Int) < 2 := by omega
    go_enter Try.func32, Try.ntmps32
    go_wp2
    go_loopw [3] (fun v wr => ∃ k : Nat, v = .int .i64 (k : Nat) ∧ 1 ≤ k ∧ k ≤ n ∧ Hid (UR w g cap n d wr ∧ CzIn d k k d)) (fun v _ => n - (intOf v).toNat)
    case atStart => exact ⟨1, rfl, by omega, by omega, Lib.hid ⟨H.out, CzIn.one (by have := HS.out; omega)⟩⟩
    case round =>
      obtain ⟨k, rfl, hk1, hkn, HR⟩ := hrel
      by_cases hlt : k < n
      · obtain ⟨m, hm⟩ : ∃ m, k = m + 1 := ⟨k - 1, by omega⟩
        have e1 : (k : Int) - 1 = (m : Int) := by omega
        have z1 : (k : Int) < (n : Int) := by omega
        have z3 : (m : Int) < (n : Int) := by omega
        have lm := IntWalk.i64_in (m : Int) (by omega)
        have hkm := Lib.hid (show k - 1 = m by omega)
        clear hm
        obtain ⟨x, hx⟩ : ∃ x, x = d[k]! := ⟨_, rfl⟩
        have c1 : wr.cell? ⟨g, k, none⟩ = some (.int .u64 (x : Nat)) := by rw [hx]; exact HR.out.1.cell (k) (by omega)
        have f1 := HR.out.1.fz (k)
        have HX := Lib.hid hx
        clear hx
        obtain ⟨y, hy⟩ : ∃ x, x = d[m]! := ⟨_, rfl⟩
        have c2 : wr.cell? ⟨g, m, none⟩ = some (.int .u64 (y : Nat)) := by rw [hy]; exact HR.out.1.cell (m) (by omega)
        have f2 := HR.out.1.fz (m)
        have HY := Lib.hid hy
        clear hy
        by_cases hxy : x = y
        · subst hxy
          have DUP := Lib.hid (show d[k]! = d[k - 1]! by rw [hkm.out, ← HX.out, ← HY.out])
          have hne : ¬ k = cap := by omega
          have hne2 : ¬ cap = k := by omega
          go_wp2
          go_quiet (fail)
          go_wp2
          clear c1 c2 f1 f2
          go_loopw [3, 5] (fun u v wr => ∃ (kk k2 : Nat) (dk : Array Nat), u = .int .i64 (kk : Nat) ∧ v = .int .i64 (k2 : Nat) ∧ 1 ≤ k2 ∧ k + k2 ≤ n ∧ kk < k + k2 ∧ Hid (UR w g cap n dk wr ∧ CzIn d (k + k2) kk dk)) (fun _ v _ => n - (intOf v).toNat)
          case atStart => exact ⟨k, 1, d, rfl, rfl, by omega, by omega, by omega, Lib.hid ⟨HR.out.1.drewN _, HR.out.2.skip (by omega) DUP.out⟩⟩
          case round =>
            obtain ⟨kk, k2, dk, rfl, rfl, h21, h22, h23, HI⟩ := hrel
            have hkk : kk < n := by omega
            by_cases hlt2 : k + k2 < n
            · obtain ⟨q, hq⟩ : ∃ q, k2 = q + 1 := ⟨k2 - 1, by omega⟩
              have e2 : (k2 : Int) - 1 = (q : Int) := by omega
              have y1 : (k2 : Int) < (n : Int) - (k : Int) := by omega
              have y1n : k2 < n - k := by omega
              have y2 : (q : Int) < (n : Int) - (k : Int) := by omega
              have y2n : q < n - k := by omega
              have y3 : ((n - k : Nat) : Int) = (n : Int) - (k : Int) := by omega
              have y4 : (kk : Int) < (n : Int) := by omega
              have lq := IntWalk.i64_in (q : Int) (by omega)
              have hq1 := Lib.hid (show k + k2 - 1 = k + q by omega)
              have hi1 := HI.out.2.high (k + k2) (by omega)
              have hi2 := HI.out.2.high (k + q) (by omega)
              clear hq
              obtain ⟨x, hx⟩ : ∃ x, x = dk[k + k2]! := ⟨_, rfl⟩
              have c1 : wr.cell? ⟨g, k + k2, none⟩ = some (.int .u64 (x : Nat)) := by rw [hx]; exact HI.out.1.cell (k + k2) (by omega)
              have f1 := HI.out.1.fz (k + k2)
              have HX := Lib.hid hx
              clear hx
              obtain ⟨y, hy⟩ : ∃ x, x = dk[k + q]! := ⟨_, rfl⟩
              have c2 : wr.cell? ⟨g, k + q, none⟩ = some (.int .u64 (y : Nat)) := by rw [hy]; exact HI.out.1.cell (k + q) (by omega)
              have f2 := HI.out.1.fz (k + q)
              have HY := Lib.hid hy
              clear hy
              have HX2 := Lib.hid (HX.out.trans hi1)
              have HY2 := Lib.hid (HY.out.trans hi2)
              have ck : wr.cell? ⟨g, kk, none⟩ = some (.int .u64 ((dk[kk]! : Nat) : Int)) := HI.out.1.cell kk (by omega)
              generalize dk[kk]! = old at ck
              have fk := HI.out.1.fz kk
              clear hi1 hi2
              by_cases huv : x = y
              · subst huv
                have SK := Lib.hid (HI.out.2.skip (m := k + k2) (by omega) (by rw [hq1.out, ← HX2.out, ← HY2.out]))
                go_wp2
                go_quiet (fail)
                go_wp2
                go_roundw
                case rel => exact ⟨kk, k2 + 1, dk, rfl, by go_num, by omega, by omega, by omega, Lib.hid ⟨HI.out.1.drewN _, SK.out⟩⟩
                case measure => simp [intOf]; omega
              · have huz : (x : Int) ≠ (y : Int) := by omega
                have hub : ((x : Int) != (y : Int)) = true := bne_iff_ne.2 huz
                have KP := Lib.hid (HI.out.2.keep (m := k + k2) (by have := HS.out; omega) (.inr (by rw [hq1.out, ← HX2.out, ← HY2.out]; exact huv)))
                have HU3 := Lib.hid (fun r => (HI.out.1.drewN r).set1 hkk x)
                rw [← HX2.out] at KP
                go_wp2
                go_quiet (fail)
                go_wp2
                go_roundw
                case rel => exact ⟨kk + 1, k2 + 1, _, by go_num, by go_num, by omega, by omega, by omega, Lib.hid ⟨HU3.out _, KP.out⟩⟩
                case measure => simp [intOf]; omega
            · have y1 : ¬ (k2 : Int) < (n : Int) - (k : Int) := by omega
              have y1n : ¬ k2 < n - k := by omega
              have y3 : ((n - k : Nat) : Int) = (n : Int) - (k : Int) := by omega
              have hend : k + k2 = n := by omega
              have HI2 := Lib.hid (hend ▸ HI.out.2)
              have hne3 : ¬ kk = cap := by omega
              have hne4 : ¬ cap = kk := by omega
              have hkc : kk ≤ cap := by omega
              have hcl : ∀ ty, (Builtin.clear_ #[33] ty #[.slice (some ⟨g, kk, none⟩) (n - kk) (cap - kk)]).run Try.prog wr = .ok (.tuple #[]) (wr.setCells g kk (List.replicate (n - kk) (.int .u64 0))) := fun ty =>
                Lib.run_clear_slice wr _ _ ty (.int .u64 0) Try.underlying33 Try.zeroValue23 rfl rfl g kk _ _ (by omega) (fun j hj => by rw [HI.out.1.cell (kk + j) (by omega)]; rfl) (fun j hj => HI.out.1.fz (kk + j))
              have OUT : Hid (∀ e, e = Ending.returned (.slice (some ⟨g, 0, none⟩) kk cap) → CmpOut w g cap d e (wr.setCells g kk (List.replicate (n - kk) (.int .u64 0)))) := Lib.hid fun e he => by
                have ho := cz_out HI2.out HI.out.1 HS.out e he
                refine ⟨ho.1, ?_, Ch.setCells (S := One g) (g := g) rfl _ _ _ ho.2.2⟩
                have hl := HI2.out.len
                have hss := HS.out
                rcases ho.2.1 with h | ⟨b, o, hb, h⟩
                · exact .inl h
                · refine .inr ⟨b, o, hb, fun i hi => ?_⟩
                  rw [World.cell?_setCells_out]
                  · exact h i hi
                  · intro _ _
                    left
                    have e2 : o = 0 := by cases hb; rfl
                    show o + i < kk
                    rw [hss, ← hl] at hi
                    omega
              clear hend
              go_wp2
              go_ret
              exact OUT.out _ rfl
        · have hxz : (x : Int) ≠ (y : Int) := by omega
          have hxb : ((x : Int) == (y : Int)) = false := beq_eq_false_iff_ne.2 hxz
          have KP := Lib.hid (HR.out.2.keepSame (by have := HS.out; omega) (.inr (by rw [hkm.out, ← HX.out, ← HY.out]; exact hxy)))
          go_wp2
          go_quiet (fail)
          go_wp2
          go_roundw
          case rel => exact ⟨k + 1, by go_num, by omega, by omega, Lib.hid ⟨HR.out.1.drewN _, KP.out⟩⟩
          case measure => simp [intOf]; omega
      · obtain rfl : k = n := by omega
        go_wp2
        go_ret
        exact cz_out HR.out.2 HR.out.1 HS.out _ rfl
end Go.Proofs.Ytpihlchocjdpmaa
