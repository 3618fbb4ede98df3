/-
  Contracts of package firing's Rhythm and of the document's: are firings a period apart?
-/
import Derived.Test.YtpihlchocjdpmaaFirRef1
namespace Verge
/-- g is behind f: a period, a generation -/
def Fol (p : Nat) (f g : Fr) : Prop := g.d = f.d + p ∧ g.g = f.g + 1
/-- the first k firings are a period apart, from s on -/
def Rhy (L : List Fr) (s p k : Nat) : Prop := (∀ f, 0 < k → L[0]? = some f → f.d = s) ∧ ∀ j f g, j + 1 < k → L[j]? = some f → L[j + 1]? = some g → Fol p f g
theorem Rhy.zero (L : List Fr) (s p : Nat) : Rhy L s p 0 := ⟨fun _ h => by omega, fun _ _ _ h => by omega⟩
theorem Rhy.one {L : List Fr} {s p : Nat} {f : Fr} (h : L[0]? = some f) (hd : f.d = s) : Rhy L s p 1 :=
  ⟨fun g _ hg => by rw [h] at hg; cases hg; exact hd, fun _ _ _ h => by omega⟩
theorem Rhy.succ {L : List Fr} {s p k : Nat} {f g : Fr} (h : Rhy L s p (k + 1)) (hf : L[k]? = some f) (hg : L[k + 1]? = some g) (hfol : Fol p f g) : Rhy L s p (k + 2) :=
  ⟨fun x _ hx => h.1 x (by omega) hx, fun j x y hj hx hy => by
    by_cases e : j = k
    · subst e; rw [hf] at hx; rw [hg] at hy; cases hx; cases hy; exact hfol
    · exact h.2 j x y (by omega) hx hy⟩
theorem Rhy.mono {L : List Fr} {s p k n : Nat} (h : Rhy L s p n) (hk : k ≤ n) : Rhy L s p k :=
  ⟨fun x h0 hx => h.1 x (by omega) hx, fun j x y hj hx hy => h.2 j x y (by omega) hx hy⟩
/-- the deadline at place k -/
theorem Rhy.at {L : List Fr} {s p : Nat} : ∀ {k : Nat} {f : Fr}, Rhy L s p (k + 1) → L[k]? = some f → f.d = s + k * p
  | 0, f, h, hf => by rw [h.1 f (by omega) hf]; omega
  | k + 1, f, h, hf => by
    obtain ⟨g, hg⟩ : ∃ g, L[k]? = some g := ⟨_, List.getElem?_eq_getElem (by have := (List.getElem?_eq_some_iff.1 hf).1; omega)⟩
    have h1 := (h.mono (k := k + 1) (by omega)).at hg
    have h2 := h.2 k g f (by omega) hg hf
    rw [h2.1, h1, Nat.add_mul]; omega
end Verge
namespace Go.Proofs.Ytpihlchocjdpmaa
open Go.RowKit Verge
set_option linter.unusedVariables false
set_option linter.unusedSimpArgs false

/-- a box that holds a firing -/
structure BoxF (w : World) (b : Nat) (f : Fr) : Prop where
  c0 : w.cell? ⟨b, 0, none⟩ = some (.int .u64 (f.i : Nat))
  c1 : w.cell? ⟨b, 1, none⟩ = some (.int .u64 (f.g : Nat))
  c2 : w.cell? ⟨b, 2, none⟩ = some (.int .u64 (f.d : Nat))
  c3 : w.cell? ⟨b, 3, none⟩ = some (.int .u64 (f.t : Nat))
  b : Blk w b
theorem BoxF.new (w : World) (f : Fr) : BoxF (w.alloc (.cells #[.int .u64 (f.i : Nat), .int .u64 (f.g : Nat), .int .u64 (f.d : Nat), .int .u64 (f.t : Nat)] 43)) w.heap.size f :=
  ⟨by simp [cell_fresh], by simp [cell_fresh], by simp [cell_fresh], by simp [cell_fresh], Blk.new _ _ _⟩
theorem BoxF.kept {w w' : World} {S : Nat → Prop} {b : Nat} {f : Fr} (h : BoxF w b f) (c : Ch S w w') (hn : ¬ S b) : BoxF w' b f :=
  ⟨c.keeps h.c0 hn, c.keeps h.c1 hn, c.keeps h.c2 hn, c.keeps h.c3 hn, h.b.kept c hn⟩
theorem BoxF.set4 {w : World} {b : Nat} {f : Fr} (h : BoxF w b f) (g : Fr) : BoxF ((((w.setCell ⟨b, 0, none⟩ (.int .u64 (g.i : Nat))).setCell ⟨b, 1, none⟩ (.int .u64 (g.g : Nat))).setCell ⟨b, 2, none⟩ (.int .u64 (g.d : Nat))).setCell ⟨b, 3, none⟩ (.int .u64 (g.t : Nat))) b g := by
  obtain ⟨h0, h1, h2, h3, hb⟩ := h
  refine ⟨?_, ?_, ?_, ?_, (((hb.set _ _).set _ _).set _ _).set _ _⟩ <;> simp [cell_set, h0, h1, h2, h3]

theorem wrap_over12 (a b : Nat) (ha : a < 18446744073709551616) (hb : b < 18446744073709551616) (h : 18446744073709551616 ≤ a + b) : IntKind.u64.wrap ((a : Int) + (b : Int)) < (a : Int) := by
  rw [IntKind.wrap_u64]; omega
theorem addOk_of (a b : Nat) (h : a + b < 18446744073709551616) (w : World) :
    Calls Try.prog 49 #[.int .u64 (a : Nat), .int .u64 (b : Nat)] w fun e w' => e = .returned (.tuple #[.int .u64 ((a + b : Nat) : Int), .int .i64 0]) ∧ w' = w := by
  have hw : IntKind.u64.wrap ((a : Int) + (b : Int)) = ((a + b : Nat) : Int) := by rw [IntKind.wrap_u64]; omega
  have hn : ¬ ((a + b : Nat) : Int) < (a : Int) := by omega
  generalize hc : ((a + b : Nat) : Int) = c at *
  have HC := Lib.hid hc
  clear hc h
  go_enter Try.func49, Try.ntmps49
  go_wp2
  go_ret2
  exact ⟨rfl, rfl⟩
theorem addOver_of (a b : Nat) (ha : a < 18446744073709551616) (hb : b < 18446744073709551616) (h : 18446744073709551616 ≤ a + b) (w : World) :
    Calls Try.prog 49 #[.int .u64 (a : Nat), .int .u64 (b : Nat)] w fun e w' => e = .returned (.tuple #[.int .u64 0, .int .i64 9]) ∧ w' = w := by
  have hw := wrap_over12 a b ha hb h
  clear ha hb h
  go_enter Try.func49, Try.ntmps49
  go_wp2
  go_ret2
  exact ⟨rfl, rfl⟩
theorem isSum_of (n a b : Nat) (hn : n < 18446744073709551616) (ha : a < 18446744073709551616) (hb : b < 18446744073709551616) (w : World) :
    Calls Try.prog 37 #[.int .u64 (n : Nat), .int .u64 (a : Nat), .int .u64 (b : Nat)] w fun e w' => e = .returned (.bool (decide (n = a + b))) ∧ Ch Nil w w' := by
  by_cases h : a + b < 18446744073709551616
  · have HA := Lib.hid (addOk_of a b h w)
    generalize hc : a + b = c at *
    have he : ((n : Int) == (c : Int)) = decide (n = c) := by rw [Bool.eq_iff_iff, beq_iff_eq, decide_eq_true_iff]; omega
    have HE := Lib.hid he
    clear hc h he
    go_enter Try.func37, Try.ntmps37
    go_wp2_with fail
    refine HA.out.mono ?_
    rintro e w' ⟨rfl, rfl⟩
    go_wp2
    go_ret
    exact ⟨by rw [← HE.out]; rfl, Ch.refl _ _⟩
  · have HA := Lib.hid (addOver_of a b ha hb (by omega) w)
    have HD := Lib.hid (show decide (n = a + b) = false from decide_eq_false (by omega))
    clear h
    go_enter Try.func37, Try.ntmps37
    go_wp2_with fail
    refine HA.out.mono ?_
    rintro e w' ⟨rfl, rfl⟩
    go_wp2
    go_ret
    exact ⟨by rw [HD.out]; rfl, Ch.refl _ _⟩

set_option maxHeartbeats 1000000 in
theorem follows_of (g f : Fr) (p : Nat) (hg : g.ok) (hf : f.ok) (hp : p < 18446744073709551616) (w : World) :
    Calls Try.prog 33 #[.agg #[.int .u64 (g.i : Nat), .int .u64 (g.g : Nat), .int .u64 (g.d : Nat), .int .u64 (g.t : Nat)], .agg #[.int .u64 (f.i : Nat), .int .u64 (f.g : Nat), .int .u64 (f.d : Nat), .int .u64 (f.t : Nat)], .int .u64 (p : Nat)] w fun e w' => ∃ b, e = .returned (.bool b) ∧ (b = true ↔ Fol p f g) ∧ Ch Nil w w' := by
  have hf2 := hf
  have hg2 := hg
  obtain ⟨W1, hW1⟩ : ∃ W1, W1 = w.alloc (.cells #[.int .u64 (g.i : Nat), .int .u64 (g.g : Nat), .int .u64 (g.d : Nat), .int .u64 (g.t : Nat)] 43) := ⟨_, rfl⟩
  have hs1 : W1.heap.size = w.heap.size + 1 := by rw [hW1]; simp
  have cA : Ch Nil w W1 := hW1 ▸ (Ch.refl _ _).alloc _
  have cB : Ch Nil W1 (W1.alloc (.cells #[.int .u64 (f.i : Nat), .int .u64 (f.g : Nat), .int .u64 (f.d : Nat), .int .u64 (f.t : Nat)] 43)) := (Ch.refl _ _).alloc _
  have x1 : W1.cell? ⟨w.heap.size, 1, none⟩ = some (.int .u64 (g.g : Nat)) := by rw [hW1]; simp [cell_fresh]
  have x2 : W1.cell? ⟨w.heap.size, 2, none⟩ = some (.int .u64 (g.d : Nat)) := by rw [hW1]; simp [cell_fresh]
  have y1 : (W1.alloc (.cells #[.int .u64 (f.i : Nat), .int .u64 (f.g : Nat), .int .u64 (f.d : Nat), .int .u64 (f.t : Nat)] 43)).cell? ⟨w.heap.size + 1, 1, none⟩ = some (.int .u64 (f.g : Nat)) := by rw [← hs1]; simp [cell_fresh]
  have y2 : (W1.alloc (.cells #[.int .u64 (f.i : Nat), .int .u64 (f.g : Nat), .int .u64 (f.d : Nat), .int .u64 (f.t : Nat)] 43)).cell? ⟨w.heap.size + 1, 2, none⟩ = some (.int .u64 (f.d : Nat)) := by rw [← hs1]; simp [cell_fresh]
  have z1 := cB.keeps x1 (fun e => e)
  have z2 := cB.keeps x2 (fun e => e)
  rw [hW1] at y1 y2 z1 z2
  have CAB := Lib.hid (hW1 ▸ cA.trans cB : Ch Nil w ((w.alloc (.cells #[.int .u64 (g.i : Nat), .int .u64 (g.g : Nat), .int .u64 (g.d : Nat), .int .u64 (g.t : Nat)] 43)).alloc (.cells #[.int .u64 (f.i : Nat), .int .u64 (f.g : Nat), .int .u64 (f.d : Nat), .int .u64 (f.t : Nat)] 43)))
  have S1 := Lib.hid (isSum_of g.d f.d p hg.2.2.1 hf.2.2.1 hp)
  have S2 := Lib.hid (isSum_of g.g f.g 1 hg.2.1 hf.2.1 (by omega))
  clear hs1 cA cB x1 x2 hW1 hf2 hg2
  go_enter Try.func33, Try.ntmps33
  go_wp2_with fail
  refine (S1.out _).mono ?_
  rintro e W2 ⟨rfl, c2⟩
  have u1 := c2.keeps y1 (fun e => e)
  have v1 := c2.keeps z1 (fun e => e)
  have C2 := Lib.hid (CAB.out.trans c2)
  clear y1 y2 z1 z2 c2 CAB
  by_cases h : g.d = f.d + p
  · have hd : decide (g.d = f.d + p) = true := decide_eq_true h
    rw [hd]
    have H := Lib.hid h
    clear h hd
    go_wp2_with fail
    refine (S2.out _).mono ?_
    rintro e W3 ⟨rfl, c3⟩
    go_wp2
    go_ret
    exact ⟨_, rfl, ⟨fun h => ⟨H.out, of_decide_eq_true h⟩, fun h => decide_eq_true h.2⟩, C2.out.trans c3⟩
  · have hd : decide (g.d = f.d + p) = false := decide_eq_false h
    rw [hd]
    have H := Lib.hid h
    clear h hd
    go_wp2
    go_ret
    exact ⟨_, rfl, ⟨fun h => (by cases h), fun h => (H.out h.1).elim⟩, C2.out⟩

set_option maxHeartbeats 2000000 in
theorem rhythm_of {w : World} {a : Option Addr} {c1 : Nat} {L : List Fr} (s p : Nat) (hs : s < 18446744073709551616) (hp : p < 18446744073709551616) (h1 : Src w a L) (hok : Oks L) (hl : L.length ≤ 100000) (hc : L.length ≤ c1) (hcm : c1 ≤ maxLen) :
    Calls Try.prog 24 #[.slice a L.length c1, .int .u64 (s : Nat), .int .u64 (p : Nat)] w fun e w' => ∃ b, e = .returned (.bool b) ∧ (b = true ↔ Rhy L s p L.length) ∧ Ch Nil w w' := by
  obtain ⟨n, hn⟩ : ∃ n, n = L.length := ⟨_, rfl⟩
  have HN := Lib.hid hn
  have S1 := Lib.hid h1
  have HOK := Lib.hid hok
  rw [← hn] at hl hc ⊢
  clear hn h1 hok
  by_cases h0 : n = 0
  · subst h0
    go_enter Try.func24, Try.ntmps24
    go_wp2
    go_ret
    exact ⟨true, rfl, ⟨fun _ => Rhy.zero _ _ _, fun _ => rfl⟩, Ch.refl _ _⟩
  · obtain ⟨m, rfl⟩ : ∃ m, n = m + 1 := ⟨n - 1, by omega⟩
    obtain ⟨b1, o1, rfl, -, k1⟩ := S1.out.form (by rw [← HN.out]; omega)
    obtain ⟨f, hf⟩ : ∃ f, L[0]? = some f := ⟨_, List.getElem?_eq_getElem (by rw [← HN.out]; omega)⟩
    obtain ⟨f0, f1, f2, f3⟩ := src_cells k1 hf
    simp only [Nat.zero_mul, Nat.add_zero] at f0 f1 f2 f3
    have K1 := Lib.hid k1
    have HF := Lib.hid hf
    have cA : Ch Nil w (w.alloc (.cells #[.int .u64 (f.i : Nat), .int .u64 (f.g : Nat), .int .u64 (f.d : Nat), .int .u64 (f.t : Nat)] 43)) := (Ch.refl _ _).alloc _
    have x2 : (w.alloc (.cells #[.int .u64 (f.i : Nat), .int .u64 (f.g : Nat), .int .u64 (f.d : Nat), .int .u64 (f.t : Nat)] 43)).cell? ⟨w.heap.size, 2, none⟩ = some (.int .u64 (f.d : Nat)) := by simp [cell_fresh]
    have CA := Lib.hid cA
    clear k1 hf h0 cA
    by_cases hd : f.d = s
    · subst hd
      have HB0 : Hid (BoxF (w.alloc (.cells #[.int .u64 (f.i : Nat), .int .u64 (f.g : Nat), .int .u64 (f.d : Nat), .int .u64 (f.t : Nat)] 43)) w.heap.size f) := Lib.hid (BoxF.new _ _)
      by_cases hc1 : c1 = 1
      · subst hc1
        obtain rfl : m = 0 := by omega
        go_enter Try.func24, Try.ntmps24
        go_wp2_with fail
        go_loopw [23] (fun v wr => v = .int .i64 0 ∧ Ch Nil w wr) (fun v _ => 0)
        case atStart => exact ⟨rfl, CA.out⟩
        case round =>
          obtain ⟨rfl, hc⟩ := hrel
          go_wp2
          go_ret
          exact ⟨true, rfl, ⟨fun _ => Rhy.one HF.out rfl, fun _ => rfl⟩, hc⟩
      · go_enter Try.func24, Try.ntmps24
        go_wp2_with fail
        go_loopw [23] (fun v wr => ∃ k, k ≤ m ∧ v = .int .i64 (k : Nat) ∧ Hid (Rhy L f.d p (k + 1) ∧ (∀ x, L[k]? = some x → BoxF wr w.heap.size x) ∧ Ch Nil w wr)) (fun v _ => m - (intOf v).toNat)
        case atStart => exact ⟨0, by omega, rfl, Lib.hid ⟨Rhy.one HF.out rfl, fun x hx => by rw [HF.out] at hx; cases hx; exact HB0.out, CA.out⟩⟩
        case round =>
          obtain ⟨k, hk, rfl, HR⟩ := hrel
          clear f0 f1 f2 f3 x2
          by_cases hlt : k < m
          · obtain ⟨x, hx⟩ : ∃ f, L[k]? = some f := ⟨_, List.getElem?_eq_getElem (by rw [← HN.out]; omega)⟩
            obtain ⟨g, hg⟩ : ∃ f, L[k + 1]? = some f := ⟨_, List.getElem?_eq_getElem (by rw [← HN.out]; omega)⟩
            obtain ⟨g0, g1, g2, g3⟩ := src_cells (w := wr) (fun i f hf j hj => HR.out.2.2.keeps (K1.out i f hf j hj) (fun e => e)) hg
            rw [show o1 + (k + 1) * 4 = o1 + 4 + k * 4 by omega] at g0 g1 g2 g3
            obtain ⟨x0, x1, x2, x3, xb⟩ := HR.out.2.1 x hx
            have xf0 := xb.fz 0
            have xf1 := xb.fz 1
            have xf2 := xb.fz 2
            have xf3 := xb.fz 3
            have hkz : (k : Int) < (m : Int) := by omega
            have hkz0 : (0 : Int) ≤ (k : Int) := by omega
            have FW := Lib.hid (fun W => follows_of g x p (HOK.out g (List.mem_of_getElem? hg)) (HOK.out x (List.mem_of_getElem? hx)) hp W)
            have HX := Lib.hid hx
            have HG := Lib.hid hg
            have hlb := xb.lt
            have XB := Lib.hid xb
            have cA : Ch Nil wr (wr.alloc (.cells #[.int .u64 (g.i : Nat), .int .u64 (g.g : Nat), .int .u64 (g.d : Nat), .int .u64 (g.t : Nat)] 43)) := (Ch.refl _ _).alloc _
            have BA : Hid (BoxF (wr.alloc (.cells #[.int .u64 (g.i : Nat), .int .u64 (g.g : Nat), .int .u64 (g.d : Nat), .int .u64 (g.t : Nat)] 43)) wr.heap.size g) := Lib.hid (BoxF.new _ _)
            have BX : Hid (BoxF (wr.alloc (.cells #[.int .u64 (g.i : Nat), .int .u64 (g.g : Nat), .int .u64 (g.d : Nat), .int .u64 (g.t : Nat)] 43)) w.heap.size x) := Lib.hid ((HR.out.2.1 x hx).kept cA (fun e => e))
            obtain ⟨u0, u1, u2, u3, -⟩ := BA.out
            obtain ⟨v0, v1, v2, v3, -⟩ := BX.out
            have CW := Lib.hid (HR.out.2.2.trans cA)
            clear hx hg xb cA x0 x1 x2 x3
            go_wp2_with fail
            refine (FW.out _).mono ?_
            rintro e W2 ⟨b, rfl, hb, c2⟩
            have HBI := Lib.hid hb
            have BA2 := Lib.hid (BA.out.kept c2 (fun e => e))
            have BX2 := Lib.hid (BX.out.kept c2 (fun e => e))
            have C2 := Lib.hid (CW.out.trans c2)
            clear hb c2 u0 u1 u2 u3 v0 v1 v2 v3 g0 g1 g2 g3 xf0 xf1 xf2 xf3
            cases b with
            | true =>
              obtain ⟨u0, u1, u2, u3, -⟩ := BA2.out
              obtain ⟨v0, v1, v2, v3, vb⟩ := BX2.out
              have xf0 := vb.fz 0
              have xf1 := vb.fz 1
              have xf2 := vb.fz 2
              have xf3 := vb.fz 3
              clear vb
              go_wp2
              go_roundw
              case rel =>
                refine ⟨_, _, _, _, _, _, _, _, _, _, _, _, _, ⟨k + 1, by omega, by go_num, Lib.hid ⟨HR.out.1.succ HX.out HG.out (HBI.out.1 (by trivial)), fun y hy => ?_, ?_⟩⟩, rfl⟩
                · rw [HG.out] at hy; cases hy
                  exact BX2.out.set4 g
                · exact ((((C2.out.set (p := ⟨w.heap.size, 0, none⟩) (fun e => absurd e (Nat.lt_irrefl _)) _).set (p := ⟨w.heap.size, 1, none⟩) (fun e => absurd e (Nat.lt_irrefl _)) _).set (p := ⟨w.heap.size, 2, none⟩) (fun e => absurd e (Nat.lt_irrefl _)) _).set (p := ⟨w.heap.size, 3, none⟩) (fun e => absurd e (Nat.lt_irrefl _)) _)
              case measure => simp [intOf]; omega
            | false =>
              go_wp2
              go_ret
              exact ⟨false, rfl, ⟨fun h => (by cases h), fun h => (by have := HBI.out.2 (h.2 k x g (by omega) HX.out HG.out); cases this)⟩, C2.out⟩
          · obtain rfl : k = m := by omega
            go_wp2
            go_ret
            exact ⟨true, rfl, ⟨fun _ => HR.out.1, fun _ => rfl⟩, HR.out.2.2⟩
    · have HD := Lib.hid hd
      have hz : (f.d : Int) ≠ (s : Int) := by omega
      clear hd
      go_enter Try.func24, Try.ntmps24
      go_wp2
      go_ret
      exact ⟨false, rfl, ⟨fun h => (by cases h), fun h => (HD.out (h.1 f (by omega) HF.out)).elim⟩, CA.out⟩
end Go.Proofs.Ytpihlchocjdpmaa
