/-
  bits.Len, slices.nextPowerOfTwo, xorshift.Next, breakPatternsOrdered at uint64 (rows of fewer than 256): places within the range are exchanged.
-/
import Derived.Test.YtpihlchocjdpmaaSortMem
import Derived.Test.YtpihlchocjdpmaaListMem
import Derived.Test.YtpihlchocjdpmaaSortLen
import Derived.Sort.LotA
import Derived.Laws.Bits64
import Derived.Laws.Bits64b
namespace Go.Proofs.Ytpihlchocjdpmaa
open Go.RowKit Go.Sort Verge
set_option linter.unusedVariables false
set_option linter.unusedSimpArgs false
theorem len_bits (x : Nat) (hx : x < 256) (w : World) : Calls Try.prog 36 #[.int .u64 (x : Nat)] w fun e w' => e = .returned (.int .i64 ((Lib.bitLen x : Nat) : Int)) ∧ w' = w := by
  have h := len64_of (x : Int) (by omega) (by omega) w
  rw [Int.toNat_natCast] at h
  have H := Lib.hid h
  clear h
  generalize Lib.bitLen x = r at H ⊢
  go_enter Try.func36, Try.ntmps36
  go_wp2_with fail
  refine H.out.mono ?_
  rintro e w' ⟨rfl, rfl⟩
  go_wp2
  go_ret
  exact ⟨rfl, rfl⟩
theorem two_pow_wrap (k : Nat) (hk : k ≤ 8) : IntKind.u64.wrap ((2 : Int) ^ k) = ((2 ^ k : Nat) : Int) := by
  have h : (2 : Nat) ^ k ≤ 2 ^ 8 := Nat.pow_le_pow_right (by decide) hk
  rw [IntKind.wrap_u64, show ((2 : Int) ^ k) = ((2 ^ k : Nat) : Int) by push_cast; rfl]
  generalize (2 : Nat) ^ k = p at h
  omega
theorem next2_of (L : Nat) (h0 : 0 < L) (hL : L < 256) (w : World) : Calls Try.prog 51 #[.int .i64 (L : Nat)] w fun e w' => ∃ M : Nat, e = .returned (.int .u64 (M : Nat)) ∧ 1 ≤ M ∧ M ≤ 2 * L ∧ w' = w := by
  have H := Lib.hid (len_bits L hL w)
  have h8 := bitLen_8 L hL
  have h2 := bitLen_two L hL h0
  generalize Lib.bitLen L = r at H h8 h2
  have hw := two_pow_wrap r h8
  have hp : 1 ≤ 2 ^ r := Nat.two_pow_pos r
  have HP := Lib.hid (show 1 ≤ 2 ^ r ∧ 2 ^ r ≤ 2 * L from ⟨hp, h2⟩)
  clear h2 hp
  generalize hM : ((2 ^ r : Nat) : Int) = m at hw
  have HM := Lib.hid hM
  clear hM
  go_enter Try.func51, Try.ntmps51
  go_wp2_with fail
  refine H.out.mono ?_
  rintro e w' ⟨rfl, rfl⟩
  go_wp2
  go_ret
  exact ⟨2 ^ r, by rw [HM.out]; rfl, HP.out.1, HP.out.2, rfl⟩

theorem xor_nat (a b : Nat) (ha : a < 18446744073709551616) (hb : b < 18446744073709551616) : ∃ c : Nat, bits .xor .u64 (a : Int) (b : Int) = (c : Int) ∧ c < 18446744073709551616 :=
  ⟨a ^^^ b, bits_xor_u64_nat a b ha hb, Nat.xor_lt_two_pow (n := 64) (by omega) (by omega)⟩
theorem xor_wrap (a k : Nat) (ha : a < 18446744073709551616) : ∃ c : Nat, bits .xor .u64 (a : Int) (IntKind.u64.wrap ((a : Int) * (k : Int))) = (c : Int) ∧ c < 18446744073709551616 := by
  have e : IntKind.u64.wrap ((a : Int) * (k : Int)) = ((a * k % 18446744073709551616 : Nat) : Int) := by
    rw [IntKind.wrap_u64, ← Int.natCast_mul]
    generalize a * k = p
    omega
  rw [e]
  exact xor_nat a _ ha (Nat.mod_lt _ (by omega))
theorem xor_div (a : Nat) (ha : a < 18446744073709551616) : ∃ c : Nat, bits .xor .u64 (a : Int) ((a : Int) / 128) = (c : Int) ∧ c < 18446744073709551616 := by
  rw [show ((a : Int) / 128) = ((a / 128 : Nat) : Int) by omega]
  exact xor_nat a _ ha (by omega)

set_option maxRecDepth 100000 in
set_option maxHeartbeats 8000000 in
theorem next_of {w : World} {rb X : Nat} (hX : X < 18446744073709551616) (hc : w.cell? ⟨rb, 0, none⟩ = some (.int .u64 (X : Nat))) (hf : w.frozen? ⟨rb, 0, none⟩ = false) :
    Calls Try.prog 52 #[.pointer (some ⟨rb, 0, none⟩)] w fun e w' => ∃ v : Nat, e = .returned (.int .u64 (v : Nat)) ∧ v < 18446744073709551616 ∧ w'.cell? ⟨rb, 0, none⟩ = some (.int .u64 (v : Nat)) ∧ w'.frozen? ⟨rb, 0, none⟩ = false ∧ Ch (One rb) w w' := by
  obtain ⟨A, e1, lA⟩ := xor_wrap X 8192 hX
  obtain ⟨B, e2, lB⟩ := xor_div A lA
  obtain ⟨C, e3, lC⟩ := xor_wrap B 131072 lB
  replace e1 : bits .xor .u64 (X : Int) (IntKind.u64.wrap ((X : Int) * 8192)) = (A : Int) := e1
  replace e3 : bits .xor .u64 (B : Int) (IntKind.u64.wrap ((B : Int) * 131072)) = (C : Int) := e3
  go_enter Try.func52, Try.ntmps52
  go_wp2
  go_region
  all_goals go_wp2
  have c1 : ((w.setCell ⟨rb, 0, none⟩ (.int .u64 (A : Nat))).drew).cell? ⟨rb, 0, none⟩ = some (.int .u64 (A : Nat)) := World.cell?_setCell_same _ _ _ hc
  have f1 : ((w.setCell ⟨rb, 0, none⟩ (.int .u64 (A : Nat))).drew).frozen? ⟨rb, 0, none⟩ = false := (World.frozen?_setCell _ _ _ _).trans hf
  have C1 := Lib.hid ((((Ch.refl (One rb) w).setB 0 (.int .u64 (A : Nat)))).drew)
  generalize World.drew _ = W1 at c1 f1 C1 ⊢
  clear hc hf e1
  go_region
  all_goals go_wp2
  have c2 : ((W1.setCell ⟨rb, 0, none⟩ (.int .u64 (B : Nat))).drew).cell? ⟨rb, 0, none⟩ = some (.int .u64 (B : Nat)) := World.cell?_setCell_same _ _ _ c1
  have f2 : ((W1.setCell ⟨rb, 0, none⟩ (.int .u64 (B : Nat))).drew).frozen? ⟨rb, 0, none⟩ = false := (World.frozen?_setCell _ _ _ _).trans f1
  have C2 := Lib.hid ((C1.out.setB 0 (.int .u64 (B : Nat))).drew)
  generalize World.drew _ = W2 at c2 f2 C2 ⊢
  clear c1 f1 e2 C1
  go_region
  all_goals go_wp2_with fail
  have c3 : ((W2.setCell ⟨rb, 0, none⟩ (.int .u64 (C : Nat))).drew).cell? ⟨rb, 0, none⟩ = some (.int .u64 (C : Nat)) := World.cell?_setCell_same _ _ _ c2
  have f3 : ((W2.setCell ⟨rb, 0, none⟩ (.int .u64 (C : Nat))).drew).frozen? ⟨rb, 0, none⟩ = false := (World.frozen?_setCell _ _ _ _).trans f2
  have C3 := Lib.hid ((C2.out.setB 0 (.int .u64 (C : Nat))).drew)
  (try go_wp2)
  go_ret
  exact ⟨C, rfl, lC, c3, f3, C3.out⟩

/-- the row, and the box of the random number -/
structure Rb (w0 : World) (g cap n : Nat) (d : Array Nat) (rb : Nat) (W : World) : Prop where
  u : UR w0 g cap n d W
  s : ∃ s : Nat, W.cell? ⟨rb, 0, none⟩ = some (.int .u64 (s : Nat)) ∧ s < 18446744073709551616
  f : W.frozen? ⟨rb, 0, none⟩ = false
  lo : w0.heap.size ≤ rb
  ne : rb ≠ g
theorem Rb.turned {w0 w w' : World} {g cap n rb v : Nat} {d : Array Nat} (h : Rb w0 g cap n d rb w) (hv : v < 18446744073709551616) (hc : w'.cell? ⟨rb, 0, none⟩ = some (.int .u64 (v : Nat))) (hf : w'.frozen? ⟨rb, 0, none⟩ = false) (c : Ch (One rb) w w') : Rb w0 g cap n d rb w' :=
  ⟨⟨h.u.row.kept c (fun k e x => h.ne (by
    have h1 : k = rb := x
    have h2 : g = k := by simpa [OwnS] using e
    omega)), h.u.n, h.u.c.then c (fun i hi e => by have h1 : i = rb := e; have := h.lo; omega)⟩, ⟨v, hc, hv⟩, hf, h.lo, h.ne⟩
theorem Rb.row {w0 w w' : World} {g cap n rb : Nat} {d d' : Array Nat} (h : Rb w0 g cap n d rb w) (u : UR w0 g cap n d' w') (c : Ch (One g) w w') : Rb w0 g cap n d' rb w' := by
  obtain ⟨s, hs, hl⟩ := h.s
  exact ⟨u, ⟨s, c.keeps hs (fun e => h.ne e), hl⟩, (c.frozen (p := ⟨rb, 0, none⟩) (lt_of_cell hs) (fun e => h.ne e)).trans h.f, h.lo, h.ne⟩
theorem and_nat (a b : Nat) (ha : a < 18446744073709551616) (hb : b < 18446744073709551616) : ∃ c : Nat, bits .and .u64 (a : Int) (b : Int) = (c : Int) ∧ c ≤ b :=
  ⟨a &&& b, bits_and_u64_nat a b ha hb, Nat.and_le_right⟩

set_option maxRecDepth 100000 in
set_option maxHeartbeats 8000000 in
theorem brk_of {w : World} {g cap n : Nat} {d : Array Nat} (h : UR w g cap n d w) (a b : Nat) (hab : a < b) (hb : b ≤ n) (hn : n < 256) :
    Calls Try.prog 40 #[.slice (some ⟨g, 0, none⟩) n cap, .int .i64 (a : Nat), .int .i64 (b : Nat)] w fun e w' => e = .returned (.tuple #[]) ∧ ∃ d', PermIn a b d d' ∧ UR w g cap n d' w' := by
  obtain ⟨L, hL⟩ : ∃ L, b = a + L := ⟨b - a, by omega⟩
  have e0 : (b : Int) - (a : Int) = (L : Int) := by omega
  have l0 := IntWalk.i64_in (L : Int) (by omega)
  have hgs : g < w.heap.size := h.row.lt g rfl
  have H := Lib.hid h
  have HLE := Lib.hid hL
  have hLn : a + L ≤ n := by omega
  clear h
  by_cases h8 : 8 ≤ L
  · have z8 : (8 : Int) ≤ (L : Int) := by omega
    obtain ⟨Q, hQ⟩ : ∃ Q, Q = L / 4 := ⟨_, rfl⟩
    obtain ⟨J, hJ⟩ : ∃ J, J + 1 = a + Q * 2 := ⟨a + Q * 2 - 1, by omega⟩
    have e1 : (L : Int).tdiv 4 = (Q : Int) := by rw [Int.tdiv_eq_ediv_of_nonneg (by omega)]; omega
    have e2 : (L : Int) / 4 = (Q : Int) := by omega
    have e3 : (a : Int) + (Q : Int) * 2 = (J : Int) + 1 := by omega
    have e4 : (J : Int) + 1 - 1 = (J : Int) := by omega
    have l1 := IntWalk.i64_in (Q : Int) (by omega)
    have l2 := IntWalk.i64_in ((Q : Int) * 2) (by omega)
    have l3 := IntWalk.i64_in ((J : Int) + 1) (by omega)
    have l4 := IntWalk.i64_in (J : Int) (by omega)
    have l5 := IntWalk.i64_in ((J : Int) + 1 + 1) (by omega)
    have HF := Lib.hid (show a ≤ J ∧ J + 2 < a + L by omega)
    have lwL : IntKind.u64.wrap (L : Int) = (L : Int) := by rw [IntKind.wrap_u64]; omega
    have cA : Ch Nil w (w.alloc (.cells #[.int .u64 (L : Nat)] 78)) := (Ch.refl _ _).alloc _
    have P0 : Hid (Rb w g cap n d w.heap.size (w.alloc (.cells #[.int .u64 (L : Nat)] 78))) := Lib.hid ⟨H.out.nil cA, ⟨L, by simp [cell_fresh], by omega⟩, by simp [go_sem], Nat.le_refl _, by omega⟩
    have N2 := Lib.hid (fun W => next2_of L (by omega) (by omega) W)
    clear hL hQ hJ cA
    go_enter Try.func40, Try.ntmps40
    go_wp2_with fail
    refine (N2.out _).mono ?_
    rintro e W1 ⟨M, rfl, hM1, hM2, rfl⟩
    obtain ⟨M1, hM⟩ : ∃ M1, M = M1 + 1 := ⟨M - 1, by omega⟩
    have e5 : (M : Int) - 1 = (M1 : Int) := by omega
    have l6 : IntKind.u64.wrap (M1 : Int) = (M1 : Int) := by rw [IntKind.wrap_u64]; omega
    have hM3 : M1 < 2 * L := by omega
    clear hM N2 H
    go_wp2
    generalize w.alloc _ = W1 at P0 ⊢
    generalize w.heap.size = rb at P0 ⊢
    go_loopw [9] (fun v wr => ∃ (t : Nat) (dk : Array Nat), v = .int .i64 ((J : Int) + (t : Int)) ∧ t ≤ 3 ∧ Hid (Rb w g cap n dk rb wr ∧ PermIn a b d dk)) (fun v _ => (J + 3 - intOf v).toNat)
    case atStart => exact ⟨0, d, by go_num, by omega, Lib.hid ⟨P0.out, permIn_refl _ _ _⟩⟩
    case round =>
      obtain ⟨t, dk, rfl, ht, HR⟩ := hrel
      by_cases h3 : t < 3
      · have z1 : (J : Int) + (t : Int) ≤ (J : Int) + 1 + 1 := by omega
        obtain ⟨s, hs, hsl⟩ := HR.out.1.s
        go_wp2_with fail
        refine (next_of hsl hs HR.out.1.f).mono ?_
        rintro e W2 ⟨v, rfl, hv, hvc, hvf, cv⟩
        have R2 := Lib.hid (HR.out.1.turned hv hvc hvf cv)
        obtain ⟨O, eO, hO⟩ := and_nat v M1 hv (by omega)
        have l7 := IntWalk.i64_in (O : Int) (by omega)
        have l8 := IntWalk.i64_in ((O : Int) - (L : Int)) (by omega)
        clear hvc hvf cv hs
        obtain ⟨I, hI⟩ : ∃ I, I = J + t := ⟨_, rfl⟩
        have e6 : (J : Int) + (t : Int) = (I : Int) := by omega
        have hIb : a ≤ I ∧ I < a + L := by have := HF.out; omega
        have i1 : (I : Int) < (n : Int) := by omega
        have i2 : (0 : Int) ≤ (I : Int) := by omega
        by_cases hge : L ≤ O
        · obtain ⟨o, ho⟩ : ∃ o, O = o + L := ⟨O - L, by omega⟩
          have zg : (L : Int) ≤ (O : Int) := by omega
          have e7 : (O : Int) - (L : Int) = (o : Int) := by omega
          have l9 := IntWalk.i64_in (o : Int) (by omega)
          have hol : o < L := by omega
          obtain ⟨K, hK⟩ : ∃ K, K = a + o := ⟨_, rfl⟩
          have e8 : (a : Int) + (o : Int) = (K : Int) := by omega
          have k1 : (K : Int) < (n : Int) := by omega
          have k2 : (0 : Int) ≤ (K : Int) := by omega
          have hKb : a ≤ K ∧ K < a + L := by omega
          have lK := IntWalk.i64_in (K : Int) (by omega)
          have lI := IntWalk.i64_in ((I : Int) + 1) (by omega)
          have HI := Lib.hid hI
          obtain ⟨x, hx⟩ : ∃ x, x = dk[I]! := ⟨_, rfl⟩
          have c1 : W2.cell? ⟨g, I, none⟩ = some (.int .u64 (x : Nat)) := by rw [hx]; exact R2.out.u.cell (I) (by omega)
          have f1 := R2.out.u.fz (I)
          have HX := Lib.hid hx
          clear hx
          obtain ⟨y, hy⟩ : ∃ x, x = dk[K]! := ⟨_, rfl⟩
          have c2 : W2.cell? ⟨g, K, none⟩ = some (.int .u64 (y : Nat)) := by rw [hy]; exact R2.out.u.cell (K) (by omega)
          have f2 := R2.out.u.fz (K)
          have HY := Lib.hid hy
          clear hy
          have SWP : Hid (∀ W3, UR w g cap n (swp dk I K) W3 → Ch (One g) W2 W3 → Rb w g cap n (swp dk I K) rb W3 ∧ PermIn a b d (swp dk I K)) := Lib.hid fun W3 u c => ⟨R2.out.row u c, permIn_trans _ _ _ _ _ HR.out.2 (swp_permIn dk a b I K hIb.1 (by have := HLE.out; omega) hKb.1 (by have := HLE.out; omega) (by have := R2.out.u.n; omega))⟩
          clear hK hI
          by_cases hEq : I = K
          · subst hEq
            obtain rfl : x = y := by rw [HX.out, HY.out]
            go_wp2
            go_region
            all_goals go_wp2
            go_roundw
            case rel => exact ⟨t + 1, _, by have := HI.out; first | go_num | (congr 1; omega), by omega, Lib.hid (SWP.out _ (R2.out.u.swpD (by omega) (by omega) HX.out HX.out) ((((Ch.refl (One g) W2).setB _ _).setB _ _).drew))⟩
            case measure => have := HI.out; simp [intOf]; omega
          · have hEq2 : K ≠ I := fun e => hEq e.symm
            go_wp2
            go_region
            all_goals go_wp2
            go_roundw
            case rel => exact ⟨t + 1, _, by have := HI.out; first | go_num | (congr 1; omega), by omega, Lib.hid (SWP.out _ (R2.out.u.swpD (by omega) (by omega) HX.out HY.out) ((((Ch.refl (One g) W2).setB _ _).setB _ _).drew))⟩
            case measure => have := HI.out; simp [intOf]; omega
        · have zg : ¬ (L : Int) ≤ (O : Int) := by omega
          have hol : O < L := by omega
          obtain ⟨K, hK⟩ : ∃ K, K = a + O := ⟨_, rfl⟩
          have e8 : (a : Int) + (O : Int) = (K : Int) := by omega
          have k1 : (K : Int) < (n : Int) := by omega
          have k2 : (0 : Int) ≤ (K : Int) := by omega
          have hKb : a ≤ K ∧ K < a + L := by omega
          have lK := IntWalk.i64_in (K : Int) (by omega)
          have lI := IntWalk.i64_in ((I : Int) + 1) (by omega)
          have HI := Lib.hid hI
          obtain ⟨x, hx⟩ : ∃ x, x = dk[I]! := ⟨_, rfl⟩
          have c1 : W2.cell? ⟨g, I, none⟩ = some (.int .u64 (x : Nat)) := by rw [hx]; exact R2.out.u.cell (I) (by omega)
          have f1 := R2.out.u.fz (I)
          have HX := Lib.hid hx
          clear hx
          obtain ⟨y, hy⟩ : ∃ x, x = dk[K]! := ⟨_, rfl⟩
          have c2 : W2.cell? ⟨g, K, none⟩ = some (.int .u64 (y : Nat)) := by rw [hy]; exact R2.out.u.cell (K) (by omega)
          have f2 := R2.out.u.fz (K)
          have HY := Lib.hid hy
          clear hy
          have SWP : Hid (∀ W3, UR w g cap n (swp dk I K) W3 → Ch (One g) W2 W3 → Rb w g cap n (swp dk I K) rb W3 ∧ PermIn a b d (swp dk I K)) := Lib.hid fun W3 u c => ⟨R2.out.row u c, permIn_trans _ _ _ _ _ HR.out.2 (swp_permIn dk a b I K hIb.1 (by have := HLE.out; omega) hKb.1 (by have := HLE.out; omega) (by have := R2.out.u.n; omega))⟩
          clear hK hI
          by_cases hEq : I = K
          · subst hEq
            obtain rfl : x = y := by rw [HX.out, HY.out]
            go_wp2
            go_region
            all_goals go_wp2
            go_roundw
            case rel => exact ⟨t + 1, _, by have := HI.out; first | go_num | (congr 1; omega), by omega, Lib.hid (SWP.out _ (R2.out.u.swpD (by omega) (by omega) HX.out HX.out) ((((Ch.refl (One g) W2).setB _ _).setB _ _).drew))⟩
            case measure => have := HI.out; simp [intOf]; omega
          · have hEq2 : K ≠ I := fun e => hEq e.symm
            go_wp2
            go_region
            all_goals go_wp2
            go_roundw
            case rel => exact ⟨t + 1, _, by have := HI.out; first | go_num | (congr 1; omega), by omega, Lib.hid (SWP.out _ (R2.out.u.swpD (by omega) (by omega) HX.out HY.out) ((((Ch.refl (One g) W2).setB _ _).setB _ _).drew))⟩
            case measure => have := HI.out; simp [intOf]; omega
      · obtain rfl : t = 3 := by omega
        have z1 : ¬ (J : Int) + ((3 : Nat) : Int) ≤ (J : Int) + 1 + 1 := by omega
        go_wp2
        go_end0
        exact ⟨rfl, dk, HR.out.2, HR.out.1.u⟩
  · have z8 : ¬ (8 : Int) ≤ (L : Int) := by omega
    go_enter Try.func40, Try.ntmps40
    go_wp2
    go_end0
    exact ⟨rfl, d, permIn_refl _ _ _, H.out⟩
end Go.Proofs.Ytpihlchocjdpmaa
