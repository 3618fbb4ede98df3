/-
  Contracts of package floor's greatest and Number: the greatest number that was given of a slot, put together bit by bit.
-/
import Derived.Test.YtkialefhjfoniaaFlAlive
import Derived.Test.YtkialefhjfoniaaSlabWalks1
import Derived.Laws.Bits64b
namespace Verge
/-- a number with its bits below m cut off -/
def cutN (g m : Nat) : Nat := g / 2 ^ m * 2 ^ m
theorem cutN_zero (g : Nat) : cutN g 0 = g := by simp [cutN]
theorem cutN_big {g m : Nat} (h : g < 2 ^ m) : cutN g m = 0 := by simp [cutN, Nat.div_eq_of_lt h]
theorem cutN_le (g m : Nat) : cutN g m ≤ g := Nat.div_mul_le_self _ _
theorem cutN_succ (g m : Nat) : cutN g m = if cutN g (m + 1) + 2 ^ m ≤ g then cutN g (m + 1) + 2 ^ m else cutN g (m + 1) := by
  unfold cutN
  have hp : 0 < 2 ^ m := Nat.pow_pos (by omega)
  rw [Nat.pow_succ]
  generalize 2 ^ m = p at *
  have h1 : g / (p * 2) = g / p / 2 := by rw [Nat.div_div_eq_div_mul]
  rw [h1]
  obtain ⟨q, hq⟩ : ∃ q, q = g / p := ⟨_, rfl⟩
  have h2 : q * p ≤ g := by rw [hq]; exact Nat.div_mul_le_self _ _
  have h3 : g < q * p + p := by rw [hq]; have := Nat.lt_div_mul_add (a := g) hp; omega
  rw [← hq]
  have h4 : q / 2 * (p * 2) = q / 2 * 2 * p := by rw [Nat.mul_comm p 2, Nat.mul_assoc]
  rw [h4]
  rcases (by omega : q % 2 = 0 ∨ q % 2 = 1) with e | e
  · have e2 : q / 2 * 2 = q := by omega
    rw [e2, if_neg (by omega)]
  · have e2 : q / 2 * 2 + 1 = q := by omega
    have e3 : q * p = q / 2 * 2 * p + p := by rw [← Nat.succ_mul, Nat.succ_eq_add_one, e2]
    rw [if_pos (by omega), e3]
theorem or_add (A s i : Nat) (hs : s < 2 ^ i) : (2 ^ (i + 1) * A + s) ||| 2 ^ i = 2 ^ (i + 1) * A + s + 2 ^ i := by
  have h1 : s < 2 ^ (i + 1) := Nat.lt_of_lt_of_le hs (Nat.pow_le_pow_right (by omega) (by omega))
  have h2 : 2 ^ i + s < 2 ^ (i + 1) := by rw [Nat.pow_succ]; omega
  have e1 := Nat.two_pow_add_eq_or_of_lt h1 A
  have e2 := Nat.two_pow_add_eq_or_of_lt hs 1
  have e3 := Nat.two_pow_add_eq_or_of_lt h2 A
  rw [Nat.mul_one] at e2
  rw [e1, Nat.or_assoc, Nat.or_comm s, ← e2, ← e3]
  omega
end Verge
namespace Go.Proofs.Ytkialefhjfoniaa
open Go.RowKit Verge
attribute [local go_sem] Oper.semAt_some
set_option linter.unusedVariables false
set_option linter.unusedSimpArgs false

/-- the number so far, when the bits from m on are asked -/
def idN (g k m : Nat) : Nat := 64 * cutN g m + k
theorem idN_or (g k m : Nat) (hk : k < 64) : idN g k (m + 1) ||| (64 * 2 ^ m) = idN g k (m + 1) + 64 * 2 ^ m := by
  have e1 : idN g k (m + 1) = 2 ^ (m + 6 + 1) * (g / 2 ^ (m + 1)) + k := by
    have e0 : 2 ^ (m + 6 + 1) = 64 * 2 ^ (m + 1) := by rw [show m + 6 + 1 = 6 + (m + 1) by omega, Nat.pow_add 2 6 (m + 1)]
    unfold idN cutN
    rw [e0, Nat.mul_assoc 64, Nat.mul_comm (2 ^ (m + 1))]
  have e2 : 64 * 2 ^ m = 2 ^ (m + 6) := by rw [show m + 6 = 6 + m by omega, Nat.pow_add]
  rw [e1, e2]
  refine or_add _ _ _ (Nat.lt_of_lt_of_le hk ?_)
  rw [← e2]
  have : 0 < 2 ^ m := Nat.pow_pos (by omega)
  omega
set_option maxHeartbeats 4000000 in
set_option maxRecDepth 100000 in
theorem greatest_of {w : World} {F : Fb} {tr : Option Addr} {tl tc n cnt : Nat} {R : Nat → Rec} (h : IsF w F tr tl tc) (s : IsS w F.sb F.srb n cnt R) (k : Nat) (hk : k < n) (hg : (R k).gv ≤ 900000) :
    Calls Try.prog 77 #[.pointer (some ⟨F.f, 0, none⟩), .int .i64 (k : Int)] w fun e w' => e = .returned (.int .u64 ((64 * (R k).gv + k : Nat) : Int)) ∧ w = w' := by
  have c6 := h.c 6 _ rfl
  have n1 := s.n1
  have S0 := Lib.hid s
  have hk64 : k < 64 := by omega
  obtain ⟨g, hgg⟩ : ∃ g, g = (R k).gv := ⟨_, rfl⟩
  have G := Lib.hid hgg
  rw [← hgg] at hg ⊢
  clear h s hgg
  go_enter Try.func77, Try.ntmps77
  go_wp2
  go_loopw [5, 6] (fun i b wr => ∃ m : Nat, m ≤ 58 ∧ i = .int .u64 ((idN g k m : Nat) : Int) ∧ b = .int .u64 ((32 * 2 ^ m : Nat) : Int) ∧ wr = w) (fun _ b _ => (intOf b).toNat)
  case atStart => exact ⟨58, Nat.le_refl _, by rw [show idN g k 58 = k by unfold idN; rw [cutN_big (by omega)]; omega], rfl, rfl⟩
  case round =>
    obtain ⟨m, hm, rfl, rfl, rfl⟩ := hrel
    cases m with
    | zero =>
      have e0 : idN g k 0 = 64 * g + k := by unfold idN; rw [cutN_zero]
      rw [e0]
      go_wp2
      go_ret
      exact ⟨rfl, rfl⟩
    | succ m =>
      obtain ⟨bt, hbt⟩ : ∃ bt : Nat, bt = 64 * 2 ^ m := ⟨_, rfl⟩
      have hb2 : 32 * 2 ^ (m + 1) = bt := by rw [hbt, Nat.pow_succ]; omega
      have hp : 2 ^ m ≤ 2 ^ 57 := Nat.pow_le_pow_right (by omega) (by omega)
      have hp0 : 0 < 2 ^ m := Nat.pow_pos (by omega)
      have hb : bt ≤ 9223372036854775808 := by have : (2 : Nat) ^ 57 = 144115188075855872 := rfl; omega
      have hb64 : 64 ≤ bt := by omega
      have hbz : (64 : Int) ≤ (bt : Int) := by omega
      obtain ⟨id, hid⟩ : ∃ id, id = idN g k (m + 1) := ⟨_, rfl⟩
      have hidle : id ≤ 64 * g + k := by rw [hid]; unfold idN; have := cutN_le g (m + 1); omega
      have hor : id ||| bt = id + bt := by rw [hid, hbt]; exact idN_or g k m hk64
      have hO := bits_or_u64_nat id bt (by omega) (by omega)
      rw [hor] at hO
      have hdiv : (id + bt) / 64 = cutN g (m + 1) + 2 ^ m ∧ (id + bt) % 64 = k := by rw [hid, hbt]; unfold idN; omega
      have hsh : (bt : Int) / 2 = ((32 * 2 ^ m : Nat) : Int) := by rw [hbt]; omega
      have HD := Lib.hid hdiv
      have HID := Lib.hid hid
      have HSH := Lib.hid hsh
      have HBT := Lib.hid hbt
      rw [← hid, hb2]
      obtain ⟨x, hx⟩ : ∃ x, x = id + bt := ⟨_, rfl⟩
      rw [← hx] at hO hdiv
      have HX := Lib.hid hx
      have hxb : x < 18446744073709551616 := by omega
      clear hdiv hid hor hbt hb2 hsh hp hp0 hx hidle
      by_cases hy : cutN g (m + 1) + 2 ^ m ≤ g
      · have gy : givenId n R x := by
          have h1 := HD.out.1
          have h2 := HD.out.2
          rw [← HX.out] at h1 h2
          have hp0 : 0 < 2 ^ m := Nat.pow_pos (by omega)
          refine ⟨by omega, by omega, ?_⟩
          rw [h2, ← G.out]; omega
        have NX : Hid ((x : Int) = ((idN g k m : Nat) : Int)) := Lib.hid (by
          have h1 := HX.out
          have h2 := HID.out
          have h3 := HBT.out
          unfold idN at h2 ⊢
          have h4 := cutN_succ g m
          rw [if_pos hy] at h4
          omega)
        clear hy
        go_wp2_with fail
        refine (slot_yes x hxb S0.out gy).mono ?_
        rintro e w1 ⟨rfl, rfl⟩
        go_wp2
        go_roundw
        case rel => exact ⟨m, by omega, by rw [NX.out], by first | exact congrArg (Value.int .u64) HSH.out | (rw [← HSH.out]; rfl), by first | trivial | rfl⟩
        case measure => simp [intOf]; omega
      · have gn : ¬ givenId n R x := by
          have h1 := HD.out.1
          have h2 := HD.out.2
          rw [← HX.out] at h1 h2
          rintro ⟨q1, q2, q3⟩
          rw [h2, ← G.out] at q3
          omega
        have NX : Hid ((id : Int) = ((idN g k m : Nat) : Int)) := Lib.hid (by
          have h2 := HID.out
          unfold idN at h2 ⊢
          have h4 := cutN_succ g m
          rw [if_neg hy] at h4
          omega)
        clear hy
        go_wp2_with fail
        refine (slot_no x hxb S0.out gn).mono ?_
        rintro e w1 ⟨rfl, rfl⟩
        go_wp2
        go_roundw
        case rel => exact ⟨m, by omega, by rw [NX.out], by first | exact congrArg (Value.int .u64) HSH.out | (rw [← HSH.out]; rfl), by first | trivial | rfl⟩
        case measure => simp [intOf]; omega
section
variable {w : World} {F : Fb} {tr : Option Addr} {tl tc n cnt : Nat} {R : Nat → Rec}
theorem number_out (h : IsF w F tr tl tc) (hc : F.c.c = (n : Int)) (i : Int) (hi : i < 0 ∨ (n : Int) ≤ i) :
    Calls Try.prog 42 #[.pointer (some ⟨F.f, 0, none⟩), .int .i64 i] w fun e w' => e = .returned (.tuple #[.int .u64 0, .int .i64 4]) ∧ w = w' := by
  have c1 := h.c 1 _ rfl
  rw [hc] at c1
  clear h hc
  by_cases h0 : i < 0
  · clear hi
    go_enter Try.func42, Try.ntmps42
    go_wp2
    go_ret2
    exact ⟨rfl, rfl⟩
  · have h1 : (n : Int) ≤ i := by omega
    clear hi
    go_enter Try.func42, Try.ntmps42
    go_wp2
    go_ret2
    exact ⟨rfl, rfl⟩
/-- the greatest number of a slot, its error -/
theorem number_in (h : IsF w F tr tl tc) (s : IsS w F.sb F.srb n cnt R) (hc : F.c.c = (n : Int)) (k : Nat) (hk : k < n) (hg : (R k).gv ≤ 900000) :
    Calls Try.prog 42 #[.pointer (some ⟨F.f, 0, none⟩), .int .i64 (k : Int)] w fun e w' => e = .returned (.tuple #[.int .u64 ((if (R k).gv = 0 then 0 else 64 * (R k).gv + k : Nat) : Int), .int .i64 (if (R k).gv = 0 then 6 else 0 : Int)]) ∧ w = w' := by
  have c1 := h.c 1 _ rfl
  rw [hc] at c1
  have H := Lib.hid h
  have S0 := Lib.hid s
  have n1 := s.n1
  clear h s hc
  have gr := greatest_of H.out S0.out k hk hg
  have GR := Lib.hid gr
  clear gr
  by_cases g0 : (R k).gv = 0
  · rw [if_pos g0, if_pos g0]
    have hz : (k : Int) < 64 := by omega
    have hkn : (k : Int) < (n : Int) := by omega
    have hk0 : (0 : Int) ≤ (k : Int) := by omega
    have G0 := Lib.hid g0
    clear g0 hg
    go_enter Try.func42, Try.ntmps42
    go_wp2_with fail
    refine GR.out.mono ?_
    rw [G0.out, show 64 * 0 + k = k by omega]
    rintro e w1 ⟨rfl, rfl⟩
    go_wp2
    go_ret2
    exact ⟨rfl, rfl⟩
  · rw [if_neg g0, if_neg g0]
    obtain ⟨x, hx⟩ : ∃ x, x = 64 * (R k).gv + k := ⟨_, rfl⟩
    have hz : (64 : Int) ≤ (x : Int) := by omega
    have hz2 : 64 ≤ x := by omega
    have hkn : (k : Int) < (n : Int) := by omega
    have hk0 : (0 : Int) ≤ (k : Int) := by omega
    rw [← hx]
    have HX := Lib.hid hx
    clear g0 hg hx
    go_enter Try.func42, Try.ntmps42
    go_wp2_with fail
    refine GR.out.mono ?_
    rw [← HX.out]
    rintro e w1 ⟨rfl, rfl⟩
    go_wp2
    go_ret2
    exact ⟨rfl, rfl⟩
end
end Go.Proofs.Ytkialefhjfoniaa
