import Derived.Test.YtnbdafmjcmmfpaaGreatK01
/-
  Contracts of the document's answer for words (vergeref02) and of the statements' example (alive).
-/
namespace Go.Proofs.YtnbdafmjcmmfpaaGreat
open Go.RowKit Verge
attribute [local go_sem] Oper.semAt_some
set_option linter.unusedVariables false

theorem pack_35 (w : World) : Calls Tryz.prog 126 #[.int .i64 3, .int .u64 5, .bool false] w fun e w' => e = .returned (.tuple #[.int .u64 1283, .int .i64 0]) ∧ w = w' :=
  pack_any 3 5 false (by decide) w
theorem next_c (w : World) : Calls Tryz.prog 106 #[.int .u64 1283, .int .i64 4, .bool true] w fun e w' => e = .returned (.tuple #[.int .u64 1284, .int .i64 0]) ∧ w = w' := by
  have h := next_any 1283 4 true (by decide) w
  rwa [show nxZ 1283 4 true = (1284, 0) from by decide] at h
theorem next_r (w : World) : Calls Tryz.prog 106 #[.int .u64 1284, .int .i64 5, .bool true] w fun e w' => e = .returned (.tuple #[.int .u64 1539, .int .i64 0]) ∧ w = w' := by
  have h := next_any 1284 5 true (by decide) w
  rwa [show nxZ 1284 5 true = (1539, 0) from by decide] at h
theorem next_n (w : World) : Calls Tryz.prog 106 #[.int .u64 1284, .int .i64 5, .bool false] w fun e w' => e = .returned (.tuple #[.int .u64 1284, .int .i64 7]) ∧ w = w' := by
  have h := next_any 1284 5 false (by decide) w
  rwa [show nxZ 1284 5 false = (1284, 7) from by decide] at h
theorem st_c (w : World) : Calls Tryz.prog 24 #[.int .u64 1284] w fun e w' => e = .returned (.int .i64 4) ∧ w = w' := by
  have h := state_any 1284 (by decide) w
  rwa [show okW 1284 = true from by decide, if_pos rfl] at h
theorem gn_c (w : World) : Calls Tryz.prog 122 #[.int .u64 1284] w fun e w' => e = .returned (.int .u64 5) ∧ w = w' := by
  have h := gen_any 1284 (by decide) w
  rwa [show okW 1284 = true from by decide, if_pos rfl] at h
theorem st_r (w : World) : Calls Tryz.prog 24 #[.int .u64 1539] w fun e w' => e = .returned (.int .i64 3) ∧ w = w' := by
  have h := state_any 1539 (by decide) w
  rwa [show okW 1539 = true from by decide, if_pos rfl] at h
theorem gn_r (w : World) : Calls Tryz.prog 122 #[.int .u64 1539] w fun e w' => e = .returned (.int .u64 6) ∧ w = w' := by
  have h := gen_any 1539 (by decide) w
  rwa [show okW 1539 = true from by decide, if_pos rfl] at h

theorem results_tmp4 {fn : Func} {t u v x : Tmp} (h : fn.results = #[.tmp t, .tmp u, .tmp v, .tmp x]) (tmps : Array Value) (P : Program) (w : World) :
    (results fn tmps).run P w = .ok (.tuple #[tmps.getD t undef, tmps.getD u undef, tmps.getD v undef, tmps.getD x undef]) w := by
  simp [results, h]

theorem ret4 {a a' b b' : Int} {x x' y y' : Bool} (h : a = a') (h1 : b = b') (h2 : x = x') (h3 : y = y') :
    Ending.returned (.tuple #[.int .i64 a, .int .u64 b, .bool x, .bool y]) = .returned (.tuple #[.int .i64 a', .int .u64 b', .bool x', .bool y']) := by rw [h, h1, h2, h3]

set_option maxHeartbeats 4000000 in
theorem parts_any (n : Nat) (hn : n < 18446744073709551616) (w : World) :
    Calls Tryz.prog 29 #[.int .u64 n] w fun e w' => e = .returned (.tuple #[.int .i64 ((if okW n = true then n % 8 else 0 : Nat) : Int), .int .u64 ((if okW n = true then n / 256 else 0 : Nat) : Int), .bool (okW n && lsW n), .bool (okW n)]) ∧ w = w' := by
  obtain ⟨z, hz⟩ : ∃ z : Int, (n : Int) = z := ⟨_, rfl⟩
  have hz0 : 0 ≤ z := by omega
  have hz1 : z < 18446744073709551616 := by omega
  rw [hz]
  have HZ := Lib.hid hz
  clear hz
  cases hok : okW n
  · have HO := Lib.hid hok
    have hc := okW_false.1 hok
    by_cases h1 : (z / 8 / 2 % 16 != 0) = true
    · clear hok hc
      go_enter Tryz.func29, Tryz.ntmps29
      go_wp2
      (try simp only [Exit.inBlock, Exit.then]); refine bodyPost_ret (results_tmp4 rfl _ _ _) rfl ?_
      exact ⟨rfl, rfl⟩
    · have h1' : (z / 8 / 2 % 16 != 0) = false := by simpa using h1
      have e1 : z / 8 / 2 % 16 = 0 := by simpa using h1'
      by_cases h2 : 4294967295 < z / 8 / 2 / 16
      · clear hok hc h1 e1
        go_enter Tryz.func29, Tryz.ntmps29
        go_wp2
        (try simp only [Exit.inBlock, Exit.then]); refine bodyPost_ret (results_tmp4 rfl _ _ _) rfl ?_
        exact ⟨rfl, rfl⟩
      · have h3 : 6 < z % 8 := by have := HZ.out; omega
        clear hok hc h1 e1
        go_enter Tryz.func29, Tryz.ntmps29
        go_wp2
        (try simp only [Exit.inBlock, Exit.then]); refine bodyPost_ret (results_tmp4 rfl _ _ _) rfl ?_
        exact ⟨rfl, rfl⟩
  · have HO := Lib.hid hok
    obtain ⟨c1, c2, c3⟩ := okW_true.1 hok
    have h1' : (z / 8 / 2 % 16 != 0) = false := by
      rw [bne_eq_false_iff_eq]; have := HZ.out; omega
    have h2 : ¬ 4294967295 < z / 8 / 2 / 16 := by have := HZ.out; omega
    have h3 : ¬ 6 < z % 8 := by have := HZ.out; omega
    have e3 : z / 8 / 2 / 16 = ((n / 256 : Nat) : Int) := by have := HZ.out; omega
    have e4 : z % 8 = ((n % 8 : Nat) : Int) := by have := HZ.out; omega
    have e5 : (z / 8 % 2 == 1) = lsW n := by
      unfold lsW
      rw [Bool.eq_iff_iff, beq_iff_eq, beq_iff_eq]
      have := HZ.out; omega
    have E3 := Lib.hid e3
    have E4 := Lib.hid e4
    have E5 := Lib.hid e5
    clear hok c1 c2 c3 e3 e4 e5
    go_enter Tryz.func29, Tryz.ntmps29
    go_wp2
    (try simp only [Exit.inBlock, Exit.then]); refine bodyPost_ret (results_tmp4 rfl _ _ _) rfl ?_
    refine ⟨ret4 ?_ ?_ ?_ rfl, rfl⟩
    · exact E4.out
    · exact E3.out
    · exact E5.out

end Go.Proofs.YtnbdafmjcmmfpaaGreat
