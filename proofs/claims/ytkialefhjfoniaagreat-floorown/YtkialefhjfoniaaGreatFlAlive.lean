/-
  A new floor of the law's plain config; the document's example, as the statements ask it.
-/
import Derived.Test.YtkialefhjfoniaaGreatFlNew
import Derived.Test.YtkialefhjfoniaaGreatFlShard
import Derived.Test.YtkialefhjfoniaaGreatFlOps
namespace Go.Proofs.YtkialefhjfoniaaGreat
open Go.RowKit Verge
attribute [local go_sem] Oper.semAt_some
set_option linter.unusedVariables false
set_option linter.unusedSimpArgs false

/-- a floor, whole: how many are inside, busy, whether it is closed, its time, its trace -/
theorem plain_ok (n c : Nat) (hn : 1 ≤ n ∧ n ≤ 4) (hc : 1 ≤ c ∧ c ≤ 64) : cfOk ⟨n, c, (4 : Nat), (4 : Nat), 2, 4⟩ := by
  intro i hi
  rcases lt6 hi with rfl | rfl | rfl | rfl | rfl | rfl <;> simp [numC, limC] <;> omega
theorem newPlain (s r : Int) (n c : Nat) (hs : s = n) (hr : r = c) (hn : 1 ≤ n ∧ n ≤ 4) (hc : 1 ≤ c ∧ c ≤ 64) (w : World) :
    Calls Tryz.prog 5 #[.agg #[.int .i64 s, .int .i64 r, .int .i64 4, .int .i64 4, .int .i64 2, .int .i64 4]] w fun e w' => ∃ F : Fb, e = .returned (.tuple #[.pointer (some ⟨F.f, 0, none⟩), .int .i64 0]) ∧ F.c = ⟨n, c, 4, 4, 2, 4⟩ ∧ F.n = n ∧ NewF w w' F c 4 := by
  subst hs hr
  exact floorNew_ok n c 4 4 2 4 (plain_ok n c hn hc) w
theorem shard_in {w : World} {F : Fb} {tr : Option Addr} {tl tc : Nat} (h : IsF w F tr tl tc) (r : Row w 57 1 (some ⟨F.g, 0, none⟩) F.n F.gc (shV F)) (n1 : F.n ≤ 1000) (i : Int) (q : Nat) (hi : i = q) (hq : q < F.n) :
    Calls Tryz.prog 32 #[.pointer (some ⟨F.f, 0, none⟩), .int .i64 i] w fun e w' => e = .returned (.pointer (some ⟨F.sh q, 0, none⟩)) ∧ Ch Nil w w' := by
  have e : pt (shP F.n F.sh i) = .pointer (some ⟨F.sh q, 0, none⟩) := by
    subst hi; unfold shP; rw [if_pos (by omega), Int.toNat_natCast]; rfl
  have := shard_any (Shs.of h r) n1 i
  rwa [e] at this
theorem home_in {w : World} {F : Fb} {tr : Option Addr} {tl tc : Nat} (h : IsF w F tr tl tc) (r : Row w 57 1 (some ⟨F.g, 0, none⟩) F.n F.gc (shV F)) (hn : F.c.s = F.n) (n0 : 0 < F.n) (n1 : F.n ≤ 1000) (i : Int) (q k : Nat) (hi : i = q) (hk : q % F.n = k) :
    Calls Tryz.prog 20 #[.pointer (some ⟨F.f, 0, none⟩), .int .i64 i] w fun e w' => e = .returned (.pointer (some ⟨F.sh k, 0, none⟩)) ∧ Ch Nil w w' := by
  have e : pt (homeP F.n F.sh i) = .pointer (some ⟨F.sh k, 0, none⟩) := by
    subst hi hk; unfold homeP; rw [if_pos (by omega), Int.toNat_natCast]; rfl
  have := home_of h r hn n0 n1 i
  rwa [e] at this
theorem shard_nil (i : Int) (w : World) :
    Calls Tryz.prog 32 #[.pointer none, .int .i64 i] w fun e w' => e = .returned (.pointer none) ∧ Ch Nil w w' := by
  have e : pt (shP 0 (fun _ => 0) i) = .pointer none := by unfold shP; rw [if_neg (by omega)]; rfl
  have := shard_any (Shs.nil w (fun _ => 0)) (by omega) i
  rwa [e] at this
/-- two shards held against each other -/
theorem eqlS {w : World} {s t : Nat} (hs : Blk w s) (ht : Blk w t) : (binOp .eql 57 (.pointer (some ⟨s, 0, none⟩)) (.pointer (some ⟨t, 0, none⟩))).run Tryz.prog w = .ok (.bool (decide (s = t))) w := by
  have := run_eql_pt (P := Tryz.prog) (w := w) (t := 57) (some s) (some t) (by rintro b h; cases h; exact hs) (by rintro b h; cases h; exact ht) Tryz.underlying57 (by kernel_rfl)
  simpa using this
set_option maxHeartbeats 4000000 in
theorem alive_any (w : World) :
    Calls Tryz.prog 4 #[] w fun e w' => e = .returned (.bool true) ∧ Ch Nil w w' := by
  go_enter Tryz.func4, Tryz.ntmps4
  go_wp2_with fail
  refine (plain_of 2 8 _).mono ?_
  rintro e w1 ⟨rfl, c1⟩
  have C1 := Lib.hid c1
  have C1s := Lib.hid c1.size
  clear c1
  go_wp2_with fail
  refine (newPlain 2 8 2 8 rfl rfl (by omega) (by omega) _).mono ?_
  rintro e w2 ⟨F, rfl, hF, hn, n2⟩
  have N2 := Lib.hid n2
  have HF := Lib.hid (show F.c.s = F.n from by rw [hF, hn])
  have HN := Lib.hid hn
  have C2 := Lib.hid (C1.out.trans n2.c)
  clear n2 hF hn C1
  go_wp2_with fail
  refine (shard_in N2.out.fl N2.out.r (by rw [HN.out]; omega) 1 1 rfl (by rw [HN.out]; omega)).mono ?_
  rintro e w3 ⟨rfl, c3⟩
  have C3 := Lib.hid c3
  clear c3
  go_wp2_with fail
  refine (home_in (N2.out.fl.kept C3.out (fun e => e)) (N2.out.r.kept C3.out (fun _ _ e => e)) HF.out (by rw [HN.out]; omega) (by rw [HN.out]; omega) 3 3 1 rfl (by rw [HN.out])).mono ?_
  rintro e w4 ⟨rfl, c4⟩
  have C4 := Lib.hid (C3.out.trans c4)
  clear c4 C3
  go_wp2_with fail
  refine (shard_in (N2.out.fl.kept C4.out (fun e => e)) (N2.out.r.kept C4.out (fun _ _ e => e)) (by rw [HN.out]; omega) 1 1 rfl (by rw [HN.out]; omega)).mono ?_
  rintro e w5 ⟨rfl, c5⟩
  have k5 := ((N2.out.sd 1 (by rw [HN.out]; omega)).bk.kept (C4.out.trans c5) (fun e => e))
  have hE := eqlS k5 k5
  simp only [decide_true] at hE
  have C5 := Lib.hid (C4.out.trans c5)
  clear c5 C4 k5
  go_wp2_with fail
  clear hE
  refine (shut_first (N2.out.fl.kept C5.out (fun e => e)) (N2.out.pc.kept C5.out (fun e => e))).mono ?_
  rintro e w6 ⟨rfl, k6, c6⟩
  have K6 := Lib.hid k6
  have F6 := Lib.hid ((N2.out.fl.kept C5.out (fun e => e)).kept c6 (fun e => by have e' : F.f = F.cl := e; have := N2.out.o.o3; have := N2.out.o.o4; have := N2.out.o.o5; have := N2.out.o.o6; omega))
  have lcl : w.heap.size ≤ F.cl := by have := N2.out.o.o1; have := N2.out.o.o2; have := C2.out.size; have := N2.out.c; have h1 : w.heap.size ≤ w1.heap.size := C1s.out; omega
  have C6 := Lib.hid ((C2.out.trans C5.out).then c6 (fun i hi e => by have e' : i = F.cl := e; omega))
  clear k6 c6
  go_wp2_with fail
  refine (shut_again F6.out K6.out).mono ?_
  rintro e w7 ⟨rfl, k7, c7⟩
  have C7 := Lib.hid (C6.out.then c7 (fun i hi e => by have e' : i = F.cl := e; omega))
  clear k7 c7
  go_wp2
  go_ret
  exact ⟨rfl, C7.out⟩
end Go.Proofs.YtkialefhjfoniaaGreat
