/-
  Contracts of package floor's eachShard, Shard and Home.
-/
import Derived.Test.YtkialefhjfoniaaGreatRangeVals
import Derived.Test.YtkialefhjfoniaaGreatFlShape
import Derived.Test.YtkialefhjfoniaaGreatFlConf
import Derived.RangeFuncNested
import Derived.RangeFuncBound
import Derived.RangeFuncCalls
import Derived.RangeFuncLeaves
import Derived.Shelf.Abstract
import Derived.Shelf.RegionOpen
import Derived.WalkKit
import Derived.OwnWalkIn
import Derived.TacticsInMore
import Derived.LoopNIn
import Derived.LoopIn
import Derived.Lib.Hide
import Derived.IntWalk
namespace Go.Proofs.YtkialefhjfoniaaGreat
open Go.RowKit Verge
attribute [local go_sem] Oper.semAt_some
set_option linter.unusedVariables false
set_option linter.unusedSimpArgs false

theorem Ch.later14 {S : Nat → Prop} {r : Nat} {a w w' : World} (h : Ch S a w) (c : Ch (One r) w w') (hr : a.heap.size ≤ r) : Ch S a w' :=
  h.then c fun i hi e => by subst e; omega
theorem Keeps.of14 {S : Nat → Prop} {w w' : World} {B : Nat} (c : Ch S w w') (hS : ∀ k, S k → k < B) : KeepsFrom B w w' :=
  ⟨c.size, fun k o hB hk ho => (c.block k (Array.getElem?_eq_some_iff.1 hk).1 fun hs => by have := hS k hs; omega).trans hk⟩
/-- a floor's shards, as eachShard reads them: of no floor none -/
structure Shs (w : World) (p : Option Addr) (n : Nat) (sh : Nat → Nat) : Prop where
  f : (p = none ∧ n = 0) ∨ ∃ (F : Fb) (tr : Option Addr) (tl tc : Nat), p = some ⟨F.f, 0, none⟩ ∧ n = F.n ∧ sh = F.sh ∧ IsF w F tr tl tc ∧ Row w 57 1 (some ⟨F.g, 0, none⟩) F.n F.gc (shV F)
section
variable {S : Nat → Prop} {w w' : World} {p : Option Addr} {n : Nat} {sh : Nat → Nat}
theorem Shs.kept (h : Shs w p n sh) (c : Ch Nil w w') : Shs w' p n sh := by
  rcases h.f with h | ⟨F, tr, tl, tc, h1, h2, h3, h4, h5⟩
  · exact ⟨.inl h⟩
  · exact ⟨.inr ⟨F, tr, tl, tc, h1, h2, h3, h4.kept c (fun e => e), h5.kept c (fun _ _ e => e)⟩⟩
/-- what whole tells of them: the slice's row -/
theorem Shs.whole (h : Shs w p n sh) : ∃ (a : Option Addr) (c : Nat) (V : Array Value), (∀ W, (Instr.field 77 (.agg V) 2).run Tryz.prog W = .ok (.slice a n c) W) ∧ (∀ W, Ch Nil w W → ∀ k, k < n → ∃ g, a = some ⟨g, 0, none⟩ ∧ W.cell? ⟨g, k, none⟩ = some (.pointer (some ⟨sh k, 0, none⟩))) ∧
    (∀ W, Ch Nil w W → Calls Tryz.prog 42 #[.pointer p] W fun e w' => e = .returned (.agg V) ∧ Ch Nil W w') := by
  rcases h.f with ⟨rfl, rfl⟩ | ⟨F, tr, tl, tc, rfl, rfl, rfl, h4, h5⟩
  · exact ⟨none, 0, #[.int .i64 0, .int .i64 0, .int .i64 0, .int .i64 0, .int .i64 0, .int .i64 0, .pointer none, .slice none 0 0, .pointer none, .pointer none, .pointer none, .pointer none, .pointer none, .pointer none, .slice none 0 0], fun W => fld2 .., fun W c k hk => by omega, fun W c => whole_nil W⟩
  · exact ⟨some ⟨F.g, 0, none⟩, F.gc, #[.int .i64 F.c.s, .int .i64 F.c.c, .int .i64 F.c.r, .int .i64 F.c.m, .int .i64 F.c.k, .int .i64 F.c.l, .pointer (some ⟨F.sb, 0, none⟩), .slice (some ⟨F.g, 0, none⟩) F.n F.gc, .pointer (some ⟨F.pb, 0, none⟩), .pointer (some ⟨F.lb, 0, none⟩), .pointer (some ⟨F.cl, 0, none⟩), .pointer (some ⟨F.ins, 0, none⟩), .pointer (some ⟨F.bz, 0, none⟩), .pointer (some ⟨F.nw, 0, none⟩), .slice tr tl tc], fun W => fld2 .., fun W c k hk => ⟨F.g, rfl, (h5.kept c (fun _ _ e => e)).cell k (by omega)⟩, fun W c => whole_of (h4.kept c (fun e => e))⟩
end
set_option maxRecDepth 100000 in
set_option maxHeartbeats 2000000 in
theorem each_tells (m : Nat) (h1 : 1 ≤ m) (w : World) (p : Option Addr) (n : Nat) (sh : Nat → Nat) (hs : Shs w p n sh) (I : Nat → World → Prop) (hT : ∀ k W, I k W → Ch Nil w W) (hn : n ≤ 1000) :
    TellsVals m Tryz.prog 69 (fun l => #[.pointer p] ++ #[.func (.yield l) #[] #[]]) n (fun k => #[.int .i64 (k : Int), .pointer (some ⟨sh k, 0, none⟩)]) I := by
  intro l J Jx W hJ hQ hY h0
  obtain ⟨a, c, V, hF, hC, hW⟩ := hs.whole
  have HT := Lib.hid fun k W h => hT k W (hJ k W h)
  have HY := Lib.hid hY
  have HQ := Lib.hid hQ
  have H0 := Lib.hid h0
  have HC := Lib.hid hC
  have HW := Lib.hid (hW W (hT 0 W (hJ 0 W h0)))
  clear hT hJ hY h0 hQ hs hC hW
  refine callsIn_of_wp Tryz.func69 rfl trivial ?_ rfl
  simp only [Tryz.ntmps69, List.size_toArray, List.length_cons, List.length_nil, Nat.reduceAdd, Nat.reduceSub, Array.replicate_succ, Array.replicate_zero, List.push_toArray, List.append_toArray, List.nil_append, List.cons_append]
  gi_wp2_with (refine ⟨trivial, ?_⟩; gi_at_call 42; refine (callsIn_wide.2 HW.out).mono ?_; rintro e w1 ⟨rfl, c1⟩)
  have HJ1 := Lib.hid (HQ.out 0 _ _ H0.out c1)
  clear c1 HW H0
  gi_wp2
  gi_loopw [10] (fun v wr => ∃ k : Nat, k ≤ n ∧ v = .int .i64 k ∧ J k wr) (fun v _ => n - (intOf v).toNat)
  case atStart => exact ⟨0, by omega, rfl, HJ1.out⟩
  case round =>
    obtain ⟨k, hk, rfl, hj⟩ := hrel
    have HJ2 := Lib.hid hj
    clear hj
    by_cases hlt : k < n
    · obtain ⟨g, rfl, hg⟩ := HC.out wr (HT.out k wr HJ2.out) k hlt
      obtain ⟨fn, tmps, assign, body, hy, hR⟩ := HY.out k wr HJ2.out hlt
      have HR := Lib.hid hR
      clear hR
      have hkz : (k : Int) < (n : Int) := by omega
      have hkz0 : (0 : Int) ≤ (k : Int) := by omega
      gi_wp2
      refine HR.out.mono ?_
      rintro e W3 (⟨rfl, hJ3⟩ | ⟨rfl, hJx3⟩)
      · have HJ3 := Lib.hid hJ3
        clear hJ3
        gi_wp2
        go_roundw
        case rel => exact ⟨k + 1, by omega, by go_num, HJ3.out⟩
        case measure => simp [intOf]; omega
      · have HJ3 := Lib.hid hJx3
        clear hJx3
        gi_wp2
        refine bodyPost_ret (results_none rfl _ _ _) rfl ?_
        exact ⟨⟨_, rfl⟩, .inr ⟨k, hlt, HJ3.out⟩⟩
    · obtain rfl : k = n := by omega
      gi_wp2
      go_end0
      exact ⟨⟨_, rfl⟩, .inl HJ2.out⟩
/-- between two rounds of Shard: none so far -/
structure ShIn (w : World) (i : Int) (k : Nat) (W : World) : Prop where
  sc : W.cell? ⟨w.heap.size, 0, none⟩ = some (.int .i64 i)
  r : ∃ x, W.cell? ⟨w.heap.size + 1, 0, none⟩ = some (.pointer x)
  f : W.frozen? ⟨w.heap.size + 1, 0, none⟩ = false
  c : Ch Nil w W
  no : ∀ j : Nat, j < k → (j : Int) ≠ i
structure ShOut (w : World) (i : Int) (sh : Nat → Nat) (k : Nat) (W : World) : Prop where
  x : W.cell? ⟨w.heap.size + 1, 0, none⟩ = some (.pointer (some ⟨sh k, 0, none⟩))
  c : Ch Nil w W
  yes : (k : Int) = i
theorem ShIn.steady {w : World} {i : Int} {B : Nat} (hB : w.heap.size + 2 ≤ B) : Steady B (ShIn w i) := fun k W W' r h c hr nc => by
  obtain ⟨x, hx⟩ := h.r
  exact ⟨c.keeps h.sc (fun e => nc.cell h.sc e), ⟨x, c.keeps hx (fun e => nc.cell hx e)⟩,
    (c.frozen (p := ⟨w.heap.size + 1, 0, none⟩) (lt_of_cell hx) (fun e => nc.cell hx e)).trans h.f, h.c.later14 c (by omega), h.no⟩
theorem ShIn.quiet {w : World} {i : Int} (k : Nat) (W W' : World) (h : ShIn w i k W) (c : Ch Nil W W') : ShIn w i k W' := by
  obtain ⟨x, hx⟩ := h.r
  exact ⟨c.keeps h.sc (fun e => e), ⟨x, c.keeps hx (fun e => e)⟩, (c.frozen (p := ⟨w.heap.size + 1, 0, none⟩) (lt_of_cell hx) (fun e => e)).trans h.f, h.c.trans c, h.no⟩
theorem ShOut.steady {w : World} {i : Int} {sh : Nat → Nat} {B : Nat} (hB : w.heap.size + 2 ≤ B) : Steady B (ShOut w i sh) := fun k W W' r h c hr nc =>
  ⟨c.keeps h.x (fun e => nc.cell h.x e), h.c.later14 c (by omega), h.yes⟩
/-- the shard with that number, if there is one -/
def shP (n : Nat) (sh : Nat → Nat) (i : Int) : Option Nat := if 0 ≤ i ∧ i < n then some (sh i.toNat) else none
set_option maxRecDepth 100000 in
set_option maxHeartbeats 2000000 in
theorem shard_any {w : World} {p : Option Addr} {n : Nat} {sh : Nat → Nat} (hs : Shs w p n sh) (hn : n ≤ 1000) (i : Int) :
    Calls Tryz.prog 32 #[.pointer p, .int .i64 i] w fun e w' => e = .returned (pt (shP n sh i)) ∧ Ch Nil w w' := by
  have c1 : Ch Nil w (w.alloc (.cells #[.int .i64 i] 3)) := (Ch.refl _ _).alloc _
  have c2 : Ch Nil (w.alloc (.cells #[.int .i64 i] 3)) ((w.alloc (.cells #[.int .i64 i] 3)).alloc (.cells #[.pointer none] 57)) := (Ch.refl _ _).alloc _
  have hI0 : ShIn w i 0 ((w.alloc (.cells #[.int .i64 i] 3)).alloc (.cells #[.pointer none] 57)) := by
    have hs : (w.alloc (.cells #[.int .i64 i] 3)).heap.size = w.heap.size + 1 := by simp
    refine ⟨c2.keeps (by simp [cell_fresh]) (fun e => e), ⟨none, ?_⟩, ?_, c1.trans c2, fun j hj => by omega⟩
    · rw [← hs]; simp [cell_fresh]
    · rw [← hs]; simp [frozen_fresh]
  have HI0 := Lib.hid hI0
  have hsz : ((w.alloc (.cells #[.int .i64 i] 3)).alloc (.cells #[.pointer none] 57)).heap.size = w.heap.size + 2 := by simp
  have HS := Lib.hid hs
  clear hI0 c1 c2 hs
  refine (callsIn_wide (n := 5)).1 ?_
  refine callsIn_of_wp_marks Tryz.func32 rfl trivial ?_ rfl
  simp only [Tryz.ntmps32, List.size_toArray, List.length_cons, List.length_nil, Nat.reduceAdd, Nat.reduceSub, Array.replicate_succ, Array.replicate_zero, List.push_toArray, List.append_toArray, List.nil_append, List.cons_append]
  gi_wp2
  generalize hW0 : ((w.alloc (.cells #[.int .i64 i] 3)).alloc (.cells #[.pointer none] 57)) = W0 at *
  clear hW0
  refine range_vals (n := 5) (gf := 69) (ba := #[.pointer p]) rfl (enters_of Tryz.func69 (by kernel_rfl) rfl) n (fun k => #[.int .i64 (k : Int), .pointer (some ⟨sh k, 0, none⟩)]) (fun _ => rfl)
    (ShIn w i) (fun c k W => c = .ret ∧ ShOut w i sh k W) (ShIn.steady (by omega)) ShIn.quiet ?hIx HI0.out (each_tells 4 (by omega) w p n sh HS.out _ (fun k W h => h.c) hn) ?act1 ?assign ?body ?done ?stop
  case hIx => exact fun c k W W' r h ch hr nc => ⟨h.1, ShOut.steady (B := W0.heap.size) (by omega) k W W' r h.2 ch hr nc⟩
  case assign =>
    intro l k W K hK
    gi_wp2
    exact hK
  case body =>
    intro l k W hW hk
    have c1 := hW.sc
    have f1 := hW.f
    obtain ⟨x, c2⟩ := hW.r
    have HW := Lib.hid hW
    clear hW
    have hlt := lt_of_cell c2
    by_cases hs : (k : Int) = i
    · have hb : ((k : Int) == i) = true := by rw [beq_iff_eq]; exact hs
      have HSI := Lib.hid hs
      clear hs
      gi_wp2
      have ch : Ch (One (w.heap.size + 1)) W (W.setCell ⟨w.heap.size + 1, 0, none⟩ (.pointer (some ⟨sh k, 0, none⟩))) := (Ch.refl _ _).setB 0 _
      refine ⟨Keeps.of14 ch (fun j hj => by rw [hj]; omega), rfl, World.cell?_setCell_same _ _ _ c2, HW.out.c.then ch (fun i hi e => by subst e; omega), HSI.out⟩
    · have hb : ((k : Int) == i) = false := by rw [beq_eq_false_iff_ne]; exact hs
      have HSI := Lib.hid hs
      clear hs
      gi_wp2
      refine ⟨KeepsFrom.refl _ _, HW.out.sc, HW.out.r, HW.out.f, HW.out.c, fun j hj => ?_⟩
      by_cases e : j < k
      · exact HW.out.no j e
      · obtain rfl : j = k := by omega
        exact HSI.out
  case done =>
    intro D W hD hW hK
    have f1 := hW.f
    obtain ⟨x, c2⟩ := hW.r
    have hF : shP n sh i = none := by
      unfold shP
      rw [if_neg]
      rintro ⟨h1, h2⟩
      have := hW.no i.toNat (by omega)
      omega
    have HF := Lib.hid hF
    have hc := hW.c
    have HC := Lib.hid hc
    clear hW hF hc
    gi_wp2
    have hlt := lt_of_cell c2
    have ch : Ch (One (w.heap.size + 1)) W (W.setCell ⟨w.heap.size + 1, 0, none⟩ (.pointer none)) := (Ch.refl _ _).setB 0 _
    have hK2 : (W.setCell ⟨w.heap.size + 1, 0, none⟩ (.pointer none)).heap[D]? = some (.deferred (some [])) := (ch.block D (Array.getElem?_eq_some_iff.1 hK).1 (by intro e; omega)).trans hK
    refine ⟨by simp, .inl ⟨_, _, rfl, run_takeDeferred hK2, ?_⟩⟩
    have c3 := (Ch.put (W := W.setCell ⟨w.heap.size + 1, 0, none⟩ (.pointer none)) D (.deferred none)).keeps (World.cell?_setCell_same _ _ _ c2) (by intro e; simp at e; omega)
    refine ⟨.pointer none, by simp [results, Tryz.results32, go_sem, c3], ?_, ?_⟩
    · rw [HF.out]; rfl
    · exact (HC.out.then ch (fun i hi e => by subst e; omega)).later14 (Ch.put D (.deferred none)) (by omega)
  case stop =>
    intro D c k W hD hk hW hK
    obtain ⟨rfl, hW⟩ := hW
    have hF : shP n sh i = some (sh k) := by
      unfold shP
      have := hW.yes
      rw [if_pos (by omega), show i.toNat = k by omega]
    have hput := (ShOut.steady (B := w.heap.size + 2) (Nat.le_refl _)).put (.deferred none) hW (by omega) hK rfl
    have HP := Lib.hid hput
    have HF := Lib.hid hF
    clear hW hput hF
    gi_wp2
    refine ⟨by simp, .inl ⟨_, _, rfl, run_takeDeferred hK, ?_⟩⟩
    have c3 := HP.out.x
    refine ⟨.pointer (some ⟨sh k, 0, none⟩), by simp [results, Tryz.results32, go_sem, c3], ?_, HP.out.c⟩
    rw [HF.out]; rfl
/-- the shards of no floor; of a floor -/
theorem Shs.nil (w : World) (sh : Nat → Nat) : Shs w none 0 sh := ⟨.inl ⟨rfl, rfl⟩⟩
theorem Shs.of {w : World} {F : Fb} {tr : Option Addr} {tl tc : Nat} (h : IsF w F tr tl tc) (r : Row w 57 1 (some ⟨F.g, 0, none⟩) F.n F.gc (shV F)) : Shs w (some ⟨F.f, 0, none⟩) F.n F.sh :=
  ⟨.inr ⟨F, tr, tl, tc, rfl, rfl, rfl, h, r⟩⟩
/-- a slot's home -/
def homeP (n : Nat) (sh : Nat → Nat) (i : Int) : Option Nat := if 0 ≤ i then some (sh (i.toNat % n)) else none
set_option maxHeartbeats 2000000 in
theorem home_nil (i : Int) (w : World) :
    Calls Tryz.prog 20 #[.pointer none, .int .i64 i] w fun e w' => e = .returned (.pointer none) ∧ Ch Nil w w' := by
  have hfld := cfld0
  by_cases h0 : i < 0
  · go_enter Tryz.func20, Tryz.ntmps20
    go_wp2_with fail
    refine (config_nil _).mono ?_
    rintro e w1 ⟨rfl, c1⟩
    have C1 := Lib.hid c1
    clear c1
    go_wp2
    go_ret
    exact ⟨rfl, C1.out⟩
  · go_enter Tryz.func20, Tryz.ntmps20
    go_wp2_with fail
    refine (config_nil _).mono ?_
    rintro e w1 ⟨rfl, c1⟩
    have C1 := Lib.hid c1
    clear c1
    go_wp2
    go_ret
    exact ⟨rfl, C1.out⟩
set_option maxHeartbeats 2000000 in
theorem home_of {w : World} {F : Fb} {tr : Option Addr} {tl tc : Nat} (h : IsF w F tr tl tc) (r : Row w 57 1 (some ⟨F.g, 0, none⟩) F.n F.gc (shV F)) (hn : F.c.s = F.n) (n0 : 0 < F.n) (n1 : F.n ≤ 1000) (i : Int) :
    Calls Tryz.prog 20 #[.pointer (some ⟨F.f, 0, none⟩), .int .i64 i] w fun e w' => e = .returned (pt (homeP F.n F.sh i)) ∧ Ch Nil w w' := by
  have hfld := cfld0
  have H := Lib.hid h
  have R := Lib.hid r
  obtain ⟨m, hm⟩ : ∃ m : Nat, m = F.n := ⟨_, rfl⟩
  have HM := Lib.hid hm
  have HN := Lib.hid hn
  have hs : F.c.s = (m : Int) := by rw [hn, hm]
  clear h r hn hm
  by_cases h0 : i < 0
  · have E : homeP F.n F.sh i = none := if_neg (by omega)
    have HE := Lib.hid E
    have hd := Lib.hid (decide_eq_true h0)
    clear E
    go_enter Tryz.func20, Tryz.ntmps20
    go_wp2_with fail
    refine (config_of H.out).mono ?_
    rintro e w1 ⟨rfl, c1⟩
    have C1 := Lib.hid c1
    clear c1
    go_wp2
    go_ret
    exact ⟨by rw [HE.out]; rfl, C1.out⟩
  · obtain ⟨q, rfl⟩ : ∃ q : Nat, i = q := ⟨i.toNat, by omega⟩
    have E : homeP F.n F.sh q = shP F.n F.sh ((q : Int) % (m : Int)) := by
      have := HM.out
      have hlt : q % m < m := Nat.mod_lt _ (by omega)
      rw [show (q : Int) % (m : Int) = ((q % m : Nat) : Int) by omega]
      unfold homeP shP
      rw [if_pos (by omega), if_pos (by omega), Int.toNat_natCast, Int.toNat_natCast, HM.out]
    have HE := Lib.hid E
    have hz : ((m : Int) == 0) = false := by rw [beq_eq_false_iff_ne]; have := HM.out; omega
    have hz2 : ¬ (m = 0) := by have := HM.out; omega
    have hd : decide ((q : Int) < 0) = false := decide_eq_false h0
    have hmod : (q : Int).tmod (m : Int) = ((q % m : Nat) : Int) := by rw [Int.tmod_eq_emod_of_nonneg (by omega)]; omega
    clear E h0
    go_enter Tryz.func20, Tryz.ntmps20
    go_wp2_with fail
    refine (config_of H.out).mono ?_
    rintro e w1 ⟨rfl, c1⟩
    have C1 := Lib.hid c1
    clear c1
    go_wp2_with fail
    refine (shard_any (Shs.of (H.out.kept C1.out (fun e => e)) (R.out.kept C1.out (fun _ _ e => e))) n1 _).mono ?_
    rintro e w2 ⟨rfl, c2⟩
    have C2 := Lib.hid (C1.out.trans c2)
    clear c2
    rw [← HE.out]
    go_wp2
    go_ret
    exact ⟨rfl, C2.out⟩
end Go.Proofs.YtkialefhjfoniaaGreat
