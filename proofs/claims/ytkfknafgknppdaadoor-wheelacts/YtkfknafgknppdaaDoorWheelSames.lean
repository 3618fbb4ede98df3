/-
  The statements' comparison of a wheel with the document's: they stand alike.
  The same of a wheel without entries; and of any.
  WheelActs: what holds in its loops: a wheel and the document's, side by side, and the row of all entries.
-/
import Derived.Test.YtkfknafgknppdaaDoorWheelRefs
import Derived.Test.YtkfknafgknppdaaDoorHeld
import Derived.Deep.Cut
import Derived.Deep.CutRange
import Derived.Deep.CutBlock
import Derived.Test.YtkfknafgknppdaaDoorWheelRem
import Derived.Test.YtkfknafgknppdaaDoorIsTab
namespace Verge
set_option linter.unusedVariables false
set_option linter.unusedSimpArgs false
section
variable {l : List Dn} {Q : List Ent} {s t p : Nat}
theorem len_lt_d (n : Nat) : ∀ l : List Dn, (l.filter fun x => decide (x.p < n + 1)).length = (l.filter fun x => decide (x.p < n)).length + (l.filter fun x => decide (x.p = n)).length
  | [] => rfl
  | x :: t => by
    have := len_lt_d n t
    rw [List.filter_cons, List.filter_cons, List.filter_cons]
    by_cases h1 : x.p < n
    · have h2 : x.p < n + 1 := by omega
      have h3 : x.p ≠ n := by omega
      simp [h1, h2, h3]; omega
    · by_cases h3 : x.p = n
      · have h2 : x.p < n + 1 := by omega
        simp [h1, h2, h3]; omega
      · have h2 : ¬ x.p < n + 1 := by omega
        simp [h1, h2, h3]; omega
theorem len_lt_q (s n : Nat) : ∀ l : List Ent, (l.filter fun x => decide (spotN x.d s < n + 1)).length = (l.filter fun x => decide (spotN x.d s < n)).length + (l.filter fun x => decide (spotN x.d s = n)).length
  | [] => rfl
  | x :: t => by
    have := len_lt_q s n t
    rw [List.filter_cons, List.filter_cons, List.filter_cons]
    by_cases h1 : spotN x.d s < n
    · have h2 : spotN x.d s < n + 1 := by omega
      have h3 : spotN x.d s ≠ n := by omega
      simp [h1, h2, h3]; omega
    · by_cases h3 : spotN x.d s = n
      · have h2 : spotN x.d s < n + 1 := by omega
        simp [h1, h2, h3]; omega
      · have h2 : ¬ spotN x.d s < n + 1 := by omega
        simp [h1, h2, h3]; omega
theorem RQ.rlen (h : RQ l Q s) (q : Nat) : (l.filter fun x => decide (x.p = q)).length = (rowsOf Q s q).length := by
  have := congrArg List.length (h.r q); simpa using this
theorem RQ.len (h : RQ l Q s) : l.length = Q.length := by
  have key : ∀ n, (l.filter fun x => decide (x.p < n)).length = (Q.filter fun x => decide (spotN x.d s < n)).length := fun n => by
    induction n with
    | zero => rw [List.filter_eq_nil_iff.2 (by simp), List.filter_eq_nil_iff.2 (by simp)]; rfl
    | succ n ih => rw [len_lt_d, len_lt_q, ih, h.rlen n]; rfl
  have h1 : (l.filter fun x => decide (x.p < 257)) = l := List.filter_eq_self.2 fun x hx => by have := h.p x hx; simp; omega
  have h2 : (Q.filter fun x => decide (spotN x.d s < 257)) = Q := List.filter_eq_self.2 fun x hx => by have := spotN_le x.d s; simp; omega
  have := key 257
  rwa [h1, h2] at this
theorem RQ.mem2 {y : Ent} (h : RQ l Q s) (hy : y ∈ Q) : ∃ x, x ∈ l ∧ x.u = y.u ∧ x.d = y.d := by
  have h1 : kE y ∈ (l.filter fun x => decide (x.p = spotN y.d s)).map kD := by rw [h.r]; exact List.mem_map_of_mem (mem_rowsOf.2 ⟨hy, rfl⟩)
  obtain ⟨x, hx, e⟩ := List.mem_map.1 h1
  unfold kD kE at e
  simp only [Prod.mk.injEq] at e
  exact ⟨x, (List.mem_filter.1 hx).1, e.1, e.2⟩
theorem RQ.min {m m' : Nat} (h : RQ l Q s) (h1 : IsMin Q m) (h2 : MinD l m') : m = m' := by
  obtain ⟨⟨y, hy, rfl⟩, a⟩ := h1
  obtain ⟨⟨x, hx, rfl⟩, b⟩ := h2
  obtain ⟨x', hx', -, e⟩ := h.mem2 hy
  obtain ⟨y', hy', -, e'⟩ := h.mem hx
  have := a y' hy'; have := b x' hx'; omega
theorem RQ.us (h : RQ l Q s) (q i : Nat) : ((rowsOf Q s q).getD i ⟨0, 0, 0⟩).u = ((l.filter fun x => decide (x.p = q)).getD i ⟨0, 0, 0⟩).u := by
  have e := congrArg (fun m => (m.map Prod.fst).getD i 0) (h.r q)
  simp only [List.map_map] at e
  have e1 : ∀ m : List Ent, (m.getD i ⟨0, 0, 0⟩).u = (m.map (Prod.fst ∘ kE)).getD i 0 := fun m => by
    rw [List.getD_eq_getElem?_getD, List.getD_eq_getElem?_getD, List.getElem?_map]; cases m[i]? <;> rfl
  have e2 : ∀ m : List Dn, (m.getD i ⟨0, 0, 0⟩).u = (m.map (Prod.fst ∘ kD)).getD i 0 := fun m => by
    rw [List.getD_eq_getElem?_getD, List.getD_eq_getElem?_getD, List.getElem?_map]; cases m[i]? <;> rfl
  rw [e1, e2]; exact e.symm
end
end Verge
namespace Go.Proofs.YtkfknafgknppdaaDoor
open Go.RowKit Verge LP
attribute [local go_sem] Oper.semAt_some
set_option linter.unusedVariables false
set_option linter.unusedSimpArgs false
/-- a wheel and the document's, side by side, alike -/
structure Duo8 (w0 w : World) (g : Wh) (now : Nat) (Q P : List Ent) (rb : Nat) (l : List Dn) (ar : Option Addr) (cr : Nat) : Prop where
  d : Drv w0 w g now Q P
  r : RefW w rb now l ar cr
  q : RQ l Q now
  a : ∀ k, RS rb ar k → ¬ WS g P k
  o : ∀ k, RS rb ar k → w0.heap.size ≤ k
section
variable {w0 w w' : World} {g : Wh} {now : Nat} {Q P : List Ent} {rb : Nat} {l : List Dn} {ar : Option Addr} {cr : Nat}
theorem Duo8.quiet (h : Duo8 w0 w g now Q P rb l ar cr) (c : Ch Nil w w') : Duo8 w0 w' g now Q P rb l ar cr := ⟨h.d.quiet c, h.r.kept c (fun _ _ e => e), h.q, h.a, h.o⟩
/-- At of both, held against each other -/
theorem Duo8.atw {lv sl : Nat} (h : Duo8 w0 w g now Q P rb l ar cr) (hlv : lv < 4) (hsl : sl < 64) (hn : Q.length ≤ 100000) :
    Calls Tryd.prog 15 #[.pointer (some ⟨g.wb, 0, none⟩), .int .i64 (lv : Nat), .int .i64 (sl : Nat)] w fun e w1 => ∃ a cap, e = .returned (.slice a (rowsOf Q now (64 * lv + sl)).length cap) ∧ RowI w1 a (rowsOf Q now (64 * lv + sl)).length cap (uAt (rowsOf Q now (64 * lv + sl))) ∧ Ch Nil w w1 :=
  (h.d.at_of hlv hsl hn).mono fun e w1 ⟨a, cap, he, hr, _, c⟩ => ⟨a, cap, he, RowU.ints hr, c⟩
theorem Duo8.refAt {p : Nat} (h : Duo8 w0 w g now Q P rb l ar cr) (hp : p ≤ 256) (hn : Q.length ≤ 100000) :
    Calls Tryd.prog 36 #[.pointer (some ⟨rb, 0, none⟩), .int .i64 ((p / 64 : Nat) : Int), .int .i64 ((p % 64 : Nat) : Int)] w fun e w1 => ∃ a cap, e = .returned (.slice a (rowsOf Q now p).length cap) ∧ RowI w1 a (rowsOf Q now p).length cap (uAt (rowsOf Q now p)) ∧ Ch Nil w w1 := by
  refine (refAt_of h.r p h.q.p hp (by rw [h.q.len]; exact hn)).mono ?_
  rintro e w1 ⟨a, cap, rfl, hr, -, c⟩
  rw [h.q.rlen] at hr ⊢
  exact ⟨a, cap, rfl, hr.congr _ (fun i _ => h.q.us p i), c⟩

set_option maxHeartbeats 4000000 in
set_option maxRecDepth 100000 in
theorem same_first (h : Duo8 w0 w g now Q P rb l ar cr) (T : Tab w0) (hn : Q.length ≤ 60) (lev slot : Int) (hne : Q ≠ []) :
    Calls Tryd.prog 14 #[.pointer (some ⟨g.wb, 0, none⟩), .pointer (some ⟨rb, 0, none⟩), .int .i64 lev, .int .i64 slot] w fun e w' => e = .returned (.bool true) ∧ Ch Nil w w' := by
  have H0 := Lib.hid h
  have TB := Lib.hid T
  obtain ⟨ql, hql⟩ : ∃ ql, ql = Q.length := ⟨_, rfl⟩
  have QL : Hid (l.length = ql) := Lib.hid (by rw [hql]; exact h.q.len)
  have QL2 : Hid (Q.length = ql) := Lib.hid hql.symm
  have TW := Lib.hid (T.keeps h.d.c (fun e => e))
  clear h T hql
  go_enter Tryd.func14, Tryd.ntmps14
  go_wp2_with fail
  refine (next_of H0.out.d.q TW.out (by omega)).mono ?_
  rintro e w4 ⟨hE, c4⟩
  obtain ⟨m, hm, rfl⟩ : ∃ m : Nat, IsMin Q m ∧ e = .returned (.tuple #[.int .u64 (m : Nat), .int .i64 0]) := by
    rcases hE with ⟨e0, -⟩ | h
    · exact absurd e0 hne
    · exact h
  have HM := Lib.hid hm
  have H4 := Lib.hid (H0.out.quiet c4)
  have C4 := Lib.hid c4
  clear hE c4 hm
  go_wp2_with fail
  refine (refNext_of H4.out.r (by rw [QL.out]; have := QL2.out; omega)).mono ?_
  rintro e w5 ⟨hE, rfl⟩
  obtain rfl : e = .returned (.tuple #[.int .u64 (m : Nat), .bool true]) := by
    rcases hE with ⟨e0, -⟩ | ⟨m', hm', rfl⟩
    · exfalso; have h1 := H4.out.q.len; rw [e0] at h1; exact hne (List.eq_nil_of_length_eq_zero h1.symm)
    · rw [H4.out.q.min HM.out hm']
  clear hE
  have HU : Hid (Duo8 w0 w4 g now Q P rb l ar cr) := H4
  have C5 : Hid (Ch Nil w w4) := C4
  clear H4 C4
  go_upto_region 3 with (fail)
  have HD := Lib.hid (HU.out.quiet (Ch.refl _ _).drew)
  have CD : Hid (Ch Nil w w4.drew) := Lib.hid C5.out.drew
  clear HU C5
  refine wp_region_held_drew (S := fun w' => w'.cell? ⟨rb, 0, none⟩ = some (.int .u64 (now : Nat)) ∧ w'.cell? ⟨rb, 1, none⟩ = some (.slice ar ql cr)) (by kernel_rfl) ⟨HD.out.r.t, by have := HD.out.r.s; rw [QL.out] at this; exact this⟩ (fun hHeld => ?_)
  generalize w4.drew = X at hHeld HD CD ⊢
  refine take_at (v := ?_) 0 (some 25) rfl (by kernel_rfl) (by kernel_rfl) (by kernel_rfl) (by kernel_rfl) (fun _ _ _ h => h) (Or.inl ⟨by rfl, ?_⟩) (by assumption) ?_
  rotate_left
  · intro w hSw; (try dsimp only at hSw); go_simp; try (with_reducible rfl)
  (try simp only [Act.put, List.setIfInBounds_toArray, List.set_cons_zero, List.set_cons_succ])
  refine take_at (v := ?_) 2 (some 27) rfl (by kernel_rfl) (by kernel_rfl) (by kernel_rfl) (by kernel_rfl) (fun _ _ _ h => h) (Or.inl ⟨by rfl, ?_⟩) (by assumption) ?_
  rotate_left
  · intro w hSw; (try dsimp only at hSw); go_simp; try (with_reducible rfl)
  (try simp only [Act.put, List.setIfInBounds_toArray, List.set_cons_zero, List.set_cons_succ])
  refine take_at (v := ?_) 3 (some 28) rfl (by kernel_rfl) (by kernel_rfl) (by kernel_rfl) (by kernel_rfl) (fun _ _ _ h => h) (Or.inl ⟨by rfl, ?_⟩) (by assumption) ?_
  rotate_left
  · intro w hSw; (try dsimp only at hSw); go_simp; try (with_reducible rfl)
  (try simp only [Act.put, List.setIfInBounds_toArray, List.set_cons_zero, List.set_cons_succ])
  refine take_at (v := ?_) 4 (some 29) rfl (by kernel_rfl) (by kernel_rfl) (by kernel_rfl) (by kernel_rfl) (fun _ _ _ h => h) (Or.inl ⟨by rfl, ?_⟩) (by assumption) ?_
  rotate_left
  · intro w hSw; (try dsimp only at hSw); go_simp; try (with_reducible rfl)
  (try simp only [Act.put, List.setIfInBounds_toArray, List.set_cons_zero, List.set_cons_succ])
  refine take_at (v := ?_) 5 (some 30) rfl (by kernel_rfl) (by kernel_rfl) (by kernel_rfl) (by kernel_rfl) (fun _ _ _ h => h) (Or.inl ⟨by rfl, ?_⟩) (by assumption) ?_
  rotate_left
  · intro w hSw; (try dsimp only at hSw); go_simp; try (with_reducible rfl)
  (try simp only [Act.put, List.setIfInBounds_toArray, List.set_cons_zero, List.set_cons_succ])
  refine wpAnyH_ready (rs := [1]) (by kernel_rfl) (by simp) ?_
  refine AllReadyH.cons rfl (fun K hK => ?_) AllReadyH.nil
  go_simp
  refine HD.out.d.time.mono ?_
  rintro e w6 ⟨rfl, rfl⟩
  refine hK.out _ _ hHeld (fun hHeld => ?_)
  clear hK K
  (try simp only [Act.put, List.setIfInBounds_toArray, List.set_cons_zero, List.set_cons_succ])
  refine take_at (v := ?_) 6 (some 31) rfl (by kernel_rfl) (by kernel_rfl) (by kernel_rfl) (by kernel_rfl) (fun _ _ _ h => h) (Or.inl ⟨by rfl, ?_⟩) (by assumption) ?_
  rotate_left
  · intro w hSw; (try dsimp only at hSw); go_simp; try (with_reducible rfl)
  (try simp only [Act.put, List.setIfInBounds_toArray, List.set_cons_zero, List.set_cons_succ])
  refine take_at (v := ?_) 7 (some 32) rfl (by kernel_rfl) (by kernel_rfl) (by kernel_rfl) (by kernel_rfl) (fun _ _ _ h => h) (Or.inl ⟨by rfl, ?_⟩) (by assumption) ?_
  rotate_left
  · intro w hSw; (try dsimp only at hSw); go_simp; try (with_reducible rfl)
  (try simp only [Act.put, List.setIfInBounds_toArray, List.set_cons_zero, List.set_cons_succ])
  refine take_at (v := ?_) 8 (some 33) rfl (by kernel_rfl) (by kernel_rfl) (by kernel_rfl) (by kernel_rfl) (fun _ _ _ h => h) (Or.inl ⟨by rfl, ?_⟩) (by assumption) ?_
  rotate_left
  · intro w hSw; (try dsimp only at hSw); go_simp; try (with_reducible rfl)
  (try simp only [Act.put, List.setIfInBounds_toArray, List.set_cons_zero, List.set_cons_succ])
  refine take_at (v := ?_) 10 (some 35) rfl (by kernel_rfl) (by kernel_rfl) (by kernel_rfl) (by kernel_rfl) (fun _ _ _ h => h) (Or.inl ⟨by rfl, ?_⟩) (by assumption) ?_
  rotate_left
  · intro w hSw; (try dsimp only at hSw); go_simp; try (with_reducible rfl)
  (try simp only [Act.put, List.setIfInBounds_toArray, List.set_cons_zero, List.set_cons_succ])
  refine take_at (v := ?_) 11 (some 36) rfl (by kernel_rfl) (by kernel_rfl) (by kernel_rfl) (by kernel_rfl) (fun _ _ _ h => h) (Or.inl ⟨by rfl, ?_⟩) (by assumption) ?_
  rotate_left
  · intro w hSw; (try dsimp only at hSw); go_simp; try (with_reducible rfl)
  (try simp only [Act.put, List.setIfInBounds_toArray, List.set_cons_zero, List.set_cons_succ])
  refine take_at (v := ?_) 12 (some 37) rfl (by kernel_rfl) (by kernel_rfl) (by kernel_rfl) (by kernel_rfl) (fun _ _ _ h => h) (Or.inl ⟨by rfl, ?_⟩) (by assumption) ?_
  rotate_left
  · intro w hSw; (try dsimp only at hSw); go_simp; try (with_reducible rfl)
  (try simp only [Act.put, List.setIfInBounds_toArray, List.set_cons_zero, List.set_cons_succ])
  refine take_at (v := ?_) 13 (some 38) rfl (by kernel_rfl) (by kernel_rfl) (by kernel_rfl) (by kernel_rfl) (fun _ _ _ h => h) (Or.inl ⟨by rfl, ?_⟩) (by assumption) ?_
  rotate_left
  · intro w hSw; (try dsimp only at hSw); go_simp; try (with_reducible rfl)
  (try simp only [Act.put, List.setIfInBounds_toArray, List.set_cons_zero, List.set_cons_succ])
  refine take_at (v := ?_) 14 (some 39) rfl (by kernel_rfl) (by kernel_rfl) (by kernel_rfl) (by kernel_rfl) (fun _ _ _ h => h) (Or.inl ⟨by rfl, ?_⟩) (by assumption) ?_
  rotate_left
  · intro w hSw; (try dsimp only at hSw); go_simp; try (with_reducible rfl)
  (try simp only [Act.put, List.setIfInBounds_toArray, List.set_cons_zero, List.set_cons_succ])
  refine wpAnyH_ready (rs := [9]) (by kernel_rfl) (by simp) ?_
  refine AllReadyH.cons rfl (fun K hK => ?_) AllReadyH.nil
  go_simp
  refine (HD.out.d.len TB.out (by omega)).mono ?_
  rintro e w6 ⟨rfl, c6⟩
  rw [QL2.out]
  have H6 := Lib.hid (HD.out.quiet c6)
  have C6 := Lib.hid (CD.out.trans c6)
  have s6 : w6.cell? ⟨rb, 0, none⟩ = some (.int .u64 (now : Nat)) ∧ w6.cell? ⟨rb, 1, none⟩ = some (.slice ar ql cr) := ⟨c6.keeps hHeld.1 (fun e => e), c6.keeps hHeld.2 (fun e => e)⟩
  clear c6 HD CD
  refine hK.out _ _ s6 (fun hHeld => ?_)
  clear hK K s6
  (try simp only [Act.put, List.setIfInBounds_toArray, List.set_cons_zero, List.set_cons_succ])
  refine take_at (v := ?_) 15 (some 40) rfl (by kernel_rfl) (by kernel_rfl) (by kernel_rfl) (by kernel_rfl) (fun _ _ _ h => h) (Or.inl ⟨by rfl, ?_⟩) (by assumption) ?_
  rotate_left
  · intro w hSw; (try dsimp only at hSw); go_simp; try (with_reducible rfl)
  (try simp only [Act.put, List.setIfInBounds_toArray, List.set_cons_zero, List.set_cons_succ])
  refine take_at (v := ?_) 16 (some 41) rfl (by kernel_rfl) (by kernel_rfl) (by kernel_rfl) (by kernel_rfl) (fun _ _ _ h => h) (Or.inl ⟨by rfl, ?_⟩) (by assumption) ?_
  rotate_left
  · intro w hSw; (try dsimp only at hSw); go_simp; try (with_reducible rfl)
  (try simp only [Act.put, List.setIfInBounds_toArray, List.set_cons_zero, List.set_cons_succ])
  refine take_at (v := ?_) 17 (some 42) rfl (by kernel_rfl) (by kernel_rfl) (by kernel_rfl) (by kernel_rfl) (fun _ _ _ h => h) (Or.inl ⟨by rfl, ?_⟩) (by assumption) ?_
  rotate_left
  · intro w hSw; (try dsimp only at hSw); go_simp; try (with_reducible rfl)
  (try simp only [Act.put, List.setIfInBounds_toArray, List.set_cons_zero, List.set_cons_succ])
  refine take_at (v := ?_) 18 (some 43) rfl (by kernel_rfl) (by kernel_rfl) (by kernel_rfl) (by kernel_rfl) (fun _ _ _ h => h) (Or.inl ⟨by rfl, ?_⟩) (by assumption) ?_
  rotate_left
  · intro w hSw; (try dsimp only at hSw); go_simp; try (with_reducible rfl)
  (try simp only [Act.put, List.setIfInBounds_toArray, List.set_cons_zero, List.set_cons_succ])
  refine take_at (v := ?_) 19 (some 44) rfl (by kernel_rfl) (by kernel_rfl) (by kernel_rfl) (by kernel_rfl) (fun _ _ _ h => h) (Or.inl ⟨by rfl, ?_⟩) (by assumption) ?_
  rotate_left
  · intro w hSw; (try dsimp only at hSw); go_simp; try (with_reducible rfl)
  (try simp only [Act.put, List.setIfInBounds_toArray, List.set_cons_zero, List.set_cons_succ])
  refine take_at (v := ?_) 20 (some 45) rfl (by kernel_rfl) (by kernel_rfl) (by kernel_rfl) (by kernel_rfl) (fun _ _ _ h => h) (Or.inl ⟨by rfl, ?_⟩) (by assumption) ?_
  rotate_left
  · intro w hSw; (try dsimp only at hSw); go_simp; try (with_reducible rfl)
  (try simp only [Act.put, List.setIfInBounds_toArray, List.set_cons_zero, List.set_cons_succ])
  refine take_at (v := ?_) 21 (some 46) rfl (by kernel_rfl) (by kernel_rfl) (by kernel_rfl) (by kernel_rfl) (fun _ _ _ h => h) (Or.inl ⟨by rfl, ?_⟩) (by assumption) ?_
  rotate_left
  · intro w hSw; (try dsimp only at hSw); go_simp; try (with_reducible rfl)
  (try simp only [Act.put, List.setIfInBounds_toArray, List.set_cons_zero, List.set_cons_succ])
  refine take_at (v := ?_) 22 (some 47) rfl (by kernel_rfl) (by kernel_rfl) (by kernel_rfl) (by kernel_rfl) (fun _ _ _ h => h) (Or.inl ⟨by rfl, ?_⟩) (by assumption) ?_
  rotate_left
  · intro w hSw; (try dsimp only at hSw); go_simp; try (with_reducible rfl)
  (try simp only [Act.put, List.setIfInBounds_toArray, List.set_cons_zero, List.set_cons_succ])
  refine take_at (v := ?_) 23 (some 48) rfl (by kernel_rfl) (by kernel_rfl) (by kernel_rfl) (by kernel_rfl) (fun _ _ _ h => h) (Or.inl ⟨by rfl, ?_⟩) (by assumption) ?_
  rotate_left
  · intro w hSw; (try dsimp only at hSw); go_simp; try (with_reducible rfl)
  (try simp only [Act.put, List.setIfInBounds_toArray, List.set_cons_zero, List.set_cons_succ])
  refine take_at (v := ?_) 24 (some 49) rfl (by kernel_rfl) (by kernel_rfl) (by kernel_rfl) (by kernel_rfl) (fun _ _ _ h => h) (Or.inl ⟨by rfl, ?_⟩) (by assumption) ?_
  rotate_left
  · intro w hSw; (try dsimp only at hSw); go_simp; try (with_reducible rfl)
  (try simp only [Act.put, List.setIfInBounds_toArray, List.set_cons_zero, List.set_cons_succ])
  refine take_at (v := ?_) 25 (some 50) rfl (by kernel_rfl) (by kernel_rfl) (by kernel_rfl) (by kernel_rfl) (fun _ _ _ h => h) (Or.inl ⟨by rfl, ?_⟩) (by assumption) ?_
  rotate_left
  · intro w hSw; (try dsimp only at hSw); go_simp; try (with_reducible rfl)
  (try simp only [Act.put, List.setIfInBounds_toArray, List.set_cons_zero, List.set_cons_succ])
  refine take_at (v := ?_) 26 (some 51) rfl (by kernel_rfl) (by kernel_rfl) (by kernel_rfl) (by kernel_rfl) (fun _ _ _ h => h) (Or.inl ⟨by rfl, ?_⟩) (by assumption) ?_
  rotate_left
  · intro w hSw; (try dsimp only at hSw); go_simp; try (with_reducible rfl)
  (try simp only [Act.put, List.setIfInBounds_toArray, List.set_cons_zero, List.set_cons_succ])
  refine take_at (v := ?_) 27 (some 52) rfl (by kernel_rfl) (by kernel_rfl) (by kernel_rfl) (by kernel_rfl) (fun _ _ _ h => h) (Or.inl ⟨by rfl, ?_⟩) (by assumption) ?_
  rotate_left
  · intro w hSw; (try dsimp only at hSw); go_simp; try (with_reducible rfl)
  (try simp only [Act.put, List.setIfInBounds_toArray, List.set_cons_zero, List.set_cons_succ])
  refine take_at (v := ?_) 28 (some 53) rfl (by kernel_rfl) (by kernel_rfl) (by kernel_rfl) (by kernel_rfl) (fun _ _ _ h => h) (Or.inl ⟨by rfl, ?_⟩) (by assumption) ?_
  rotate_left
  · intro w hSw; (try dsimp only at hSw); go_simp; try (with_reducible rfl)
  (try simp only [Act.put, List.setIfInBounds_toArray, List.set_cons_zero, List.set_cons_succ])
  refine take_at (v := ?_) 29 (some 54) rfl (by kernel_rfl) (by kernel_rfl) (by kernel_rfl) (by kernel_rfl) (fun _ _ _ h => h) (Or.inl ⟨by rfl, ?_⟩) (by assumption) ?_
  rotate_left
  · intro w hSw; (try dsimp only at hSw); go_simp; try (with_reducible rfl)
  (try simp only [Act.put, List.setIfInBounds_toArray, List.set_cons_zero, List.set_cons_succ])
  refine take_at (v := ?_) 30 (some 55) rfl (by kernel_rfl) (by kernel_rfl) (by kernel_rfl) (by kernel_rfl) (fun _ _ _ h => h) (Or.inl ⟨by rfl, ?_⟩) (by assumption) ?_
  rotate_left
  · intro w hSw; (try dsimp only at hSw); go_simp; try (with_reducible rfl)
  (try simp only [Act.put, List.setIfInBounds_toArray, List.set_cons_zero, List.set_cons_succ])
  refine take_at (v := ?_) 31 (some 56) rfl (by kernel_rfl) (by kernel_rfl) (by kernel_rfl) (by kernel_rfl) (fun _ _ _ h => h) (Or.inl ⟨by rfl, ?_⟩) (by assumption) ?_
  rotate_left
  · intro w hSw; (try dsimp only at hSw); go_simp; try (with_reducible rfl)
  (try simp only [Act.put, List.setIfInBounds_toArray, List.set_cons_zero, List.set_cons_succ])
  refine take_at (v := undef) 32 (some 57) rfl (by kernel_rfl) (by kernel_rfl) (by kernel_rfl) (by kernel_rfl) (fun _ _ _ h => h) (Or.inr ⟨by rfl, rfl⟩) (by assumption) ?_
  (try simp only [Act.put, List.setIfInBounds_toArray, List.set_cons_zero, List.set_cons_succ])
  refine take_at (v := undef) 33 (some 58) rfl (by kernel_rfl) (by kernel_rfl) (by kernel_rfl) (by kernel_rfl) (fun _ _ _ h => h) (Or.inr ⟨by rfl, rfl⟩) (by assumption) ?_
  (try simp only [Act.put, List.setIfInBounds_toArray, List.set_cons_zero, List.set_cons_succ])
  refine take_at (v := ?_) 34 (some 59) rfl (by kernel_rfl) (by kernel_rfl) (by kernel_rfl) (by kernel_rfl) (fun _ _ _ h => h) (Or.inl ⟨by rfl, ?_⟩) (by assumption) ?_
  rotate_left
  · intro w hSw; (try dsimp only at hSw); go_simp; try (with_reducible rfl)
  (try simp only [Act.put, List.setIfInBounds_toArray, List.set_cons_zero, List.set_cons_succ])
  refine take_at (v := ?_) 35 (some 60) rfl (by kernel_rfl) (by kernel_rfl) (by kernel_rfl) (by kernel_rfl) (fun _ _ _ h => h) (Or.inl ⟨by rfl, ?_⟩) (by assumption) ?_
  rotate_left
  · intro w hSw; (try dsimp only at hSw); go_simp; try (with_reducible rfl)
  (try simp only [Act.put, List.setIfInBounds_toArray, List.set_cons_zero, List.set_cons_succ])
  refine take_at (v := ?_) 36 (some 61) rfl (by kernel_rfl) (by kernel_rfl) (by kernel_rfl) (by kernel_rfl) (fun _ _ _ h => h) (Or.inl ⟨by rfl, ?_⟩) (by assumption) ?_
  rotate_left
  · intro w hSw; (try dsimp only at hSw); go_simp; try (with_reducible rfl)
  (try simp only [Act.put, List.setIfInBounds_toArray, List.set_cons_zero, List.set_cons_succ])
  refine take_at (v := ?_) 37 (some 62) rfl (by kernel_rfl) (by kernel_rfl) (by kernel_rfl) (by kernel_rfl) (fun _ _ _ h => h) (Or.inl ⟨by rfl, ?_⟩) (by assumption) ?_
  rotate_left
  · intro w hSw; (try dsimp only at hSw); go_simp; try (with_reducible rfl)
  (try simp only [Act.put, List.setIfInBounds_toArray, List.set_cons_zero, List.set_cons_succ])
  refine take_at (v := ?_) 39 (some 64) rfl (by kernel_rfl) (by kernel_rfl) (by kernel_rfl) (by kernel_rfl) (fun _ _ _ h => h) (Or.inl ⟨by rfl, ?_⟩) (by assumption) ?_
  rotate_left
  · intro w hSw; (try dsimp only at hSw); go_simp; try (with_reducible rfl)
  (try simp only [Act.put, List.setIfInBounds_toArray, List.set_cons_zero, List.set_cons_succ])
  refine wpAnyH_ready (rs := [38]) (by kernel_rfl) (by simp) ?_
  refine AllReadyH.cons rfl (fun K hK => ?_) AllReadyH.nil
  go_simp
  refine (H6.out.d.beyond (by omega)).mono ?_
  rintro e w7 ⟨a7, cap7, rfl, r7, -, c7⟩
  have H7 := Lib.hid (H6.out.quiet c7)
  have C7 := Lib.hid (C6.out.trans c7)
  have R7 := Lib.hid (RowU.ints r7)
  have s7 : w7.cell? ⟨rb, 0, none⟩ = some (.int .u64 (now : Nat)) ∧ w7.cell? ⟨rb, 1, none⟩ = some (.slice ar ql cr) := ⟨c7.keeps hHeld.1 (fun e => e), c7.keeps hHeld.2 (fun e => e)⟩
  clear c7 r7 H6 C6
  refine hK.out _ _ s7 (fun hHeld => ?_)
  clear hK K s7
  (try simp only [Act.put, List.setIfInBounds_toArray, List.set_cons_zero, List.set_cons_succ])
  refine wpAnyH_ready (rs := [40]) (by kernel_rfl) (by simp) ?_
  refine AllReadyH.cons rfl (fun K hK => ?_) AllReadyH.nil
  go_simp
  refine (H7.out.refAt (p := 256) (by omega) (by omega)).mono ?_
  rintro e w8 ⟨a8, cap8, rfl, r8, c8⟩
  have H8 := Lib.hid (H7.out.quiet c8)
  have C8 := Lib.hid (C7.out.trans c8)
  have R8 := Lib.hid r8
  have R7' := Lib.hid (R7.out.kept c8 (fun _ _ e => e))
  have s8 : w8.cell? ⟨rb, 0, none⟩ = some (.int .u64 (now : Nat)) ∧ w8.cell? ⟨rb, 1, none⟩ = some (.slice ar ql cr) := ⟨c8.keeps hHeld.1 (fun e => e), c8.keeps hHeld.2 (fun e => e)⟩
  clear c8 r8 H7 C7 R7
  refine hK.out _ _ s8 (fun hHeld => ?_)
  clear hK K s8
  (try simp only [Act.put, List.setIfInBounds_toArray, List.set_cons_zero, List.set_cons_succ])
  refine wpAnyH_ready (rs := [41]) (by kernel_rfl) (by simp) ?_
  refine AllReadyH.cons rfl (fun K hK => ?_) AllReadyH.nil
  go_simp
  refine (ints_same R7'.out R8.out (Nat.le_trans rowsOf_len (by omega))).mono ?_
  rintro e w9 ⟨rfl, c9⟩
  have H9 := Lib.hid (H8.out.quiet c9)
  have C9 := Lib.hid (C8.out.trans c9)
  have s9 : w9.cell? ⟨rb, 0, none⟩ = some (.int .u64 (now : Nat)) ∧ w9.cell? ⟨rb, 1, none⟩ = some (.slice ar ql cr) := ⟨c9.keeps hHeld.1 (fun e => e), c9.keeps hHeld.2 (fun e => e)⟩
  clear c9 H8 C8 R7' R8
  refine hK.out _ _ s9 (fun hHeld => ?_)
  clear hK K s9
  (try simp only [Act.put, List.setIfInBounds_toArray, List.set_cons_zero, List.set_cons_succ])
  refine take_at (v := ?_) 42 (some 67) rfl (by kernel_rfl) (by kernel_rfl) (by kernel_rfl) (by kernel_rfl) (fun _ _ _ h => h) (Or.inl ⟨by rfl, ?_⟩) (by assumption) ?_
  rotate_left
  · intro w hSw; (try dsimp only at hSw); go_simp; try (with_reducible rfl)
  (try simp only [Act.put, List.setIfInBounds_toArray, List.set_cons_zero, List.set_cons_succ])
  refine take_at (v := ?_) 43 (some 68) rfl (by kernel_rfl) (by kernel_rfl) (by kernel_rfl) (by kernel_rfl) (fun _ _ _ h => h) (Or.inl ⟨by rfl, ?_⟩) (by assumption) ?_
  rotate_left
  · intro w hSw; (try dsimp only at hSw); go_simp; try (with_reducible rfl)
  (try simp only [Act.put, List.setIfInBounds_toArray, List.set_cons_zero, List.set_cons_succ])
  refine wpAnyH_done (by kernel_rfl) ?_ _
  clear hHeld

  go_wp2
  go_loopw [13] (fun i wr => ∃ k : Nat, k ≤ ql ∧ i = .int .i64 k ∧ Duo8 w0 wr g now Q P rb l ar cr ∧ Ch Nil w wr) (fun i _ => ql - (intOf i).toNat)
  case atStart => exact ⟨0, by omega, rfl, H9.out, C9.out⟩
  case round =>
    obtain ⟨k, hk, rfl, hu, cu⟩ := hrel
    have HU := Lib.hid hu
    have CU := Lib.hid cu
    have s1 := hu.r.s
    rw [QL.out] at s1
    have qn := QL2.out
    clear hu cu
    by_cases hlt : k < ql
    · obtain ⟨x, hx⟩ : ∃ x, l[k]? = some x := ⟨_, List.getElem?_eq_getElem (by rw [QL.out]; exact hlt)⟩
      have hr := HU.out.r.r
      rw [QL.out] at hr
      obtain ⟨ga, rfl, -⟩ := hr.form (by omega)
      obtain ⟨q0, q1, q2, q3⟩ := RowD.cells hr hlt hx
      have lc := hr.len_cap
      have hxp := HU.out.q.p x (List.mem_of_getElem? hx)
      obtain ⟨xu, hxu⟩ : ∃ xu, xu = x.u := ⟨_, rfl⟩
      obtain ⟨xd, hxd⟩ : ∃ xd, xd = x.d := ⟨_, rfl⟩
      obtain ⟨xl, hxl⟩ : ∃ xl, xl = x.p / 64 := ⟨_, rfl⟩
      obtain ⟨xs, hxs⟩ : ∃ xs, xs = x.p % 64 := ⟨_, rfl⟩
      rw [← hxu] at q0
      rw [← hxd] at q1
      rw [← hxl] at q2
      rw [← hxs] at q3
      have hxs64 : xs < 64 := by omega
      have hkz : (k : Int) < (ql : Int) := by omega
      have hkz0 : (0 : Int) ≤ (k : Int) := by omega
      obtain ⟨bb, hbb⟩ : ∃ bb, bb = wr.heap.size := ⟨_, rfl⟩
      obtain ⟨wb, hwb⟩ : ∃ wb, wb = wr.alloc (.cells #[.int .i64 xu, .int .u64 (xd : Nat), .int .i64 ((xl : Nat) : Int), .int .i64 ((xs : Nat) : Int)] 49) := ⟨_, rfl⟩
      have cb : Ch Nil wr wb := hwb ▸ (Ch.refl _ _).alloc _
      have BX : Hid (wb.cell? ⟨bb, 2, none⟩ = some (.int .i64 ((xl : Nat) : Int)) ∧ wb.cell? ⟨bb, 3, none⟩ = some (.int .i64 ((xs : Nat) : Int))) := Lib.hid (by rw [hwb, hbb]; refine ⟨?_, ?_⟩ <;> (rw [cell_fresh]; rfl))
      have HB := Lib.hid (HU.out.quiet cb)
      have CB := Lib.hid (CU.out.trans cb)
      have HWB := Lib.hid hwb
      have HBB := Lib.hid hbb
      clear cb hwb hbb hx hr hxu hxd hxl hxs HU CU
      by_cases h4 : xl < 4
      · have h4z : (xl : Int) < 4 := by omega
        go_upto_region 9 with (fail)
        rw [← HWB.out, ← HBB.out]
        clear HWB HBB q0 q1 q2 q3 s1
        have HD := Lib.hid (HB.out.quiet (Ch.refl _ _).drew)
        have CD : Hid (Ch Nil w wb.drew) := Lib.hid CB.out.drew
        have bd : wb.drew.cell? ⟨bb, 2, none⟩ = some (.int .i64 ((xl : Nat) : Int)) ∧ wb.drew.cell? ⟨bb, 3, none⟩ = some (.int .i64 ((xs : Nat) : Int)) := BX.out
        refine wp_region_held_drew (S := fun w' => w'.cell? ⟨bb, 2, none⟩ = some (.int .i64 ((xl : Nat) : Int)) ∧ w'.cell? ⟨bb, 3, none⟩ = some (.int .i64 ((xs : Nat) : Int))) (by kernel_rfl) bd (fun hHeld => ?_)
        clear HB CB BX
        generalize wb.drew = X at hHeld HD CD bd ⊢
        refine take_at (v := ?_) 0 (some 85) rfl (by kernel_rfl) (by kernel_rfl) (by kernel_rfl) (by kernel_rfl) (fun _ _ _ h => h) (Or.inl ⟨by rfl, ?_⟩) (by assumption) ?_
        rotate_left
        · intro w hSw; (try dsimp only at hSw); go_simp; try (with_reducible rfl)
        (try simp only [Act.put, List.setIfInBounds_toArray, List.set_cons_zero, List.set_cons_succ])
        refine take_at (v := ?_) 1 (some 86) rfl (by kernel_rfl) (by kernel_rfl) (by kernel_rfl) (by kernel_rfl) (fun _ _ _ h => h) (Or.inl ⟨by rfl, ?_⟩) (by assumption) ?_
        rotate_left
        · intro w hSw; (try dsimp only at hSw); go_simp; try (with_reducible rfl)
        (try simp only [Act.put, List.setIfInBounds_toArray, List.set_cons_zero, List.set_cons_succ])
        refine take_at (v := ?_) 2 (some 87) rfl (by kernel_rfl) (by kernel_rfl) (by kernel_rfl) (by kernel_rfl) (fun _ _ _ h => h) (Or.inl ⟨by rfl, ?_⟩) (by assumption) ?_
        rotate_left
        · intro w hSw; (try dsimp only at hSw); go_simp; try (with_reducible rfl)
        (try simp only [Act.put, List.setIfInBounds_toArray, List.set_cons_zero, List.set_cons_succ])
        refine take_at (v := ?_) 3 (some 88) rfl (by kernel_rfl) (by kernel_rfl) (by kernel_rfl) (by kernel_rfl) (fun _ _ _ h => h) (Or.inl ⟨by rfl, ?_⟩) (by assumption) ?_
        rotate_left
        · intro w hSw; (try dsimp only at hSw); go_simp; try (with_reducible rfl)
        (try simp only [Act.put, List.setIfInBounds_toArray, List.set_cons_zero, List.set_cons_succ])
        refine take_at (v := ?_) 4 (some 89) rfl (by kernel_rfl) (by kernel_rfl) (by kernel_rfl) (by kernel_rfl) (fun _ _ _ h => h) (Or.inl ⟨by rfl, ?_⟩) (by assumption) ?_
        rotate_left
        · intro w hSw; (try dsimp only at hSw); go_simp; try (with_reducible rfl)
        (try simp only [Act.put, List.setIfInBounds_toArray, List.set_cons_zero, List.set_cons_succ])
        refine take_at (v := ?_) 5 (some 90) rfl (by kernel_rfl) (by kernel_rfl) (by kernel_rfl) (by kernel_rfl) (fun _ _ _ h => h) (Or.inl ⟨by rfl, ?_⟩) (by assumption) ?_
        rotate_left
        · intro w hSw; (try dsimp only at hSw); go_simp; try (with_reducible rfl)
        (try simp only [Act.put, List.setIfInBounds_toArray, List.set_cons_zero, List.set_cons_succ])
        refine take_at (v := ?_) 6 (some 91) rfl (by kernel_rfl) (by kernel_rfl) (by kernel_rfl) (by kernel_rfl) (fun _ _ _ h => h) (Or.inl ⟨by rfl, ?_⟩) (by assumption) ?_
        rotate_left
        · intro w hSw; (try dsimp only at hSw); go_simp; try (with_reducible rfl)
        (try simp only [Act.put, List.setIfInBounds_toArray, List.set_cons_zero, List.set_cons_succ])
        refine take_at (v := ?_) 7 (some 92) rfl (by kernel_rfl) (by kernel_rfl) (by kernel_rfl) (by kernel_rfl) (fun _ _ _ h => h) (Or.inl ⟨by rfl, ?_⟩) (by assumption) ?_
        rotate_left
        · intro w hSw; (try dsimp only at hSw); go_simp; try (with_reducible rfl)
        (try simp only [Act.put, List.setIfInBounds_toArray, List.set_cons_zero, List.set_cons_succ])
        refine take_at (v := ?_) 8 (some 93) rfl (by kernel_rfl) (by kernel_rfl) (by kernel_rfl) (by kernel_rfl) (fun _ _ _ h => h) (Or.inl ⟨by rfl, ?_⟩) (by assumption) ?_
        rotate_left
        · intro w hSw; (try dsimp only at hSw); go_simp; try (with_reducible rfl)
        (try simp only [Act.put, List.setIfInBounds_toArray, List.set_cons_zero, List.set_cons_succ])
        refine take_at (v := ?_) 10 (some 95) rfl (by kernel_rfl) (by kernel_rfl) (by kernel_rfl) (by kernel_rfl) (fun _ _ _ h => h) (Or.inl ⟨by rfl, ?_⟩) (by assumption) ?_
        rotate_left
        · intro w hSw; (try dsimp only at hSw); go_simp; try (with_reducible rfl)
        (try simp only [Act.put, List.setIfInBounds_toArray, List.set_cons_zero, List.set_cons_succ])
        refine take_at (v := ?_) 11 (some 96) rfl (by kernel_rfl) (by kernel_rfl) (by kernel_rfl) (by kernel_rfl) (fun _ _ _ h => h) (Or.inl ⟨by rfl, ?_⟩) (by assumption) ?_
        rotate_left
        · intro w hSw; (try dsimp only at hSw); go_simp; try (with_reducible rfl)
        (try simp only [Act.put, List.setIfInBounds_toArray, List.set_cons_zero, List.set_cons_succ])
        refine take_at (v := ?_) 12 (some 97) rfl (by kernel_rfl) (by kernel_rfl) (by kernel_rfl) (by kernel_rfl) (fun _ _ _ h => h) (Or.inl ⟨by rfl, ?_⟩) (by assumption) ?_
        rotate_left
        · intro w hSw; (try dsimp only at hSw); go_simp; try (with_reducible rfl)
        (try simp only [Act.put, List.setIfInBounds_toArray, List.set_cons_zero, List.set_cons_succ])
        refine take_at (v := ?_) 13 (some 98) rfl (by kernel_rfl) (by kernel_rfl) (by kernel_rfl) (by kernel_rfl) (fun _ _ _ h => h) (Or.inl ⟨by rfl, ?_⟩) (by assumption) ?_
        rotate_left
        · intro w hSw; (try dsimp only at hSw); go_simp; try (with_reducible rfl)
        (try simp only [Act.put, List.setIfInBounds_toArray, List.set_cons_zero, List.set_cons_succ])
        refine take_at (v := ?_) 14 (some 99) rfl (by kernel_rfl) (by kernel_rfl) (by kernel_rfl) (by kernel_rfl) (fun _ _ _ h => h) (Or.inl ⟨by rfl, ?_⟩) (by assumption) ?_
        rotate_left
        · intro w hSw; (try dsimp only at hSw); go_simp; try (with_reducible rfl)
        (try simp only [Act.put, List.setIfInBounds_toArray, List.set_cons_zero, List.set_cons_succ])
        refine wpAnyH_ready (rs := [9]) (by kernel_rfl) (by simp) ?_
        refine AllReadyH.cons rfl (fun K hK => ?_) AllReadyH.nil
        go_simp
        refine (HD.out.atw (lv := xl) (sl := xs) h4 hxs64 (by omega)).mono ?_
        rintro e w6 ⟨a6, cap6, rfl, r6, c6⟩
        have H6 := Lib.hid (HD.out.quiet c6)
        have C6 := Lib.hid (CD.out.trans c6)
        have R6 := Lib.hid r6
        have s6 : w6.cell? ⟨bb, 2, none⟩ = some (.int .i64 ((xl : Nat) : Int)) ∧ w6.cell? ⟨bb, 3, none⟩ = some (.int .i64 ((xs : Nat) : Int)) := ⟨c6.keeps bd.1 (fun e => e), c6.keeps bd.2 (fun e => e)⟩
        clear c6 r6 HD CD
        refine hK.out _ _ s6 (fun hHeld => ?_)
        clear hK K
        (try simp only [Act.put, List.setIfInBounds_toArray, List.set_cons_zero, List.set_cons_succ])
        refine wpAnyH_ready (rs := [15]) (by kernel_rfl) (by simp) ?_
        refine AllReadyH.cons rfl (fun K hK => ?_) AllReadyH.nil
        go_simp
        have RA := H6.out.refAt (p := 64 * xl + xs) (by omega) (by omega)
        rw [show (64 * xl + xs) / 64 = xl by omega, show (64 * xl + xs) % 64 = xs by omega] at RA
        refine RA.mono ?_
        clear RA
        rintro e w7 ⟨a7, cap7, rfl, r7, c7⟩
        have H7 := Lib.hid (H6.out.quiet c7)
        have C7 := Lib.hid (C6.out.trans c7)
        have R7 := Lib.hid r7
        have R6' := Lib.hid (R6.out.kept c7 (fun _ _ e => e))
        have s7 : w7.cell? ⟨bb, 2, none⟩ = some (.int .i64 ((xl : Nat) : Int)) ∧ w7.cell? ⟨bb, 3, none⟩ = some (.int .i64 ((xs : Nat) : Int)) := ⟨c7.keeps s6.1 (fun e => e), c7.keeps s6.2 (fun e => e)⟩
        clear c7 r7 H6 C6 R6
        refine hK.out _ _ s7 (fun hHeld => ?_)
        clear hK K
        (try simp only [Act.put, List.setIfInBounds_toArray, List.set_cons_zero, List.set_cons_succ])
        refine wpAnyH_ready (rs := [16]) (by kernel_rfl) (by simp) ?_
        refine AllReadyH.cons rfl (fun K hK => ?_) AllReadyH.nil
        go_simp
        refine (ints_same R6'.out R7.out (Nat.le_trans rowsOf_len (by omega))).mono ?_
        rintro e w8 ⟨rfl, c8⟩
        have H8 := Lib.hid (H7.out.quiet c8)
        have C8 := Lib.hid (C7.out.trans c8)
        have s8 : w8.cell? ⟨bb, 2, none⟩ = some (.int .i64 ((xl : Nat) : Int)) ∧ w8.cell? ⟨bb, 3, none⟩ = some (.int .i64 ((xs : Nat) : Int)) := ⟨c8.keeps s7.1 (fun e => e), c8.keeps s7.2 (fun e => e)⟩
        clear c8 H7 C7 R6' R7
        refine hK.out _ _ s8 (fun hHeld => ?_)
        clear hK K
        (try simp only [Act.put, List.setIfInBounds_toArray, List.set_cons_zero, List.set_cons_succ])
        refine take_at (v := ?_) 17 (some 102) rfl (by kernel_rfl) (by kernel_rfl) (by kernel_rfl) (by kernel_rfl) (fun _ _ _ h => h) (Or.inl ⟨by rfl, ?_⟩) (by assumption) ?_
        rotate_left
        · intro w hSw; (try dsimp only at hSw); go_simp; try (with_reducible rfl)
        (try simp only [Act.put, List.setIfInBounds_toArray, List.set_cons_zero, List.set_cons_succ])
        refine take_at (v := ?_) 18 (some 103) rfl (by kernel_rfl) (by kernel_rfl) (by kernel_rfl) (by kernel_rfl) (fun _ _ _ h => h) (Or.inl ⟨by rfl, ?_⟩) (by assumption) ?_
        rotate_left
        · intro w hSw; (try dsimp only at hSw); go_simp; try (with_reducible rfl)
        (try simp only [Act.put, List.setIfInBounds_toArray, List.set_cons_zero, List.set_cons_succ])
        refine wpAnyH_done (by kernel_rfl) ?_ _
        clear hHeld s6 s7 s8 bd
        go_wp2
        go_roundw
        case rel => exact ⟨k + 1, by omega, by go_num, H8.out, C8.out⟩
        case measure => simp [intOf]; omega
      · have h4z : ¬ (xl : Int) < 4 := by omega
        have h4d : decide ((xl : Int) < 4) = false := decide_eq_false h4z
        go_upto_region 9 with (fail)
        rw [← HWB.out, ← HBB.out]
        clear HWB HBB q0 q1 q2 q3 s1
        have HD := Lib.hid (HB.out.quiet (Ch.refl _ _).drew)
        have CD : Hid (Ch Nil w wb.drew) := Lib.hid CB.out.drew
        have bd : wb.drew.cell? ⟨bb, 2, none⟩ = some (.int .i64 ((xl : Nat) : Int)) ∧ wb.drew.cell? ⟨bb, 3, none⟩ = some (.int .i64 ((xs : Nat) : Int)) := BX.out
        refine wp_region_held_drew (S := fun w' => w'.cell? ⟨bb, 2, none⟩ = some (.int .i64 ((xl : Nat) : Int)) ∧ w'.cell? ⟨bb, 3, none⟩ = some (.int .i64 ((xs : Nat) : Int))) (by kernel_rfl) bd (fun hHeld => ?_)
        clear HB CB BX
        generalize wb.drew = X at hHeld HD CD bd ⊢
        refine take_at (v := ?_) 0 (some 85) rfl (by kernel_rfl) (by kernel_rfl) (by kernel_rfl) (by kernel_rfl) (fun _ _ _ h => h) (Or.inl ⟨by rfl, ?_⟩) (by assumption) ?_
        rotate_left
        · intro w hSw; (try dsimp only at hSw); go_simp; try (with_reducible rfl)
        (try simp only [Act.put, List.setIfInBounds_toArray, List.set_cons_zero, List.set_cons_succ])
        refine take_at (v := ?_) 1 (some 86) rfl (by kernel_rfl) (by kernel_rfl) (by kernel_rfl) (by kernel_rfl) (fun _ _ _ h => h) (Or.inl ⟨by rfl, ?_⟩) (by assumption) ?_
        rotate_left
        · intro w hSw; (try dsimp only at hSw); go_simp; try (with_reducible rfl)
        (try simp only [Act.put, List.setIfInBounds_toArray, List.set_cons_zero, List.set_cons_succ])
        refine take_at (v := ?_) 2 (some 87) rfl (by kernel_rfl) (by kernel_rfl) (by kernel_rfl) (by kernel_rfl) (fun _ _ _ h => h) (Or.inl ⟨by rfl, ?_⟩) (by assumption) ?_
        rotate_left
        · intro w hSw; (try dsimp only at hSw); go_simp; try (with_reducible rfl)
        (try simp only [Act.put, List.setIfInBounds_toArray, List.set_cons_zero, List.set_cons_succ])
        refine take_at (v := ?_) 3 (some 88) rfl (by kernel_rfl) (by kernel_rfl) (by kernel_rfl) (by kernel_rfl) (fun _ _ _ h => h) (Or.inl ⟨by rfl, ?_⟩) (by assumption) ?_
        rotate_left
        · intro w hSw; (try dsimp only at hSw); go_simp; try (with_reducible rfl)
        (try simp only [Act.put, List.setIfInBounds_toArray, List.set_cons_zero, List.set_cons_succ])
        refine take_at (v := undef) 4 (some 89) rfl (by kernel_rfl) (by kernel_rfl) (by kernel_rfl) (by kernel_rfl) (fun _ _ _ h => h) (Or.inr ⟨by rfl, rfl⟩) (by assumption) ?_
        (try simp only [Act.put, List.setIfInBounds_toArray, List.set_cons_zero, List.set_cons_succ])
        refine take_at (v := undef) 5 (some 90) rfl (by kernel_rfl) (by kernel_rfl) (by kernel_rfl) (by kernel_rfl) (fun _ _ _ h => h) (Or.inr ⟨by rfl, rfl⟩) (by assumption) ?_
        (try simp only [Act.put, List.setIfInBounds_toArray, List.set_cons_zero, List.set_cons_succ])
        refine take_at (v := undef) 6 (some 91) rfl (by kernel_rfl) (by kernel_rfl) (by kernel_rfl) (by kernel_rfl) (fun _ _ _ h => h) (Or.inr ⟨by rfl, rfl⟩) (by assumption) ?_
        (try simp only [Act.put, List.setIfInBounds_toArray, List.set_cons_zero, List.set_cons_succ])
        refine take_at (v := undef) 7 (some 92) rfl (by kernel_rfl) (by kernel_rfl) (by kernel_rfl) (by kernel_rfl) (fun _ _ _ h => h) (Or.inr ⟨by rfl, rfl⟩) (by assumption) ?_
        (try simp only [Act.put, List.setIfInBounds_toArray, List.set_cons_zero, List.set_cons_succ])
        refine take_at (v := undef) 8 (some 93) rfl (by kernel_rfl) (by kernel_rfl) (by kernel_rfl) (by kernel_rfl) (fun _ _ _ h => h) (Or.inr ⟨by rfl, rfl⟩) (by assumption) ?_
        (try simp only [Act.put, List.setIfInBounds_toArray, List.set_cons_zero, List.set_cons_succ])
        refine take_at (v := undef) 9 (some 94) rfl (by kernel_rfl) (by kernel_rfl) (by kernel_rfl) (by kernel_rfl) (fun _ _ _ h => h) (Or.inr ⟨by rfl, rfl⟩) (by assumption) ?_
        (try simp only [Act.put, List.setIfInBounds_toArray, List.set_cons_zero, List.set_cons_succ])
        refine take_at (v := undef) 10 (some 95) rfl (by kernel_rfl) (by kernel_rfl) (by kernel_rfl) (by kernel_rfl) (fun _ _ _ h => h) (Or.inr ⟨by rfl, rfl⟩) (by assumption) ?_
        (try simp only [Act.put, List.setIfInBounds_toArray, List.set_cons_zero, List.set_cons_succ])
        refine take_at (v := undef) 11 (some 96) rfl (by kernel_rfl) (by kernel_rfl) (by kernel_rfl) (by kernel_rfl) (fun _ _ _ h => h) (Or.inr ⟨by rfl, rfl⟩) (by assumption) ?_
        (try simp only [Act.put, List.setIfInBounds_toArray, List.set_cons_zero, List.set_cons_succ])
        refine take_at (v := undef) 12 (some 97) rfl (by kernel_rfl) (by kernel_rfl) (by kernel_rfl) (by kernel_rfl) (fun _ _ _ h => h) (Or.inr ⟨by rfl, rfl⟩) (by assumption) ?_
        (try simp only [Act.put, List.setIfInBounds_toArray, List.set_cons_zero, List.set_cons_succ])
        refine take_at (v := undef) 13 (some 98) rfl (by kernel_rfl) (by kernel_rfl) (by kernel_rfl) (by kernel_rfl) (fun _ _ _ h => h) (Or.inr ⟨by rfl, rfl⟩) (by assumption) ?_
        (try simp only [Act.put, List.setIfInBounds_toArray, List.set_cons_zero, List.set_cons_succ])
        refine take_at (v := undef) 14 (some 99) rfl (by kernel_rfl) (by kernel_rfl) (by kernel_rfl) (by kernel_rfl) (fun _ _ _ h => h) (Or.inr ⟨by rfl, rfl⟩) (by assumption) ?_
        (try simp only [Act.put, List.setIfInBounds_toArray, List.set_cons_zero, List.set_cons_succ])
        refine take_at (v := undef) 15 (some 100) rfl (by kernel_rfl) (by kernel_rfl) (by kernel_rfl) (by kernel_rfl) (fun _ _ _ h => h) (Or.inr ⟨by rfl, rfl⟩) (by assumption) ?_
        (try simp only [Act.put, List.setIfInBounds_toArray, List.set_cons_zero, List.set_cons_succ])
        refine take_at (v := undef) 16 (some 101) rfl (by kernel_rfl) (by kernel_rfl) (by kernel_rfl) (by kernel_rfl) (fun _ _ _ h => h) (Or.inr ⟨by rfl, rfl⟩) (by assumption) ?_
        (try simp only [Act.put, List.setIfInBounds_toArray, List.set_cons_zero, List.set_cons_succ])
        refine take_at (v := undef) 17 (some 102) rfl (by kernel_rfl) (by kernel_rfl) (by kernel_rfl) (by kernel_rfl) (fun _ _ _ h => h) (Or.inr ⟨by rfl, rfl⟩) (by assumption) ?_
        (try simp only [Act.put, List.setIfInBounds_toArray, List.set_cons_zero, List.set_cons_succ])
        refine take_at (v := ?_) 18 (some 103) rfl (by kernel_rfl) (by kernel_rfl) (by kernel_rfl) (by kernel_rfl) (fun _ _ _ h => h) (Or.inl ⟨by rfl, ?_⟩) (by assumption) ?_
        rotate_left
        · intro w hSw; (try dsimp only at hSw); go_simp; try (with_reducible rfl)
        (try simp only [Act.put, List.setIfInBounds_toArray, List.set_cons_zero, List.set_cons_succ])
        refine wpAnyH_done (by kernel_rfl) ?_ _
        clear hHeld bd
        go_wp2
        go_roundw
        case rel => exact ⟨k + 1, by omega, by go_num, HD.out, CD.out⟩
        case measure => simp [intOf]; omega
    · obtain rfl : k = ql := by omega
      by_cases hin : 0 ≤ lev ∧ lev < 4 ∧ 0 ≤ slot ∧ slot < 64
      · obtain ⟨i1, i2, i3, i4⟩ := hin
        obtain ⟨lv, rfl⟩ := Int.eq_ofNat_of_zero_le i1
        obtain ⟨sl, rfl⟩ := Int.eq_ofNat_of_zero_le i3
        have j1 : ¬ (lv : Int) < 0 := by omega
        have j2 : ¬ (3 : Int) < (lv : Int) := by omega
        have j3 : ¬ (sl : Int) < 0 := by omega
        have j4 : ¬ (63 : Int) < (sl : Int) := by omega
        go_wp2_with fail
        refine (HU.out.atw (lv := lv) (sl := sl) (by omega) (by omega) (by omega)).mono ?_
        rintro e w6 ⟨a6, cap6, rfl, r6, c6⟩
        have H6 := Lib.hid (HU.out.quiet c6)
        have C6 := Lib.hid (CU.out.trans c6)
        have R6 := Lib.hid r6
        clear c6 r6 HU CU
        go_wp2_with fail
        have RA := H6.out.refAt (p := 64 * lv + sl) (by omega) (by omega)
        rw [show (64 * lv + sl) / 64 = lv by omega, show (64 * lv + sl) % 64 = sl by omega] at RA
        refine RA.mono ?_
        clear RA
        rintro e w7 ⟨a7, cap7, rfl, r7, c7⟩
        have C7 := Lib.hid (C6.out.trans c7)
        have R7 := Lib.hid r7
        have R6' := Lib.hid (R6.out.kept c7 (fun _ _ e => e))
        clear c7 r7 H6 C6 R6
        go_wp2_with fail
        refine (ints_same R6'.out R7.out (Nat.le_trans rowsOf_len (by omega))).mono ?_
        rintro e w8 ⟨rfl, c8⟩
        have C8 := Lib.hid (C7.out.trans c8)
        clear c8 C7 R6' R7
        go_wp2
        go_ret
        exact ⟨rfl, C8.out⟩
      · have AT := HU.out.d.at_any lev slot (by omega)
        rw [show atQ Q now lev slot = [] by unfold atQ; rw [if_neg hin]] at AT
        have AT := Lib.hid AT
        by_cases k1 : lev < 0
        · go_wp2_with fail
          refine AT.out.mono ?_
          rintro e w6 ⟨a6, cap6, rfl, -, -, c6⟩
          have C6 := Lib.hid (CU.out.trans c6)
          clear c6
          go_wp2
          go_ret
          exact ⟨by first | rfl | simp, C6.out⟩
        · have k1' : 0 ≤ lev := by omega
          by_cases k2 : 3 < lev
          · go_wp2_with fail
            refine AT.out.mono ?_
            rintro e w6 ⟨a6, cap6, rfl, -, -, c6⟩
            have C6 := Lib.hid (CU.out.trans c6)
            clear c6
            go_wp2
            go_ret
            exact ⟨by first | rfl | simp, C6.out⟩
          · have k2' : lev ≤ 3 := by omega
            by_cases k3 : slot < 0
            · go_wp2_with fail
              refine AT.out.mono ?_
              rintro e w6 ⟨a6, cap6, rfl, -, -, c6⟩
              have C6 := Lib.hid (CU.out.trans c6)
              clear c6
              go_wp2
              go_ret
              exact ⟨by first | rfl | simp, C6.out⟩
            · have k3' : 0 ≤ slot := by omega
              have k4 : 63 < slot := by omega
              go_wp2_with fail
              refine AT.out.mono ?_
              rintro e w6 ⟨a6, cap6, rfl, -, -, c6⟩
              have C6 := Lib.hid (CU.out.trans c6)
              clear c6
              go_wp2
              go_ret
              exact ⟨by first | rfl | simp, C6.out⟩
end
end Go.Proofs.YtkfknafgknppdaaDoor

namespace Go.Proofs.YtkfknafgknppdaaDoor
open Go.RowKit Verge LP
attribute [local go_sem] Oper.semAt_some
set_option linter.unusedVariables false
set_option linter.unusedSimpArgs false
section
variable {w0 w w' : World} {g : Wh} {now : Nat} {Q P : List Ent} {rb : Nat} {l : List Dn} {ar : Option Addr} {cr : Nat}
set_option maxHeartbeats 4000000 in
set_option maxRecDepth 100000 in
theorem same_empty (h : Duo8 w0 w g now Q P rb l ar cr) (T : Tab w0) (hn : Q.length ≤ 60) (lev slot : Int) (he0 : Q = []) :
    Calls Tryd.prog 14 #[.pointer (some ⟨g.wb, 0, none⟩), .pointer (some ⟨rb, 0, none⟩), .int .i64 lev, .int .i64 slot] w fun e w' => e = .returned (.bool true) ∧ Ch Nil w w' := by
  have H0 := Lib.hid h
  have TB := Lib.hid T
  have HE0 := Lib.hid he0
  clear he0
  obtain ⟨ql, hql⟩ : ∃ ql, ql = Q.length := ⟨_, rfl⟩
  have QL : Hid (l.length = ql) := Lib.hid (by rw [hql]; exact h.q.len)
  have QL2 : Hid (Q.length = ql) := Lib.hid hql.symm
  have TW := Lib.hid (T.keeps h.d.c (fun e => e))
  clear h T hql
  go_enter Tryd.func14, Tryd.ntmps14
  go_wp2_with fail
  refine (next_of H0.out.d.q TW.out (by omega)).mono ?_
  rintro e w4 ⟨hE, c4⟩
  obtain rfl : e = .returned (.tuple #[.int .u64 0, .int .i64 6]) := by
    rcases hE with ⟨-, h⟩ | ⟨m, ⟨⟨x, hx, -⟩, -⟩, -⟩
    · exact h
    · rw [HE0.out] at hx; cases hx
  have H4 := Lib.hid (H0.out.quiet c4)
  have C4 := Lib.hid c4
  clear hE c4
  go_wp2_with fail
  refine (refNext_of H4.out.r (by rw [QL.out]; have := QL2.out; omega)).mono ?_
  rintro e w5 ⟨hE, rfl⟩
  obtain rfl : e = .returned (.tuple #[.int .u64 0, .bool false]) := by
    rcases hE with ⟨-, h⟩ | ⟨m', ⟨⟨x, hx, -⟩, -⟩, -⟩
    · exact h
    · exfalso
      obtain ⟨y, hy, -⟩ := H4.out.q.mem hx
      rw [HE0.out] at hy; cases hy
  clear hE
  have HU : Hid (Duo8 w0 w4 g now Q P rb l ar cr) := H4
  have C5 : Hid (Ch Nil w w4) := C4
  clear H4 C4
  go_upto_region 3 with (fail)
  have HD := Lib.hid (HU.out.quiet (Ch.refl _ _).drew)
  have CD : Hid (Ch Nil w w4.drew) := Lib.hid C5.out.drew
  clear HU C5
  refine wp_region_held_drew (S := fun w' => w'.cell? ⟨rb, 0, none⟩ = some (.int .u64 (now : Nat)) ∧ w'.cell? ⟨rb, 1, none⟩ = some (.slice ar ql cr)) (by kernel_rfl) ⟨HD.out.r.t, by have := HD.out.r.s; rw [QL.out] at this; exact this⟩ (fun hHeld => ?_)
  generalize w4.drew = X at hHeld HD CD ⊢
  refine take_at (v := ?_) 0 (some 25) rfl (by kernel_rfl) (by kernel_rfl) (by kernel_rfl) (by kernel_rfl) (fun _ _ _ h => h) (Or.inl ⟨by rfl, ?_⟩) (by assumption) ?_
  rotate_left
  · intro w hSw; (try dsimp only at hSw); go_simp; try (with_reducible rfl)
  (try simp only [Act.put, List.setIfInBounds_toArray, List.set_cons_zero, List.set_cons_succ])
  refine take_at (v := ?_) 2 (some 27) rfl (by kernel_rfl) (by kernel_rfl) (by kernel_rfl) (by kernel_rfl) (fun _ _ _ h => h) (Or.inl ⟨by rfl, ?_⟩) (by assumption) ?_
  rotate_left
  · intro w hSw; (try dsimp only at hSw); go_simp; try (with_reducible rfl)
  (try simp only [Act.put, List.setIfInBounds_toArray, List.set_cons_zero, List.set_cons_succ])
  refine take_at (v := ?_) 3 (some 28) rfl (by kernel_rfl) (by kernel_rfl) (by kernel_rfl) (by kernel_rfl) (fun _ _ _ h => h) (Or.inl ⟨by rfl, ?_⟩) (by assumption) ?_
  rotate_left
  · intro w hSw; (try dsimp only at hSw); go_simp; try (with_reducible rfl)
  (try simp only [Act.put, List.setIfInBounds_toArray, List.set_cons_zero, List.set_cons_succ])
  refine take_at (v := ?_) 4 (some 29) rfl (by kernel_rfl) (by kernel_rfl) (by kernel_rfl) (by kernel_rfl) (fun _ _ _ h => h) (Or.inl ⟨by rfl, ?_⟩) (by assumption) ?_
  rotate_left
  · intro w hSw; (try dsimp only at hSw); go_simp; try (with_reducible rfl)
  (try simp only [Act.put, List.setIfInBounds_toArray, List.set_cons_zero, List.set_cons_succ])
  refine take_at (v := ?_) 5 (some 30) rfl (by kernel_rfl) (by kernel_rfl) (by kernel_rfl) (by kernel_rfl) (fun _ _ _ h => h) (Or.inl ⟨by rfl, ?_⟩) (by assumption) ?_
  rotate_left
  · intro w hSw; (try dsimp only at hSw); go_simp; try (with_reducible rfl)
  (try simp only [Act.put, List.setIfInBounds_toArray, List.set_cons_zero, List.set_cons_succ])
  refine wpAnyH_ready (rs := [1]) (by kernel_rfl) (by simp) ?_
  refine AllReadyH.cons rfl (fun K hK => ?_) AllReadyH.nil
  go_simp
  refine HD.out.d.time.mono ?_
  rintro e w6 ⟨rfl, rfl⟩
  refine hK.out _ _ hHeld (fun hHeld => ?_)
  clear hK K
  (try simp only [Act.put, List.setIfInBounds_toArray, List.set_cons_zero, List.set_cons_succ])
  refine take_at (v := ?_) 6 (some 31) rfl (by kernel_rfl) (by kernel_rfl) (by kernel_rfl) (by kernel_rfl) (fun _ _ _ h => h) (Or.inl ⟨by rfl, ?_⟩) (by assumption) ?_
  rotate_left
  · intro w hSw; (try dsimp only at hSw); go_simp; try (with_reducible rfl)
  (try simp only [Act.put, List.setIfInBounds_toArray, List.set_cons_zero, List.set_cons_succ])
  refine take_at (v := ?_) 7 (some 32) rfl (by kernel_rfl) (by kernel_rfl) (by kernel_rfl) (by kernel_rfl) (fun _ _ _ h => h) (Or.inl ⟨by rfl, ?_⟩) (by assumption) ?_
  rotate_left
  · intro w hSw; (try dsimp only at hSw); go_simp; try (with_reducible rfl)
  (try simp only [Act.put, List.setIfInBounds_toArray, List.set_cons_zero, List.set_cons_succ])
  refine take_at (v := ?_) 8 (some 33) rfl (by kernel_rfl) (by kernel_rfl) (by kernel_rfl) (by kernel_rfl) (fun _ _ _ h => h) (Or.inl ⟨by rfl, ?_⟩) (by assumption) ?_
  rotate_left
  · intro w hSw; (try dsimp only at hSw); go_simp; try (with_reducible rfl)
  (try simp only [Act.put, List.setIfInBounds_toArray, List.set_cons_zero, List.set_cons_succ])
  refine take_at (v := ?_) 10 (some 35) rfl (by kernel_rfl) (by kernel_rfl) (by kernel_rfl) (by kernel_rfl) (fun _ _ _ h => h) (Or.inl ⟨by rfl, ?_⟩) (by assumption) ?_
  rotate_left
  · intro w hSw; (try dsimp only at hSw); go_simp; try (with_reducible rfl)
  (try simp only [Act.put, List.setIfInBounds_toArray, List.set_cons_zero, List.set_cons_succ])
  refine take_at (v := ?_) 11 (some 36) rfl (by kernel_rfl) (by kernel_rfl) (by kernel_rfl) (by kernel_rfl) (fun _ _ _ h => h) (Or.inl ⟨by rfl, ?_⟩) (by assumption) ?_
  rotate_left
  · intro w hSw; (try dsimp only at hSw); go_simp; try (with_reducible rfl)
  (try simp only [Act.put, List.setIfInBounds_toArray, List.set_cons_zero, List.set_cons_succ])
  refine take_at (v := ?_) 12 (some 37) rfl (by kernel_rfl) (by kernel_rfl) (by kernel_rfl) (by kernel_rfl) (fun _ _ _ h => h) (Or.inl ⟨by rfl, ?_⟩) (by assumption) ?_
  rotate_left
  · intro w hSw; (try dsimp only at hSw); go_simp; try (with_reducible rfl)
  (try simp only [Act.put, List.setIfInBounds_toArray, List.set_cons_zero, List.set_cons_succ])
  refine take_at (v := ?_) 13 (some 38) rfl (by kernel_rfl) (by kernel_rfl) (by kernel_rfl) (by kernel_rfl) (fun _ _ _ h => h) (Or.inl ⟨by rfl, ?_⟩) (by assumption) ?_
  rotate_left
  · intro w hSw; (try dsimp only at hSw); go_simp; try (with_reducible rfl)
  (try simp only [Act.put, List.setIfInBounds_toArray, List.set_cons_zero, List.set_cons_succ])
  refine take_at (v := ?_) 14 (some 39) rfl (by kernel_rfl) (by kernel_rfl) (by kernel_rfl) (by kernel_rfl) (fun _ _ _ h => h) (Or.inl ⟨by rfl, ?_⟩) (by assumption) ?_
  rotate_left
  · intro w hSw; (try dsimp only at hSw); go_simp; try (with_reducible rfl)
  (try simp only [Act.put, List.setIfInBounds_toArray, List.set_cons_zero, List.set_cons_succ])
  refine wpAnyH_ready (rs := [9]) (by kernel_rfl) (by simp) ?_
  refine AllReadyH.cons rfl (fun K hK => ?_) AllReadyH.nil
  go_simp
  refine (HD.out.d.len TB.out (by omega)).mono ?_
  rintro e w6 ⟨rfl, c6⟩
  rw [QL2.out]
  have H6 := Lib.hid (HD.out.quiet c6)
  have C6 := Lib.hid (CD.out.trans c6)
  have s6 : w6.cell? ⟨rb, 0, none⟩ = some (.int .u64 (now : Nat)) ∧ w6.cell? ⟨rb, 1, none⟩ = some (.slice ar ql cr) := ⟨c6.keeps hHeld.1 (fun e => e), c6.keeps hHeld.2 (fun e => e)⟩
  clear c6 HD CD
  refine hK.out _ _ s6 (fun hHeld => ?_)
  clear hK K s6
  (try simp only [Act.put, List.setIfInBounds_toArray, List.set_cons_zero, List.set_cons_succ])
  refine take_at (v := ?_) 15 (some 40) rfl (by kernel_rfl) (by kernel_rfl) (by kernel_rfl) (by kernel_rfl) (fun _ _ _ h => h) (Or.inl ⟨by rfl, ?_⟩) (by assumption) ?_
  rotate_left
  · intro w hSw; (try dsimp only at hSw); go_simp; try (with_reducible rfl)
  (try simp only [Act.put, List.setIfInBounds_toArray, List.set_cons_zero, List.set_cons_succ])
  refine take_at (v := ?_) 16 (some 41) rfl (by kernel_rfl) (by kernel_rfl) (by kernel_rfl) (by kernel_rfl) (fun _ _ _ h => h) (Or.inl ⟨by rfl, ?_⟩) (by assumption) ?_
  rotate_left
  · intro w hSw; (try dsimp only at hSw); go_simp; try (with_reducible rfl)
  (try simp only [Act.put, List.setIfInBounds_toArray, List.set_cons_zero, List.set_cons_succ])
  refine take_at (v := ?_) 17 (some 42) rfl (by kernel_rfl) (by kernel_rfl) (by kernel_rfl) (by kernel_rfl) (fun _ _ _ h => h) (Or.inl ⟨by rfl, ?_⟩) (by assumption) ?_
  rotate_left
  · intro w hSw; (try dsimp only at hSw); go_simp; try (with_reducible rfl)
  (try simp only [Act.put, List.setIfInBounds_toArray, List.set_cons_zero, List.set_cons_succ])
  refine take_at (v := ?_) 18 (some 43) rfl (by kernel_rfl) (by kernel_rfl) (by kernel_rfl) (by kernel_rfl) (fun _ _ _ h => h) (Or.inl ⟨by rfl, ?_⟩) (by assumption) ?_
  rotate_left
  · intro w hSw; (try dsimp only at hSw); go_simp; try (with_reducible rfl)
  (try simp only [Act.put, List.setIfInBounds_toArray, List.set_cons_zero, List.set_cons_succ])
  refine take_at (v := ?_) 19 (some 44) rfl (by kernel_rfl) (by kernel_rfl) (by kernel_rfl) (by kernel_rfl) (fun _ _ _ h => h) (Or.inl ⟨by rfl, ?_⟩) (by assumption) ?_
  rotate_left
  · intro w hSw; (try dsimp only at hSw); go_simp; try (with_reducible rfl)
  (try simp only [Act.put, List.setIfInBounds_toArray, List.set_cons_zero, List.set_cons_succ])
  refine take_at (v := ?_) 20 (some 45) rfl (by kernel_rfl) (by kernel_rfl) (by kernel_rfl) (by kernel_rfl) (fun _ _ _ h => h) (Or.inl ⟨by rfl, ?_⟩) (by assumption) ?_
  rotate_left
  · intro w hSw; (try dsimp only at hSw); go_simp; try (with_reducible rfl)
  (try simp only [Act.put, List.setIfInBounds_toArray, List.set_cons_zero, List.set_cons_succ])
  refine take_at (v := ?_) 21 (some 46) rfl (by kernel_rfl) (by kernel_rfl) (by kernel_rfl) (by kernel_rfl) (fun _ _ _ h => h) (Or.inl ⟨by rfl, ?_⟩) (by assumption) ?_
  rotate_left
  · intro w hSw; (try dsimp only at hSw); go_simp; try (with_reducible rfl)
  (try simp only [Act.put, List.setIfInBounds_toArray, List.set_cons_zero, List.set_cons_succ])
  refine take_at (v := ?_) 22 (some 47) rfl (by kernel_rfl) (by kernel_rfl) (by kernel_rfl) (by kernel_rfl) (fun _ _ _ h => h) (Or.inl ⟨by rfl, ?_⟩) (by assumption) ?_
  rotate_left
  · intro w hSw; (try dsimp only at hSw); go_simp; try (with_reducible rfl)
  (try simp only [Act.put, List.setIfInBounds_toArray, List.set_cons_zero, List.set_cons_succ])
  refine take_at (v := ?_) 23 (some 48) rfl (by kernel_rfl) (by kernel_rfl) (by kernel_rfl) (by kernel_rfl) (fun _ _ _ h => h) (Or.inl ⟨by rfl, ?_⟩) (by assumption) ?_
  rotate_left
  · intro w hSw; (try dsimp only at hSw); go_simp; try (with_reducible rfl)
  (try simp only [Act.put, List.setIfInBounds_toArray, List.set_cons_zero, List.set_cons_succ])
  refine take_at (v := ?_) 24 (some 49) rfl (by kernel_rfl) (by kernel_rfl) (by kernel_rfl) (by kernel_rfl) (fun _ _ _ h => h) (Or.inl ⟨by rfl, ?_⟩) (by assumption) ?_
  rotate_left
  · intro w hSw; (try dsimp only at hSw); go_simp; try (with_reducible rfl)
  (try simp only [Act.put, List.setIfInBounds_toArray, List.set_cons_zero, List.set_cons_succ])
  refine take_at (v := ?_) 25 (some 50) rfl (by kernel_rfl) (by kernel_rfl) (by kernel_rfl) (by kernel_rfl) (fun _ _ _ h => h) (Or.inl ⟨by rfl, ?_⟩) (by assumption) ?_
  rotate_left
  · intro w hSw; (try dsimp only at hSw); go_simp; try (with_reducible rfl)
  (try simp only [Act.put, List.setIfInBounds_toArray, List.set_cons_zero, List.set_cons_succ])
  refine take_at (v := ?_) 26 (some 51) rfl (by kernel_rfl) (by kernel_rfl) (by kernel_rfl) (by kernel_rfl) (fun _ _ _ h => h) (Or.inl ⟨by rfl, ?_⟩) (by assumption) ?_
  rotate_left
  · intro w hSw; (try dsimp only at hSw); go_simp; try (with_reducible rfl)
  (try simp only [Act.put, List.setIfInBounds_toArray, List.set_cons_zero, List.set_cons_succ])
  refine take_at (v := ?_) 27 (some 52) rfl (by kernel_rfl) (by kernel_rfl) (by kernel_rfl) (by kernel_rfl) (fun _ _ _ h => h) (Or.inl ⟨by rfl, ?_⟩) (by assumption) ?_
  rotate_left
  · intro w hSw; (try dsimp only at hSw); go_simp; try (with_reducible rfl)
  (try simp only [Act.put, List.setIfInBounds_toArray, List.set_cons_zero, List.set_cons_succ])
  refine take_at (v := ?_) 28 (some 53) rfl (by kernel_rfl) (by kernel_rfl) (by kernel_rfl) (by kernel_rfl) (fun _ _ _ h => h) (Or.inl ⟨by rfl, ?_⟩) (by assumption) ?_
  rotate_left
  · intro w hSw; (try dsimp only at hSw); go_simp; try (with_reducible rfl)
  (try simp only [Act.put, List.setIfInBounds_toArray, List.set_cons_zero, List.set_cons_succ])
  refine take_at (v := ?_) 29 (some 54) rfl (by kernel_rfl) (by kernel_rfl) (by kernel_rfl) (by kernel_rfl) (fun _ _ _ h => h) (Or.inl ⟨by rfl, ?_⟩) (by assumption) ?_
  rotate_left
  · intro w hSw; (try dsimp only at hSw); go_simp; try (with_reducible rfl)
  (try simp only [Act.put, List.setIfInBounds_toArray, List.set_cons_zero, List.set_cons_succ])
  refine take_at (v := ?_) 30 (some 55) rfl (by kernel_rfl) (by kernel_rfl) (by kernel_rfl) (by kernel_rfl) (fun _ _ _ h => h) (Or.inl ⟨by rfl, ?_⟩) (by assumption) ?_
  rotate_left
  · intro w hSw; (try dsimp only at hSw); go_simp; try (with_reducible rfl)
  (try simp only [Act.put, List.setIfInBounds_toArray, List.set_cons_zero, List.set_cons_succ])
  refine take_at (v := ?_) 31 (some 56) rfl (by kernel_rfl) (by kernel_rfl) (by kernel_rfl) (by kernel_rfl) (fun _ _ _ h => h) (Or.inl ⟨by rfl, ?_⟩) (by assumption) ?_
  rotate_left
  · intro w hSw; (try dsimp only at hSw); go_simp; try (with_reducible rfl)
  (try simp only [Act.put, List.setIfInBounds_toArray, List.set_cons_zero, List.set_cons_succ])
  refine take_at (v := ?_) 32 (some 57) rfl (by kernel_rfl) (by kernel_rfl) (by kernel_rfl) (by kernel_rfl) (fun _ _ _ h => h) (Or.inl ⟨by rfl, ?_⟩) (by assumption) ?_
  rotate_left
  · intro w hSw; (try dsimp only at hSw); go_simp; try (with_reducible rfl)
  (try simp only [Act.put, List.setIfInBounds_toArray, List.set_cons_zero, List.set_cons_succ])
  refine take_at (v := ?_) 33 (some 58) rfl (by kernel_rfl) (by kernel_rfl) (by kernel_rfl) (by kernel_rfl) (fun _ _ _ h => h) (Or.inl ⟨by rfl, ?_⟩) (by assumption) ?_
  rotate_left
  · intro w hSw; (try dsimp only at hSw); go_simp; try (with_reducible rfl)
  (try simp only [Act.put, List.setIfInBounds_toArray, List.set_cons_zero, List.set_cons_succ])
  refine take_at (v := ?_) 34 (some 59) rfl (by kernel_rfl) (by kernel_rfl) (by kernel_rfl) (by kernel_rfl) (fun _ _ _ h => h) (Or.inl ⟨by rfl, ?_⟩) (by assumption) ?_
  rotate_left
  · intro w hSw; (try dsimp only at hSw); go_simp; try (with_reducible rfl)
  (try simp only [Act.put, List.setIfInBounds_toArray, List.set_cons_zero, List.set_cons_succ])
  refine take_at (v := ?_) 35 (some 60) rfl (by kernel_rfl) (by kernel_rfl) (by kernel_rfl) (by kernel_rfl) (fun _ _ _ h => h) (Or.inl ⟨by rfl, ?_⟩) (by assumption) ?_
  rotate_left
  · intro w hSw; (try dsimp only at hSw); go_simp; try (with_reducible rfl)
  (try simp only [Act.put, List.setIfInBounds_toArray, List.set_cons_zero, List.set_cons_succ])
  refine take_at (v := ?_) 36 (some 61) rfl (by kernel_rfl) (by kernel_rfl) (by kernel_rfl) (by kernel_rfl) (fun _ _ _ h => h) (Or.inl ⟨by rfl, ?_⟩) (by assumption) ?_
  rotate_left
  · intro w hSw; (try dsimp only at hSw); go_simp; try (with_reducible rfl)
  (try simp only [Act.put, List.setIfInBounds_toArray, List.set_cons_zero, List.set_cons_succ])
  refine take_at (v := ?_) 37 (some 62) rfl (by kernel_rfl) (by kernel_rfl) (by kernel_rfl) (by kernel_rfl) (fun _ _ _ h => h) (Or.inl ⟨by rfl, ?_⟩) (by assumption) ?_
  rotate_left
  · intro w hSw; (try dsimp only at hSw); go_simp; try (with_reducible rfl)
  (try simp only [Act.put, List.setIfInBounds_toArray, List.set_cons_zero, List.set_cons_succ])
  refine take_at (v := ?_) 39 (some 64) rfl (by kernel_rfl) (by kernel_rfl) (by kernel_rfl) (by kernel_rfl) (fun _ _ _ h => h) (Or.inl ⟨by rfl, ?_⟩) (by assumption) ?_
  rotate_left
  · intro w hSw; (try dsimp only at hSw); go_simp; try (with_reducible rfl)
  (try simp only [Act.put, List.setIfInBounds_toArray, List.set_cons_zero, List.set_cons_succ])
  refine wpAnyH_ready (rs := [38]) (by kernel_rfl) (by simp) ?_
  refine AllReadyH.cons rfl (fun K hK => ?_) AllReadyH.nil
  go_simp
  refine (H6.out.d.beyond (by omega)).mono ?_
  rintro e w7 ⟨a7, cap7, rfl, r7, -, c7⟩
  have H7 := Lib.hid (H6.out.quiet c7)
  have C7 := Lib.hid (C6.out.trans c7)
  have R7 := Lib.hid (RowU.ints r7)
  have s7 : w7.cell? ⟨rb, 0, none⟩ = some (.int .u64 (now : Nat)) ∧ w7.cell? ⟨rb, 1, none⟩ = some (.slice ar ql cr) := ⟨c7.keeps hHeld.1 (fun e => e), c7.keeps hHeld.2 (fun e => e)⟩
  clear c7 r7 H6 C6
  refine hK.out _ _ s7 (fun hHeld => ?_)
  clear hK K s7
  (try simp only [Act.put, List.setIfInBounds_toArray, List.set_cons_zero, List.set_cons_succ])
  refine wpAnyH_ready (rs := [40]) (by kernel_rfl) (by simp) ?_
  refine AllReadyH.cons rfl (fun K hK => ?_) AllReadyH.nil
  go_simp
  refine (H7.out.refAt (p := 256) (by omega) (by omega)).mono ?_
  rintro e w8 ⟨a8, cap8, rfl, r8, c8⟩
  have H8 := Lib.hid (H7.out.quiet c8)
  have C8 := Lib.hid (C7.out.trans c8)
  have R8 := Lib.hid r8
  have R7' := Lib.hid (R7.out.kept c8 (fun _ _ e => e))
  have s8 : w8.cell? ⟨rb, 0, none⟩ = some (.int .u64 (now : Nat)) ∧ w8.cell? ⟨rb, 1, none⟩ = some (.slice ar ql cr) := ⟨c8.keeps hHeld.1 (fun e => e), c8.keeps hHeld.2 (fun e => e)⟩
  clear c8 r8 H7 C7 R7
  refine hK.out _ _ s8 (fun hHeld => ?_)
  clear hK K s8
  (try simp only [Act.put, List.setIfInBounds_toArray, List.set_cons_zero, List.set_cons_succ])
  refine wpAnyH_ready (rs := [41]) (by kernel_rfl) (by simp) ?_
  refine AllReadyH.cons rfl (fun K hK => ?_) AllReadyH.nil
  go_simp
  refine (ints_same R7'.out R8.out (Nat.le_trans rowsOf_len (by omega))).mono ?_
  rintro e w9 ⟨rfl, c9⟩
  have H9 := Lib.hid (H8.out.quiet c9)
  have C9 := Lib.hid (C8.out.trans c9)
  have s9 : w9.cell? ⟨rb, 0, none⟩ = some (.int .u64 (now : Nat)) ∧ w9.cell? ⟨rb, 1, none⟩ = some (.slice ar ql cr) := ⟨c9.keeps hHeld.1 (fun e => e), c9.keeps hHeld.2 (fun e => e)⟩
  clear c9 H8 C8 R7' R8
  refine hK.out _ _ s9 (fun hHeld => ?_)
  clear hK K s9
  (try simp only [Act.put, List.setIfInBounds_toArray, List.set_cons_zero, List.set_cons_succ])
  refine take_at (v := ?_) 42 (some 67) rfl (by kernel_rfl) (by kernel_rfl) (by kernel_rfl) (by kernel_rfl) (fun _ _ _ h => h) (Or.inl ⟨by rfl, ?_⟩) (by assumption) ?_
  rotate_left
  · intro w hSw; (try dsimp only at hSw); go_simp; try (with_reducible rfl)
  (try simp only [Act.put, List.setIfInBounds_toArray, List.set_cons_zero, List.set_cons_succ])
  refine take_at (v := ?_) 43 (some 68) rfl (by kernel_rfl) (by kernel_rfl) (by kernel_rfl) (by kernel_rfl) (fun _ _ _ h => h) (Or.inl ⟨by rfl, ?_⟩) (by assumption) ?_
  rotate_left
  · intro w hSw; (try dsimp only at hSw); go_simp; try (with_reducible rfl)
  (try simp only [Act.put, List.setIfInBounds_toArray, List.set_cons_zero, List.set_cons_succ])
  refine wpAnyH_done (by kernel_rfl) ?_ _
  clear hHeld

  go_wp2
  go_loopw [13] (fun i wr => ∃ k : Nat, k ≤ ql ∧ i = .int .i64 k ∧ Duo8 w0 wr g now Q P rb l ar cr ∧ Ch Nil w wr) (fun i _ => ql - (intOf i).toNat)
  case atStart => exact ⟨0, by omega, rfl, H9.out, C9.out⟩
  case round =>
    obtain ⟨k, hk, rfl, hu, cu⟩ := hrel
    have HU := Lib.hid hu
    have CU := Lib.hid cu
    have s1 := hu.r.s
    rw [QL.out] at s1
    have qn := QL2.out
    clear hu cu
    by_cases hlt : k < ql
    · obtain ⟨x, hx⟩ : ∃ x, l[k]? = some x := ⟨_, List.getElem?_eq_getElem (by rw [QL.out]; exact hlt)⟩
      have hr := HU.out.r.r
      rw [QL.out] at hr
      obtain ⟨ga, rfl, -⟩ := hr.form (by omega)
      obtain ⟨q0, q1, q2, q3⟩ := RowD.cells hr hlt hx
      have lc := hr.len_cap
      have hxp := HU.out.q.p x (List.mem_of_getElem? hx)
      obtain ⟨xu, hxu⟩ : ∃ xu, xu = x.u := ⟨_, rfl⟩
      obtain ⟨xd, hxd⟩ : ∃ xd, xd = x.d := ⟨_, rfl⟩
      obtain ⟨xl, hxl⟩ : ∃ xl, xl = x.p / 64 := ⟨_, rfl⟩
      obtain ⟨xs, hxs⟩ : ∃ xs, xs = x.p % 64 := ⟨_, rfl⟩
      rw [← hxu] at q0
      rw [← hxd] at q1
      rw [← hxl] at q2
      rw [← hxs] at q3
      have hxs64 : xs < 64 := by omega
      have hkz : (k : Int) < (ql : Int) := by omega
      have hkz0 : (0 : Int) ≤ (k : Int) := by omega
      obtain ⟨bb, hbb⟩ : ∃ bb, bb = wr.heap.size := ⟨_, rfl⟩
      obtain ⟨wb, hwb⟩ : ∃ wb, wb = wr.alloc (.cells #[.int .i64 xu, .int .u64 (xd : Nat), .int .i64 ((xl : Nat) : Int), .int .i64 ((xs : Nat) : Int)] 49) := ⟨_, rfl⟩
      have cb : Ch Nil wr wb := hwb ▸ (Ch.refl _ _).alloc _
      have BX : Hid (wb.cell? ⟨bb, 2, none⟩ = some (.int .i64 ((xl : Nat) : Int)) ∧ wb.cell? ⟨bb, 3, none⟩ = some (.int .i64 ((xs : Nat) : Int))) := Lib.hid (by rw [hwb, hbb]; refine ⟨?_, ?_⟩ <;> (rw [cell_fresh]; rfl))
      have HB := Lib.hid (HU.out.quiet cb)
      have CB := Lib.hid (CU.out.trans cb)
      have HWB := Lib.hid hwb
      have HBB := Lib.hid hbb
      clear cb hwb hbb hx hr hxu hxd hxl hxs HU CU
      by_cases h4 : xl < 4
      · have h4z : (xl : Int) < 4 := by omega
        go_upto_region 9 with (fail)
        rw [← HWB.out, ← HBB.out]
        clear HWB HBB q0 q1 q2 q3 s1
        have HD := Lib.hid (HB.out.quiet (Ch.refl _ _).drew)
        have CD : Hid (Ch Nil w wb.drew) := Lib.hid CB.out.drew
        have bd : wb.drew.cell? ⟨bb, 2, none⟩ = some (.int .i64 ((xl : Nat) : Int)) ∧ wb.drew.cell? ⟨bb, 3, none⟩ = some (.int .i64 ((xs : Nat) : Int)) := BX.out
        refine wp_region_held_drew (S := fun w' => w'.cell? ⟨bb, 2, none⟩ = some (.int .i64 ((xl : Nat) : Int)) ∧ w'.cell? ⟨bb, 3, none⟩ = some (.int .i64 ((xs : Nat) : Int))) (by kernel_rfl) bd (fun hHeld => ?_)
        clear HB CB BX
        generalize wb.drew = X at hHeld HD CD bd ⊢
        refine take_at (v := ?_) 0 (some 85) rfl (by kernel_rfl) (by kernel_rfl) (by kernel_rfl) (by kernel_rfl) (fun _ _ _ h => h) (Or.inl ⟨by rfl, ?_⟩) (by assumption) ?_
        rotate_left
        · intro w hSw; (try dsimp only at hSw); go_simp; try (with_reducible rfl)
        (try simp only [Act.put, List.setIfInBounds_toArray, List.set_cons_zero, List.set_cons_succ])
        refine take_at (v := ?_) 1 (some 86) rfl (by kernel_rfl) (by kernel_rfl) (by kernel_rfl) (by kernel_rfl) (fun _ _ _ h => h) (Or.inl ⟨by rfl, ?_⟩) (by assumption) ?_
        rotate_left
        · intro w hSw; (try dsimp only at hSw); go_simp; try (with_reducible rfl)
        (try simp only [Act.put, List.setIfInBounds_toArray, List.set_cons_zero, List.set_cons_succ])
        refine take_at (v := ?_) 2 (some 87) rfl (by kernel_rfl) (by kernel_rfl) (by kernel_rfl) (by kernel_rfl) (fun _ _ _ h => h) (Or.inl ⟨by rfl, ?_⟩) (by assumption) ?_
        rotate_left
        · intro w hSw; (try dsimp only at hSw); go_simp; try (with_reducible rfl)
        (try simp only [Act.put, List.setIfInBounds_toArray, List.set_cons_zero, List.set_cons_succ])
        refine take_at (v := ?_) 3 (some 88) rfl (by kernel_rfl) (by kernel_rfl) (by kernel_rfl) (by kernel_rfl) (fun _ _ _ h => h) (Or.inl ⟨by rfl, ?_⟩) (by assumption) ?_
        rotate_left
        · intro w hSw; (try dsimp only at hSw); go_simp; try (with_reducible rfl)
        (try simp only [Act.put, List.setIfInBounds_toArray, List.set_cons_zero, List.set_cons_succ])
        refine take_at (v := ?_) 4 (some 89) rfl (by kernel_rfl) (by kernel_rfl) (by kernel_rfl) (by kernel_rfl) (fun _ _ _ h => h) (Or.inl ⟨by rfl, ?_⟩) (by assumption) ?_
        rotate_left
        · intro w hSw; (try dsimp only at hSw); go_simp; try (with_reducible rfl)
        (try simp only [Act.put, List.setIfInBounds_toArray, List.set_cons_zero, List.set_cons_succ])
        refine take_at (v := ?_) 5 (some 90) rfl (by kernel_rfl) (by kernel_rfl) (by kernel_rfl) (by kernel_rfl) (fun _ _ _ h => h) (Or.inl ⟨by rfl, ?_⟩) (by assumption) ?_
        rotate_left
        · intro w hSw; (try dsimp only at hSw); go_simp; try (with_reducible rfl)
        (try simp only [Act.put, List.setIfInBounds_toArray, List.set_cons_zero, List.set_cons_succ])
        refine take_at (v := ?_) 6 (some 91) rfl (by kernel_rfl) (by kernel_rfl) (by kernel_rfl) (by kernel_rfl) (fun _ _ _ h => h) (Or.inl ⟨by rfl, ?_⟩) (by assumption) ?_
        rotate_left
        · intro w hSw; (try dsimp only at hSw); go_simp; try (with_reducible rfl)
        (try simp only [Act.put, List.setIfInBounds_toArray, List.set_cons_zero, List.set_cons_succ])
        refine take_at (v := ?_) 7 (some 92) rfl (by kernel_rfl) (by kernel_rfl) (by kernel_rfl) (by kernel_rfl) (fun _ _ _ h => h) (Or.inl ⟨by rfl, ?_⟩) (by assumption) ?_
        rotate_left
        · intro w hSw; (try dsimp only at hSw); go_simp; try (with_reducible rfl)
        (try simp only [Act.put, List.setIfInBounds_toArray, List.set_cons_zero, List.set_cons_succ])
        refine take_at (v := ?_) 8 (some 93) rfl (by kernel_rfl) (by kernel_rfl) (by kernel_rfl) (by kernel_rfl) (fun _ _ _ h => h) (Or.inl ⟨by rfl, ?_⟩) (by assumption) ?_
        rotate_left
        · intro w hSw; (try dsimp only at hSw); go_simp; try (with_reducible rfl)
        (try simp only [Act.put, List.setIfInBounds_toArray, List.set_cons_zero, List.set_cons_succ])
        refine take_at (v := ?_) 10 (some 95) rfl (by kernel_rfl) (by kernel_rfl) (by kernel_rfl) (by kernel_rfl) (fun _ _ _ h => h) (Or.inl ⟨by rfl, ?_⟩) (by assumption) ?_
        rotate_left
        · intro w hSw; (try dsimp only at hSw); go_simp; try (with_reducible rfl)
        (try simp only [Act.put, List.setIfInBounds_toArray, List.set_cons_zero, List.set_cons_succ])
        refine take_at (v := ?_) 11 (some 96) rfl (by kernel_rfl) (by kernel_rfl) (by kernel_rfl) (by kernel_rfl) (fun _ _ _ h => h) (Or.inl ⟨by rfl, ?_⟩) (by assumption) ?_
        rotate_left
        · intro w hSw; (try dsimp only at hSw); go_simp; try (with_reducible rfl)
        (try simp only [Act.put, List.setIfInBounds_toArray, List.set_cons_zero, List.set_cons_succ])
        refine take_at (v := ?_) 12 (some 97) rfl (by kernel_rfl) (by kernel_rfl) (by kernel_rfl) (by kernel_rfl) (fun _ _ _ h => h) (Or.inl ⟨by rfl, ?_⟩) (by assumption) ?_
        rotate_left
        · intro w hSw; (try dsimp only at hSw); go_simp; try (with_reducible rfl)
        (try simp only [Act.put, List.setIfInBounds_toArray, List.set_cons_zero, List.set_cons_succ])
        refine take_at (v := ?_) 13 (some 98) rfl (by kernel_rfl) (by kernel_rfl) (by kernel_rfl) (by kernel_rfl) (fun _ _ _ h => h) (Or.inl ⟨by rfl, ?_⟩) (by assumption) ?_
        rotate_left
        · intro w hSw; (try dsimp only at hSw); go_simp; try (with_reducible rfl)
        (try simp only [Act.put, List.setIfInBounds_toArray, List.set_cons_zero, List.set_cons_succ])
        refine take_at (v := ?_) 14 (some 99) rfl (by kernel_rfl) (by kernel_rfl) (by kernel_rfl) (by kernel_rfl) (fun _ _ _ h => h) (Or.inl ⟨by rfl, ?_⟩) (by assumption) ?_
        rotate_left
        · intro w hSw; (try dsimp only at hSw); go_simp; try (with_reducible rfl)
        (try simp only [Act.put, List.setIfInBounds_toArray, List.set_cons_zero, List.set_cons_succ])
        refine wpAnyH_ready (rs := [9]) (by kernel_rfl) (by simp) ?_
        refine AllReadyH.cons rfl (fun K hK => ?_) AllReadyH.nil
        go_simp
        refine (HD.out.atw (lv := xl) (sl := xs) h4 hxs64 (by omega)).mono ?_
        rintro e w6 ⟨a6, cap6, rfl, r6, c6⟩
        have H6 := Lib.hid (HD.out.quiet c6)
        have C6 := Lib.hid (CD.out.trans c6)
        have R6 := Lib.hid r6
        have s6 : w6.cell? ⟨bb, 2, none⟩ = some (.int .i64 ((xl : Nat) : Int)) ∧ w6.cell? ⟨bb, 3, none⟩ = some (.int .i64 ((xs : Nat) : Int)) := ⟨c6.keeps bd.1 (fun e => e), c6.keeps bd.2 (fun e => e)⟩
        clear c6 r6 HD CD
        refine hK.out _ _ s6 (fun hHeld => ?_)
        clear hK K
        (try simp only [Act.put, List.setIfInBounds_toArray, List.set_cons_zero, List.set_cons_succ])
        refine wpAnyH_ready (rs := [15]) (by kernel_rfl) (by simp) ?_
        refine AllReadyH.cons rfl (fun K hK => ?_) AllReadyH.nil
        go_simp
        have RA := H6.out.refAt (p := 64 * xl + xs) (by omega) (by omega)
        rw [show (64 * xl + xs) / 64 = xl by omega, show (64 * xl + xs) % 64 = xs by omega] at RA
        refine RA.mono ?_
        clear RA
        rintro e w7 ⟨a7, cap7, rfl, r7, c7⟩
        have H7 := Lib.hid (H6.out.quiet c7)
        have C7 := Lib.hid (C6.out.trans c7)
        have R7 := Lib.hid r7
        have R6' := Lib.hid (R6.out.kept c7 (fun _ _ e => e))
        have s7 : w7.cell? ⟨bb, 2, none⟩ = some (.int .i64 ((xl : Nat) : Int)) ∧ w7.cell? ⟨bb, 3, none⟩ = some (.int .i64 ((xs : Nat) : Int)) := ⟨c7.keeps s6.1 (fun e => e), c7.keeps s6.2 (fun e => e)⟩
        clear c7 r7 H6 C6 R6
        refine hK.out _ _ s7 (fun hHeld => ?_)
        clear hK K
        (try simp only [Act.put, List.setIfInBounds_toArray, List.set_cons_zero, List.set_cons_succ])
        refine wpAnyH_ready (rs := [16]) (by kernel_rfl) (by simp) ?_
        refine AllReadyH.cons rfl (fun K hK => ?_) AllReadyH.nil
        go_simp
        refine (ints_same R6'.out R7.out (Nat.le_trans rowsOf_len (by omega))).mono ?_
        rintro e w8 ⟨rfl, c8⟩
        have H8 := Lib.hid (H7.out.quiet c8)
        have C8 := Lib.hid (C7.out.trans c8)
        have s8 : w8.cell? ⟨bb, 2, none⟩ = some (.int .i64 ((xl : Nat) : Int)) ∧ w8.cell? ⟨bb, 3, none⟩ = some (.int .i64 ((xs : Nat) : Int)) := ⟨c8.keeps s7.1 (fun e => e), c8.keeps s7.2 (fun e => e)⟩
        clear c8 H7 C7 R6' R7
        refine hK.out _ _ s8 (fun hHeld => ?_)
        clear hK K
        (try simp only [Act.put, List.setIfInBounds_toArray, List.set_cons_zero, List.set_cons_succ])
        refine take_at (v := ?_) 17 (some 102) rfl (by kernel_rfl) (by kernel_rfl) (by kernel_rfl) (by kernel_rfl) (fun _ _ _ h => h) (Or.inl ⟨by rfl, ?_⟩) (by assumption) ?_
        rotate_left
        · intro w hSw; (try dsimp only at hSw); go_simp; try (with_reducible rfl)
        (try simp only [Act.put, List.setIfInBounds_toArray, List.set_cons_zero, List.set_cons_succ])
        refine take_at (v := ?_) 18 (some 103) rfl (by kernel_rfl) (by kernel_rfl) (by kernel_rfl) (by kernel_rfl) (fun _ _ _ h => h) (Or.inl ⟨by rfl, ?_⟩) (by assumption) ?_
        rotate_left
        · intro w hSw; (try dsimp only at hSw); go_simp; try (with_reducible rfl)
        (try simp only [Act.put, List.setIfInBounds_toArray, List.set_cons_zero, List.set_cons_succ])
        refine wpAnyH_done (by kernel_rfl) ?_ _
        clear hHeld s6 s7 s8 bd
        go_wp2
        go_roundw
        case rel => exact ⟨k + 1, by omega, by go_num, H8.out, C8.out⟩
        case measure => simp [intOf]; omega
      · have h4z : ¬ (xl : Int) < 4 := by omega
        have h4d : decide ((xl : Int) < 4) = false := decide_eq_false h4z
        go_upto_region 9 with (fail)
        rw [← HWB.out, ← HBB.out]
        clear HWB HBB q0 q1 q2 q3 s1
        have HD := Lib.hid (HB.out.quiet (Ch.refl _ _).drew)
        have CD : Hid (Ch Nil w wb.drew) := Lib.hid CB.out.drew
        have bd : wb.drew.cell? ⟨bb, 2, none⟩ = some (.int .i64 ((xl : Nat) : Int)) ∧ wb.drew.cell? ⟨bb, 3, none⟩ = some (.int .i64 ((xs : Nat) : Int)) := BX.out
        refine wp_region_held_drew (S := fun w' => w'.cell? ⟨bb, 2, none⟩ = some (.int .i64 ((xl : Nat) : Int)) ∧ w'.cell? ⟨bb, 3, none⟩ = some (.int .i64 ((xs : Nat) : Int))) (by kernel_rfl) bd (fun hHeld => ?_)
        clear HB CB BX
        generalize wb.drew = X at hHeld HD CD bd ⊢
        refine take_at (v := ?_) 0 (some 85) rfl (by kernel_rfl) (by kernel_rfl) (by kernel_rfl) (by kernel_rfl) (fun _ _ _ h => h) (Or.inl ⟨by rfl, ?_⟩) (by assumption) ?_
        rotate_left
        · intro w hSw; (try dsimp only at hSw); go_simp; try (with_reducible rfl)
        (try simp only [Act.put, List.setIfInBounds_toArray, List.set_cons_zero, List.set_cons_succ])
        refine take_at (v := ?_) 1 (some 86) rfl (by kernel_rfl) (by kernel_rfl) (by kernel_rfl) (by kernel_rfl) (fun _ _ _ h => h) (Or.inl ⟨by rfl, ?_⟩) (by assumption) ?_
        rotate_left
        · intro w hSw; (try dsimp only at hSw); go_simp; try (with_reducible rfl)
        (try simp only [Act.put, List.setIfInBounds_toArray, List.set_cons_zero, List.set_cons_succ])
        refine take_at (v := ?_) 2 (some 87) rfl (by kernel_rfl) (by kernel_rfl) (by kernel_rfl) (by kernel_rfl) (fun _ _ _ h => h) (Or.inl ⟨by rfl, ?_⟩) (by assumption) ?_
        rotate_left
        · intro w hSw; (try dsimp only at hSw); go_simp; try (with_reducible rfl)
        (try simp only [Act.put, List.setIfInBounds_toArray, List.set_cons_zero, List.set_cons_succ])
        refine take_at (v := ?_) 3 (some 88) rfl (by kernel_rfl) (by kernel_rfl) (by kernel_rfl) (by kernel_rfl) (fun _ _ _ h => h) (Or.inl ⟨by rfl, ?_⟩) (by assumption) ?_
        rotate_left
        · intro w hSw; (try dsimp only at hSw); go_simp; try (with_reducible rfl)
        (try simp only [Act.put, List.setIfInBounds_toArray, List.set_cons_zero, List.set_cons_succ])
        refine take_at (v := undef) 4 (some 89) rfl (by kernel_rfl) (by kernel_rfl) (by kernel_rfl) (by kernel_rfl) (fun _ _ _ h => h) (Or.inr ⟨by rfl, rfl⟩) (by assumption) ?_
        (try simp only [Act.put, List.setIfInBounds_toArray, List.set_cons_zero, List.set_cons_succ])
        refine take_at (v := undef) 5 (some 90) rfl (by kernel_rfl) (by kernel_rfl) (by kernel_rfl) (by kernel_rfl) (fun _ _ _ h => h) (Or.inr ⟨by rfl, rfl⟩) (by assumption) ?_
        (try simp only [Act.put, List.setIfInBounds_toArray, List.set_cons_zero, List.set_cons_succ])
        refine take_at (v := undef) 6 (some 91) rfl (by kernel_rfl) (by kernel_rfl) (by kernel_rfl) (by kernel_rfl) (fun _ _ _ h => h) (Or.inr ⟨by rfl, rfl⟩) (by assumption) ?_
        (try simp only [Act.put, List.setIfInBounds_toArray, List.set_cons_zero, List.set_cons_succ])
        refine take_at (v := undef) 7 (some 92) rfl (by kernel_rfl) (by kernel_rfl) (by kernel_rfl) (by kernel_rfl) (fun _ _ _ h => h) (Or.inr ⟨by rfl, rfl⟩) (by assumption) ?_
        (try simp only [Act.put, List.setIfInBounds_toArray, List.set_cons_zero, List.set_cons_succ])
        refine take_at (v := undef) 8 (some 93) rfl (by kernel_rfl) (by kernel_rfl) (by kernel_rfl) (by kernel_rfl) (fun _ _ _ h => h) (Or.inr ⟨by rfl, rfl⟩) (by assumption) ?_
        (try simp only [Act.put, List.setIfInBounds_toArray, List.set_cons_zero, List.set_cons_succ])
        refine take_at (v := undef) 9 (some 94) rfl (by kernel_rfl) (by kernel_rfl) (by kernel_rfl) (by kernel_rfl) (fun _ _ _ h => h) (Or.inr ⟨by rfl, rfl⟩) (by assumption) ?_
        (try simp only [Act.put, List.setIfInBounds_toArray, List.set_cons_zero, List.set_cons_succ])
        refine take_at (v := undef) 10 (some 95) rfl (by kernel_rfl) (by kernel_rfl) (by kernel_rfl) (by kernel_rfl) (fun _ _ _ h => h) (Or.inr ⟨by rfl, rfl⟩) (by assumption) ?_
        (try simp only [Act.put, List.setIfInBounds_toArray, List.set_cons_zero, List.set_cons_succ])
        refine take_at (v := undef) 11 (some 96) rfl (by kernel_rfl) (by kernel_rfl) (by kernel_rfl) (by kernel_rfl) (fun _ _ _ h => h) (Or.inr ⟨by rfl, rfl⟩) (by assumption) ?_
        (try simp only [Act.put, List.setIfInBounds_toArray, List.set_cons_zero, List.set_cons_succ])
        refine take_at (v := undef) 12 (some 97) rfl (by kernel_rfl) (by kernel_rfl) (by kernel_rfl) (by kernel_rfl) (fun _ _ _ h => h) (Or.inr ⟨by rfl, rfl⟩) (by assumption) ?_
        (try simp only [Act.put, List.setIfInBounds_toArray, List.set_cons_zero, List.set_cons_succ])
        refine take_at (v := undef) 13 (some 98) rfl (by kernel_rfl) (by kernel_rfl) (by kernel_rfl) (by kernel_rfl) (fun _ _ _ h => h) (Or.inr ⟨by rfl, rfl⟩) (by assumption) ?_
        (try simp only [Act.put, List.setIfInBounds_toArray, List.set_cons_zero, List.set_cons_succ])
        refine take_at (v := undef) 14 (some 99) rfl (by kernel_rfl) (by kernel_rfl) (by kernel_rfl) (by kernel_rfl) (fun _ _ _ h => h) (Or.inr ⟨by rfl, rfl⟩) (by assumption) ?_
        (try simp only [Act.put, List.setIfInBounds_toArray, List.set_cons_zero, List.set_cons_succ])
        refine take_at (v := undef) 15 (some 100) rfl (by kernel_rfl) (by kernel_rfl) (by kernel_rfl) (by kernel_rfl) (fun _ _ _ h => h) (Or.inr ⟨by rfl, rfl⟩) (by assumption) ?_
        (try simp only [Act.put, List.setIfInBounds_toArray, List.set_cons_zero, List.set_cons_succ])
        refine take_at (v := undef) 16 (some 101) rfl (by kernel_rfl) (by kernel_rfl) (by kernel_rfl) (by kernel_rfl) (fun _ _ _ h => h) (Or.inr ⟨by rfl, rfl⟩) (by assumption) ?_
        (try simp only [Act.put, List.setIfInBounds_toArray, List.set_cons_zero, List.set_cons_succ])
        refine take_at (v := undef) 17 (some 102) rfl (by kernel_rfl) (by kernel_rfl) (by kernel_rfl) (by kernel_rfl) (fun _ _ _ h => h) (Or.inr ⟨by rfl, rfl⟩) (by assumption) ?_
        (try simp only [Act.put, List.setIfInBounds_toArray, List.set_cons_zero, List.set_cons_succ])
        refine take_at (v := ?_) 18 (some 103) rfl (by kernel_rfl) (by kernel_rfl) (by kernel_rfl) (by kernel_rfl) (fun _ _ _ h => h) (Or.inl ⟨by rfl, ?_⟩) (by assumption) ?_
        rotate_left
        · intro w hSw; (try dsimp only at hSw); go_simp; try (with_reducible rfl)
        (try simp only [Act.put, List.setIfInBounds_toArray, List.set_cons_zero, List.set_cons_succ])
        refine wpAnyH_done (by kernel_rfl) ?_ _
        clear hHeld bd
        go_wp2
        go_roundw
        case rel => exact ⟨k + 1, by omega, by go_num, HD.out, CD.out⟩
        case measure => simp [intOf]; omega
    · obtain rfl : k = ql := by omega
      by_cases hin : 0 ≤ lev ∧ lev < 4 ∧ 0 ≤ slot ∧ slot < 64
      · obtain ⟨i1, i2, i3, i4⟩ := hin
        obtain ⟨lv, rfl⟩ := Int.eq_ofNat_of_zero_le i1
        obtain ⟨sl, rfl⟩ := Int.eq_ofNat_of_zero_le i3
        have j1 : ¬ (lv : Int) < 0 := by omega
        have j2 : ¬ (3 : Int) < (lv : Int) := by omega
        have j3 : ¬ (sl : Int) < 0 := by omega
        have j4 : ¬ (63 : Int) < (sl : Int) := by omega
        go_wp2_with fail
        refine (HU.out.atw (lv := lv) (sl := sl) (by omega) (by omega) (by omega)).mono ?_
        rintro e w6 ⟨a6, cap6, rfl, r6, c6⟩
        have H6 := Lib.hid (HU.out.quiet c6)
        have C6 := Lib.hid (CU.out.trans c6)
        have R6 := Lib.hid r6
        clear c6 r6 HU CU
        go_wp2_with fail
        have RA := H6.out.refAt (p := 64 * lv + sl) (by omega) (by omega)
        rw [show (64 * lv + sl) / 64 = lv by omega, show (64 * lv + sl) % 64 = sl by omega] at RA
        refine RA.mono ?_
        clear RA
        rintro e w7 ⟨a7, cap7, rfl, r7, c7⟩
        have C7 := Lib.hid (C6.out.trans c7)
        have R7 := Lib.hid r7
        have R6' := Lib.hid (R6.out.kept c7 (fun _ _ e => e))
        clear c7 r7 H6 C6 R6
        go_wp2_with fail
        refine (ints_same R6'.out R7.out (Nat.le_trans rowsOf_len (by omega))).mono ?_
        rintro e w8 ⟨rfl, c8⟩
        have C8 := Lib.hid (C7.out.trans c8)
        clear c8 C7 R6' R7
        go_wp2
        go_ret
        exact ⟨rfl, C8.out⟩
      · have AT := HU.out.d.at_any lev slot (by omega)
        rw [show atQ Q now lev slot = [] by unfold atQ; rw [if_neg hin]] at AT
        have AT := Lib.hid AT
        by_cases k1 : lev < 0
        · go_wp2_with fail
          refine AT.out.mono ?_
          rintro e w6 ⟨a6, cap6, rfl, -, -, c6⟩
          have C6 := Lib.hid (CU.out.trans c6)
          clear c6
          go_wp2
          go_ret
          exact ⟨by first | rfl | simp, C6.out⟩
        · have k1' : 0 ≤ lev := by omega
          by_cases k2 : 3 < lev
          · go_wp2_with fail
            refine AT.out.mono ?_
            rintro e w6 ⟨a6, cap6, rfl, -, -, c6⟩
            have C6 := Lib.hid (CU.out.trans c6)
            clear c6
            go_wp2
            go_ret
            exact ⟨by first | rfl | simp, C6.out⟩
          · have k2' : lev ≤ 3 := by omega
            by_cases k3 : slot < 0
            · go_wp2_with fail
              refine AT.out.mono ?_
              rintro e w6 ⟨a6, cap6, rfl, -, -, c6⟩
              have C6 := Lib.hid (CU.out.trans c6)
              clear c6
              go_wp2
              go_ret
              exact ⟨by first | rfl | simp, C6.out⟩
            · have k3' : 0 ≤ slot := by omega
              have k4 : 63 < slot := by omega
              go_wp2_with fail
              refine AT.out.mono ?_
              rintro e w6 ⟨a6, cap6, rfl, -, -, c6⟩
              have C6 := Lib.hid (CU.out.trans c6)
              clear c6
              go_wp2
              go_ret
              exact ⟨by first | rfl | simp, C6.out⟩
theorem same_of (h : Duo8 w0 w g now Q P rb l ar cr) (T : Tab w0) (hn : Q.length ≤ 60) (lev slot : Int) :
    Calls Tryd.prog 14 #[.pointer (some ⟨g.wb, 0, none⟩), .pointer (some ⟨rb, 0, none⟩), .int .i64 lev, .int .i64 slot] w fun e w' => e = .returned (.bool true) ∧ Ch Nil w w' := by
  by_cases he : Q = []
  · exact same_empty h T hn lev slot he
  · exact same_first h T hn lev slot he
end
end Go.Proofs.YtkfknafgknppdaaDoor

namespace Verge
set_option linter.unusedVariables false
section
variable {l : List Dn} {Q : List Ent} {s : Nat}
theorem RQ.nil (s : Nat) : RQ [] [] s := ⟨fun x hx => (by cases hx), fun q => rfl⟩
/-- one more in both -/
theorem RQ.more (h : RQ l Q s) (x : Ent) : RQ (l ++ [⟨x.u, x.d, spotN x.d s⟩]) (Q ++ [x]) s := by
  refine ⟨fun y hy => ?_, fun q => ?_⟩
  · rcases List.mem_append.1 hy with hy | hy
    · exact h.p y hy
    · simp at hy; subst hy; exact spotN_le _ _
  · unfold rowsOf
    rw [List.filter_append, List.map_append, List.filter_append, List.map_append, h.r q]
    congr 1
    simp only [List.filter_cons, List.filter_nil]
    by_cases e : spotN x.d s = q
    · simp [e, kD, kE]
    · simp [e]
/-- one taken out of both, by its number -/
theorem RQ.wo (h : RQ l Q s) {x : Ent} (hu : ∀ y, y ∈ Q → (y.u = x.u ↔ y = x)) : RQ (l.filter fun y => !decide (y.u = x.u)) (woQ Q x) s := by
  refine ⟨fun y hy => h.p y (List.mem_filter.1 hy).1, fun q => ?_⟩
  have e1 : ((l.filter fun y => !decide (y.u = x.u)).filter fun y => decide (y.p = q)).map kD = ((l.filter fun y => decide (y.p = q)).map kD).filter fun y => !decide (y.1 = x.u) := by
    rw [List.filter_map, List.filter_filter, List.filter_filter]
    congr 1
    exact List.filter_congr fun y _ => Bool.and_comm _ _
  have e2 : (rowsOf (woQ Q x) s q).map kE = ((rowsOf Q s q).map kE).filter fun y => !decide (y.1 = x.u) := by
    rw [List.filter_map]
    unfold rowsOf woQ
    rw [List.filter_filter, List.filter_filter]
    congr 1
    refine List.filter_congr fun y hy => ?_
    have := hu y hy
    by_cases e : y = x
    · subst e; simp [kE]
    · have e' : y.u ≠ x.u := fun h => e (this.1 h)
      simp [kE, e, e']
  rw [e1, e2, h.r q]
end
end Verge
namespace Go.Proofs.YtkfknafgknppdaaDoor
open Go.RowKit Verge LP
set_option linter.unusedVariables false
/-- the wheels, the entries that were made in a row, each with its number -/
structure AcR (w0 w : World) (g : Wh) (now : Nat) (Q P : List Ent) (rb : Nat) (l : List Dn) (ar : Option Addr) (cr : Nat) (ae : Option Addr) (ce c : Nat) : Prop where
  u : Duo8 w0 w g now Q P rb l ar cr
  e : RowX w ae P.length ce P
  pe : ∀ (i : Nat) (x : Ent), P[i]? = some x → x.u = (i : Int)
  eo : ∀ k, OwnS ae k → w0.heap.size ≤ k ∧ ¬ WS g P k ∧ ¬ RS rb ar k
  n : P.length ≤ c
  ql : Q.length ≤ c
section
variable {w0 w w' w5 w6 : World} {g : Wh} {now : Nat} {Q P : List Ent} {rb : Nat} {l : List Dn} {ar ae : Option Addr} {cr ce c : Nat} {x : Ent}
theorem AcR.quiet (h : AcR w0 w g now Q P rb l ar cr ae ce c) (ch : Ch Nil w w') : AcR w0 w' g now Q P rb l ar cr ae ce c := ⟨h.u.quiet ch, Row.kept h.e ch (fun _ _ e => e), h.pe, h.eo, h.n, h.ql⟩
theorem AcR.mono {c' : Nat} (h : AcR w0 w g now Q P rb l ar cr ae ce c) (hc : c ≤ c') : AcR w0 w g now Q P rb l ar cr ae ce c' := ⟨h.u, h.e, h.pe, h.eo, Nat.le_trans h.n hc, Nat.le_trans h.ql hc⟩
theorem AcR.inj (h : AcR w0 w g now Q P rb l ar cr ae ce c) {y : Ent} (hx : x ∈ P) (hy : y ∈ P) (e : x.u = y.u) : x = y := by
  obtain ⟨i, hi⟩ := List.mem_iff_getElem?.1 hx
  obtain ⟨j, hj⟩ := List.mem_iff_getElem?.1 hy
  have h1 := h.pe i x hi
  have h2 := h.pe j y hj
  obtain rfl : i = j := by omega
  rw [hi] at hj; cases hj; rfl
/-- an entry more: inserted, placed in the document's, put into the row -/
theorem AcR.more {wa wb wc : World} {ar' : Option Addr} {cr' gb ce' : Nat} (h : AcR w0 w g now Q P rb l ar cr ae ce c) (hb : w.heap.size ≤ x.e) (hu : x.u = (P.length : Int)) (da : Drv w0 wa g now (Q ++ [x]) (P ++ [x])) (ca : Ch (WS g P) w wa)
    (rb' : RefW wb rb now (l ++ [⟨x.u, x.d, spotN x.d now⟩]) ar' cr') (ob : ∀ k, OwnS ar' k → OwnS ar k ∨ wa.heap.size ≤ k) (cb : Ch (RS rb ar) wa wb)
    (cc : Ch (OwnS ae) wb wc) (rc : RowX wc (some ⟨gb, 0, none⟩) (P.length + 1) ce' (P ++ [x])) (ac : OwnS ae gb ∨ wb.heap.size ≤ gb) :
    AcR w0 wc g now (Q ++ [x]) (P ++ [x]) rb (l ++ [⟨x.u, x.d, spotN x.d now⟩]) ar' cr' (some ⟨gb, 0, none⟩) ce' (c + 1) := by
  have hw := h.u.d.c.size
  have sa := ca.size
  have sb := cb.size
  have hx := da.q.w.ent_lt (x := x) (by simp)
  have rlt : ∀ k, RS rb ar k → k < w.heap.size := fun k hk => h.u.r.lt hk
  have elt := Row.lt h.e
  have nWS : ∀ k, WS g (P ++ [x]) k → ¬ RS rb ar k := fun k hk e => by
    rcases WS.more hk with h1 | h1
    · exact h.u.a k e h1
    · have := rlt k e; omega
  have nE : ∀ k, OwnS ae k → ¬ WS g (P ++ [x]) k := fun k hk e => by
    rcases WS.more e with h1 | h1
    · exact (h.eo k hk).2.1 h1
    · have := elt k hk; omega
  have rs' : ∀ k, RS rb ar' k → RS rb ar k ∨ wa.heap.size ≤ k := fun k hk => by
    rcases hk with hk | hk
    · exact .inl (.inl hk)
    · rcases ob k hk with h1 | h1
      · exact .inl (.inr h1)
      · exact .inr h1
  have nR : ∀ k, OwnS ae k → ¬ RS rb ar' k := fun k hk e => by
    rcases rs' k e with h1 | h1
    · exact (h.eo k hk).2.2 h1
    · have := elt k hk; omega
  refine ⟨⟨(da.later cb (fun k hk => nWS k hk) h.u.o).later cc (fun k hk e => nE k e hk) (fun k hk => (h.eo k hk).1), rb'.kept cc (fun k hk e => nR k e hk), h.u.q.more x, fun k hk e => ?_, fun k hk => ?_⟩, by rw [List.length_append]; exact rc, fun i y hy => ?_, fun k hk => ?_, by have := h.n; simp; omega, by have := h.ql; simp; omega⟩
  · rcases rs' k hk with h1 | h1
    · exact nWS k e h1
    · have := da.lt e; omega
  · rcases rs' k hk with h1 | h1
    · exact h.u.o k h1
    · omega
  · by_cases hi : i < P.length
    · rw [List.getElem?_append_left hi] at hy; exact h.pe i y hy
    · have := (List.getElem?_eq_some_iff.1 hy).1
      obtain rfl : i = P.length := by simp at this; omega
      simp at hy; subst hy; exact hu
  · cases hk
    rcases ac with h1 | h1
    · exact ⟨(h.eo _ h1).1, nE _ h1, nR _ h1⟩
    · refine ⟨by simp only; omega, fun e => ?_, fun e => ?_⟩
      · have := da.lt e; simp only at this; omega
      · have := rb'.lt e; simp only at this; omega
end
end Go.Proofs.YtkfknafgknppdaaDoor
