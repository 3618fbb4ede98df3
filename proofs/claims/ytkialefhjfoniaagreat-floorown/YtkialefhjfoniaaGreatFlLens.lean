/-
  Contracts of package pipe's and package firing's Len, of those that have nothing; what FloorMade keeps from call to call.
-/
import Derived.Test.YtkialefhjfoniaaGreatFlAlive
import Derived.Test.YtkialefhjfoniaaGreatFlEv
import Derived.Test.YtkialefhjfoniaaGreatHeld
import Derived.BigQuiet
import Derived.Deep.QuietTactic
namespace Go.Proofs.YtkialefhjfoniaaGreat
open Go.RowKit Verge
attribute [local go_sem] Oper.semAt_some
set_option linter.unusedVariables false
set_option linter.unusedSimpArgs false

theorem len_chan14 (ty : TypeId) (c cap s r : Nat) (buf : Array Value) (cl : Bool) (w : World) (hb : w.heap[c]? = some (.chan cap buf cl s r false)) :
    (Builtin.len_ #[97] ty #[.chan (some c)]).run Tryz.prog w = .ok (goInt buf.size) w := by
  simp [Builtin.len_, run_underlying Tryz.underlying97, getObj, Sem.run, hb]
theorem lenF_of (pb n : Nat) (w : World) (hc : w.cell? ⟨pb, 3, none⟩ = some (.int .i64 n)) :
    Calls Tryz.prog 66 #[.pointer (some ⟨pb, 1, none⟩)] w fun e w' => e = .returned (.int .i64 n) ∧ w = w' := by
  go_enter Tryz.func66, Tryz.ntmps66
  go_wp2
  go_ret
  exact ⟨rfl, rfl⟩
section
variable {w : World} {pb cb cap lb : Nat}
theorem pLen_of (h : IsP w pb cb cap #[]) :
    Calls Tryz.prog 27 #[.pointer (some ⟨pb, 0, none⟩)] w fun e w' => e = .returned (.int .i64 0) ∧ Ch Nil w w' := by
  have h0 := h.v.c 0 _ rfl
  have h3 := h.v.c 3 _ rfl
  obtain ⟨s, r, hb⟩ := h.c
  have hln := fun ty (w : World) hb => len_chan14 ty cb cap s r #[] false w hb
  clear h
  go_enter Tryz.func27, Tryz.ntmps27
  go_upto_region 3 with (fail)
  have h0' : w.drew.cell? ⟨pb, 0, none⟩ = some (.chan (some cb)) := h0
  have h3' : w.drew.cell? ⟨pb, 3, none⟩ = some (.int .i64 ((0 : Nat) : Int)) := h3
  have hln' := fun ty => hln ty w.drew hb
  have hD := Lib.hid (show Ch Nil w w.drew from (Ch.refl _ _).drew)
  refine wp_region_held_drew (S := fun w' => w' = w.drew) (by kernel_rfl) rfl (fun hHeld => ?_)
  clear h0 h3 hb hln
  generalize w.drew = Y at *
  refine take_at (v := ?_) 0 (some 5) rfl (by kernel_rfl) (by kernel_rfl) (by kernel_rfl) (by kernel_rfl) (fun _ _ _ h => h) (Or.inl ⟨by rfl, ?_⟩) (by assumption) ?_
  rotate_left
  · intro w hSw; (try dsimp only at hSw); go_simp; try (with_reducible rfl)
  (try simp only [Act.put, List.setIfInBounds_toArray, List.set_cons_zero, List.set_cons_succ])
  refine take_at (v := ?_) 1 (some 6) rfl (by kernel_rfl) (by kernel_rfl) (by kernel_rfl) (by kernel_rfl) (fun _ _ _ h => h) (Or.inl ⟨by rfl, ?_⟩) (by assumption) ?_
  rotate_left
  · intro w hSw; (try dsimp only at hSw); go_simp; try (with_reducible rfl)
  (try simp only [Act.put, List.setIfInBounds_toArray, List.set_cons_zero, List.set_cons_succ])
  refine take_at (v := ?_) 2 (some 7) rfl (by kernel_rfl) (by kernel_rfl) (by kernel_rfl) (by kernel_rfl) (fun _ _ _ h => h) (Or.inl ⟨by rfl, ?_⟩) (by assumption) ?_
  rotate_left
  · intro w hSw; (try dsimp only at hSw); go_simp; try (with_reducible rfl)
  (try simp only [Act.put, List.setIfInBounds_toArray, List.set_cons_zero, List.set_cons_succ])
  refine take_at (v := ?_) 3 (some 8) rfl (by kernel_rfl) (by kernel_rfl) (by kernel_rfl) (by kernel_rfl) (fun _ _ _ h => h) (Or.inl ⟨by rfl, ?_⟩) (by assumption) ?_
  rotate_left
  · intro w hSw; (try dsimp only at hSw); go_simp; try (with_reducible rfl)
  (try simp only [Act.put, List.setIfInBounds_toArray, List.set_cons_zero, List.set_cons_succ])
  refine take_at (v := ?_) 4 (some 9) rfl (by kernel_rfl) (by kernel_rfl) (by kernel_rfl) (by kernel_rfl) (fun _ _ _ h => h) (Or.inl ⟨by rfl, ?_⟩) (by assumption) ?_
  rotate_left
  · intro w hSw; (try dsimp only at hSw); go_simp; try (with_reducible rfl)
  (try simp only [Act.put, List.setIfInBounds_toArray, List.set_cons_zero, List.set_cons_succ])
  refine take_at (v := ?_) 5 (some 10) rfl (by kernel_rfl) (by kernel_rfl) (by kernel_rfl) (by kernel_rfl) (fun _ _ _ h => h) (Or.inl ⟨by rfl, ?_⟩) (by assumption) ?_
  rotate_left
  · intro w hSw; (try dsimp only at hSw); go_simp; try (with_reducible rfl)
  (try simp only [Act.put, List.setIfInBounds_toArray, List.set_cons_zero, List.set_cons_succ])
  refine take_at (v := ?_) 6 (some 11) rfl (by kernel_rfl) (by kernel_rfl) (by kernel_rfl) (by kernel_rfl) (fun _ _ _ h => h) (Or.inl ⟨by rfl, ?_⟩) (by assumption) ?_
  rotate_left
  · intro w hSw; (try dsimp only at hSw); go_simp; try (with_reducible rfl)
  (try simp only [Act.put, List.setIfInBounds_toArray, List.set_cons_zero, List.set_cons_succ])
  refine take_at (v := ?_) 7 (some 12) rfl (by kernel_rfl) (by kernel_rfl) (by kernel_rfl) (by kernel_rfl) (fun _ _ _ h => h) (Or.inl ⟨by rfl, ?_⟩) (by assumption) ?_
  rotate_left
  · intro w hSw; (try dsimp only at hSw); go_simp; try (with_reducible rfl)
  (try simp only [Act.put, List.setIfInBounds_toArray, List.set_cons_zero, List.set_cons_succ])
  refine wpAnyH_ready (rs := [8]) (by kernel_rfl) (by simp) ?_
  refine AllReadyH.cons rfl (fun K hK => ?_) AllReadyH.nil
  go_simp
  refine (lenF_of pb 0 Y h3').mono ?_
  rintro e w4 ⟨rfl, rfl⟩
  refine hK.out _ _ rfl (fun hHeld => ?_)
  clear hK K
  (try simp only [Act.put, List.setIfInBounds_toArray, List.set_cons_zero, List.set_cons_succ])
  refine take_at (v := ?_) 9 (some 14) rfl (by kernel_rfl) (by kernel_rfl) (by kernel_rfl) (by kernel_rfl) (fun _ _ _ h => h) (Or.inl ⟨by rfl, ?_⟩) (by assumption) ?_
  rotate_left
  · intro w hSw; (try dsimp only at hSw); go_simp; try (with_reducible rfl)
  (try simp only [Act.put, List.setIfInBounds_toArray, List.set_cons_zero, List.set_cons_succ])
  refine take_at (v := ?_) 10 (some 2) rfl (by kernel_rfl) (by kernel_rfl) (by kernel_rfl) (by kernel_rfl) (fun _ _ _ h => h) (Or.inl ⟨by rfl, ?_⟩) (by assumption) ?_
  rotate_left
  · intro w hSw; (try dsimp only at hSw); go_simp; try (with_reducible rfl)
  (try simp only [Act.put, List.setIfInBounds_toArray, List.set_cons_zero, List.set_cons_succ])
  refine wpAnyH_done (by kernel_rfl) ?_ _
  go_wp2
  go_ret
  exact ⟨by first | rfl | simp, hD.out⟩
theorem lLen_of (h : IsVs w lb [.slice none 0 0]) :
    Calls Tryz.prog 28 #[.pointer (some ⟨lb, 0, none⟩)] w fun e w' => e = .returned (.int .i64 0) ∧ Ch Nil w w' := by
  have h0 := h.c 0 _ rfl
  clear h
  go_enter Tryz.func28, Tryz.ntmps28
  go_wp2
  go_ret
  exact ⟨rfl, Ch.refl _ _⟩
end
/-- what a floor's parts are, as long as its slab alone turns -/
structure NewK (lo : Nat) (W : World) (F : Fb) (cp rm : Nat) : Prop where
  fl : IsF W F none 0 0
  r : Row W 57 1 (some ⟨F.g, 0, none⟩) F.n F.gc (shV F)
  bk : ∀ i, i < F.n → Blk W (F.sh i)
  q : IsP W F.pb F.cb rm #[]
  pl : IsVs W F.lb [.slice none 0 0]
  s : IsS W F.sb F.srb cp 0 zeroR
  o : Ord lo F
theorem NewF.k {w w' : World} {F : Fb} {cp rm : Nat} (h : NewF w w' F cp rm) : NewK w.heap.size w' F cp rm :=
  ⟨h.fl, h.r, fun i hi => (h.sd i hi).bk, h.q, h.pl, h.s, h.o⟩
theorem NewK.step {lo : Nat} {w w' : World} {F : Fb} {cp rm : Nat} (h : NewK lo w F cp rm) (c : Ch (Two F.sb F.srb) w w') (s : IsS w' F.sb F.srb cp 0 zeroR) : NewK lo w' F cp rm := by
  have hn : ∀ k, k ≠ F.sb → k ≠ F.srb → ¬ Two F.sb F.srb k := fun k h1 h2 e => by rcases e with e | e <;> contradiction
  obtain ⟨o1, o2, o3, o4, o5, o6, o7, o8, o9, oa, og, os, od⟩ := h.o
  exact ⟨h.fl.kept c (hn _ (by omega) (by omega)), h.r.kept c (fun k hk => by cases hk; exact hn _ (by dsimp only; omega) (by dsimp only; omega)), fun i hi => (h.bk i hi).kept c (hn _ (by have := os i hi; omega) (by have := os i hi; omega)), h.q.kept c (hn _ (by omega) (by omega)) (hn _ (by omega) (by omega)), h.pl.kept c (hn _ (by omega) (by omega)), s, h.o⟩
theorem NewK.quiet {lo : Nat} {w w' : World} {F : Fb} {cp rm : Nat} (h : NewK lo w F cp rm) (c : Ch Nil w w') : NewK lo w' F cp rm := h.step (Ch_any c) (h.s.quiet c)
/-- and a box of the config beside it -/
structure Md (w0 W : World) (F : Fb) (B : Nat) (c : Cf) (cp rm : Nat) : Prop where
  k : ∃ lo, NewK lo W F cp rm ∧ w0.heap.size ≤ lo ∧ B < lo
  bx : IsVs W B (cfV c)
  ch : Ch Nil w0 W
section
variable {w0 W W' : World} {F : Fb} {B : Nat} {c : Cf} {cp rm : Nat}
theorem Md.step (h : Md w0 W F B c cp rm) (k : Ch (Two F.sb F.srb) W W') (s : IsS W' F.sb F.srb cp 0 zeroR) : Md w0 W' F B c cp rm := by
  obtain ⟨lo, hk, h1, h2⟩ := h.k
  have o := hk.o
  have l1 : lo < F.srb := by have := o.o1; have := o.o2; have := o.o3; have := o.o4; have := o.o5; have := o.o6; have := o.o7; omega
  have l2 := o.o8
  exact ⟨⟨lo, hk.step k s, h1, h2⟩, h.bx.kept k (fun e => by rcases e with e | e <;> omega), h.ch.then k (fun i hi e => by rcases e with e | e <;> omega)⟩
theorem Md.quiet (h : Md w0 W F B c cp rm) (k : Ch Nil W W') : Md w0 W' F B c cp rm := h.step (Ch_any k) (by obtain ⟨lo, hk, -⟩ := h.k; exact hk.s.quiet k)
theorem Md.fl (h : Md w0 W F B c cp rm) : IsF W F none 0 0 := by obtain ⟨lo, hk, -⟩ := h.k; exact hk.fl
theorem Md.r (h : Md w0 W F B c cp rm) : Row W 57 1 (some ⟨F.g, 0, none⟩) F.n F.gc (shV F) := by obtain ⟨lo, hk, -⟩ := h.k; exact hk.r
theorem Md.bk (h : Md w0 W F B c cp rm) : ∀ i, i < F.n → Blk W (F.sh i) := by obtain ⟨lo, hk, -⟩ := h.k; exact hk.bk
theorem Md.q (h : Md w0 W F B c cp rm) : IsP W F.pb F.cb rm #[] := by obtain ⟨lo, hk, -⟩ := h.k; exact hk.q
theorem Md.pl (h : Md w0 W F B c cp rm) : IsVs W F.lb [.slice none 0 0] := by obtain ⟨lo, hk, -⟩ := h.k; exact hk.pl
theorem Md.s (h : Md w0 W F B c cp rm) : IsS W F.sb F.srb cp 0 zeroR := by obtain ⟨lo, hk, -⟩ := h.k; exact hk.s
theorem Md.config (h : Md w0 W F B c cp rm) (d : Cf) (hd : F.c = d) :
    Calls Tryz.prog 57 #[.pointer (some ⟨F.f, 0, none⟩)] W fun e w' => e = .returned (.agg #[.int .i64 d.s, .int .i64 d.c, .int .i64 d.r, .int .i64 d.m, .int .i64 d.k, .int .i64 d.l]) ∧ Ch Nil W w' := by
  have := config_of h.fl
  rwa [hd] at this
end
/-- two shards held against each other: the same -/
theorem neqS {w : World} {s : Nat} (hs : Blk w s) : (binOp .neq 57 (.pointer (some ⟨s, 0, none⟩)) (.pointer (some ⟨s, 0, none⟩))).run Tryz.prog w = .ok (.bool false) w := by
  have := run_neq_pt (P := Tryz.prog) (w := w) (t := 57) (some s) (some s) (by rintro b h; cases h; exact hs) (by rintro b h; cases h; exact hs) Tryz.underlying57 (by kernel_rfl)
  simpa using this
end Go.Proofs.YtkialefhjfoniaaGreat
