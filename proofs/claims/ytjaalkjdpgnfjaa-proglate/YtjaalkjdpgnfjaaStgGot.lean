/-
  The statements' own rows: numbers put behind others, one a step.
-/
import Derived.Test.YtjaalkjdpgnfjaaStgPg
import Derived.Test.YtjaalkjdpgnfjaaListRound
import Derived.Test.YtjaalkjdpgnfjaaIsRow
namespace Go.Proofs.Ytjaalkjdpgnfjaa
open Go.RowKit Verge
attribute [local go_sem] Oper.semAt_some
set_option linter.unusedVariables false
set_option linter.unusedSimpArgs false

theorem Row.ag {w w' : World} {e : TypeId} {size n cap : Nat} {a : Option Addr} {f : Nat → Value} {S : Nat → Prop} (h : Row w e size a n cap f) (c : Ag S w w') (hn : ∀ k, OwnS a k → S k) : Row w' e size a n cap f := by
  refine ⟨h.1, ?_⟩
  rcases h.2 with hn' | ⟨g, cap', cur, hv, hb, hgg, rest⟩
  · exact .inl hn'
  · refine .inr ⟨g, cap', cur, hv, hb, ?_, rest⟩
    simp only [Value.slice.injEq] at hv
    rw [c.block g (hn g (by rw [OwnS, hv.1]; rfl))]
    exact hgg
/-- the i-th of these numbers -/
def num (g : List Int) (i : Nat) : Int := g.getD i 0
/-- a variable in block A, a row of these numbers of our own -/
structure GotAt (A : Nat) (g : List Int) (a : Option Addr) (cap : Nat) (w : World) : Prop where
  c : w.cell? ⟨A, 0, none⟩ = some (.slice a g.length cap)
  k : Blk w A
  r : RowI w a g.length cap (num g)
  n : ¬ OwnS a A
theorem GotAt.ag {A : Nat} {g : List Int} {a : Option Addr} {cap : Nat} {w w' : World} {M : Nat → Prop} (h : GotAt A g a cap w) (c : Ag M w w') (hA : M A) (hO : ∀ k, OwnS a k → M k) : GotAt A g a cap w' :=
  ⟨c.cell h.c hA, c.blk h.k hA, Row.ag h.r c hO, h.n⟩
theorem GotAt.kept {A : Nat} {g : List Int} {a : Option Addr} {cap : Nat} {w w' : World} {S : Nat → Prop} (h : GotAt A g a cap w) (c : Ch S w w') (hA : ¬ S A) (hO : ∀ k, OwnS a k → ¬ S k) : GotAt A g a cap w' :=
  ⟨c.keeps h.c hA, h.k.kept c hA, Row.kept h.r c hO, h.n⟩
def Got (A : Nat) (g : List Int) : Own where
  P M w := ∃ a cap, GotAt A g a cap w ∧ ∀ k, M k ↔ k = A ∨ OwnS a k
  lt M w h k hk := by
    obtain ⟨a, cap, h, hM⟩ := h
    rcases (hM k).1 hk with rfl | e
    · exact lt_of_cell h.c
    · exact Row.lt h.r k e
  ag M w w' h c := by
    obtain ⟨a, cap, h, hM⟩ := h
    exact ⟨a, cap, h.ag c ((hM A).2 (.inl rfl)) (fun k hk => (hM k).2 (.inr hk)), hM⟩
theorem num_left {g : List Int} {n : Int} {i : Nat} (h : i < g.length) : num (g ++ [n]) i = num g i := by
  unfold num
  rw [List.getD_eq_getElem?_getD, List.getD_eq_getElem?_getD, List.getElem?_append_left h]
theorem num_last {g : List Int} {n : Int} : num (g ++ [n]) g.length = n := by
  unfold num
  rw [List.getD_eq_getElem?_getD, List.getElem?_append_right (Nat.le_refl _)]
  simp

set_option maxHeartbeats 4000000 in
theorem app_of {A b2 b7 cap : Nat} {n : Int} {g : List Int} {a : Option Addr} {w : World} (h : GotAt A g a cap w) (k2 : w.cell? ⟨b2, 0, none⟩ = some (.pointer (some ⟨A, 0, none⟩))) (k7 : w.cell? ⟨b7, 0, none⟩ = some (.int .i64 n))
    (h2 : b2 ≠ A ∧ ¬ OwnS a b2) (h7 : b7 ≠ A ∧ ¬ OwnS a b7) (hn : g.length ≤ 100000) :
    Calls Try.prog 33 #[.pointer (some ⟨b2, 0, none⟩), .pointer (some ⟨b7, 0, none⟩)] w fun e w' => e = .returned (.tuple #[]) ∧ ∃ a' cap', GotAt A (g ++ [n]) a' cap' w' ∧ Ch (fun k => k = A ∨ OwnS a k) w w' ∧ ∀ k, OwnS a' k → OwnS a k ∨ w.heap.size ≤ k := by
  have H := Lib.hid h
  have b0 := And.intro k2 k7
  have H2 := Lib.hid (And.intro h2 h7)
  clear h k2 k7 h2 h7
  go_enter Try.func33, Try.ntmps33
  refine wp_region_held_drew (S := fun w' => w'.cell? ⟨b2, 0, none⟩ = some (.pointer (some ⟨A, 0, none⟩)) ∧ w'.cell? ⟨b7, 0, none⟩ = some (.int .i64 n)) (by kernel_rfl) b0 (fun hHeld => ?_)
  have cD : Ch Nil w w.drew := (Ch.refl _ _).drew
  have HD := Lib.hid (H.out.kept cD (fun e => e) (fun _ _ e => e))
  have CD := Lib.hid cD
  clear b0 H cD
  generalize w.drew = X at hHeld HD CD ⊢
  have cX : Ch Nil X (X.alloc (.cells #[.int .i64 n] 3)) := (Ch.refl _ _).alloc _
  have c1 := HD.out.c
  have c2 := cX.keeps c1 (fun e => e)
  have S2 := And.intro (cX.keeps hHeld.1 (fun e => e)) (cX.keeps hHeld.2 (fun e => e))
  refine take_at (v := ?_) 0 (some 2) rfl (by kernel_rfl) (by kernel_rfl) (by kernel_rfl) (by kernel_rfl) (fun _ _ _ h => h) (Or.inl ⟨by rfl, ?_⟩) (by assumption) ?_
  rotate_left
  · intro w hSw; (try dsimp only at hSw); go_simp; try (with_reducible rfl)
  (try simp only [Act.put, List.setIfInBounds_toArray, List.set_cons_zero, List.set_cons_succ])
  refine take_at (v := ?_) 1 (some 3) rfl (by kernel_rfl) (by kernel_rfl) (by kernel_rfl) (by kernel_rfl) (fun _ _ _ h => h) (Or.inl ⟨by rfl, ?_⟩) (by assumption) ?_
  rotate_left
  · intro w hSw; (try dsimp only at hSw); go_simp; try (with_reducible rfl)
  (try simp only [Act.put, List.setIfInBounds_toArray, List.set_cons_zero, List.set_cons_succ])
  refine take_at (v := ?_) 2 (some 4) rfl (by kernel_rfl) (by kernel_rfl) (by kernel_rfl) (by kernel_rfl) (fun _ _ _ h => h) (Or.inl ⟨by rfl, ?_⟩) (by assumption) ?_
  rotate_left
  · intro w hSw; (try dsimp only at hSw); go_simp; try (with_reducible rfl)
  (try simp only [Act.put, List.setIfInBounds_toArray, List.set_cons_zero, List.set_cons_succ])
  refine take_at (v := ?_) 4 (some 6) rfl (by kernel_rfl) (by kernel_rfl) (by kernel_rfl) (by kernel_rfl) (fun _ _ _ h => h) (Or.inl ⟨by rfl, ?_⟩) (by assumption) ?_
  rotate_left
  · intro w hSw; (try dsimp only at hSw); go_simp; try (with_reducible rfl)
  (try simp only [Act.put, List.setIfInBounds_toArray, List.set_cons_zero, List.set_cons_succ])
  refine wpAnyH_ready (rs := [3, 5]) (by kernel_rfl) (by simp) ?_
  refine AllReadyH.cons rfl (fun K hK => ?_) ?_
  go_simp
  refine hK.out _ _ hHeld (fun hh => ?_)
  clear hK K hh
  (try simp only [Act.put, List.setIfInBounds_toArray, List.set_cons_zero, List.set_cons_succ])
  refine wpAnyH_ready (rs := [5]) (by kernel_rfl) (by simp) ?_
  refine AllReadyH.cons rfl (fun K hK => ?_) AllReadyH.nil
  go_simp
  refine hK.out _ _ S2 (fun hh => ?_)
  clear hK K hh
  (try simp only [Act.put, List.setIfInBounds_toArray, List.set_cons_zero, List.set_cons_succ])
  refine ?tail
  rotate_left
  refine AllReadyH.cons rfl (fun K hK => ?_) AllReadyH.nil
  go_simp
  refine hK.out _ _ S2 (fun hh => ?_)
  clear hK K hh
  (try simp only [Act.put, List.setIfInBounds_toArray, List.set_cons_zero, List.set_cons_succ])
  refine wpAnyH_ready (rs := [3]) (by kernel_rfl) (by simp) ?_
  refine AllReadyH.cons rfl (fun K hK => ?_) AllReadyH.nil
  go_simp
  refine hK.out _ _ S2 (fun hh => ?_)
  clear hK K hh
  (try simp only [Act.put, List.setIfInBounds_toArray, List.set_cons_zero, List.set_cons_succ])
  exact ?tail
  have HX := Lib.hid (HD.out.kept cX (fun e => e) (fun _ _ e => e))
  have CX := Lib.hid (CD.out.trans cX)
  have R5 : Hid (Row (X.alloc (.cells #[.int .i64 n] 3)) 3 1 a g.length cap (fun i => .int .i64 (num g i))) := Lib.hid HX.out.r
  have hA1 : ∀ i, i < g.length * 1 → (fun i => Value.int .i64 (num (g ++ [n]) i)) i = (fun i => Value.int .i64 (num g i)) i := fun i hi => by
    simp only
    rw [num_left (by omega)]
  have hA2 : ∀ j u, [Value.int .i64 n][j]? = some u → (fun i => Value.int .i64 (num (g ++ [n]) i)) (g.length * 1 + j) = u := by
    intro j u hu
    obtain rfl : j = 0 := by cases j; rfl; simp at hu
    simp at hu
    subst hu
    simp only [Nat.mul_one, Nat.add_zero]
    rw [num_last]
  have HA := Lib.hid (And.intro hA1 hA2)
  clear c1 cX hA1 hA2
  refine wpAnyH_ready (rs := [6]) (by kernel_rfl) (by simp) ?_
  refine AllReadyH.cons rfl (fun K hK => ?_) AllReadyH.nil
  refine step_row rfl _ _ _ rfl 3 (.int .i64 0) 1 8 Try.underlying25 (by kernel_rfl) rfl (by omega) (by omega) rfl R5.out (by omega) X.heap.size 1 [.int .i64 n] 3 rfl rfl (heap_alloc_new X _) (by simp [Value.oneCell']) (fun i => Value.int .i64 (num (g ++ [n]) i)) HA.out.1 HA.out.2 _ rfl ?_
  intro g6 cap6 w6 row6 ch6 at6 lt6
  have S3 := And.intro (ch6.keeps S2.1 H2.out.1.2) (ch6.keeps S2.2 H2.out.2.2)
  have c3 := ch6.keeps c2 HX.out.n
  have bk := HX.out.k.kept ch6 HX.out.n
  have z3 := bk.fz 0
  have lA : A < X.heap.size := lt_of_cell HD.out.c
  have nA : ¬ OwnS (some ⟨g6, 0, none⟩) A := fun e => by
    cases e
    rcases at6 with h' | h'
    · exact HX.out.n h'
    · have h2 : g6 = X.heap.size + 1 := by simpa using h'
      have lA2 : g6 < X.heap.size := lA
      omega
  have lX := CD.out.size
  have FIN : Hid (RowI w6 (some ⟨g6, 0, none⟩) (g ++ [n]).length cap6 (num (g ++ [n])) ∧ Blk w6 A ∧ ¬ OwnS (some ⟨g6, 0, none⟩) A ∧ Ch (OwnS a) w w6 ∧ ∀ k, OwnS (some ⟨g6, 0, none⟩) k → OwnS a k ∨ w.heap.size ≤ k) := Lib.hid ⟨by rw [List.length_append]; exact row6, bk, nA, (CX.out.mono (fun _ _ e => e.elim)).trans ch6, fun k hk => by
    cases hk
    rcases at6 with h' | h'
    · exact .inl h'
    · have h2 : g6 = X.heap.size + 1 := by simpa using h'
      right; simp only; omega⟩
  refine hK.out _ _ S3 (fun hh => ?_)
  clear hK K hh ch6 row6 at6 lt6 R5 HX HD S2 c2 hHeld bk nA HA
  (try simp only [Act.put, List.setIfInBounds_toArray, List.set_cons_zero, List.set_cons_succ])
  refine take_at (v := ?_) 7 (some 9) rfl (by kernel_rfl) (by kernel_rfl) (by kernel_rfl) (by kernel_rfl) (fun _ _ _ h => h) (Or.inl ⟨by rfl, ?_⟩) (by assumption) ?_
  rotate_left
  · intro w hSw; (try dsimp only at hSw); go_simp; try (with_reducible rfl)
  (try simp only [Act.put, List.setIfInBounds_toArray, List.set_cons_zero, List.set_cons_succ])
  refine wpAnyH_ready (rs := [8]) (by kernel_rfl) (by simp) ?_
  refine AllReadyH.cons rfl (fun K hK => ?_) AllReadyH.nil
  go_simp
  refine hK.out _ _ ⟨by rw [cell_set, if_neg (by rintro ⟨e, -⟩; exact H2.out.1.1 e)]; exact S3.1, by rw [cell_set, if_neg (by rintro ⟨e, -⟩; exact H2.out.2.1 e)]; exact S3.2⟩ (fun hh => ?_)
  clear hK K hh
  (try simp only [Act.put, List.setIfInBounds_toArray, List.set_cons_zero, List.set_cons_succ])
  refine wpAnyH_done (by kernel_rfl) ?_ _
  go_wp2
  go_end0
  obtain ⟨f1, f2, f3, f4, f5⟩ := FIN.out
  have cS : Ch (One A) w6 (w6.setCell ⟨A, 0, none⟩ (.slice (some ⟨g6, 0, none⟩) (g.length + 1) cap6)) := (Ch.refl _ _).setB _ _
  refine ⟨rfl, some ⟨g6, 0, none⟩, cap6, ⟨?_, f2.set _ _, f1.kept cS (fun k hk e => f3 ((show k = A from e) ▸ hk)), f3⟩, (f4.mono (fun _ _ e => .inr e)).trans (cS.mono (fun _ _ e => .inl e)), f5⟩
  rw [World.cell?_setCell_same _ _ _ c3, List.length_append]
  rfl
end Go.Proofs.Ytjaalkjdpgnfjaa
