import Derived.Test.YtnbdafmjcmmfpaaGreatK15
import Derived.Shelf.Abstract
/-
  A work's refuse, leave, end, happen.
-/
namespace Go.Proofs.YtnbdafmjcmmfpaaGreat
open Go.RowKit Verge
attribute [local go_sem] Oper.semAt_some
set_option linter.unusedVariables false
set_option linter.unusedSimpArgs false
section
variable {E : Ee} {S S0 : Nat → Prop} {w0 W W' : World} {σ σ' : Wd} {n n' : Nat} {X X' : Mx} {k k' : Wk} {B : Nat} {r : List (Nat × List Value)}
set_option maxHeartbeats 4000000 in
theorem Bo.refuse (h : Bo E S0 w0 W σ n X k) (hn : n ≤ 90000) (e : Nat) (K : Nat) (fs cs : Array Value) :
    Calls Tryz.prog 80 #[ptr X.kb, .int .i64 (e : Nat), .func (.func K) fs cs] W fun en W' => en = .returned (.agg #[.nilFunc, .func (.func K) fs cs]) ∧ Bo E S0 w0 W' σ (n + 1) X { k with a := ⟨e, false, 0, 0⟩ } := by
  have H1 := Lib.hid h.box
  have HL := Lib.hid (fun p (hp : p ∈ X.bx) => h.blt hp)
  clear h
  go_enter Tryz.func80, Tryz.ntmps80
  go_upto_region 1 with (fail)
  generalize W.alloc (.cells #[.nilFunc, .nilFunc] 103) = w1 at H1 ⊢
  obtain ⟨B, hB⟩ : ∃ B, B = W.heap.size := ⟨_, rfl⟩
  rw [← hB] at H1 ⊢
  have HB := Lib.hid hB
  clear hB
  go_wp2_with fail
  refine (H1.out.knote hn ⟨9, 0, 0, 0, 0, 0, 0, 0, 0, (e : Nat)⟩).mono ?_
  rintro en w2 ⟨rfl, h2⟩
  have H2 := Lib.hid h2
  have c7 := h2.kc 7 _ rfl
  have c8 := h2.kc 8 _ rfl
  have c9 := h2.kc 9 _ rfl
  have c10 := h2.kc 10 _ rfl
  have c11 := h2.kc 11 _ rfl
  have fz := h2.kz
  clear h2
  go_upto_region 3 with (fail)
  have h3 := H2.out.ans ⟨e, false, 0, 0⟩
  dsimp only at h3
  clear c7 c8 c9 c10 c11 fz H2 H1
  generalize ((((w2.setCell ⟨X.kb, 7, none⟩ (.int .i64 (e : Nat))).setCell ⟨X.kb, 8, none⟩ (.bool false)).setCell ⟨X.kb, 9, none⟩ (.int .u64 ((0 : Nat) : Int))).setCell ⟨X.kb, 10, none⟩ (.int .u64 ((0 : Nat) : Int))).setCell ⟨X.kb, 11, none⟩ (.slice none 0 0) = w3 at h3 ⊢
  have H3 := Lib.hid h3
  clear h3
  go_wp2_with fail
  refine (next_fn _ (.inr ⟨_, _, _, rfl⟩) _).mono ?_
  rintro en w4 ⟨rfl, c4⟩
  have H4 := Lib.hid (H3.out.quiet c4)
  clear c4 H3
  have b4 := H4.out.bk (B := B) (vs := [.nilFunc, .nilFunc]) (List.mem_cons_self)
  have x0 := H4.out.b (B := B) (vs := [.nilFunc, .nilFunc]) (List.mem_cons_self) 0 _ rfl
  have x1 := H4.out.b (B := B) (vs := [.nilFunc, .nilFunc]) (List.mem_cons_self) 1 _ rfl
  have fz := b4.fz
  have st0 := IsFn.store (v := .nilFunc) (.inl rfl)
  have st2 := IsFn.store (v := .func (.func K) fs cs) (.inr ⟨_, _, _, rfl⟩)
  clear b4
  go_wp2
  obtain ⟨h5, r0, r1⟩ := H4.out.ret (B := B) (r := X.bx) (fun p hp => hp) (fun p hp => by have := HL.out p hp; have := HB.out; omega) .nilFunc (.func (.func K) fs cs)
  (try simp only [Exit.inBlock, Exit.then])
  refine bodyPost_ret (v := .agg #[.nilFunc, .func (.func K) fs cs]) ?hr rfl ?hx
  case hx => exact ⟨rfl, h5⟩
  case hr =>
    generalize ((w4.setCell ⟨B, 0, none⟩ .nilFunc).setCell ⟨B, 1, none⟩ (.func (.func K) fs cs)) = W5 at r0 r1 ⊢
    simp [results, Tryz.results80, go_sem, r0, r1]
set_option maxHeartbeats 4000000 in
theorem Bo.kleave (h : Bo E S0 w0 W σ n X k) (hn : n ≤ 90000) :
    Calls Tryz.prog 91 #[ptr X.kb] W fun en W' => en = .returned (.agg #[.nilFunc, .func (.func 81) #[ptr X.kb] #[]]) ∧ Bo E S0 w0 W' { σ with i := σ.i - 1 } n X k := by
  have hmf : ∀ (fn : Fn) (first cap : Array Value) (w : World), (Instr.makeFunc fn first cap).run Tryz.prog w = .ok (.func fn first cap) w := fun _ _ _ _ => rfl
  have H1 := Lib.hid h.box
  have HL := Lib.hid (fun p (hp : p ∈ X.bx) => h.blt hp)
  clear h
  go_enter Tryz.func91, Tryz.ntmps91
  go_upto_region 1 with (fail)
  generalize W.alloc (.cells #[.nilFunc, .nilFunc] 103) = w1 at H1 ⊢
  obtain ⟨B, hB⟩ : ∃ B, B = W.heap.size := ⟨_, rfl⟩
  rw [← hB] at H1 ⊢
  have HB := Lib.hid hB
  clear hB
  have c0 := H1.out.k0
  go_wp2_with fail
  clear c0
  refine (H1.out.leave hn).mono ?_
  rintro en w2 ⟨x, rfl, h2⟩
  have H2 := Lib.hid h2
  clear h2 H1
  go_wp2_with fail
  refine (next_fn _ (.inr ⟨_, _, _, rfl⟩) _).mono ?_
  rintro en w4 ⟨rfl, c4⟩
  have H4 := Lib.hid (H2.out.quiet c4)
  clear c4 H2
  have b4 := H4.out.bk (B := B) (vs := [.nilFunc, .nilFunc]) (List.mem_cons_self)
  have x0 := H4.out.b (B := B) (vs := [.nilFunc, .nilFunc]) (List.mem_cons_self) 0 _ rfl
  have x1 := H4.out.b (B := B) (vs := [.nilFunc, .nilFunc]) (List.mem_cons_self) 1 _ rfl
  have fz := b4.fz
  have st0 := IsFn.store (v := .nilFunc) (.inl rfl)
  have st2 := IsFn.store (v := .func (.func 81) #[ptr X.kb] #[]) (.inr ⟨_, _, _, rfl⟩)
  clear b4
  go_wp2
  obtain ⟨h5, r0, r1⟩ := H4.out.ret (B := B) (r := X.bx) (fun p hp => hp) (fun p hp => by have := HL.out p hp; have := HB.out; omega) .nilFunc (.func (.func 81) #[ptr X.kb] #[])
  (try simp only [Exit.inBlock, Exit.then])
  refine bodyPost_ret (v := .agg #[.nilFunc, .func (.func 81) #[ptr X.kb] #[]]) ?hr rfl ?hx
  case hx => exact ⟨rfl, h5⟩
  case hr =>
    generalize ((w4.setCell ⟨B, 0, none⟩ .nilFunc).setCell ⟨B, 1, none⟩ (.func (.func 81) #[ptr X.kb] #[])) = W5 at r0 r1 ⊢
    simp [results, Tryz.results91, go_sem, r0, r1]
set_option maxHeartbeats 4000000 in
theorem Bo.kend (h : Bo E S0 w0 W σ n X k) (hn : n ≤ 90000) :
    Calls Tryz.prog 81 #[ptr X.kb] W fun en W' => en = .returned (.agg #[.nilFunc, .nilFunc]) ∧ Bo E S0 w0 W' σ (n + 1) X k := by
  have H1 := Lib.hid h.box
  have HL := Lib.hid (fun p (hp : p ∈ X.bx) => h.blt hp)
  clear h
  go_enter Tryz.func81, Tryz.ntmps81
  go_upto_region 1 with (fail)
  generalize W.alloc (.cells #[.nilFunc, .nilFunc] 103) = w1 at H1 ⊢
  obtain ⟨B, hB⟩ : ∃ B, B = W.heap.size := ⟨_, rfl⟩
  rw [← hB] at H1 ⊢
  have HB := Lib.hid hB
  clear hB
  have D1 : Ch Nil w1 w1.drew := (Ch.refl _ _).drew
  have H2 := Lib.hid (H1.out.quiet D1)
  refine wp_region_held_drew (S := fun w' => w'.cell? ⟨X.kb, 7, none⟩ = some (.int .i64 (k.a.e : Nat)) ∧ w'.cell? ⟨X.kb, 9, none⟩ = some (.int .u64 (k.a.id : Nat)) ∧ w'.cell? ⟨X.kb, 10, none⟩ = some (.int .u64 (k.a.g : Nat))) (by kernel_rfl) ⟨H2.out.kc 7 _ rfl, H2.out.kc 9 _ rfl, H2.out.kc 10 _ rfl⟩ (fun hHeld => ?_)
  clear D1 H1
  generalize w1.drew = w2 at *
  refine take_at (v := ?_) 0 (some 3) rfl (by kernel_rfl) (by kernel_rfl) (by kernel_rfl) (by kernel_rfl) (fun _ _ _ h => h) (Or.inl ⟨by rfl, ?_⟩) (by assumption) ?_
  rotate_left
  · intro w hSw; (try dsimp only at hSw); go_simp; try (with_reducible rfl)
  (try simp only [Act.put, List.setIfInBounds_toArray, List.set_cons_zero, List.set_cons_succ])
  refine take_at (v := ?_) 1 (some 4) rfl (by kernel_rfl) (by kernel_rfl) (by kernel_rfl) (by kernel_rfl) (fun _ _ _ h => h) (Or.inl ⟨by rfl, ?_⟩) (by assumption) ?_
  rotate_left
  · intro w hSw; (try dsimp only at hSw); go_simp; try (with_reducible rfl)
  (try simp only [Act.put, List.setIfInBounds_toArray, List.set_cons_zero, List.set_cons_succ])
  refine take_at (v := ?_) 2 (some 5) rfl (by kernel_rfl) (by kernel_rfl) (by kernel_rfl) (by kernel_rfl) (fun _ _ _ h => h) (Or.inl ⟨by rfl, ?_⟩) (by assumption) ?_
  rotate_left
  · intro w hSw; (try dsimp only at hSw); go_simp; try (with_reducible rfl)
  (try simp only [Act.put, List.setIfInBounds_toArray, List.set_cons_zero, List.set_cons_succ])
  refine take_at (v := ?_) 3 (some 6) rfl (by kernel_rfl) (by kernel_rfl) (by kernel_rfl) (by kernel_rfl) (fun _ _ _ h => h) (Or.inl ⟨by rfl, ?_⟩) (by assumption) ?_
  rotate_left
  · intro w hSw; (try dsimp only at hSw); go_simp; try (with_reducible rfl)
  (try simp only [Act.put, List.setIfInBounds_toArray, List.set_cons_zero, List.set_cons_succ])
  refine take_at (v := ?_) 4 (some 7) rfl (by kernel_rfl) (by kernel_rfl) (by kernel_rfl) (by kernel_rfl) (fun _ _ _ h => h) (Or.inl ⟨by rfl, ?_⟩) (by assumption) ?_
  rotate_left
  · intro w hSw; (try dsimp only at hSw); go_simp; try (with_reducible rfl)
  (try simp only [Act.put, List.setIfInBounds_toArray, List.set_cons_zero, List.set_cons_succ])
  refine take_at (v := ?_) 5 (some 8) rfl (by kernel_rfl) (by kernel_rfl) (by kernel_rfl) (by kernel_rfl) (fun _ _ _ h => h) (Or.inl ⟨by rfl, ?_⟩) (by assumption) ?_
  rotate_left
  · intro w hSw; (try dsimp only at hSw); go_simp; try (with_reducible rfl)
  (try simp only [Act.put, List.setIfInBounds_toArray, List.set_cons_zero, List.set_cons_succ])
  refine take_at (v := ?_) 6 (some 9) rfl (by kernel_rfl) (by kernel_rfl) (by kernel_rfl) (by kernel_rfl) (fun _ _ _ h => h) (Or.inl ⟨by rfl, ?_⟩) (by assumption) ?_
  rotate_left
  · intro w hSw; (try dsimp only at hSw); go_simp; try (with_reducible rfl)
  (try simp only [Act.put, List.setIfInBounds_toArray, List.set_cons_zero, List.set_cons_succ])
  refine take_at (v := ?_) 7 (some 10) rfl (by kernel_rfl) (by kernel_rfl) (by kernel_rfl) (by kernel_rfl) (fun _ _ _ h => h) (Or.inl ⟨by rfl, ?_⟩) (by assumption) ?_
  rotate_left
  · intro w hSw; (try dsimp only at hSw); go_simp; try (with_reducible rfl)
  (try simp only [Act.put, List.setIfInBounds_toArray, List.set_cons_zero, List.set_cons_succ])
  refine take_at (v := ?_) 8 (some 11) rfl (by kernel_rfl) (by kernel_rfl) (by kernel_rfl) (by kernel_rfl) (fun _ _ _ h => h) (Or.inl ⟨by rfl, ?_⟩) (by assumption) ?_
  rotate_left
  · intro w hSw; (try dsimp only at hSw); go_simp; try (with_reducible rfl)
  (try simp only [Act.put, List.setIfInBounds_toArray, List.set_cons_zero, List.set_cons_succ])
  refine take_at (v := ?_) 9 (some 12) rfl (by kernel_rfl) (by kernel_rfl) (by kernel_rfl) (by kernel_rfl) (fun _ _ _ h => h) (Or.inl ⟨by rfl, ?_⟩) (by assumption) ?_
  rotate_left
  · intro w hSw; (try dsimp only at hSw); go_simp; try (with_reducible rfl)
  (try simp only [Act.put, List.setIfInBounds_toArray, List.set_cons_zero, List.set_cons_succ])
  refine take_at (v := ?_) 10 (some 13) rfl (by kernel_rfl) (by kernel_rfl) (by kernel_rfl) (by kernel_rfl) (fun _ _ _ h => h) (Or.inl ⟨by rfl, ?_⟩) (by assumption) ?_
  rotate_left
  · intro w hSw; (try dsimp only at hSw); go_simp; try (with_reducible rfl)
  (try simp only [Act.put, List.setIfInBounds_toArray, List.set_cons_zero, List.set_cons_succ])
  refine take_at (v := ?_) 11 (some 14) rfl (by kernel_rfl) (by kernel_rfl) (by kernel_rfl) (by kernel_rfl) (fun _ _ _ h => h) (Or.inl ⟨by rfl, ?_⟩) (by assumption) ?_
  rotate_left
  · intro w hSw; (try dsimp only at hSw); go_simp; try (with_reducible rfl)
  (try simp only [Act.put, List.setIfInBounds_toArray, List.set_cons_zero, List.set_cons_succ])
  refine take_at (v := ?_) 12 (some 15) rfl (by kernel_rfl) (by kernel_rfl) (by kernel_rfl) (by kernel_rfl) (fun _ _ _ h => h) (Or.inl ⟨by rfl, ?_⟩) (by assumption) ?_
  rotate_left
  · intro w hSw; (try dsimp only at hSw); go_simp; try (with_reducible rfl)
  (try simp only [Act.put, List.setIfInBounds_toArray, List.set_cons_zero, List.set_cons_succ])
  refine take_at (v := ?_) 13 (some 16) rfl (by kernel_rfl) (by kernel_rfl) (by kernel_rfl) (by kernel_rfl) (fun _ _ _ h => h) (Or.inl ⟨by rfl, ?_⟩) (by assumption) ?_
  rotate_left
  · intro w hSw; (try dsimp only at hSw); go_simp; try (with_reducible rfl)
  (try simp only [Act.put, List.setIfInBounds_toArray, List.set_cons_zero, List.set_cons_succ])
  refine take_at (v := ?_) 14 (some 17) rfl (by kernel_rfl) (by kernel_rfl) (by kernel_rfl) (by kernel_rfl) (fun _ _ _ h => h) (Or.inl ⟨by rfl, ?_⟩) (by assumption) ?_
  rotate_left
  · intro w hSw; (try dsimp only at hSw); go_simp; try (with_reducible rfl)
  (try simp only [Act.put, List.setIfInBounds_toArray, List.set_cons_zero, List.set_cons_succ])
  refine take_at (v := ?_) 15 (some 18) rfl (by kernel_rfl) (by kernel_rfl) (by kernel_rfl) (by kernel_rfl) (fun _ _ _ h => h) (Or.inl ⟨by rfl, ?_⟩) (by assumption) ?_
  rotate_left
  · intro w hSw; (try dsimp only at hSw); go_simp; try (with_reducible rfl)
  (try simp only [Act.put, List.setIfInBounds_toArray, List.set_cons_zero, List.set_cons_succ])
  refine take_at (v := ?_) 16 (some 19) rfl (by kernel_rfl) (by kernel_rfl) (by kernel_rfl) (by kernel_rfl) (fun _ _ _ h => h) (Or.inl ⟨by rfl, ?_⟩) (by assumption) ?_
  rotate_left
  · intro w hSw; (try dsimp only at hSw); go_simp; try (with_reducible rfl)
  (try simp only [Act.put, List.setIfInBounds_toArray, List.set_cons_zero, List.set_cons_succ])
  refine wpAnyH_ready (rs := [17]) (by kernel_rfl) (by simp) ?_
  refine AllReadyH.cons rfl (fun K hK => ?_) AllReadyH.nil
  go_simp
  refine (H2.out.knote hn ⟨2, 0, 0, 0, (k.a.id : Nat), (k.a.g : Nat), 0, 0, 0, (k.a.e : Nat)⟩).mono ?_
  rintro e w3 ⟨rfl, h3⟩
  have H3 := Lib.hid h3
  refine hK.out _ _ ⟨h3.kc 7 _ rfl, h3.kc 9 _ rfl, h3.kc 10 _ rfl⟩ (fun hHeld2 => ?_)
  clear hK K hHeld
  have hHeld := hHeld2
  clear hHeld2
  (try simp only [Act.put, List.setIfInBounds_toArray, List.set_cons_zero, List.set_cons_succ])
  refine wpAnyH_done (by kernel_rfl) ?_ _
  clear h3 hHeld
  have b4 := H3.out.bk (B := B) (vs := [.nilFunc, .nilFunc]) (List.mem_cons_self)
  have x0 := H3.out.b (B := B) (vs := [.nilFunc, .nilFunc]) (List.mem_cons_self) 0 _ rfl
  have x1 := H3.out.b (B := B) (vs := [.nilFunc, .nilFunc]) (List.mem_cons_self) 1 _ rfl
  have fz := b4.fz
  have st0 := IsFn.store (v := .nilFunc) (.inl rfl)
  clear b4
  go_wp2
  obtain ⟨h5, r0, r1⟩ := H3.out.ret (B := B) (r := X.bx) (fun p hp => hp) (fun p hp => by have := HL.out p hp; have := HB.out; omega) .nilFunc (.nilFunc)
  (try simp only [Exit.inBlock, Exit.then])
  refine bodyPost_ret (v := .agg #[.nilFunc, .nilFunc]) ?hr rfl ?hx
  case hx => exact ⟨rfl, h5⟩
  case hr =>
    generalize ((w3.setCell ⟨B, 0, none⟩ .nilFunc).setCell ⟨B, 1, none⟩ (.nilFunc)) = W5 at r0 r1 ⊢
    simp [results, Tryz.results81, go_sem, r0, r1]
set_option maxHeartbeats 4000000 in
theorem Bo.happen (h : Bo E S0 w0 W σ n X k) (s : Nat) (hs : s < E.N.n) (ev : Int) :
    Calls Tryz.prog 131 #[ptr X.kb, .int .i64 (s : Nat), .int .i64 ev] W fun en W' => en = .returned (.int .u64 (hapW σ.R s ev : Nat)) ∧ Bo E S0 w0 W' { σ with R := hapR σ.R s ev } n X k := by
  have H1 := Lib.hid h
  clear h
  go_enter Tryz.func131, Tryz.ntmps131
  have c0 := H1.out.k0
  go_wp2_with fail
  clear c0
  refine (H1.out.slabOf).mono ?_
  rintro en w2 ⟨rfl, h2⟩
  have H2 := Lib.hid h2
  clear h2 H1
  go_wp2_with fail
  refine (H2.out.word s hs).mono ?_
  rintro en w3 ⟨rfl, h3⟩
  have H3 := Lib.hid h3
  have c0 := h3.k0
  obtain ⟨v, hv⟩ : ∃ v, v = (σ.R s).wd := ⟨_, rfl⟩
  rw [← hv]
  have HV := Lib.hid hv
  clear h3 H2 hv
  go_wp2_with fail
  clear c0
  refine (H3.out.slabOf).mono ?_
  rintro en w4 ⟨rfl, h4⟩
  have H4 := Lib.hid h4
  clear h4 H3
  go_wp2_with fail
  refine (H4.out.hap s hs v (Lib.hid HV.out) ev).mono ?_
  rintro en w5 ⟨q, rfl, h5⟩
  have H5 := Lib.hid h5
  clear h5 H4
  go_wp2
  go_ret
  exact ⟨rfl, H5.out⟩
end
end Go.Proofs.YtnbdafmjcmmfpaaGreat

/-
  What a work's next step is as a function's value; what is asked of a stage's function; the makers of closures.
-/
namespace Go.Proofs.YtnbdafmjcmmfpaaGreat
open Go.RowKit Verge
attribute [local go_sem] Oper.semAt_some
set_option linter.unusedVariables false
set_option linter.unusedSimpArgs false
/-- the step that comes next, as a value -/
def DoV (sg : Sg) (X : Mx) (d : Value) : Prop :=
  match sg with
  | .aBegin => d = .func (.func 60) #[ptr X.ab] #[] ∧ X.t = none
  | .aCheck => d = .func (.func 61) #[ptr X.ab] #[] ∧ X.t = none
  | .aEnter => d = .func (.func 78) #[ptr X.ab] #[] ∧ X.t = none
  | .aAsk => d = .func (.func 88) #[ptr X.ab] #[] ∧ X.t = none
  | .aTake => d = .func (.func 98) #[ptr X.ab] #[] ∧ X.t = none ∧ ∃ b, X.q = some b
  | .aWait => d = .func (.func 137) #[ptr X.ab] #[] ∧ ∃ b, X.t = some b
  | .aGive => d = .func (.func 150) #[ptr X.ab] #[]
  | .aDrop => d = .func (.func 159) #[ptr X.ab] #[]
  | .aSubmit => d = .func (.func 151) #[ptr X.ab] #[] ∧ ∃ b, X.t = some b
  | .aFill g => ∃ b1 b2, d = .func (.func 165) #[] #[ptr b1, ptr b2] ∧ (b1, [ptr X.ab]) ∈ X.bx ∧ (b2, [.int .u64 (g : Nat)]) ∈ X.bx ∧ ∃ b, X.t = some b
  | .rEnter => d = .func (.func 62) #[ptr X.ab] #[]
  | .rBegin => d = .func (.func 83) #[ptr X.ab] #[]
  | .rFind => d = .func (.func 92) #[ptr X.ab] #[]
  | .rWait => d = .func (.func 104) #[ptr X.ab] #[] ∧ ∃ b, X.t = some b
  | .rAgain => d = .func (.func 119) #[ptr X.ab] #[] ∧ ∃ b, X.t = some b
  | .rChange s v => ∃ b1 b2, d = .func (.func 153) #[] #[ptr b1, ptr b2] ∧ (b1, [ptr X.ab]) ∈ X.bx ∧ (b2, [.int .i64 (s : Nat), .int .u64 (v : Nat)]) ∈ X.bx ∧ ∃ b, X.t = some b
  | .rFill s g => ∃ b1 b2 b3, d = .func (.func 163) #[] #[ptr b1, ptr b2, ptr b3] ∧ (b1, [ptr X.ab]) ∈ X.bx ∧ (b2, [.int .i64 (s : Nat)]) ∈ X.bx ∧ (b3, [.int .u64 (g : Nat)]) ∈ X.bx ∧ ∃ b, X.t = some b
  | .rNone => d = .func (.func 143) #[ptr X.ab] #[] ∧ ∃ b, X.t = some b
  | .eBegin => d = .func (.func 63) #[ptr X.ab] #[]
  | .eFind => d = .func (.func 85) #[ptr X.ab] #[]
  | .eStrike s v => ∃ b1 b2, d = .func (.func 109) #[] #[ptr b1, ptr b2] ∧ (b1, [ptr X.ab]) ∈ X.bx ∧ (b2, [.int .i64 (s : Nat), .int .u64 (v : Nat)]) ∈ X.bx
  | .eRelease s => ∃ b1 b2, d = .func (.func 130) #[] #[ptr b1, ptr b2] ∧ (b1, [ptr X.ab]) ∈ X.bx ∧ (b2, [.int .i64 (s : Nat)]) ∈ X.bx
  | .eDrop => d = .func (.func 132) #[ptr X.ab] #[]
  | .leave => d = .func (.func 91) #[ptr X.kb] #[]
  | .fin => d = .func (.func 81) #[ptr X.kb] #[]
  | .over => d = .nilFunc
/-- the same work, at its places -/
structure Sm (X X' : Mx) : Prop where
  kb : X'.kb = X.kb
  ab : X'.ab = X.ab
  pb : X'.pb = X.pb
  th : X'.th = X.th
  no : X'.no = X.no
  pd : X'.pd = X.pd
  st : X'.st = X.st
/-- what a stage's function leaves -/
def Res (E : Ee) (S0 : Nat → Prop) (w0 : World) (X : Mx) (n : Nat) (p : Wd × Wk) (e : Ending) (W' : World) : Prop :=
  ∃ d X', e = .returned (.agg #[.nilFunc, d]) ∧ Bo E S0 w0 W' p.1 n X' p.2 ∧ DoV p.2.sg X' d ∧ Sm X X'
section
variable {E : Ee} {S S0 : Nat → Prop} {w0 W W' : World} {σ σ' : Wd} {n n' : Nat} {X X' : Mx} {k k' : Wk} {B : Nat} {r : List (Nat × List Value)}
theorem Sm.refl (X : Mx) : Sm X X := ⟨rfl, rfl, rfl, rfl, rfl, rfl, rfl⟩
theorem Bo.pushs (h : Bo E S0 w0 W σ n X k) (c : Ch Nil W W') (l : List (Nat × List Value)) (hl : ∀ p ∈ l, W.heap.size ≤ p.1 ∧ IsVs W' p.1 p.2) : Bo E S0 w0 W' σ n { X with bx := l ++ X.bx } k := by
  have kw := (h.quiet c).kw
  have lt : ∀ {j b}, own X j → W.heap.size ≤ b → j < b := fun {j b} hj hb => by have := h.kw.lt hj; omega
  refine h.work c (fun _ e => e.elim) ⟨kw.kc, kw.ac, kw.pc, kw.qc, kw.tc, ?_, kw.o1, kw.o2, kw.oq, kw.ot, ?_⟩ (fun j hj => ?_)
  · intro p hp
    rcases List.mem_append.1 hp with hp | hp
    · exact (hl p hp).2
    · exact kw.bc p hp
  · intro p hp
    rcases List.mem_append.1 hp with hp | hp
    · have hb := (hl p hp).1
      exact ⟨lt (.inr (.inr (.inl rfl))) hb, fun b e => Nat.ne_of_lt (lt (.inr (.inr (.inr (.inl e)))) hb), fun b e => Nat.ne_of_lt (lt (.inr (.inr (.inr (.inr (.inl e))))) hb)⟩
    · exact kw.ob p hp
  · rcases hj with e | e | e | e | e | ⟨p, hp, e⟩
    · exact .inl (.inl e)
    · exact .inl (.inr (.inl e))
    · exact .inl (.inr (.inr (.inl e)))
    · exact .inl (.inr (.inr (.inr (.inl e))))
    · exact .inl (.inr (.inr (.inr (.inr (.inl e)))))
    · rcases List.mem_append.1 hp with hp | hp
      · exact .inr (by rw [← e]; exact (hl p hp).1)
      · exact .inl (.inr (.inr (.inr (.inr (.inr ⟨p, hp, e⟩)))))
theorem Bo.ac (h : Bo E S0 w0 W σ n X k) (i : Nat) (v : Value) (hv : (rvV X k)[i]? = some v) : W.cell? ⟨X.ab, i, none⟩ = some v := h.kw.ac.c i v hv
theorem Bo.a0 (h : Bo E S0 w0 W σ n X k) : W.cell? ⟨X.ab, 0, none⟩ = some (ptr X.kb) := h.ac 0 _ (by unfold rvV; split; rfl; split <;> rfl)
theorem rvV_a (hk : k.kd ≤ 2) : rvV X k = [ptr X.kb, .int .u64 (k.per : Nat), pt X.q, pt X.t, .int .u64 (k.aid : Nat), .int .i64 (k.asl : Nat)] := if_pos hk
theorem rvV_r (hk : k.kd = 3) : rvV X k = [ptr X.kb, pt X.t] := by unfold rvV; rw [if_neg (by omega), if_pos hk]
theorem rvV_e (hk : 4 ≤ k.kd) : rvV X k = [ptr X.kb, .int .i64 k.ev, .int .i64 (k.ev + 1)] := by unfold rvV; rw [if_neg (by omega), if_neg (by omega)]
theorem Bo.a1 (h : Bo E S0 w0 W σ n X k) (hk : k.kd ≤ 2) : W.cell? ⟨X.ab, 1, none⟩ = some (.int .u64 (k.per : Nat)) := h.ac 1 _ (by rw [rvV_a hk]; rfl)
theorem Bo.a2 (h : Bo E S0 w0 W σ n X k) (hk : k.kd ≤ 2) : W.cell? ⟨X.ab, 2, none⟩ = some (pt X.q) := h.ac 2 _ (by rw [rvV_a hk]; rfl)
theorem Bo.a3 (h : Bo E S0 w0 W σ n X k) (hk : k.kd ≤ 2) : W.cell? ⟨X.ab, 3, none⟩ = some (pt X.t) := h.ac 3 _ (by rw [rvV_a hk]; rfl)
theorem Bo.a4 (h : Bo E S0 w0 W σ n X k) (hk : k.kd ≤ 2) : W.cell? ⟨X.ab, 4, none⟩ = some (.int .u64 (k.aid : Nat)) := h.ac 4 _ (by rw [rvV_a hk]; rfl)
theorem Bo.a5 (h : Bo E S0 w0 W σ n X k) (hk : k.kd ≤ 2) : W.cell? ⟨X.ab, 5, none⟩ = some (.int .i64 (k.asl : Nat)) := h.ac 5 _ (by rw [rvV_a hk]; rfl)
theorem Bo.r1 (h : Bo E S0 w0 W σ n X k) (hk : k.kd = 3) : W.cell? ⟨X.ab, 1, none⟩ = some (pt X.t) := h.ac 1 _ (by rw [rvV_r hk]; rfl)
theorem Bo.e1 (h : Bo E S0 w0 W σ n X k) (hk : 4 ≤ k.kd) : W.cell? ⟨X.ab, 1, none⟩ = some (.int .i64 k.ev) := h.ac 1 _ (by rw [rvV_e hk]; rfl)
theorem Bo.e2 (h : Bo E S0 w0 W σ n X k) (hk : 4 ≤ k.kd) : W.cell? ⟨X.ab, 2, none⟩ = some (.int .i64 (k.ev + 1)) := h.ac 2 _ (by rw [rvV_e hk]; rfl)
theorem Bo.az (h : Bo E S0 w0 W σ n X k) (i : Nat) : W.frozen? ⟨X.ab, i, none⟩ = false := h.kw.ac.b.fz i
theorem Bo.bz (h : Bo E S0 w0 W σ n X k) {vs : List Value} (hm : (B, vs) ∈ X.bx) (i : Nat) : W.frozen? ⟨B, i, none⟩ = false := (h.kw.bc _ hm).b.fz i
end
section
variable {E : Ee} {S S0 : Nat → Prop} {w0 W W' : World} {σ σ' : Wd} {n n' : Nat} {X X' : Mx} {k k' : Wk} {B : Nat} {r : List (Nat × List Value)}
/-- a cell of a kind's block is set, maybe to a block that is new -/
theorem Bo.linked (h : Bo E S0 w0 W σ n X k) (c : Ch Nil W W') (i : Nat) (v : Value) (hv : rvV X' k' = (rvV X k).set i v) (hw : wkV E X' k' = wkV E X k) (sm : Sm X X') (hb : X'.bx = X.bx)
    (hq : ∀ b, X'.q = some b → (IsQ W' b E.F.sb k'.q ∧ X.ab ≠ b ∧ X.pb < b ∧ (∀ p ∈ X.bx, b ≠ p.1) ∧ (own X b ∨ W.heap.size ≤ b)))
    (ht : ∀ b, X'.t = some b → (RT.IsT W' b (E.rg (k'.h E.N)) k'.t.st k'.t.su k'.t.pos k'.t.fl ∧ X.ab ≠ b ∧ X.pb < b ∧ (∀ p ∈ X.bx, b ≠ p.1) ∧ (own X b ∨ W.heap.size ≤ b) ∧ ∀ c, X'.q = some c → c ≠ b)) :
    Bo E S0 w0 (W'.setCell ⟨X.ab, i, none⟩ v) σ n X' k' := by
  have c1 : Ch (One X.ab) W' (W'.setCell ⟨X.ab, i, none⟩ v) := (Ch.refl _ _).setB _ _
  have c2 : Ch (One X.ab) W (W'.setCell ⟨X.ab, i, none⟩ v) := (c.mono fun _ _ e => e.elim).trans c1
  have kw := (h.quiet c).kw
  have o1 := kw.o1
  have o2 := kw.o2
  have hne : ∀ {j}, X.ab ≠ j → ¬ One X.ab j := fun {j} l e => by have e' : j = X.ab := e; omega
  refine h.work c2 (fun j e => .inr (by rw [show j = X.ab from e]; exact .inr (.inl rfl))) ⟨?_, ?_, ?_, fun b hb' => (hq b hb').1.kept c1 (hne (hq b hb').2.1), fun b hb' => (ht b hb').1.kept c1 (hne (ht b hb').2.1), ?_, ?_, ?_, ?_, ?_, ?_⟩ (fun j hj => ?_)
  · rw [sm.kb, hw]; exact kw.kc.kept c1 (hne (by omega))
  · rw [sm.ab, hv]; exact kw.ac.setAt i v
  · rw [sm.pb, sm.pd, sm.st]; exact kw.pc.kept c1 (hne (by omega))
  · rw [hb]; exact fun p hp => (kw.bc p hp).kept c1 (hne (by have := kw.ob p hp; omega))
  · rw [sm.kb, sm.ab]; exact kw.o1
  · rw [sm.ab, sm.pb]; exact kw.o2
  · intro b hb'; rw [sm.pb]; exact (hq b hb').2.2.1
  · intro b hb'; rw [sm.pb]; exact ⟨(ht b hb').2.2.1, (ht b hb').2.2.2.2.2⟩
  · intro p hp
    rw [hb] at hp
    rw [sm.pb]
    exact ⟨(kw.ob p hp).1, fun c hc => (hq c hc).2.2.2.1 p hp, fun c hc => (ht c hc).2.2.2.1 p hp⟩
  · rcases hj with e | e | e | e | e | ⟨p, hp, e⟩
    · exact .inl (.inl (by rw [← sm.kb]; exact e))
    · exact .inl (.inr (.inl (by rw [← sm.ab]; exact e)))
    · exact .inl (.inr (.inr (.inl (by rw [← sm.pb]; exact e))))
    · exact (hq j e).2.2.2.2
    · exact (ht j e).2.2.2.2.1
    · rw [hb] at hp
      exact .inl (.inr (.inr (.inr (.inr (.inr ⟨p, hp, e⟩)))))
/-- what is asked of the request that is there already -/
theorem Bo.oldQ (h : Bo E S0 w0 W σ n X k) (c : Ch Nil W W') : ∀ b, X.q = some b → (IsQ W' b E.F.sb k.q ∧ X.ab ≠ b ∧ X.pb < b ∧ (∀ p ∈ X.bx, b ≠ p.1) ∧ (own X b ∨ W.heap.size ≤ b)) := fun b hb => by
  have kw := (h.quiet c).kw
  have := kw.oq b hb
  have := kw.o2
  exact ⟨kw.qc b hb, by omega, by omega, fun p hp => (kw.ob p hp).2.1 b hb, .inl (.inr (.inr (.inr (.inl hb))))⟩
theorem Bo.newB (h : Bo E S0 w0 W σ n X k) {b : Nat} (hb : W.heap.size ≤ b) : X.ab ≠ b ∧ X.pb < b ∧ (∀ p ∈ X.bx, b ≠ p.1) ∧ (own X b ∨ W.heap.size ≤ b) := by
  have h1 := h.kw.lt (j := X.ab) (.inr (.inl rfl))
  have h2 := h.kw.lt (j := X.pb) (.inr (.inr (.inl rfl)))
  exact ⟨by omega, by omega, fun p hp => by have := h.blt hp; omega, .inr hb⟩
theorem Bo.setAid (h : Bo E S0 w0 W σ n X k) (hk : k.kd ≤ 2) (hx : X.t = none) (id : Nat) : Bo E S0 w0 (W.setCell ⟨X.ab, 4, none⟩ (.int .u64 (id : Nat))) σ n X { k with aid := id } :=
  h.linked (k' := { k with aid := id }) (Ch.refl _ _) 4 _ (by rw [rvV_a hk, rvV_a (k := { k with aid := id }) hk]; rfl) rfl (Sm.refl X) rfl (h.oldQ (Ch.refl _ _)) (fun b hb => by rw [hx] at hb; cases hb)
theorem Bo.setAsl (h : Bo E S0 w0 W σ n X k) (hk : k.kd ≤ 2) (hx : X.t = none) (s : Nat) : Bo E S0 w0 (W.setCell ⟨X.ab, 5, none⟩ (.int .i64 (s : Nat))) σ n X { k with asl := s } :=
  h.linked (k' := { k with asl := s }) (Ch.refl _ _) 5 _ (by rw [rvV_a hk, rvV_a (k := { k with asl := s }) hk]; rfl) rfl (Sm.refl X) rfl (h.oldQ (Ch.refl _ _)) (fun b hb => by rw [hx] at hb; cases hb)
/-- a request begins, and is the work's -/
theorem Bo.qlink (h : Bo E S0 w0 W σ n X k) (hk : k.kd ≤ 2) (hx : X.t = none) (pd : Nat) :
    Calls Tryz.prog 97 #[ptr E.F.sb, .int .u64 (pd : Nat)] W fun e W' => ∃ q, e = .returned (ptr q) ∧ Bo E S0 w0 W' σ n X k ∧ Bo E S0 w0 (W'.setCell ⟨X.ab, 2, none⟩ (ptr q)) σ n { X with q := some q } { k with q := ⟨pd, 0, 0, 0, 0, 0⟩ } := by
  refine (h.qbegin pd).mono ?_
  rintro e w' ⟨q, rfl, hq, h1, h2, c⟩
  refine ⟨q, rfl, h2, h.linked (X' := { X with q := some q }) (k' := { k with q := ⟨pd, 0, 0, 0, 0, 0⟩ }) c 2 _ (by rw [rvV_a hk, rvV_a (k := { k with q := ⟨pd, 0, 0, 0, 0, 0⟩ }) hk]; rfl) rfl ⟨rfl, rfl, rfl, rfl, rfl, rfl, rfl⟩ rfl (fun b hb => ?_) (fun b hb => by rw [show ({ X with q := some q } : Mx).t = X.t from rfl, hx] at hb; cases hb)⟩
  obtain rfl : q = b := Option.some.inj hb
  exact ⟨h1, h.newB hq⟩
/-- a ticket begins, and is the work's: of a Schedule, of a Reset -/
theorem Bo.tlinkA (h : Bo E S0 w0 W σ n X k) (hk : k.kd ≤ 2) :
    Calls Tryz.prog 103 #[ptr (E.F.sh (k.h E.N))] W fun e W' => ∃ t, e = .returned (ptr t) ∧ Bo E S0 w0 W' σ n X k ∧ Bo E S0 w0 (W'.setCell ⟨X.ab, 3, none⟩ (ptr t)) σ n { X with t := some t } { k with t := t0 } := by
  refine (h.tbegin (Nat.mod_lt _ h.ly.m0)).mono ?_
  rintro e w' ⟨t, rfl, ht, h1, h2, c⟩
  refine ⟨t, rfl, h2, h.linked (X' := { X with t := some t }) (k' := { k with t := t0 }) c 3 _ (by rw [rvV_a hk, rvV_a (k := { k with t := t0 }) hk]; rfl) rfl ⟨rfl, rfl, rfl, rfl, rfl, rfl, rfl⟩ rfl (h.oldQ c) (fun b hb => ?_)⟩
  obtain rfl : t = b := Option.some.inj hb
  obtain ⟨n1, n2, n3, n4⟩ := h.newB ht
  exact ⟨h1, n1, n2, n3, n4, fun c hc => by have := h.kw.lt (j := c) (.inr (.inr (.inr (.inl hc)))); omega⟩
theorem Bo.tlinkR (h : Bo E S0 w0 W σ n X k) (hk : k.kd = 3) (s : Nat) :
    Calls Tryz.prog 103 #[ptr (E.F.sh (s % E.N.m))] W fun e W' => ∃ t, e = .returned (ptr t) ∧ Bo E S0 w0 W' σ n X k ∧ Bo E S0 w0 (W'.setCell ⟨X.ab, 1, none⟩ (ptr t)) σ n { X with t := some t } { k with asl := s, t := t0 } := by
  refine (h.tbegin (Nat.mod_lt _ h.ly.m0)).mono ?_
  rintro e w' ⟨t, rfl, ht, h1, h2, c⟩
  refine ⟨t, rfl, h2, h.linked (X' := { X with t := some t }) (k' := { k with asl := s, t := t0 }) c 1 _ (by rw [rvV_r hk, rvV_r (k := { k with asl := s, t := t0 }) hk]; rfl) rfl ⟨rfl, rfl, rfl, rfl, rfl, rfl, rfl⟩ rfl (h.oldQ c) (fun b hb => ?_)⟩
  obtain rfl : t = b := Option.some.inj hb
  obtain ⟨n1, n2, n3, n4⟩ := h.newB ht
  exact ⟨h1, n1, n2, n3, n4, fun c hc => by have := h.kw.lt (j := c) (.inr (.inr (.inr (.inl hc)))); omega⟩
end
theorem en_a_begin : Enters 60 := enters_of Tryz.func60 (by kernel_rfl) rfl
theorem en_a_check : Enters 61 := enters_of Tryz.func61 (by kernel_rfl) rfl
theorem en_a_enter : Enters 78 := enters_of Tryz.func78 (by kernel_rfl) rfl
theorem en_a_ask : Enters 88 := enters_of Tryz.func88 (by kernel_rfl) rfl
theorem en_a_take : Enters 98 := enters_of Tryz.func98 (by kernel_rfl) rfl
theorem en_a_wait : Enters 137 := enters_of Tryz.func137 (by kernel_rfl) rfl
theorem en_a_giveBack : Enters 150 := enters_of Tryz.func150 (by kernel_rfl) rfl
theorem en_a_drop : Enters 159 := enters_of Tryz.func159 (by kernel_rfl) rfl
theorem en_a_submit : Enters 151 := enters_of Tryz.func151 (by kernel_rfl) rfl
theorem en_a_fill1 : Enters 165 := enters_of Tryz.func165 (by kernel_rfl) rfl
theorem en_r_enter : Enters 62 := enters_of Tryz.func62 (by kernel_rfl) rfl
theorem en_r_begin : Enters 83 := enters_of Tryz.func83 (by kernel_rfl) rfl
theorem en_r_find : Enters 92 := enters_of Tryz.func92 (by kernel_rfl) rfl
theorem en_r_wait : Enters 104 := enters_of Tryz.func104 (by kernel_rfl) rfl
theorem en_r_findAgain : Enters 119 := enters_of Tryz.func119 (by kernel_rfl) rfl
theorem en_r_change1 : Enters 153 := enters_of Tryz.func153 (by kernel_rfl) rfl
theorem en_r_fill1 : Enters 163 := enters_of Tryz.func163 (by kernel_rfl) rfl
theorem en_r_fillWithNothing : Enters 143 := enters_of Tryz.func143 (by kernel_rfl) rfl
theorem en_e_begin : Enters 63 := enters_of Tryz.func63 (by kernel_rfl) rfl
theorem en_e_find : Enters 85 := enters_of Tryz.func85 (by kernel_rfl) rfl
theorem en_e_strike1 : Enters 109 := enters_of Tryz.func109 (by kernel_rfl) rfl
theorem en_e_release1 : Enters 130 := enters_of Tryz.func130 (by kernel_rfl) rfl
theorem en_e_drop : Enters 132 := enters_of Tryz.func132 (by kernel_rfl) rfl
theorem en_k_leave : Enters 91 := enters_of Tryz.func91 (by kernel_rfl) rfl
theorem en_k_end : Enters 81 := enters_of Tryz.func81 (by kernel_rfl) rfl
theorem en_e_find1 : Enters 95 := enters_of Tryz.func95 (by kernel_rfl) rfl
theorem en_r_find1 : Enters 101 := enters_of Tryz.func101 (by kernel_rfl) rfl
theorem en_r_findAgain1 : Enters 141 := enters_of Tryz.func141 (by kernel_rfl) rfl
theorem ge2 {m b2 b3 : Nat} {x y : List Value} (h1 : m ≤ b2) (h2 : m ≤ b3) : ∀ p ∈ [(b2, x), (b3, y)], m ≤ p.1 := fun p hp => by
  rcases List.mem_cons.1 hp with rfl | hp
  · exact h1
  · rcases List.mem_cons.1 hp with rfl | hp
    · exact h2
    · cases hp
theorem mk_func : ∀ (fn : Fn) (first cap : Array Value) (w : World), (Instr.makeFunc fn first cap).run Tryz.prog w = .ok (.func fn first cap) w := fun _ _ _ _ => rfl
/-- two blocks, laid one behind the other -/
theorem boxes2 (w : World) (v1 v2 : List Value) (T1 T2 : TypeId) : ∀ W, W = (w.alloc (.cells v1.toArray T1)).alloc (.cells v2.toArray T2) → IsVs W w.heap.size v1 ∧ IsVs W (w.heap.size + 1) v2 ∧ Ch Nil w W := by
  rintro W rfl
  have e : (w.alloc (.cells v1.toArray T1)).heap.size = w.heap.size + 1 := by simp
  refine ⟨(IsVs.new w v1 T1).kept (S := Nil) ((Ch.refl _ _).alloc _) (fun e => e), ?_, ((Ch.refl _ _).alloc _).alloc _⟩
  rw [← e]; exact IsVs.new _ v2 T2
theorem strike_any (A : Nat) (s v : Nat) (w : World) :
    Calls Tryz.prog 96 #[ptr A, .agg #[.int .i64 (s : Nat), .int .u64 (v : Nat)]] w fun e w' => e = .returned (.func (.func 109) #[] #[ptr w.heap.size, ptr (w.heap.size + 1)]) ∧ IsVs w' w.heap.size [ptr A] ∧ IsVs w' (w.heap.size + 1) [.int .i64 (s : Nat), .int .u64 (v : Nat)] ∧ Ch Nil w w' := by
  have hmf := mk_func
  go_enter Tryz.func96, Tryz.ntmps96
  go_wp2
  go_ret
  exact ⟨rfl, boxes2 w [ptr A] [.int .i64 (s : Nat), .int .u64 (v : Nat)] _ _ _ rfl⟩
theorem change_any (A : Nat) (s v : Nat) (w : World) :
    Calls Tryz.prog 142 #[ptr A, .agg #[.int .i64 (s : Nat), .int .u64 (v : Nat)]] w fun e w' => e = .returned (.func (.func 153) #[] #[ptr w.heap.size, ptr (w.heap.size + 1)]) ∧ IsVs w' w.heap.size [ptr A] ∧ IsVs w' (w.heap.size + 1) [.int .i64 (s : Nat), .int .u64 (v : Nat)] ∧ Ch Nil w w' := by
  have hmf := mk_func
  go_enter Tryz.func142, Tryz.ntmps142
  go_wp2
  go_ret
  exact ⟨rfl, boxes2 w [ptr A] [.int .i64 (s : Nat), .int .u64 (v : Nat)] _ _ _ rfl⟩
theorem release_any (A : Nat) (s : Nat) (w : World) :
    Calls Tryz.prog 111 #[ptr A, .int .i64 (s : Nat)] w fun e w' => e = .returned (.func (.func 130) #[] #[ptr w.heap.size, ptr (w.heap.size + 1)]) ∧ IsVs w' w.heap.size [ptr A] ∧ IsVs w' (w.heap.size + 1) [.int .i64 (s : Nat)] ∧ Ch Nil w w' := by
  have hmf := mk_func
  go_enter Tryz.func111, Tryz.ntmps111
  go_wp2
  go_ret
  exact ⟨rfl, boxes2 w [ptr A] [.int .i64 (s : Nat)] _ _ _ rfl⟩
theorem fillA_any (A : Nat) (g : Nat) (w : World) :
    Calls Tryz.prog 160 #[ptr A, .int .u64 (g : Nat)] w fun e w' => e = .returned (.func (.func 165) #[] #[ptr w.heap.size, ptr (w.heap.size + 1)]) ∧ IsVs w' w.heap.size [ptr A] ∧ IsVs w' (w.heap.size + 1) [.int .u64 (g : Nat)] ∧ Ch Nil w w' := by
  have hmf := mk_func
  go_enter Tryz.func160, Tryz.ntmps160
  go_wp2
  go_ret
  exact ⟨rfl, boxes2 w [ptr A] [.int .u64 (g : Nat)] _ _ _ rfl⟩
theorem fillR_any (A : Nat) (s g : Nat) (w : World) :
    Calls Tryz.prog 154 #[ptr A, .int .i64 (s : Nat), .int .u64 (g : Nat)] w fun e w' => e = .returned (.func (.func 163) #[] #[ptr w.heap.size, ptr (w.heap.size + 1), ptr (w.heap.size + 2)]) ∧ IsVs w' w.heap.size [ptr A] ∧ IsVs w' (w.heap.size + 1) [.int .i64 (s : Nat)] ∧ IsVs w' (w.heap.size + 2) [.int .u64 (g : Nat)] ∧ Ch Nil w w' := by
  have hmf := mk_func
  go_enter Tryz.func154, Tryz.ntmps154
  go_wp2
  go_ret
  obtain ⟨h1, h2, c⟩ := boxes2 w [ptr A] [.int .i64 (s : Nat)] 152 3 _ rfl
  have e : ((w.alloc (.cells #[ptr A] 152)).alloc (.cells #[.int .i64 (s : Nat)] 3)).heap.size = w.heap.size + 2 := by simp
  have c2 : Ch Nil ((w.alloc (.cells #[ptr A] 152)).alloc (.cells #[.int .i64 (s : Nat)] 3)) (((w.alloc (.cells #[ptr A] 152)).alloc (.cells #[.int .i64 (s : Nat)] 3)).alloc (.cells #[.int .u64 (g : Nat)] 36)) := (Ch.refl _ _).alloc _
  refine ⟨rfl, h1.kept c2 (fun e => e), h2.kept c2 (fun e => e), ?_, c.trans c2⟩
  rw [← e]; exact IsVs.new _ [.int .u64 (g : Nat)] 36
end Go.Proofs.YtnbdafmjcmmfpaaGreat
