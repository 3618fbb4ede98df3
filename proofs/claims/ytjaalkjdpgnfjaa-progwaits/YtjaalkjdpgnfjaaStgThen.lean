/-
  Then: a stage in which another one stands in the place of the end.
-/
import Derived.Test.YtjaalkjdpgnfjaaStgWalks1
import Derived.Shelf.Abstract
namespace Go.Proofs.Ytjaalkjdpgnfjaa
open Go.RowKit Verge
attribute [local go_sem] Oper.semAt_some
set_option linter.unusedVariables false
set_option linter.unusedSimpArgs false

theorem run_store_fn (P : Program) (w : World) (a : Addr) (m : Mode) (f : Fn) (xs cs : Array Value) : (store a (.func f xs cs) m).run P w = stored P w a (.func f xs cs) m := run_store P w a _ m rfl
/-- what Then says of these states -/
def ThenOf (e : Own) (l2 : List Own) (l : List Own) : Prop := ∀ (Q0 : Own) (v : Value) (S : Nat → Prop) (w : World) (M : Nat → Prop) (K : Nat) (c : Array Value), Stg l Q0 S v w → Leads (lastQ l Q0) e (Stg l2 e) S (.func (.func K) #[] c) w →
  Q0.P M w → (∀ k, S k → ¬ M k) → (∀ k, S k → k < w.heap.size) →
  Calls Try.prog 21 #[v, .func (.func K) #[] c] w fun x w' => ∃ v' S' M', x = .returned v' ∧ (hdQ l Q0 e).P M' w' ∧ Stg (joinQ e l2 l) (hdQ l Q0 e) S' v' w' ∧ Ch M w w' ∧
    (∀ k, M' k → M k ∨ w.heap.size ≤ k) ∧ (∀ k, S' k → S k ∨ w.heap.size ≤ k) ∧ (∀ k, S' k → ¬ M' k) ∧ (∀ k, S' k → k < w'.heap.size)
section
variable {w : World} {b2 b3 K : Nat} {c : Array Value} {S M : Nat → Prop} {Q0 Q1 e : Own} {l2 r : List Own} {d : Value}
set_option maxHeartbeats 4000000 in
theorem then1_of (IH : ThenOf e l2 r) (hd : Leads Q0 Q1 (Stg r Q1) S d w) (hr : Leads (lastQ r Q1) e (Stg l2 e) S (.func (.func K) #[] c) w) (k2 : w.cell? ⟨b2, 1, none⟩ = some d) (k3 : w.cell? ⟨b3, 0, none⟩ = some (.func (.func K) #[] c))
    (ha : ∀ k, S k → ¬ M k) (h2 : ¬ M b2) (h3 : ¬ M b3) (hQ : Q0.P M w) :
    Calls Try.prog 32 #[.pointer (some ⟨b2, 0, none⟩), .pointer (some ⟨b3, 0, none⟩)] w fun x w' => ∃ v' S' M', x = .returned v' ∧ (hdQ r Q1 e).P M' w' ∧ Stg (joinQ e l2 r) (hdQ r Q1 e) S' v' w' ∧ Ch M w w' ∧
      (∀ k, M' k → M k ∨ w.heap.size ≤ k) ∧ (∀ k, S' k → S k ∨ w.heap.size ≤ k) ∧ (∀ k, S' k → ¬ M' k) ∧ (∀ k, S' k → k < w'.heap.size) := by
  obtain ⟨Kd, cd, rfl, en, hlt, hcall⟩ := hd
  have HI := Lib.hid IH
  have HC := Lib.hid hcall
  have HR := Lib.hid hr
  have hE := en
  unfold Enters at hE
  have c0 : Ch Nil w (w.alloc (.cells #[.nilFunc, .nilFunc] 31)) := (Ch.refl _ _).alloc _
  have hM := Q0.lt M w hQ
  have B0 : Hid (Blk (w.alloc (.cells #[.nilFunc, .nilFunc] 31)) w.heap.size) := Lib.hid (Blk.new _ _ _)
  have z0 : (w.alloc (.cells #[.nilFunc, .nilFunc] 31)).cell? ⟨w.heap.size, 0, none⟩ = some .nilFunc := by rw [cell_fresh]; rfl
  have z1 : (w.alloc (.cells #[.nilFunc, .nilFunc] 31)).cell? ⟨w.heap.size, 1, none⟩ = some .nilFunc := by rw [cell_fresh]; rfl
  have Z0 := Lib.hid z0
  have Z1 := Lib.hid z1
  have HM := Lib.hid hM
  have HQ := Lib.hid (Own.nil hQ c0)
  have HA := Lib.hid ha
  have HL := Lib.hid hlt
  have lb2 : b2 < w.heap.size := lt_of_cell k2
  have lb3 : b3 < w.heap.size := lt_of_cell k3
  have b0 := And.intro (c0.keeps k2 (fun e => e)) (c0.keeps k3 (fun e => e))
  have C0 := Lib.hid c0
  clear IH hcall hr en k2 k3 hM z0 z1 hQ ha c0 hlt
  go_enter Try.func32, Try.ntmps32
  go_wp2
  generalize w.alloc (.cells #[.nilFunc, .nilFunc] 31) = w0 at B0 Z0 Z1 HQ C0 b0 ⊢
  refine wp_region_held_drew (S := fun w' => w'.cell? ⟨b2, 1, none⟩ = some (.func (.func Kd) #[] cd) ∧ w'.cell? ⟨b3, 0, none⟩ = some (.func (.func K) #[] c)) (by kernel_rfl) b0 (fun hHeld => ?_)
  have C1 := Lib.hid C0.out.drew
  have B1 := Lib.hid B0.out.drew
  have D1 : Ch Nil w0 w0.drew := (Ch.refl _ _).drew
  have Y0 := Lib.hid (D1.keeps Z0.out (fun e => e))
  have Y1 := Lib.hid (D1.keeps Z1.out (fun e => e))
  have Q1' := Lib.hid (Own.nil HQ.out D1)
  have HX : Hid (w0.drew.heap.size = w0.heap.size) := Lib.hid rfl
  have lw0 := C0.out.size
  clear b0 C0 B0 Z0 Z1 HQ D1
  generalize w0.drew = w1 at C1 B1 Y0 Y1 Q1' HX hHeld ⊢
  refine take_at (v := ?_) 0 (some 3) rfl (by kernel_rfl) (by kernel_rfl) (by kernel_rfl) (by kernel_rfl) (fun _ _ _ h => h) (Or.inl ⟨by rfl, ?_⟩) (by assumption) ?_
  rotate_left
  · intro w hSw; (try dsimp only at hSw); go_simp; try (with_reducible rfl)
  (try simp only [Act.put, List.setIfInBounds_toArray, List.set_cons_zero, List.set_cons_succ])
  refine take_at (v := ?_) 1 (some 4) rfl (by kernel_rfl) (by kernel_rfl) (by kernel_rfl) (by kernel_rfl) (fun _ _ _ h => h) (Or.inl ⟨by rfl, ?_⟩) (by assumption) ?_
  rotate_left
  · intro w hSw; (try dsimp only at hSw); go_simp; try (with_reducible rfl)
  (try simp only [Act.put, List.setIfInBounds_toArray, List.set_cons_zero, List.set_cons_succ])
  refine take_at (v := ?_) 3 (some 6) rfl (by kernel_rfl) (by kernel_rfl) (by kernel_rfl) (by kernel_rfl) (fun _ _ _ h => h) (Or.inl ⟨by rfl, ?_⟩) (by assumption) ?_
  rotate_left
  · intro w hSw; (try dsimp only at hSw); go_simp; try (with_reducible rfl)
  (try simp only [Act.put, List.setIfInBounds_toArray, List.set_cons_zero, List.set_cons_succ])
  refine wpAnyH_ready (rs := [2]) (by kernel_rfl) (by simp) ?_
  refine AllReadyH.cons rfl (fun K' hK => ?_) AllReadyH.nil
  go_simp
  refine (HC.out w1 M (C1.out.ag HL.out (fun k hk e => e)) HA.out Q1'.out).mono ?_
  rintro x w2 ⟨v1, S1, M1, rfl, q1, st1, ch1, sm1, ss1, sa1, sl1⟩
  have ls1 := C1.out.size
  have e2 : w1.heap.size = w0.heap.size := HX.out
  refine hK.out _ _ ⟨ch1.keeps hHeld.1 h2, ch1.keeps hHeld.2 h3⟩ (fun hHeld => ?_)
  clear hK K'
  (try simp only [Act.put, List.setIfInBounds_toArray, List.set_cons_zero, List.set_cons_succ])
  have hwn : ¬ M w.heap.size := fun e => Nat.lt_irrefl _ (HM.out _ e)
  have B2 := Lib.hid (B1.out.kept ch1 hwn)
  have Y2 := Lib.hid (ch1.keeps Y0.out hwn)
  have Y3 := Lib.hid (ch1.keeps Y1.out hwn)
  have lw1 : w.heap.size < w1.heap.size := B1.out.lt
  have hwn1 : ¬ M1 w.heap.size := fun e => by rcases sm1 _ e with e | e; exact hwn e; omega
  have lz2 := ch1.size
  have hS1 : ∀ k, S k → k < w2.heap.size := fun k hk => by have := HL.out k hk; omega
  have hSM : ∀ k, S k → ¬ M1 k := fun k hk e => by
    rcases sm1 _ e with e | e
    · exact HA.out k hk e
    · have := HL.out k hk; omega
  have hag : Ag S w w2 := (C1.out.ag HL.out (fun k hk e => e)).trans (ch1.ag (fun k hk => by have := HL.out k hk; omega) HA.out)
  have hst := st1.wide (S' := fun k => S k ∨ S1 k) (fun k hk => .inr hk) (fun k hk => hk.elim (hS1 k) (sl1 k))
  have hle := (HR.out.ag hag).wide (S' := fun k => S k ∨ S1 k) (fun k hk => .inl hk) (fun k hk => hk.elim (hS1 k) (sl1 k))
  have IH2 := Lib.hid (HI.out Q1 v1 (fun k => S k ∨ S1 k) w2 M1 K c hst hle q1 (fun k hk => hk.elim (hSM k) (sa1 k)) (fun k hk => hk.elim (hS1 k) (sl1 k)))
  have CA := Lib.hid ch1
  have F1 := Lib.hid (And.intro sm1 ss1)
  have NB : Hid (¬ M1 b2 ∧ ¬ M1 b3) := Lib.hid ⟨fun e => by rcases sm1 _ e with e | e; exact h2 e; omega, fun e => by rcases sm1 _ e with e | e; exact h3 e; omega⟩
  clear hst hle hag hSM hS1 q1 st1 ch1 sm1 ss1 sa1 sl1
  refine wpAnyH_ready (rs := [4]) (by kernel_rfl) (by simp) ?_
  refine AllReadyH.cons rfl (fun K' hK => ?_) AllReadyH.nil
  go_simp
  refine IH2.out.mono ?_
  rintro x w3 ⟨v2, S2, M2, rfl, q2, st2, ch2, sm2, ss2, sa2, sl2⟩
  refine hK.out _ _ ⟨ch2.keeps hHeld.1 NB.out.1, ch2.keeps hHeld.2 NB.out.2⟩ (fun hHeld => ?_)
  clear hK K'
  (try simp only [Act.put, List.setIfInBounds_toArray, List.set_cons_zero, List.set_cons_succ])
  obtain ⟨m', d', rfl, fm, fd⟩ := st2.shape
  have t1 := fm.store
  have t2 := fd.store
  have y0 := ch2.keeps Y2.out hwn1
  have y1 := ch2.keeps Y3.out hwn1
  have bk := B2.out.kept ch2 hwn1
  have hfz := bk.fz
  have hn2 : ∀ k, M2 k → k ≠ w.heap.size := fun k hk e => by
    subst e
    rcases sm2 _ hk with h | h
    · exact hwn1 h
    · omega
  have lz3 := ch2.size
  have EN : Hid ((hdQ r Q1 e).P M2 w3 ∧ Stg (joinQ e l2 r) (hdQ r Q1 e) S2 (.agg #[m', d']) w3 ∧ Ch M w w3 ∧ (∀ k, M2 k → M k ∨ w.heap.size ≤ k) ∧ (∀ k, S2 k → S k ∨ w1.heap.size ≤ k) ∧ (∀ k, S2 k → ¬ M2 k) ∧ (∀ k, S2 k → k < w3.heap.size)) := Lib.hid ⟨q2, st2, ((C1.out.mono (fun _ _ e => e.elim)).trans CA.out).then ch2 (fun i hi e => by rcases F1.out.1 _ e with e | e; exact e; omega),
    fun k hk => by
      rcases sm2 k hk with h | h
      · rcases F1.out.1 _ h with h | h
        · exact .inl h
        · right; omega
      · right; omega, fun k hk => by
      rcases ss2 k hk with (h | h) | h
      · exact .inl h
      · rcases F1.out.2 _ h with h | h
        · exact .inl h
        · right; omega
      · right; omega, sa2, sl2⟩
  have KN := Lib.hid (And.intro hn2 bk)
  clear q2 st2 ch2 sm2 ss2 sa2 sl2 bk fm fd
  refine wpAnyH_ready (rs := [5]) (by kernel_rfl) (by simp) ?_
  refine AllReadyH.cons rfl (fun K' hK => ?_) AllReadyH.nil
  go_simp
  have cS : Ch (One w.heap.size) w3 ((w3.setCell ⟨w.heap.size, 0, none⟩ m').setCell ⟨w.heap.size, 1, none⟩ d') := ((Ch.refl _ _).setB _ _).setB _ _
  refine hK.out _ _ ⟨cS.keeps hHeld.1 (fun e => by have e' : b2 = w.heap.size := e; omega), cS.keeps hHeld.2 (fun e => by have e' : b3 = w.heap.size := e; omega)⟩ (fun hHeld => ?_)
  clear hK K' hHeld
  (try simp only [Act.put, List.setIfInBounds_toArray, List.set_cons_zero, List.set_cons_succ])
  refine wpAnyH_done (by kernel_rfl) ?_ _
  go_wp2
  refine bodyPost_ret (v := .agg #[m', d']) (by simp [results, Try.results32, go_sem, y0, y1, cell_set]) rfl ?_
  obtain ⟨g1, g2, g3, g4, g5, g6, g7⟩ := EN.out
  refine ⟨_, S2, M2, rfl, Own.kept g1 cS (fun k hk e => KN.out.1 k hk e), g2.ag (cS.ag g7 (fun k hk e => ?_)), g3.then cS (fun i hi e => by have e' : i = w.heap.size := e; omega), g4, fun k hk => (g5 k hk).imp id (fun h => by omega), g6, fun k hk => by have := g7 k hk; have := cS.size; omega⟩
  have e' : k = w.heap.size := e
  subst e'
  rcases g5 _ hk with h | h
  · exact Nat.lt_irrefl _ (HL.out _ h)
  · omega
end
theorem enters_then1 : Enters 32 := enters_of Try.func32 (by kernel_rfl) rfl
/-- the three blocks that Then lays -/
structure Three (w w0 : World) (m d f : Value) : Prop where
  c : Ch Nil w w0
  m : w0.cell? ⟨w.heap.size, 0, none⟩ = some m
  d : w0.cell? ⟨w.heap.size, 1, none⟩ = some d
  f : w0.cell? ⟨w.heap.size + 1, 0, none⟩ = some f
  a : w0.cell? ⟨w.heap.size + 1 + 1, 0, none⟩ = some .nilFunc
  b : w0.cell? ⟨w.heap.size + 1 + 1, 1, none⟩ = some .nilFunc
  k : Blk w0 (w.heap.size + 1 + 1)
  z : w0.heap.size = w.heap.size + 3
theorem three (w : World) (m d f : Value) : Three w (((w.alloc (.cells #[m, d] 31)).alloc (.cells #[f] 29)).alloc (.cells #[.nilFunc, .nilFunc] 31)) m d f := by
  have c1 : Ch Nil w (w.alloc (.cells #[m, d] 31)) := (Ch.refl _ _).alloc _
  have c2 : Ch Nil (w.alloc (.cells #[m, d] 31)) ((w.alloc (.cells #[m, d] 31)).alloc (.cells #[f] 29)) := (Ch.refl _ _).alloc _
  have c3 : Ch Nil ((w.alloc (.cells #[m, d] 31)).alloc (.cells #[f] 29)) (((w.alloc (.cells #[m, d] 31)).alloc (.cells #[f] 29)).alloc (.cells #[.nilFunc, .nilFunc] 31)) := (Ch.refl _ _).alloc _
  have z1 : (w.alloc (.cells #[m, d] 31)).heap.size = w.heap.size + 1 := by simp
  have z2 : ((w.alloc (.cells #[m, d] 31)).alloc (.cells #[f] 29)).heap.size = w.heap.size + 1 + 1 := by simp
  refine ⟨(c1.trans c2).trans c3, (c2.trans c3).keeps (by rw [cell_fresh]; rfl) (fun e => e), (c2.trans c3).keeps (by rw [cell_fresh]; rfl) (fun e => e), c3.keeps (by rw [← z1, cell_fresh]; rfl) (fun e => e), by rw [← z2, cell_fresh]; rfl, by rw [← z2, cell_fresh]; rfl, ?_, by simp⟩
  rw [← z2]
  exact Blk.new _ _ _
section
variable {w w0 w1 : World} {m d f : Value} {S : Nat → Prop}
theorem Three.kept (h : Three w w0 m d f) (c : Ch S w0 w1) (hs : ∀ k, S k → k < w.heap.size) : w1.cell? ⟨w.heap.size, 0, none⟩ = some m ∧ w1.cell? ⟨w.heap.size, 1, none⟩ = some d ∧ w1.cell? ⟨w.heap.size + 1, 0, none⟩ = some f ∧
    w1.cell? ⟨w.heap.size + 1 + 1, 0, none⟩ = some .nilFunc ∧ w1.cell? ⟨w.heap.size + 1 + 1, 1, none⟩ = some .nilFunc ∧ Blk w1 (w.heap.size + 1 + 1) := by
  have nz : ∀ k, w.heap.size ≤ k → ¬ S k := fun k hk e => by have := hs k e; omega
  exact ⟨c.keeps h.m (nz _ (Nat.le_refl _)), c.keeps h.d (nz _ (Nat.le_refl _)), c.keeps h.f (nz _ (by simp only; omega)), c.keeps h.a (nz _ (by simp only; omega)), c.keeps h.b (nz _ (by simp only; omega)), h.k.kept c (nz _ (by omega))⟩
end
set_option maxHeartbeats 4000000 in
theorem then_nil (e : Own) (l2 : List Own) : ThenOf e l2 [] := by
  intro Q0 v S w M K c hv hl hQ hA hlt
  obtain ⟨m, fm, rfl⟩ := hv
  obtain ⟨K', c', e', en, -, hcall⟩ := hl
  cases e'
  have hM := Q0.lt M w hQ
  have h3 := three w m .nilFunc (.func (.func K) #[] c)
  have hE := en
  unfold Enters at hE
  have hD := eql_do
  have HC := Lib.hid hcall
  have HA := Lib.hid hA
  have HQ := Lib.hid hQ
  have HL := Lib.hid hlt
  have HM := Lib.hid hM
  have H3 := Lib.hid h3
  clear hcall hA hQ hlt en hM h3
  go_enter Try.func21, Try.ntmps21
  go_wp2_with fail
  generalize ((w.alloc (.cells #[m, .nilFunc] 31)).alloc (.cells #[.func (.func K) #[] c] 29)).alloc (.cells #[.nilFunc, .nilFunc] 31) = w0 at H3 ⊢
  refine (isEnd_any _ _ (.inl rfl) _).mono ?_
  rintro e' w1 ⟨rfl, c1⟩
  obtain ⟨k0, k1, k2, k3, k4, k5⟩ := H3.out.kept c1 (fun _ h => h.elim)
  have C1 := Lib.hid (H3.out.c.trans c1)
  have Z1 := Lib.hid (show w.heap.size + 3 ≤ w1.heap.size by have := H3.out.z; have := c1.size; omega)
  clear c1
  simp only [isNilF]
  go_wp2_with fail
  refine (HC.out w1 M (C1.out.ag HL.out (fun k hk e => e)) HA.out (Own.nil HQ.out C1.out)).mono ?_
  rintro x w2 ⟨v1, S1, M1, rfl, q1, st1, ch1, sm1, ss1, sa1, sl1⟩
  obtain ⟨m', d', rfl, fm', fd'⟩ := st1.shape
  have t1 := fm'.store
  have t2 := fd'.store
  have z1 := Z1.out
  have nz : ∀ k, w.heap.size ≤ k → ¬ M k := fun k hk e => by have := HM.out k e; omega
  have y0 := ch1.keeps k3 (nz _ (by simp only; omega))
  have y1 := ch1.keeps k4 (nz _ (by simp only; omega))
  have bk := k5.kept ch1 (nz _ (by omega))
  have hfz := bk.fz
  have EN := Lib.hid (And.intro q1 (And.intro st1 (And.intro ((C1.out.mono (fun _ _ e => e.elim)).trans ch1) (And.intro sm1 (And.intro ss1 (And.intro sa1 sl1))))))
  clear q1 st1 ch1 sm1 ss1 sa1 sl1 bk fm' fd' k0 k1 k2 k3 k4 k5 C1
  go_wp2
  have cS : Ch (One (w.heap.size + 1 + 1)) w2 ((w2.setCell ⟨w.heap.size + 1 + 1, 0, none⟩ m').setCell ⟨w.heap.size + 1 + 1, 1, none⟩ d') := ((Ch.refl _ _).setB _ _).setB _ _
  (try simp only [Exit.inBlock, Exit.then])
  refine bodyPost_ret (v := .agg #[m', d']) (by simp [results, Try.results21, go_sem, y0, y1, cell_set]) rfl ?_
  obtain ⟨g1, g2, g3, g4, g5, g6, g7⟩ := EN.out
  refine ⟨_, S1, M1, rfl, Own.kept g1 cS (fun k hk e => ?_), g2.ag (cS.ag g7 (fun k hk e => ?_)), g3.then cS (fun i hi e => by have e' : i = w.heap.size + 1 + 1 := e; omega), fun k hk => (g4 k hk).imp id (fun h => by omega), fun k hk => (g5 k hk).imp id (fun h => by omega), g6, fun k hk => by have := g7 k hk; have := cS.size; omega⟩
  · have e' : k = w.heap.size + 1 + 1 := e
    subst e'
    rcases g4 _ hk with h | h
    · exact nz _ (by omega) h
    · omega
  · have e' : k = w.heap.size + 1 + 1 := e
    subst e'
    rcases g5 _ hk with h | h
    · have := HL.out _ h; omega
    · omega
set_option maxHeartbeats 4000000 in
theorem then_cons {e : Own} {l2 r : List Own} {Q1 : Own} (IH : ThenOf e l2 r) : ThenOf e l2 (Q1 :: r) := by
  intro Q0 v S w M K c hv hl hQ hA hlt
  obtain ⟨d, rfl, hd⟩ := hv
  obtain ⟨Kd, cd, rfl⟩ : ∃ Kd cd, d = .func (.func Kd) #[] cd := by obtain ⟨Kd, cd, h, -⟩ := hd; exact ⟨Kd, cd, h⟩
  have hM := Q0.lt M w hQ
  have h3 := three w .nilFunc (.func (.func Kd) #[] cd) (.func (.func K) #[] c)
  have hD := eql_do
  have HI := Lib.hid IH
  have HR := Lib.hid hl
  have HD := Lib.hid hd
  have HA := Lib.hid hA
  have HQ := Lib.hid hQ
  have HL := Lib.hid hlt
  have HM := Lib.hid hM
  have H3 := Lib.hid h3
  clear IH hd hA hQ hlt hM h3 hl
  go_enter Try.func21, Try.ntmps21
  go_wp2_with fail
  generalize ((w.alloc (.cells #[.nilFunc, .func (.func Kd) #[] cd] 31)).alloc (.cells #[.func (.func K) #[] c] 29)).alloc (.cells #[.nilFunc, .nilFunc] 31) = w0 at H3 ⊢
  refine (isEnd_any _ _ (.inr ⟨_, _, rfl⟩) _).mono ?_
  rintro e' w2 ⟨rfl, c1⟩
  obtain ⟨k0, k1, k2, k3, k4, k5⟩ := H3.out.kept c1 (fun _ h => h.elim)
  have C1 := Lib.hid (H3.out.c.trans c1)
  have Z1 := Lib.hid (show w.heap.size + 3 ≤ w2.heap.size by have := H3.out.z; have := c1.size; omega)
  clear c1
  simp only [isNilF]
  have hfz := k5.fz
  have K5 := Lib.hid k5
  have st0 := IsFn.store (v := .nilFunc) (.inl rfl)
  have st32 := run_store_fn
  go_wp2
  have cS : Ch (One (w.heap.size + 1 + 1)) w2 ((w2.setCell ⟨w.heap.size + 1 + 1, 0, none⟩ .nilFunc).setCell ⟨w.heap.size + 1 + 1, 1, none⟩ (.func (.func 32) #[] #[.pointer (some ⟨w.heap.size, 0, none⟩), .pointer (some ⟨w.heap.size + 1, 0, none⟩)])) := ((Ch.refl _ _).setB _ _).setB _ _
  (try simp only [Exit.inBlock, Exit.then])
  refine bodyPost_ret (v := .agg #[.nilFunc, .func (.func 32) #[] #[.pointer (some ⟨w.heap.size, 0, none⟩), .pointer (some ⟨w.heap.size + 1, 0, none⟩)]]) (by simp [results, Try.results21, go_sem, k3, k4, cell_set]) rfl ?_
  have z1 := Z1.out
  have cz := cS.size
  have C2 : Ch Nil w ((w2.setCell ⟨w.heap.size + 1 + 1, 0, none⟩ .nilFunc).setCell ⟨w.heap.size + 1 + 1, 1, none⟩ (.func (.func 32) #[] #[.pointer (some ⟨w.heap.size, 0, none⟩), .pointer (some ⟨w.heap.size + 1, 0, none⟩)])) :=
    C1.out.then cS (fun i hi e => by have e' : i = w.heap.size + 1 + 1 := e; omega)
  have m1 := cS.keeps k1 (fun e => by have e' : w.heap.size = w.heap.size + 1 + 1 := e; omega)
  have m2 := cS.keeps k2 (fun e => by have e' : w.heap.size + 1 = w.heap.size + 1 + 1 := e; omega)
  generalize (w2.setCell ⟨w.heap.size + 1 + 1, 0, none⟩ .nilFunc).setCell ⟨w.heap.size + 1 + 1, 1, none⟩ _ = w3 at C2 m1 m2 cz ⊢
  have hsz : ∀ k, (S k ∨ k = w.heap.size ∨ k = w.heap.size + 1) → k < w3.heap.size := fun k hk => by
    rcases hk with hk | rfl | rfl
    · have := HL.out k hk; omega
    · omega
    · omega
  refine ⟨_, fun k => S k ∨ k = w.heap.size ∨ k = w.heap.size + 1, M, rfl, Own.nil HQ.out C2, ⟨_, rfl, ?_⟩, C2.mono (fun _ _ e => e.elim), fun k hk => .inl hk, fun k hk => ?_, fun k hk e => ?_, hsz⟩
  · refine ⟨_, _, rfl, enters_then1, hsz, fun w4 M4 a4 hM4 hQ4 => ?_⟩
    have aS : Ag S w w4 := (C2.ag HL.out (fun k hk e => e)).trans (a4.mono (fun k hk => .inl hk))
    refine (then1_of HI.out (HD.out.ag aS) (HR.out.ag aS) (a4.cell m1 (.inr (.inl rfl))) (a4.cell m2 (.inr (.inr rfl))) (fun k hk => hM4 k (.inl hk)) (hM4 _ (.inr (.inl rfl))) (hM4 _ (.inr (.inr rfl))) hQ4).mono ?_
    rintro x w5 ⟨v5, S5, M5, g1, g2, g3, g4, g5, g6, g7, g8⟩
    exact ⟨v5, S5, M5, g1, g2, g3, g4, g5, fun k hk => (g6 k hk).imp .inl id, g7, g8⟩
  · rcases hk with hk | rfl | rfl
    · exact .inl hk
    · exact .inr (Nat.le_refl _)
    · exact .inr (by omega)
  · rcases hk with hk | rfl | rfl
    · exact HA.out k hk e
    · have := HM.out _ e; omega
    · have := HM.out _ e; omega
theorem then_of (e : Own) (l2 : List Own) : ∀ l, ThenOf e l2 l
  | [] => then_nil e l2
  | _ :: r => then_cons (then_of e l2 r)
end Go.Proofs.Ytjaalkjdpgnfjaa
