/-
  The statements' chain: rows one behind the other.
-/
import Derived.Test.YtjaalkjdpgnfjaaStgLaw
namespace Go.Proofs.Ytjaalkjdpgnfjaa
open Go.RowKit Verge
attribute [local go_sem] Oper.semAt_some
set_option linter.unusedVariables false
set_option linter.unusedSimpArgs false

/-- a slice that leads to these numbers, in a block below B -/
def SrcB (B : Nat) (w : World) (a : Option Addr) (xs : List Int) : Prop := xs = [] ∨ ∃ b o, a = some ⟨b, o, none⟩ ∧ b < B ∧ ∀ i n, xs[i]? = some n → w.cell? ⟨b, o + i, none⟩ = some (.int .i64 n)
/-- a slice that leads to slices of these numbers, all in blocks below B -/
def SrcS (B : Nat) (w : World) (a : Option Addr) (pl : List (List Int)) : Prop := pl = [] ∨ ∃ b o, a = some ⟨b, o, none⟩ ∧ b < B ∧ ∀ i l, pl[i]? = some l → ∃ ai ci, w.cell? ⟨b, o + i, none⟩ = some (.slice ai l.length ci) ∧ SrcB B w ai l
section
variable {B : Nat} {w w' : World} {a : Option Addr} {xs : List Int} {pl : List (List Int)}
theorem SrcB.srcA (h : SrcB B w a xs) : SrcA w a xs := h.imp id (fun ⟨b, o, e, _, hc⟩ => ⟨b, o, e, hc⟩)
theorem SrcB.ag (h : SrcB B w a xs) (c : Ag (fun k => k < B) w w') : SrcB B w' a xs := h.imp id (fun ⟨b, o, e, hb, hc⟩ => ⟨b, o, e, hb, fun i n hi => c.cell (hc i n hi) hb⟩)
theorem SrcS.ag (h : SrcS B w a pl) (c : Ag (fun k => k < B) w w') : SrcS B w' a pl := h.imp id (fun ⟨b, o, e, hb, hc⟩ => ⟨b, o, e, hb, fun i l hi => by
  obtain ⟨ai, ci, h1, h2⟩ := hc i l hi
  exact ⟨ai, ci, c.cell h1 hb, h2.ag c⟩⟩)
theorem SrcS.form (h : SrcS B w a pl) (hp : pl ≠ []) : ∃ b o, a = some ⟨b, o, none⟩ ∧ b < B ∧ ∀ i l, pl[i]? = some l → ∃ ai ci, w.cell? ⟨b, o + i, none⟩ = some (.slice ai l.length ci) ∧ SrcB B w ai l := h.elim (fun e => absurd e hp) id
end
/-- all their numbers that are not below 0 -/
def flat (pl : List (List Int)) : List Int := (pl.map pos).flatten
theorem flat_cons (l : List Int) (pl : List (List Int)) : flat (l :: pl) = pos l ++ flat pl := by simp [flat]
theorem enters_chain1 : Enters 29 := enters_of Try.func29 (by kernel_rfl) rfl
theorem pos_len (l : List Int) : (pos l).length ≤ l.length := List.length_filter_le _ _

/-- what chain says of these rows -/
def ChainOf (A B : Nat) (Q : List Int → Own) (pl : List (List Int)) : Prop := ∀ (g : List Int) (w : World) (a : Option Addr) (cap : Nat) (M : Nat → Prop), SrcS B w a pl → (Q g).P M w → (∀ k, M k → B ≤ k) → B ≤ w.heap.size → g.length + 100 * pl.length ≤ 90000 → (∀ l, l ∈ pl → l.length ≤ 30) → pl.length ≤ cap → cap ≤ maxLen →
  Calls Try.prog 11 #[.pointer (some ⟨A, 0, none⟩), .slice a pl.length cap] w fun x w' => ∃ v S' M', x = .returned v ∧ (Q g).P M' w' ∧ Stg (sts Q g (flat pl)) (Q g) S' v w' ∧ Ch M w w' ∧
    (∀ k, M' k → M k ∨ w.heap.size ≤ k) ∧ (∀ k, S' k → k < B ∨ w.heap.size ≤ k) ∧ (∀ k, S' k → ¬ M' k) ∧ (∀ k, S' k → k < w'.heap.size)
section
variable {A B b2 b3 cap : Nat} {Q : List Int → Own} {g : List Int} {w : World} {a : Option Addr} {M : Nat → Prop} {pl : List (List Int)} {l : List Int}
set_option maxHeartbeats 1000000 in
theorem chain1_of (IH : ChainOf A B Q pl) (hs : SrcS B w a (l :: pl)) (k2 : w.cell? ⟨b2, 0, none⟩ = some (.pointer (some ⟨A, 0, none⟩))) (k3 : w.cell? ⟨b3, 0, none⟩ = some (.slice a (pl.length + 1) cap)) (hQ : (Q g).P M w) (hM : ∀ k, M k → B ≤ k) (h2 : ¬ M b2) (h3 : ¬ M b3)
    (hB : B ≤ w.heap.size) (hg : g.length + 100 * pl.length ≤ 90000) (hn : ∀ l, l ∈ pl → l.length ≤ 30) (hc : pl.length + 1 ≤ cap) (hm : cap ≤ maxLen) :
    Calls Try.prog 29 #[.pointer (some ⟨b2, 0, none⟩), .pointer (some ⟨b3, 0, none⟩)] w fun x w' => ∃ v S' M', x = .returned v ∧ (Q g).P M' w' ∧ Stg (sts Q g (flat pl)) (Q g) S' v w' ∧ Ch M w w' ∧
      (∀ k, M' k → M k ∨ w.heap.size ≤ k) ∧ (∀ k, S' k → k < B ∨ w.heap.size ≤ k) ∧ (∀ k, S' k → ¬ M' k) ∧ (∀ k, S' k → k < w'.heap.size) := by
  obtain ⟨b, o, rfl, hb, hcl⟩ := hs.form (by simp)
  have c0 : Ch Nil w (w.alloc (.cells #[.nilFunc, .nilFunc] 31)) := (Ch.refl _ _).alloc _
  have B0 : Hid (Blk (w.alloc (.cells #[.nilFunc, .nilFunc] 31)) w.heap.size) := Lib.hid (Blk.new _ _ _)
  have z0 : (w.alloc (.cells #[.nilFunc, .nilFunc] 31)).cell? ⟨w.heap.size, 0, none⟩ = some .nilFunc := by rw [cell_fresh]; rfl
  have z1 : (w.alloc (.cells #[.nilFunc, .nilFunc] 31)).cell? ⟨w.heap.size, 1, none⟩ = some .nilFunc := by rw [cell_fresh]; rfl
  have W1 : Hid ((w.alloc (.cells #[.nilFunc, .nilFunc] 31)).heap.size = w.heap.size + 1) := Lib.hid (by simp)
  have lb2 : b2 < w.heap.size := lt_of_cell k2
  have lb3 : b3 < w.heap.size := lt_of_cell k3
  have b0 := And.intro (c0.keeps k2 (fun e => e)) (c0.keeps k3 (fun e => e))
  have Z0 := Lib.hid z0
  have Z1 := Lib.hid z1
  have HM := Lib.hid ((Q g).lt M w hQ)
  have HQ := Lib.hid (Own.nil hQ c0)
  have HI := Lib.hid IH
  have HB := Lib.hid hM
  have HS := Lib.hid hcl
  have C0 := Lib.hid c0
  clear IH k2 k3 z0 z1 hQ c0 hs hcl hM
  go_enter Try.func29, Try.ntmps29
  go_wp2
  generalize w.alloc (.cells #[.nilFunc, .nilFunc] 31) = w0 at B0 Z0 Z1 HQ C0 W1 b0 ⊢
  refine wp_region_held_drew (S := fun w' => w'.cell? ⟨b2, 0, none⟩ = some (.pointer (some ⟨A, 0, none⟩)) ∧ w'.cell? ⟨b3, 0, none⟩ = some (.slice (some ⟨b, o, none⟩) (pl.length + 1) cap)) (by kernel_rfl) b0 (fun hHeld => ?_)
  have D1 : Ch Nil w0 w0.drew := (Ch.refl _ _).drew
  have C1 := Lib.hid C0.out.drew
  have B1 := Lib.hid B0.out.drew
  have Y0 := Lib.hid (D1.keeps Z0.out (fun e => e))
  have Y1 := Lib.hid (D1.keeps Z1.out (fun e => e))
  have Q1' := Lib.hid (Own.nil HQ.out D1)
  have HX : Hid (w0.drew.heap.size = w.heap.size + 1) := Lib.hid W1.out
  clear b0 C0 B0 Z0 Z1 HQ D1 W1
  generalize w0.drew = w1 at C1 B1 Y0 Y1 Q1' HX hHeld ⊢
  have lw1 := HX.out
  have IH2 : Hid (∀ (o' cap' : Nat), (pl = [] ∨ o' = o + 1) → pl.length ≤ cap' → cap' ≤ maxLen → Calls Try.prog 11 #[.pointer (some ⟨A, 0, none⟩), .slice (some ⟨b, o', none⟩) pl.length cap'] w1 fun x w' => ∃ v S' M', x = .returned v ∧ (Q g).P M' w' ∧ Stg (sts Q g (flat pl)) (Q g) S' v w' ∧ Ch M w1 w' ∧
    (∀ k, M' k → M k ∨ w1.heap.size ≤ k) ∧ (∀ k, S' k → k < B ∨ w1.heap.size ≤ k) ∧ (∀ k, S' k → ¬ M' k) ∧ (∀ k, S' k → k < w'.heap.size)) := Lib.hid (fun o' cap' h1 h2 h3 =>
    HI.out g w1 _ cap' M (h1.elim .inl (fun e => .inr ⟨b, o + 1, by rw [e], hb, fun i v hi => by
      obtain ⟨ai, ci, hx, hy⟩ := HS.out (i + 1) v (by simpa using hi)
      have aB : Ag (fun k => k < B) w w1 := C1.out.ag (fun k hk => by omega) (fun _ _ e => e)
      refine ⟨ai, ci, ?_, hy.ag aB⟩
      have := C1.out.keeps hx (fun e => e)
      rwa [show o + (i + 1) = o + 1 + i by omega] at this⟩)) Q1'.out HB.out (by omega) hg hn h2 h3)
  clear HI HS
  have hp1 : (1 : Int) ≤ (pl.length : Int) + 1 := by omega
  rcases Nat.lt_or_ge 1 cap with hcap | hcap
  · have hcap1 : ¬ cap = 1 := by omega
    have hcap2 : ¬ cap - 1 = 0 := by omega
    have IH3 := Lib.hid (IH2.out (o + 1) (cap - 1) (.inr rfl) (by omega) (by omega))
    clear IH2
    refine take_at (v := ?_) 0 (some 3) rfl (by kernel_rfl) (by kernel_rfl) (by kernel_rfl) (by kernel_rfl) (fun _ _ _ h => h) (Or.inl ⟨by rfl, ?_⟩) (by assumption) ?_
    rotate_left
    · intro w hSw; (try dsimp only at hSw); go_simp; try (with_reducible rfl)
    (try simp only [Act.put, List.setIfInBounds_toArray, List.set_cons_zero, List.set_cons_succ])
    refine take_at (v := ?_) 1 (some 4) rfl (by kernel_rfl) (by kernel_rfl) (by kernel_rfl) (by kernel_rfl) (fun _ _ _ h => h) (Or.inl ⟨by rfl, ?_⟩) (by assumption) ?_
    rotate_left
    · intro w hSw; (try dsimp only at hSw); go_simp; try (with_reducible rfl)
    (try simp only [Act.put, List.setIfInBounds_toArray, List.set_cons_zero, List.set_cons_succ])
    refine take_at (v := ?_) 2 (some 5) rfl (by kernel_rfl) (by kernel_rfl) (by kernel_rfl) (by kernel_rfl) (fun _ _ _ h => h) (Or.inl ⟨by rfl, ?_⟩) (by assumption) ?_
    rotate_left
    · intro w hSw; (try dsimp only at hSw); go_simp; try (with_reducible rfl)
    (try simp only [Act.put, List.setIfInBounds_toArray, List.set_cons_zero, List.set_cons_succ])
    refine wpAnyH_ready (rs := [3]) (by kernel_rfl) (by simp) ?_
    refine AllReadyH.cons rfl (fun K' hK => ?_) AllReadyH.nil
    go_simp
    refine IH3.out.mono ?_
    rintro x w3 ⟨v2, S2, M2, rfl, q2, st2, ch2, sm2, ss2, sa2, sl2⟩
    have hHeld' := And.intro (ch2.keeps hHeld.1 h2) (ch2.keeps hHeld.2 h3)
    refine hK.out _ _ hHeld' (fun hHeld => ?_)
    clear hK K' hHeld'
    (try simp only [Act.put, List.setIfInBounds_toArray, List.set_cons_zero, List.set_cons_succ])
    obtain ⟨m', d', rfl, fm, fd⟩ := st2.shape
    have t1 := fm.store
    have t2 := fd.store
    have hwn : ¬ M w.heap.size := fun e => Nat.lt_irrefl _ (HM.out _ e)
    have y0 := ch2.keeps Y0.out hwn
    have y1 := ch2.keeps Y1.out hwn
    have bk := B1.out.kept ch2 hwn
    have hfz := bk.fz
    have hn2 : ∀ k, M2 k → k ≠ w.heap.size := fun k hk e => by
      subst e
      rcases sm2 _ hk with h | h
      · exact hwn h
      · omega
    have ns2 : ∀ k, S2 k → k ≠ w.heap.size := fun k hk e => by
      rcases ss2 k hk with h | h <;> omega
    have lz3 := ch2.size
    have EN := Lib.hid (And.intro q2 (And.intro st2 (And.intro ((C1.out.mono (S' := M) (fun _ _ e => e.elim)).trans ch2) (And.intro sm2 (And.intro ss2 (And.intro sa2 (And.intro sl2 (And.intro hn2 ns2))))))))
    clear q2 st2 ch2 sm2 ss2 sa2 sl2 bk fm fd hn2 ns2
    refine wpAnyH_ready (rs := [4]) (by kernel_rfl) (by simp) ?_
    refine AllReadyH.cons rfl (fun K' hK => ?_) AllReadyH.nil
    go_simp
    have cS : Ch (One w.heap.size) w3 ((w3.setCell ⟨w.heap.size, 0, none⟩ m').setCell ⟨w.heap.size, 1, none⟩ d') := ((Ch.refl _ _).setB _ _).setB _ _
    refine hK.out _ _ ⟨cS.keeps hHeld.1 (fun e => by have e' : b2 = w.heap.size := e; omega), cS.keeps hHeld.2 (fun e => by have e' : b3 = w.heap.size := e; omega)⟩ (fun hHeld => ?_)
    clear hK K' hHeld
    (try simp only [Act.put, List.setIfInBounds_toArray, List.set_cons_zero, List.set_cons_succ])
    refine wpAnyH_done (by kernel_rfl) ?_ _
    go_wp2
    refine bodyPost_ret (v := .agg #[m', d']) (by simp [results, Try.results29, go_sem, y0, y1, cell_set]) rfl ?_
    obtain ⟨g1, g2, g3, g4, g5, g6, g7, g8, g9⟩ := EN.out
    exact ⟨_, S2, M2, rfl, Own.kept g1 cS (fun k hk e => g8 k hk e), g2.ag (cS.ag g7 (fun k hk e => g9 k hk e)), g3.then cS (fun i hi e => by have e' : i = w.heap.size := e; omega), fun k hk => (g4 k hk).imp id (fun h => by omega), fun k hk => (g5 k hk).imp id (fun h => by omega), g6, fun k hk => by have := g7 k hk; have := cS.size; omega⟩
  · obtain rfl : cap = 1 := by omega
    have IH3 := Lib.hid (IH2.out (o) (0) (.inl (List.eq_nil_of_length_eq_zero (by omega))) (by omega) (by omega))
    rw [show pl.length = 0 by omega] at IH3
    clear IH2
    refine take_at (v := ?_) 0 (some 3) rfl (by kernel_rfl) (by kernel_rfl) (by kernel_rfl) (by kernel_rfl) (fun _ _ _ h => h) (Or.inl ⟨by rfl, ?_⟩) (by assumption) ?_
    rotate_left
    · intro w hSw; (try dsimp only at hSw); go_simp; try (with_reducible rfl)
    (try simp only [Act.put, List.setIfInBounds_toArray, List.set_cons_zero, List.set_cons_succ])
    refine take_at (v := ?_) 1 (some 4) rfl (by kernel_rfl) (by kernel_rfl) (by kernel_rfl) (by kernel_rfl) (fun _ _ _ h => h) (Or.inl ⟨by rfl, ?_⟩) (by assumption) ?_
    rotate_left
    · intro w hSw; (try dsimp only at hSw); go_simp; try (with_reducible rfl)
    (try simp only [Act.put, List.setIfInBounds_toArray, List.set_cons_zero, List.set_cons_succ])
    refine take_at (v := ?_) 2 (some 5) rfl (by kernel_rfl) (by kernel_rfl) (by kernel_rfl) (by kernel_rfl) (fun _ _ _ h => h) (Or.inl ⟨by rfl, ?_⟩) (by assumption) ?_
    rotate_left
    · intro w hSw; (try dsimp only at hSw); go_simp; try (with_reducible rfl)
    (try simp only [Act.put, List.setIfInBounds_toArray, List.set_cons_zero, List.set_cons_succ])
    refine wpAnyH_ready (rs := [3]) (by kernel_rfl) (by simp) ?_
    refine AllReadyH.cons rfl (fun K' hK => ?_) AllReadyH.nil
    go_simp
    refine IH3.out.mono ?_
    rintro x w3 ⟨v2, S2, M2, rfl, q2, st2, ch2, sm2, ss2, sa2, sl2⟩
    have hHeld' := And.intro (ch2.keeps hHeld.1 h2) (ch2.keeps hHeld.2 h3)
    refine hK.out _ _ hHeld' (fun hHeld => ?_)
    clear hK K' hHeld'
    (try simp only [Act.put, List.setIfInBounds_toArray, List.set_cons_zero, List.set_cons_succ])
    obtain ⟨m', d', rfl, fm, fd⟩ := st2.shape
    have t1 := fm.store
    have t2 := fd.store
    have hwn : ¬ M w.heap.size := fun e => Nat.lt_irrefl _ (HM.out _ e)
    have y0 := ch2.keeps Y0.out hwn
    have y1 := ch2.keeps Y1.out hwn
    have bk := B1.out.kept ch2 hwn
    have hfz := bk.fz
    have hn2 : ∀ k, M2 k → k ≠ w.heap.size := fun k hk e => by
      subst e
      rcases sm2 _ hk with h | h
      · exact hwn h
      · omega
    have ns2 : ∀ k, S2 k → k ≠ w.heap.size := fun k hk e => by
      rcases ss2 k hk with h | h <;> omega
    have lz3 := ch2.size
    have EN := Lib.hid (And.intro q2 (And.intro st2 (And.intro ((C1.out.mono (S' := M) (fun _ _ e => e.elim)).trans ch2) (And.intro sm2 (And.intro ss2 (And.intro sa2 (And.intro sl2 (And.intro hn2 ns2))))))))
    clear q2 st2 ch2 sm2 ss2 sa2 sl2 bk fm fd hn2 ns2
    refine wpAnyH_ready (rs := [4]) (by kernel_rfl) (by simp) ?_
    refine AllReadyH.cons rfl (fun K' hK => ?_) AllReadyH.nil
    go_simp
    have cS : Ch (One w.heap.size) w3 ((w3.setCell ⟨w.heap.size, 0, none⟩ m').setCell ⟨w.heap.size, 1, none⟩ d') := ((Ch.refl _ _).setB _ _).setB _ _
    refine hK.out _ _ ⟨cS.keeps hHeld.1 (fun e => by have e' : b2 = w.heap.size := e; omega), cS.keeps hHeld.2 (fun e => by have e' : b3 = w.heap.size := e; omega)⟩ (fun hHeld => ?_)
    clear hK K' hHeld
    (try simp only [Act.put, List.setIfInBounds_toArray, List.set_cons_zero, List.set_cons_succ])
    refine wpAnyH_done (by kernel_rfl) ?_ _
    go_wp2
    refine bodyPost_ret (v := .agg #[m', d']) (by simp [results, Try.results29, go_sem, y0, y1, cell_set]) rfl ?_
    obtain ⟨g1, g2, g3, g4, g5, g6, g7, g8, g9⟩ := EN.out
    exact ⟨_, S2, M2, rfl, Own.kept g1 cS (fun k hk e => g8 k hk e), g2.ag (cS.ag g7 (fun k hk e => g9 k hk e)), g3.then cS (fun i hi e => by have e' : i = w.heap.size := e; omega), fun k hk => (g4 k hk).imp id (fun h => by omega), fun k hk => (g5 k hk).imp id (fun h => by omega), g6, fun k hk => by have := g7 k hk; have := cS.size; omega⟩
end
/-- the three blocks that chain lays -/
structure Laid3 (w w0 : World) (A : Nat) (p : Value) : Prop where
  c : Ch Nil w w0
  t : w0.cell? ⟨w.heap.size, 0, none⟩ = some (.pointer (some ⟨A, 0, none⟩))
  p : w0.cell? ⟨w.heap.size + 1, 0, none⟩ = some p
  a : w0.cell? ⟨w.heap.size + 1 + 1, 0, none⟩ = some .nilFunc
  b : w0.cell? ⟨w.heap.size + 1 + 1, 1, none⟩ = some .nilFunc
  k : Blk w0 (w.heap.size + 1 + 1)
  z : w0.heap.size = w.heap.size + 3
theorem laid3 (w : World) (A : Nat) (p : Value) : Laid3 w (((w.alloc (.cells #[.pointer (some ⟨A, 0, none⟩)] 33)).alloc (.cells #[p] 22)).alloc (.cells #[.nilFunc, .nilFunc] 31)) A p := by
  have c2 : Ch Nil (w.alloc (.cells #[.pointer (some ⟨A, 0, none⟩)] 33)) ((w.alloc (.cells #[.pointer (some ⟨A, 0, none⟩)] 33)).alloc (.cells #[p] 22)) := (Ch.refl _ _).alloc _
  have c3 : Ch Nil ((w.alloc (.cells #[.pointer (some ⟨A, 0, none⟩)] 33)).alloc (.cells #[p] 22)) (((w.alloc (.cells #[.pointer (some ⟨A, 0, none⟩)] 33)).alloc (.cells #[p] 22)).alloc (.cells #[.nilFunc, .nilFunc] 31)) := (Ch.refl _ _).alloc _
  have z1 : (w.alloc (.cells #[.pointer (some ⟨A, 0, none⟩)] 33)).heap.size = w.heap.size + 1 := by simp
  have z2 : ((w.alloc (.cells #[.pointer (some ⟨A, 0, none⟩)] 33)).alloc (.cells #[p] 22)).heap.size = w.heap.size + 1 + 1 := by simp
  refine ⟨(((Ch.refl _ _).alloc _).trans c2).trans c3, (c2.trans c3).keeps (by rw [cell_fresh]; rfl) (fun e => e), c3.keeps (by rw [← z1, cell_fresh]; rfl) (fun e => e), by rw [← z2, cell_fresh]; rfl, by rw [← z2, cell_fresh]; rfl, ?_, by simp⟩
  rw [← z2]
  exact Blk.new _ _ _
section
variable {A B : Nat} {Q : List Int → Own} {pl : List (List Int)} {l : List Int}
set_option maxHeartbeats 1000000 in
theorem chain_nil : ChainOf A B Q [] := by
  intro g w a cap M hs hQ hM hB hg hn hc hm
  have h3 := laid3 w A (.slice a 0 cap)
  have H3 := Lib.hid h3
  have HQ := Lib.hid hQ
  have HM := Lib.hid ((Q g).lt M w hQ)
  have st0 := IsFn.store (v := .nilFunc) (.inl rfl)
  clear hs hQ hM h3 hn
  go_enter Try.func11, Try.ntmps11
  go_upto_region 1 with (fail)
  generalize ((w.alloc (.cells #[.pointer (some ⟨A, 0, none⟩)] 33)).alloc (.cells #[.slice a 0 cap] 22)).alloc (.cells #[.nilFunc, .nilFunc] 31) = w1 at H3 ⊢
  obtain ⟨c0, ht, hp, ha, hb, hk, hz⟩ := H3.out
  have hfz := hk.fz
  have C0 := Lib.hid c0
  have Z0 := Lib.hid hz
  clear H3 c0 hz hk
  go_wp2
  have cS : Ch (One (w.heap.size + 1 + 1)) w1 ((w1.setCell ⟨w.heap.size + 1 + 1, 0, none⟩ .nilFunc).setCell ⟨w.heap.size + 1 + 1, 1, none⟩ .nilFunc) := ((Ch.refl _ _).setB _ _).setB _ _
  (try simp only [Exit.inBlock, Exit.then])
  refine bodyPost_ret (v := .agg #[.nilFunc, .nilFunc]) (by simp [results, Try.results11, go_sem, ha, hb, cell_set]) rfl ?_
  have cN : Ch Nil w ((w1.setCell ⟨w.heap.size + 1 + 1, 0, none⟩ .nilFunc).setCell ⟨w.heap.size + 1 + 1, 1, none⟩ .nilFunc) := C0.out.then cS (fun i hi e => by have e' : i = w.heap.size + 1 + 1 := e; omega)
  exact ⟨_, Nil, M, rfl, Own.nil HQ.out cN, ⟨_, .inl rfl, rfl⟩, cN.mono (fun _ _ e => e.elim), fun k hk => .inl hk, fun _ e => e.elim, fun _ e => e.elim, fun _ e => e.elim⟩
set_option maxHeartbeats 2000000 in
theorem chain_cons (hH : Holds A Q) (IH : ChainOf A B Q pl) : ChainOf A B Q (l :: pl) := by
  intro g w a cap M hs hQ hM hB hg hn hc hm
  rw [List.length_cons] at hg hc ⊢
  have h3 := laid3 w A (.slice a (pl.length + 1) cap)
  obtain ⟨b, o, rfl, hb, hcl⟩ := hs.form (by simp)
  obtain ⟨ai, ci, hx, hy⟩ := hcl 0 l rfl
  rw [Nat.add_zero] at hx
  have HS := Lib.hid hs
  have HY := Lib.hid hy
  have HI := Lib.hid IH
  have HHo := Lib.hid hH
  have HN := Lib.hid hn
  have H3 := Lib.hid h3
  have HX := Lib.hid hx
  have HQ := Lib.hid hQ
  have HB := Lib.hid hM
  have HM := Lib.hid ((Q g).lt M w hQ)
  have hlen : ((pl.length : Int) + 1 == 0) = false := by simp; omega
  clear hs hQ hM h3 hcl hx hy IH hH hn
  go_enter Try.func11, Try.ntmps11
  go_upto_region 1 with (fail)
  generalize ((w.alloc (.cells #[.pointer (some ⟨A, 0, none⟩)] 33)).alloc (.cells #[.slice (some ⟨b, o, none⟩) (pl.length + 1) cap] 22)).alloc (.cells #[.nilFunc, .nilFunc] 31) = w0 at H3 ⊢
  obtain ⟨c0, ht, hp, ha, hb2, hk, hz⟩ := H3.out
  have x0 := c0.keeps HX.out (fun e => e)
  have C0 := Lib.hid c0
  have Z0 := Lib.hid hz
  have YA := Lib.hid ha
  have YB := Lib.hid hb2
  have BK := Lib.hid hk
  clear H3 c0 hz hk ha hb2 HX
  go_upto_region 3 with (fail)
  refine wp_region_held_drew (S := fun w' => w'.cell? ⟨w.heap.size, 0, none⟩ = some (.pointer (some ⟨A, 0, none⟩)) ∧ w'.cell? ⟨w.heap.size + 1, 0, none⟩ = some (.slice (some ⟨b, o, none⟩) (pl.length + 1) cap) ∧ w'.cell? ⟨b, o, none⟩ = some (.slice ai l.length ci)) (by kernel_rfl) ⟨ht, hp, x0⟩ (fun hHeld => ?_)
  have D1 : Ch Nil w0 w0.drew := (Ch.refl _ _).drew
  have C1 := Lib.hid C0.out.drew
  have B1 := Lib.hid BK.out.drew
  have Y0 := Lib.hid (D1.keeps YA.out (fun e => e))
  have Y1 := Lib.hid (D1.keeps YB.out (fun e => e))
  have HZ : Hid (w0.drew.heap.size = w.heap.size + 3) := Lib.hid Z0.out
  clear ht hp x0 C0 BK YA YB D1 Z0
  generalize w0.drew = w1 at C1 B1 Y0 Y1 HZ hHeld ⊢
  have hz1 := HZ.out
  have aB : Ag (fun k => k < B) w w1 := C1.out.ag (fun k hk => by omega) (fun _ _ e => e)
  have RW := Lib.hid (lrow_of (cap := ci) (g := g) HHo.out (HY.out.ag aB).srcA (HN.out l (List.mem_cons_self ..)) (by have := HN.out l (List.mem_cons_self ..); omega))
  clear aB
  refine take_at (v := ?_) 0 (some 9) rfl (by kernel_rfl) (by kernel_rfl) (by kernel_rfl) (by kernel_rfl) (fun _ _ _ h => h) (Or.inl ⟨by rfl, ?_⟩) (by assumption) ?_
  rotate_left
  · intro w hSw; (try dsimp only at hSw); go_simp; try (with_reducible rfl)
  (try simp only [Act.put, List.setIfInBounds_toArray, List.set_cons_zero, List.set_cons_succ])
  refine take_at (v := ?_) 1 (some 10) rfl (by kernel_rfl) (by kernel_rfl) (by kernel_rfl) (by kernel_rfl) (fun _ _ _ h => h) (Or.inl ⟨by rfl, ?_⟩) (by assumption) ?_
  rotate_left
  · intro w hSw; (try dsimp only at hSw); go_simp; try (with_reducible rfl)
  (try simp only [Act.put, List.setIfInBounds_toArray, List.set_cons_zero, List.set_cons_succ])
  refine take_at (v := ?_) 2 (some 11) rfl (by kernel_rfl) (by kernel_rfl) (by kernel_rfl) (by kernel_rfl) (fun _ _ _ h => h) (Or.inl ⟨by rfl, ?_⟩) (by assumption) ?_
  rotate_left
  · intro w hSw; (try dsimp only at hSw); go_simp; try (with_reducible rfl)
  (try simp only [Act.put, List.setIfInBounds_toArray, List.set_cons_zero, List.set_cons_succ])
  refine take_at (v := ?_) 3 (some 12) rfl (by kernel_rfl) (by kernel_rfl) (by kernel_rfl) (by kernel_rfl) (fun _ _ _ h => h) (Or.inl ⟨by rfl, ?_⟩) (by assumption) ?_
  rotate_left
  · intro w hSw; (try dsimp only at hSw); go_simp; try (with_reducible rfl)
  (try simp only [Act.put, List.setIfInBounds_toArray, List.set_cons_zero, List.set_cons_succ])
  refine take_at (v := ?_) 5 (some 14) rfl (by kernel_rfl) (by kernel_rfl) (by kernel_rfl) (by kernel_rfl) (fun _ _ _ h => h) (Or.inl ⟨by rfl, ?_⟩) (by assumption) ?_
  rotate_left
  · intro w hSw; (try dsimp only at hSw); go_simp; try (with_reducible rfl)
  (try simp only [Act.put, List.setIfInBounds_toArray, List.set_cons_zero, List.set_cons_succ])
  refine wpAnyH_ready (rs := [4]) (by kernel_rfl) (by simp) ?_
  refine AllReadyH.cons rfl (fun K' hK => ?_) AllReadyH.nil
  go_simp
  refine RW.out.mono ?_
  rintro x w2 ⟨v2, S2, rfl, st2, ch2, ss2, sl2⟩
  have hHeld' := And.intro (ch2.keeps hHeld.1 (fun e => e)) (And.intro (ch2.keeps hHeld.2.1 (fun e => e)) (ch2.keeps hHeld.2.2 (fun e => e)))
  refine hK.out _ _ hHeld' (fun hHeld => ?_)
  clear hK K' hHeld'
  (try simp only [Act.put, List.setIfInBounds_toArray, List.set_cons_zero, List.set_cons_succ])
  have C2 := Lib.hid (C1.out.trans ch2)
  have B2 := Lib.hid (B1.out.kept ch2 (fun e => e))
  have Y2 := Lib.hid (ch2.keeps Y0.out (fun e => e))
  have Y3 := Lib.hid (ch2.keeps Y1.out (fun e => e))
  have lz2 := ch2.size
  have Q2 := Lib.hid (Own.nil HQ.out C2.out)
  have hS : ∀ k, (k < B ∨ (k = w.heap.size ∨ k = w.heap.size + 1) ∨ S2 k) → k < w2.heap.size := fun k hk => by
    rcases hk with hk | (hk | hk) | hk
    · omega
    · omega
    · omega
    · exact sl2 k hk
  have hSM : ∀ k, (k < B ∨ (k = w.heap.size ∨ k = w.heap.size + 1) ∨ S2 k) → ¬ M k := fun k hk e => by
    have h1 := HM.out k e
    have h2 := HB.out k e
    rcases hk with hk | (hk | hk) | hk
    · omega
    · omega
    · omega
    · have := ss2 k hk; omega
  have LE : Leads (lastQ (sts Q g (pos l)) (Q g)) (lastQ (sts Q g (pos l)) (Q g)) (Stg (sts Q (g ++ pos l) (flat pl)) (lastQ (sts Q g (pos l)) (Q g))) (fun k => k < B ∨ (k = w.heap.size ∨ k = w.heap.size + 1) ∨ S2 k) (.func (.func 29) #[] #[.pointer (some ⟨w.heap.size, 0, none⟩), .pointer (some ⟨w.heap.size + 1, 0, none⟩)]) w2 := by
    rw [sts_last]
    refine ⟨_, _, rfl, enters_chain1, hS, fun w4 M4 a4 hM4 hQ4 => ?_⟩
    have hz4 := a4.size
    refine (chain1_of (cap := cap) HI.out ((HS.out.ag (C2.out.ag (fun k hk => by omega) (fun _ _ e => e))).ag (a4.mono (fun k hk => .inl hk))) (a4.cell hHeld.1 (.inr (.inl (.inl rfl)))) (a4.cell hHeld.2.1 (.inr (.inl (.inr rfl)))) hQ4 (fun k hk => Nat.le_of_not_lt (fun h => hM4 k (.inl h) hk)) (hM4 _ (.inr (.inl (.inl rfl)))) (hM4 _ (.inr (.inl (.inr rfl)))) (by omega) (by have := pos_len l; have := HN.out l (List.mem_cons_self ..); rw [List.length_append]; omega) (fun l' hl' => HN.out l' (List.mem_cons_of_mem _ hl')) hc hm).mono ?_
    rintro x w5 ⟨v5, S5, M5, rfl, g2, g3, g4, g5, g6, g7, g8⟩
    exact ⟨v5, S5, M5, rfl, g2, g3, g4, g5, fun k hk => (g6 k hk).imp .inl id, g7, g8⟩
  have TH := Lib.hid (then_of _ (sts Q (g ++ pos l) (flat pl)) (sts Q g (pos l)) (Q g) v2 (fun k => k < B ∨ (k = w.heap.size ∨ k = w.heap.size + 1) ∨ S2 k) w2 M _ _ (st2.wide (fun k hk => .inr (.inr hk)) hS) LE Q2.out hSM hS)
  rw [(joinQ_last _ _ _ (Q g)).1, (joinQ_last (sts Q (g ++ pos l) (flat pl)) (sts Q g (pos l)) (Q g) (Q g)).2, ← sts_append, ← flat_cons] at TH
  have SS := Lib.hid ss2
  clear LE hS hSM st2 ch2 ss2 sl2 Q2 RW C1 B1 Y0 Y1
  refine wpAnyH_ready (rs := [6]) (by kernel_rfl) (by simp) ?_
  refine AllReadyH.cons rfl (fun K' hK => ?_) AllReadyH.nil
  go_simp
  refine TH.out.mono ?_
  rintro x w3 ⟨v3, S3, M3, rfl, q3, st3, ch3, sm3, ss3, sa3, sl3⟩
  have hwn : ∀ k, w.heap.size ≤ k → ¬ M k := fun k hk e => by have := HM.out k e; omega
  have hHeld' := And.intro (ch3.keeps hHeld.1 (hwn _ (Nat.le_refl _))) (And.intro (ch3.keeps hHeld.2.1 (hwn _ (by simp only; omega))) (ch3.keeps hHeld.2.2 (fun e => by have := HB.out _ e; simp only at this; omega)))
  refine hK.out _ _ hHeld' (fun hHeld => ?_)
  clear hK K' hHeld'
  (try simp only [Act.put, List.setIfInBounds_toArray, List.set_cons_zero, List.set_cons_succ])
  obtain ⟨m', d', rfl, fm, fd⟩ := st3.shape
  have t1 := fm.store
  have t2 := fd.store
  have y0 := ch3.keeps Y2.out (hwn _ (by simp only; omega))
  have y1 := ch3.keeps Y3.out (hwn _ (by simp only; omega))
  have bk := B2.out.kept ch3 (hwn _ (by omega))
  have hfz := bk.fz
  have hn3 : ∀ k, M3 k → k ≠ w.heap.size + 1 + 1 := fun k hk e => by
    rcases sm3 k hk with h | h
    · exact hwn k (by omega) h
    · omega
  have hs3 : ∀ k, S3 k → k < B ∨ (w.heap.size ≤ k ∧ k ≠ w.heap.size + 1 + 1) := fun k hk => by
    rcases ss3 k hk with (h | (h | h) | h) | h
    · exact .inl h
    · right; omega
    · right; omega
    · have := SS.out k h; right; omega
    · right; omega
  have lz3 := ch3.size
  have EN := Lib.hid (And.intro q3 (And.intro st3 (And.intro ((C2.out.mono (S' := M) (fun _ _ e => e.elim)).trans ch3) (And.intro sm3 (And.intro hs3 (And.intro sa3 (And.intro sl3 hn3)))))))
  clear q3 st3 ch3 sm3 ss3 sa3 sl3 hn3 hs3 bk fm fd TH B2 Y2 Y3
  refine wpAnyH_ready (rs := [7]) (by kernel_rfl) (by simp) ?_
  refine AllReadyH.cons rfl (fun K' hK => ?_) AllReadyH.nil
  go_simp
  have cS : Ch (One (w.heap.size + 1 + 1)) w3 ((w3.setCell ⟨w.heap.size + 1 + 1, 0, none⟩ m').setCell ⟨w.heap.size + 1 + 1, 1, none⟩ d') := ((Ch.refl _ _).setB _ _).setB _ _
  refine hK.out _ _ ⟨cS.keeps hHeld.1 (fun e => by have e' : w.heap.size = w.heap.size + 1 + 1 := e; omega), cS.keeps hHeld.2.1 (fun e => by have e' : w.heap.size + 1 = w.heap.size + 1 + 1 := e; omega), cS.keeps hHeld.2.2 (fun e => by have e' : b = w.heap.size + 1 + 1 := e; omega)⟩ (fun hHeld => ?_)
  clear hK K' hHeld
  (try simp only [Act.put, List.setIfInBounds_toArray, List.set_cons_zero, List.set_cons_succ])
  refine wpAnyH_done (by kernel_rfl) ?_ _
  go_wp2
  (try simp only [Exit.inBlock, Exit.then])
  refine bodyPost_ret (v := .agg #[m', d']) (by simp [results, Try.results11, go_sem, y0, y1, cell_set]) rfl ?_
  obtain ⟨g1, g2, g3, g4, g5, g6, g7, g8⟩ := EN.out
  refine ⟨_, S3, M3, rfl, Own.kept g1 cS (fun k hk e => g8 k hk e), g2.ag (cS.ag g7 (fun k hk e => ?_)), g3.then cS (fun i hi e => by have e' : i = w.heap.size + 1 + 1 := e; omega), fun k hk => (g4 k hk).imp id (fun h => by omega), fun k hk => (g5 k hk).imp id (fun h => h.1), g6, fun k hk => by have := g7 k hk; have := cS.size; omega⟩
  have e' : k = w.heap.size + 1 + 1 := e
  have := g5 k hk
  omega
theorem chain_of (hH : Holds A Q) : ∀ pl, ChainOf A B Q pl
  | [] => chain_nil
  | _ :: pl => chain_cons hH (chain_of hH pl)
end
end Go.Proofs.Ytjaalkjdpgnfjaa
