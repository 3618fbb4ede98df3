/-
  What ProgLate's stage does behind the others: it counts how often it was asked for, and what was put by then.
-/
import Derived.Test.YtjaalkjdpgnfjaaStgLaw
namespace Verge
section
variable {α : Type}
theorem lastQ_join (e : α) (l2 : List α) : ∀ (l : List α) (q : α), lastQ (joinQ e l2 l) (hdQ l q e) = lastQ l2 e
  | [], q => rfl
  | p :: r, q => by
    simp only [joinQ, lastQ]
    exact lastQ_join e l2 r p
theorem joinQ_len (e : α) (l2 : List α) : ∀ (l : List α), (joinQ e l2 l).length = l.length + l2.length
  | [] => by simp [joinQ]
  | p :: r => by simp only [joinQ, List.length_cons]; rw [joinQ_len e l2 r]; omega
theorem lastQ_take {l : List α} {q0 q : α} : ∀ {k : Nat}, l[k]? = some q → lastQ (l.take (k + 1)) q0 = q := by
  induction l generalizing q0 with
  | nil => intro k h; simp at h
  | cons p r ih =>
    intro k h
    cases k with
    | zero => simp at h; subst h; simp [lastQ]
    | succ k => simp at h; rw [List.take_succ_cons]; exact ih h
end
end Verge
namespace Go.Proofs.Ytjaalkjdpgnfjaa
open Go.RowKit Verge
attribute [local go_sem] Oper.semAt_some
set_option linter.unusedVariables false
set_option linter.unusedSimpArgs false

section
variable {X : Nat → Prop} {L : List Own} {Q0 : Own} {b k : Nat} {w : World}
/-- a program behind k of so many steps, or behind all -/
abbrev Run (X : Nat → Prop) (L : List Own) (Q0 : Own) (b k : Nat) (w : World) : Prop := Pg X (L.drop k) (lastQ (L.take k) Q0) b (min k L.length) w
theorem Run.next (h : Run X L Q0 b k w) (hn : L.length < 1000000) : Calls Try.prog 16 #[.pointer (some ⟨b, 0, none⟩)] w fun e w' => e = .returned (.bool (decide (k < L.length))) ∧ Run X L Q0 b (k + 1) w' ∧ Ch (fun k => ¬ X k) w w' := by
  by_cases hk : k < L.length
  · obtain ⟨q, hq⟩ : ∃ q, L[k]? = some q := ⟨_, List.getElem?_eq_getElem hk⟩
    have e1 : L.drop k = q :: L.drop (k + 1) := by rw [List.drop_eq_getElem_cons hk]; rw [List.getElem?_eq_getElem hk] at hq; cases hq; rfl
    unfold Run at h ⊢
    rw [e1, Nat.min_eq_left (by omega)] at h
    rw [lastQ_take hq, Nat.min_eq_left (show k + 1 ≤ L.length by omega), decide_eq_true hk]
    exact Pg.step h (by omega)
  · have e1 : L.drop k = [] := List.drop_eq_nil_of_le (by omega)
    have e2 : L.drop (k + 1) = [] := List.drop_eq_nil_of_le (by omega)
    have e3 : L.take (k + 1) = L.take k := by rw [List.take_of_length_le (by omega), List.take_of_length_le (by omega)]
    unfold Run at h ⊢
    rw [e2, e3, show min (k + 1) L.length = min k L.length by omega, decide_eq_false hk]
    rw [e1] at h
    refine (Pg.stuck h).mono ?_
    rintro e w' ⟨rfl, c⟩
    exact ⟨rfl, h.kept c, c.mono (fun _ _ e => e.elim)⟩
end

/-- a row in A; how often it was asked for in p, how much there was then in q -/
structure LateAt (A p q : Nat) (ak st : Int) (g : List Int) (a : Option Addr) (cap : Nat) (w : World) : Prop where
  g : GotAt A g a cap w
  pc : w.cell? ⟨p, 0, none⟩ = some (.int .i64 ak)
  pk : Blk w p
  qc : w.cell? ⟨q, 0, none⟩ = some (.int .i64 st)
  qk : Blk w q
  n : A ≠ p ∧ A ≠ q ∧ p ≠ q ∧ ¬ OwnS a p ∧ ¬ OwnS a q
/-- its blocks -/
abbrev LtB (A p q : Nat) (a : Option Addr) : Nat → Prop := fun k => k = A ∨ k = p ∨ k = q ∨ OwnS a k
def Late (A p q : Nat) (ak st : Int) (g : List Int) : Own where
  P M w := ∃ a cap, LateAt A p q ak st g a cap w ∧ ∀ k, M k ↔ LtB A p q a k
  lt M w h k hk := by
    obtain ⟨a, cap, h, hM⟩ := h
    rcases (hM k).1 hk with rfl | rfl | rfl | e
    · exact lt_of_cell h.g.c
    · exact h.pk.lt
    · exact h.qk.lt
    · exact Row.lt h.g.r k e
  ag M w w' h c := by
    obtain ⟨a, cap, h, hM⟩ := h
    have mp := (hM p).2 (.inr (.inl rfl))
    have mq := (hM q).2 (.inr (.inr (.inl rfl)))
    exact ⟨a, cap, ⟨h.g.ag c ((hM A).2 (.inl rfl)) (fun k hk => (hM k).2 (.inr (.inr (.inr hk)))), c.cell h.pc mp, c.blk h.pk mp, c.cell h.qc mq, c.blk h.qk mq, h.n⟩, hM⟩
theorem late_holds (A p q : Nat) (ak st : Int) : Holds A (Late A p q ak st) := by
  intro g M w h
  obtain ⟨a, cap, h, hM⟩ := h
  obtain ⟨n1, n2, n3, n4, n5⟩ := h.n
  refine ⟨a, cap, h.g, (hM A).2 (.inl rfl), fun k hk => (hM k).2 (.inr (.inr (.inr hk))), fun n a' cap' w' h' c ho => ?_⟩
  have np : ¬ (p = A ∨ OwnS a p) := fun e => e.elim (fun e => n1 e.symm) n4
  have nq : ¬ (q = A ∨ OwnS a q) := fun e => e.elim (fun e => n2 e.symm) n5
  have lp := h.pk.lt
  have lq := h.qk.lt
  refine ⟨LtB A p q a', ⟨a', cap', ⟨h', c.keeps h.pc np, h.pk.kept c np, c.keeps h.qc nq, h.qk.kept c nq, n1, n2, n3, fun e => ?_, fun e => ?_⟩, fun k => Iff.rfl⟩, fun k hk => ?_⟩
  · rcases ho _ e with e | e
    · exact n4 e
    · omega
  · rcases ho _ e with e | e
    · exact n5 e
    · omega
  · rcases hk with hk | hk | hk | hk
    · exact .inl ((hM k).2 (.inl hk))
    · exact .inl ((hM k).2 (.inr (.inl hk)))
    · exact .inl ((hM k).2 (.inr (.inr (.inl hk))))
    · exact (ho k hk).imp (fun e => (hM k).2 (.inr (.inr (.inr e)))) id
theorem enters_late1 : Enters 23 := enters_of Try.func23 (by kernel_rfl) rfl
theorem enters_late11 : Enters 25 := enters_of Try.func25 (by kernel_rfl) rfl

set_option maxHeartbeats 2000000 in
theorem app7_of {A cap : Nat} {g : List Int} {a : Option Addr} {w : World} (h : GotAt A g a cap w) (hn : g.length ≤ 100000) :
    Calls Try.prog 25 #[.pointer (some ⟨A, 0, none⟩)] w fun e w' => e = .returned (.tuple #[]) ∧ ∃ a' cap', GotAt A (g ++ [-7]) a' cap' w' ∧ Ch (fun k => k = A ∨ OwnS a k) w w' ∧ ∀ k, OwnS a' k → OwnS a k ∨ w.heap.size ≤ k := by
  have H := Lib.hid h
  have k0 := h.c
  clear h
  go_enter Try.func25, Try.ntmps25
  have cX : Ch Nil w (w.alloc (.cells #[.int .i64 (-7)] 3)) := (Ch.refl _ _).alloc _
  have HX := Lib.hid (H.out.kept cX (fun e => e) (fun _ _ e => e))
  have R5 : Hid (Row (w.alloc (.cells #[.int .i64 (-7)] 3)) 3 1 a g.length cap (fun i => .int .i64 (num g i))) := Lib.hid HX.out.r
  have hA1 : ∀ i, i < g.length * 1 → (fun i => Value.int .i64 (num (g ++ [-7]) i)) i = (fun i => Value.int .i64 (num g i)) i := fun i hi => by
    simp only
    rw [num_left (by omega)]
  have hA2 : ∀ j u, [Value.int .i64 (-7)][j]? = some u → (fun i => Value.int .i64 (num (g ++ [-7]) i)) (g.length * 1 + j) = u := by
    intro j u hu
    obtain rfl : j = 0 := by cases j; rfl; simp at hu
    simp at hu
    subst hu
    simp only [Nat.mul_one, Nat.add_zero]
    rw [num_last]
  have HA := Lib.hid (And.intro hA1 hA2)
  have CX := Lib.hid cX
  clear hA1 hA2 cX
  go_wp2_with (at_builtin; refine append_row _ rfl _ _ _ rfl 3 (.int .i64 0) 1 8 Try.underlying25 (by kernel_rfl) rfl (by omega) (by omega) rfl R5.out (by omega) w.heap.size 1 [.int .i64 (-7)] 3 rfl rfl (heap_alloc_new w _) (by simp [Value.oneCell']) (fun i => Value.int .i64 (num (g ++ [-7]) i)) HA.out.1 HA.out.2 _ rfl ?_)
  intro g6 cap6 w6 row6 ch6 at6 lt6
  have bk := HX.out.k.kept ch6 HX.out.n
  have hfz := bk.fz
  have c3 := ch6.keeps HX.out.c HX.out.n
  have lA : A < w.heap.size := lt_of_cell H.out.c
  have FIN : Hid (RowI w6 (some ⟨g6, 0, none⟩) (g ++ [-7]).length cap6 (num (g ++ [-7])) ∧ Blk w6 A ∧ ¬ OwnS (some ⟨g6, 0, none⟩) A ∧ Ch (OwnS a) w w6 ∧ (∀ k, OwnS (some ⟨g6, 0, none⟩) k → OwnS a k ∨ w.heap.size ≤ k) ∧ w6.cell? ⟨A, 0, none⟩ = some (.slice a g.length cap)) := Lib.hid ⟨by rw [List.length_append]; exact row6, bk, (fun e => by
      have e' : g6 = A := Option.some.inj e
      rcases at6 with h' | h'
      · exact HX.out.n (e' ▸ h')
      · have h2 : g6 = w.heap.size + 1 := by simpa using h'
        omega), (CX.out.mono (fun _ _ e => e.elim)).trans ch6, (fun k hk => by
      have e' : g6 = k := Option.some.inj hk
      subst e'
      rcases at6 with h' | h'
      · exact .inl h'
      · have h2 : g6 = w.heap.size + 1 := by simpa using h'
        right; omega), c3⟩
  clear row6 ch6 at6 lt6 bk R5 HX HA
  go_wp2
  go_end0
  obtain ⟨f1, f2, f3, f4, f5, f6⟩ := FIN.out
  have cS : Ch (One A) w6 (w6.setCell ⟨A, 0, none⟩ (.slice (some ⟨g6, 0, none⟩) (g.length + 1) cap6)) := (Ch.refl _ _).setB _ _
  refine ⟨rfl, some ⟨g6, 0, none⟩, cap6, ⟨?_, f2.set _ _, f1.kept cS (fun k hk e => f3 ((show k = A from e) ▸ hk)), f3⟩, (f4.mono (fun _ _ e => .inr e)).trans (cS.mono (fun _ _ e => .inl e)), f5⟩
  rw [World.cell?_setCell_same _ _ _ f6, List.length_append]
  rfl
theorem leads_app7 {A : Nat} {Q : List Int → Own} (hQ : Holds A Q) {g : List Int} {S : Nat → Prop} {w : World} (hl : ∀ k, S k → k < w.heap.size) (hn : g.length ≤ 100000) : Leads (Q g) (Q (g ++ [-7])) Void S (.func (.func 25) #[] #[.pointer (some ⟨A, 0, none⟩)]) w := by
  refine ⟨_, _, rfl, enters_late11, hl, fun w' M a hM h => ?_⟩
  obtain ⟨ar, cap, hg, mA, mO, hmore⟩ := hQ g M w' h
  refine (app7_of hg hn).mono ?_
  rintro e w'' ⟨rfl, a', cap', hg', c, ho⟩
  obtain ⟨M', hq', hm'⟩ := hmore _ a' cap' w'' hg' c ho
  exact ⟨_, fun _ => False, M', rfl, hq', ⟨rfl, fun _ e => e⟩, c.mono (fun k _ e => e.elim (fun e => e ▸ mA) (mO k)), hm', fun _ e => e.elim, fun _ e => e.elim, fun _ e => e.elim⟩
/-- the two blocks that it lays: its answer, and the row of one function -/
structure LaidL (w w0 : World) : Prop where
  c : Ch Nil w w0
  a : w0.cell? ⟨w.heap.size, 0, none⟩ = some .nilFunc
  b : w0.cell? ⟨w.heap.size, 1, none⟩ = some .nilFunc
  k : Blk w0 w.heap.size
  z : w0.heap.size = w.heap.size + 1
theorem laidL (w : World) : LaidL w (w.alloc (.cells #[.nilFunc, .nilFunc] 31)) :=
  ⟨(Ch.refl _ _).alloc _, by rw [cell_fresh]; rfl, by rw [cell_fresh]; rfl, Blk.new _ _ _, by simp⟩
set_option maxHeartbeats 4000000 in
theorem late1_of {A p q cap : Nat} {st : Int} {g : List Int} {a : Option Addr} {w : World} {M : Nat → Prop} (h : LateAt A p q 0 st g a cap w) (hM : ∀ k, M k ↔ LtB A p q a k) (hn : g.length ≤ 1000) :
    Calls Try.prog 23 #[.pointer (some ⟨p, 0, none⟩), .pointer (some ⟨A, 0, none⟩), .pointer (some ⟨q, 0, none⟩)] w fun x w' => ∃ v S' M', x = .returned v ∧ (Late A p q 1 g.length g).P M' w' ∧ Stg [Late A p q 1 g.length (g ++ [-7])] (Late A p q 1 g.length g) S' v w' ∧ Ch M w w' ∧
      (∀ k, M' k → M k ∨ w.heap.size ≤ k) ∧ (∀ k, S' k → w.heap.size ≤ k) ∧ (∀ k, S' k → ¬ M' k) ∧ (∀ k, S' k → k < w'.heap.size) := by
  have hl := laidL w
  obtain ⟨n1, n2, n3, n4, n5⟩ := h.n
  have lp := h.pk.lt
  have lq := h.qk.lt
  have lA : A < w.heap.size := lt_of_cell h.g.c
  have H := Lib.hid h
  have HM := Lib.hid hM
  have HL := Lib.hid hl
  clear hl h hM
  go_enter Try.func23, Try.ntmps23
  go_upto_region 1 with (fail)
  generalize w.alloc (.cells #[.nilFunc, .nilFunc] 31) = w0 at HL ⊢
  obtain ⟨c0, ya, yb, bk, hz⟩ := HL.out
  have Y0 := Lib.hid ya
  have Y1 := Lib.hid yb
  have BK := Lib.hid bk
  have HZ := Lib.hid hz
  have C0 := Lib.hid c0
  have g0 := H.out.g.kept c0 (fun e => e) (fun _ _ e => e)
  have p0 := c0.keeps H.out.pc (fun e => e)
  have pk0 := H.out.pk.kept c0 (fun e => e)
  have q0 := c0.keeps H.out.qc (fun e => e)
  have qk0 := H.out.qk.kept c0 (fun e => e)
  have fp := pk0.fz
  have G0 := Lib.hid g0
  have PK := Lib.hid pk0
  have QK := Lib.hid qk0
  have Q0 := Lib.hid q0
  have P0 := Lib.hid p0
  have HA : Hid (∀ k, OwnS a k → k < w.heap.size) := Lib.hid H.out.g.r.lt
  clear HL c0 ya yb bk hz g0 pk0 qk0
  go_upto_region 2 with (fail)
  have d1 : Ch (One p) w0 (w0.setCell ⟨p, 0, none⟩ (.int .i64 1)) := (Ch.refl _ _).setB _ _
  have p1 : (w0.setCell ⟨p, 0, none⟩ (.int .i64 1)).cell? ⟨p, 0, none⟩ = some (.int .i64 1) := World.cell?_setCell_same _ _ _ P0.out
  have pk1 : Blk (w0.setCell ⟨p, 0, none⟩ (.int .i64 1)) p := PK.out.set _ _
  have z1 : (w0.setCell ⟨p, 0, none⟩ (.int .i64 1)).heap.size = w0.heap.size := by simp [World.setCell]
  clear p0 fp q0
  generalize w0.setCell ⟨p, 0, none⟩ (.int .i64 1) = w1 at d1 p1 pk1 z1 ⊢
  have g1 := G0.out.kept d1 n1 (fun k hk e => n4 ((show k = p from e) ▸ hk))
  have q1 := d1.keeps Q0.out (fun e => n3 (show q = p from e).symm)
  have qk1 := QK.out.kept d1 (fun e => n3 (show q = p from e).symm)
  have gc := g1.c
  have fq := qk1.fz
  have P1 := Lib.hid p1
  have PK1 := Lib.hid pk1
  have QK1 := Lib.hid qk1
  have Q1 := Lib.hid q1
  have G1 := Lib.hid g1
  have C1 := Lib.hid d1
  have nwp : ¬ w.heap.size = p := by omega
  have Y2 := Lib.hid (d1.keeps Y0.out nwp)
  have Y3 := Lib.hid (d1.keeps Y1.out nwp)
  have BK2 := Lib.hid (BK.out.kept d1 nwp)
  clear d1 p1 pk1 g1 qk1 Y0 Y1 BK G0 PK QK Q0 P0
  go_upto_region 3 with (fail)
  have d2 : Ch (One q) w1 (w1.setCell ⟨q, 0, none⟩ (.int .i64 (g.length : Int))) := (Ch.refl _ _).setB _ _
  have q2 : (w1.setCell ⟨q, 0, none⟩ (.int .i64 (g.length : Int))).cell? ⟨q, 0, none⟩ = some (.int .i64 (g.length : Int)) := World.cell?_setCell_same _ _ _ Q1.out
  have qk2 : Blk (w1.setCell ⟨q, 0, none⟩ (.int .i64 (g.length : Int))) q := QK1.out.set _ _
  have z2 : (w1.setCell ⟨q, 0, none⟩ (.int .i64 (g.length : Int))).heap.size = w1.heap.size := by simp [World.setCell]
  clear gc fq q1
  generalize w1.setCell ⟨q, 0, none⟩ (.int .i64 (g.length : Int)) = w2 at d2 q2 qk2 z2 ⊢
  have L2 : Hid (LateAt A p q 1 g.length g a cap w2) := Lib.hid ⟨G1.out.kept d2 n2 (fun k hk e => n5 ((show k = q from e) ▸ hk)), d2.keeps P1.out (fun e => n3 e), PK1.out.kept d2 (fun e => n3 e), q2, qk2, n1, n2, n3, n4, n5⟩
  have C2 : Hid (Ch M w w2) := Lib.hid (((C0.out.mono (fun _ _ e => e.elim)).trans (C1.out.mono (fun k _ e => (HM.out k).2 (.inr (.inl e))))).trans (d2.mono (fun k _ e => (HM.out k).2 (.inr (.inr (.inl e))))))
  have nwq : ¬ w.heap.size = q := by omega
  have Y4 := Lib.hid (d2.keeps Y2.out nwq)
  have Y5 := Lib.hid (d2.keeps Y3.out nwq)
  have BK4 := Lib.hid (BK2.out.kept d2 nwq)
  have hz0 := HZ.out
  clear d2 q2 qk2 Y2 Y3 BK2 G1 P1 PK1 QK1 Q1 C1 C0 HZ H
  go_wp2_with fail
  have zz : w.heap.size + 1 = w2.heap.size := by omega
  have k3 : (w2.alloc (.cells #[.func (.func 25) #[] #[.pointer (some ⟨A, 0, none⟩)]] 1)).cell? ⟨w.heap.size + 1, 0, none⟩ = some (.func (.func 25) #[] #[.pointer (some ⟨A, 0, none⟩)]) := by rw [zz, cell_fresh]; rfl
  have c3 : Ch Nil w2 (w2.alloc (.cells #[.func (.func 25) #[] #[.pointer (some ⟨A, 0, none⟩)]] 1)) := (Ch.refl _ _).alloc _
  generalize w2.alloc (.cells #[.func (.func 25) #[] #[.pointer (some ⟨A, 0, none⟩)]] 1) = w3 at k3 c3 ⊢
  refine (rowAll_of (S := Nil) (l := [Late A p q 1 g.length (g ++ [-7])]) (Q0 := Late A p q 1 g.length g) (F := [.func (.func 25) #[] #[.pointer (some ⟨A, 0, none⟩)]]) (cap := 1) (.inr ⟨_, _, rfl, leads_app7 (late_holds A p q 1 g.length) (fun _ e => e.elim) (by omega), trivial⟩) (.inr ⟨w.heap.size + 1, 0, rfl, fun i v hi => ?_⟩) (fun _ e => e.elim) (by simp) (by simp) (by simp [maxLen])).mono ?_
  · have hl := (List.getElem?_eq_some_iff.1 hi).1
    simp at hl
    subst hl
    cases hi
    exact k3
  rintro x w4 ⟨v, S', rfl, st4, c4, s4, l4⟩
  obtain ⟨m', d', rfl, fm, fd⟩ := st4.shape
  have t1 := fm.store
  have t2 := fd.store
  have cc := c3.trans c4
  have y0 := cc.keeps Y4.out (fun e => e)
  have y1 := cc.keeps Y5.out (fun e => e)
  have bk := BK4.out.kept cc (fun e => e)
  have hfz := bk.fz
  have ls3 := c3.size
  have ls4 := c4.size
  have EN := Lib.hid (And.intro st4 (And.intro cc (And.intro s4 l4)))
  have ZZ := Lib.hid zz
  clear st4 c4 s4 l4 c3 k3 cc bk fm fd Y4 Y5 BK4 zz
  go_wp2
  have cS : Ch (One w.heap.size) w4 ((w4.setCell ⟨w.heap.size, 0, none⟩ m').setCell ⟨w.heap.size, 1, none⟩ d') := ((Ch.refl _ _).setB _ _).setB _ _
  (try simp only [Exit.inBlock, Exit.then])
  refine bodyPost_ret (v := .agg #[m', d']) (by simp [results, Try.results23, go_sem, y0, y1, cell_set]) rfl ?_
  obtain ⟨g2, g3, g5, g7⟩ := EN.out
  have zz := ZZ.out
  have hMl : ∀ k, M k → k < w.heap.size := fun k hk => by
    rcases (HM.out k).1 hk with h | h | h | h
    · omega
    · omega
    · omega
    · exact HA.out k h
  have nS : ∀ k, S' k → k ≠ w.heap.size := fun k hk e => by
    rcases g5 k hk with h | h
    · exact h.elim
    · omega
  have hP : (Late A p q 1 g.length g).P M w2 := ⟨a, cap, L2.out, HM.out⟩
  refine ⟨_, S', M, rfl, Own.kept (Own.nil hP g3) cS (fun k hk e => by have := hMl k hk; have e' : k = w.heap.size := e; omega), g2.ag (cS.ag g7 (fun k hk e => nS k hk e)), (C2.out.trans (g3.mono (fun _ _ e => e.elim))).then cS (fun i hi e => by have e' : i = w.heap.size := e; omega), fun k hk => .inl hk, fun k hk => ?_, fun k hk e => ?_, fun k hk => by have := g7 k hk; have := cS.size; omega⟩
  · rcases g5 k hk with h | h
    · exact h.elim
    · omega
  · have := hMl k e
    rcases g5 k hk with h | h
    · exact h.elim
    · omega
end Go.Proofs.Ytjaalkjdpgnfjaa
