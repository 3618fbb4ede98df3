/-
  Contract of package list's Splice at int.
-/
import Derived.Test.YtmebkogkcnmkiaaListI4
namespace Go.Proofs.Ytmebkogkcnmkiaa.LI
open Go.RowKit Go.Shelf Verge
attribute [local go_sem] Oper.semAt_some
set_option linter.unusedVariables false
set_option linter.unusedSimpArgs false

section
variable {S : Nat → Prop} {w w' : World} {lb ob b : Nat} {xs ys : List Nat} {V : Nat → Int}
theorem NoCells.blk {W : World} {r k : Nat} (h : NoCells W r) (hb : Blk W k) : k ≠ r := by obtain ⟨cs, t, hb⟩ := hb; exact h.row hb
theorem IsL.steady (h : IsL w lb xs V) {r : Nat} (c : Ch (One r) w w') (hr : NoCells w r) : IsL w' lb xs V :=
  h.kept c fun k hk => NoCells.blk hr (h.blk hk)
theorem Keeps.of_ch {B : Nat} (c : Ch S w w') (hS : ∀ k, S k → k < B) : KeepsFrom B w w' :=
  ⟨c.size, fun k o hB hk ho => (c.block k (Array.getElem?_eq_some_iff.1 hk).1 fun hs => by have := hS k hs; omega).trans hk⟩
theorem Ch.late {r : Nat} {a : World} (h : Ch S a w) (c : Ch (One r) w w') (hr : a.heap.size ≤ r) : Ch S a w' :=
  h.then c fun i hi e => by subst e; omega

/-- between two rounds of Splice -/
structure SpIn (w : World) (lb ob : Nat) (xs ys : List Nat) (V : Nat → Int) (k : Nat) (W : World) : Prop where
  o : IsL W ob (ys.drop k) V
  l : IsL W lb (xs ++ ys.take k) V
  bl : W.cell? ⟨w.heap.size, 0, none⟩ = some (.pointer (some ⟨lb, 0, none⟩))
  bo : W.cell? ⟨w.heap.size + 1, 0, none⟩ = some (.pointer (some ⟨ob, 0, none⟩))
  c : Ch (fun k => LB lb xs k ∨ LB ob ys k) w W
theorem SpIn.steady {B : Nat} (hB : w.heap.size ≤ B) : Steady B (SpIn w lb ob xs ys V) :=
  fun k W W' r h c hr nc => ⟨h.o.steady c nc, h.l.steady c nc, c.keeps h.bl (fun e => nc.cell h.bl e), c.keeps h.bo (fun e => nc.cell h.bo e), Ch.late h.c c (by omega)⟩

theorem drop_succ {ys : List Nat} {k : Nat} : (ys.drop k).eraseIdx 0 = ys.drop (k + 1) := by
  rw [List.eraseIdx_zero, List.tail_drop]
theorem take_succ {ys : List Nat} {k b : Nat} (h : ys[k]? = some b) : ys.take (k + 1) = ys.take k ++ [b] := by
  rw [List.take_add_one, h]; rfl

set_option maxRecDepth 100000 in
set_option maxHeartbeats 1000000 in
theorem IsL.splice (h : IsL w lb xs V) (ho : IsL w ob ys V) (hd : ∀ k, LB lb xs k → ¬ LB ob ys k) (hs : xs.length + ys.length ≤ 1000000) :
    Calls Try.prog 11 #[.pointer (some ⟨lb, 0, none⟩), .pointer (some ⟨ob, 0, none⟩)] w fun e w' => e = .returned (.int .i64 0) ∧ IsL w' lb (xs ++ ys) V ∧ IsL w' ob [] V ∧ Ch (fun k => LB lb xs k ∨ LB ob ys k) w w' := by
  have hne : ob ≠ lb := fun e => hd lb (.inl rfl) (.inl e.symm)
  obtain ⟨W0, hW0⟩ : ∃ W0, W0 = (w.alloc (.cells #[.pointer (some ⟨lb, 0, none⟩)] 24)).alloc (.cells #[.pointer (some ⟨ob, 0, none⟩)] 24) := ⟨_, rfl⟩
  have ch0 : Ch (fun k => LB lb xs k ∨ LB ob ys k) w W0 := by rw [hW0]; exact ((Ch.refl _ _).alloc _).alloc _
  have chN : Ch Nil w W0 := by rw [hW0]; exact ((Ch.refl _ _).alloc _).alloc _
  have hsz : W0.heap.size = w.heap.size + 2 := by rw [hW0]; simp
  have c0 : W0.cell? ⟨w.heap.size, 0, none⟩ = some (.pointer (some ⟨lb, 0, none⟩)) := by
    rw [hW0]; exact ((Ch.refl Nil _).alloc _).keeps ((cell_fresh _ _ _ _).trans rfl) (fun e => e)
  have c1 : W0.cell? ⟨w.heap.size + 1, 0, none⟩ = some (.pointer (some ⟨ob, 0, none⟩)) := by
    rw [hW0]
    have := cell_fresh (w.alloc (.cells #[.pointer (some ⟨lb, 0, none⟩)] 24)) #[.pointer (some ⟨ob, 0, none⟩)] 24 0
    rw [World.size_alloc] at this
    exact this.trans rfl
  have hl0 := h.kept chN (fun _ _ e => e)
  have ho0 := ho.kept chN (fun _ _ e => e)
  have hE := eqlL (w := W0) (some ob) (some lb) (fun x e => by cases e; exact ho0.h.k) (fun x e => by cases e; exact hl0.h.k)
  rw [decide_eq_false (fun e => hne (by cases e; rfl))] at hE
  simp only [pt_some] at hE
  have hltl : ∀ k, LB lb xs k → k < w.heap.size := fun k hk => h.lt hk
  have hlto : ∀ k, LB ob ys k → k < w.heap.size := fun k hk => ho.lt hk
  have hI0 : SpIn w lb ob xs ys V 0 W0 := ⟨ho0, by simpa using hl0, c0, c1, ch0⟩
  have HI0 := Lib.hid hI0
  have HL := Lib.hid hltl
  have HO := Lib.hid hlto
  have HD := Lib.hid hd
  have ND := Lib.hid ho.nd
  have HSelf := Lib.hid ho.nl
  have HH := Lib.hid hW0
  clear hI0 hltl hlto hl0 ho0 ch0 chN hd h ho
  refine (callsIn_wide (n := 5)).1 ?_
  refine callsIn_of_wp_marks Try.func11 rfl trivial ?_ rfl
  simp only [Try.ntmps11, List.size_toArray, List.length_cons, List.length_nil, Nat.reduceAdd, Nat.reduceSub, Array.replicate_succ, Array.replicate_zero, List.push_toArray, List.append_toArray, List.nil_append, List.cons_append]
  subst hW0
  gi_wp2
  clear hE HH
  generalize hW0 : ((w.alloc (.cells #[.pointer (some ⟨lb, 0, none⟩)] 24)).alloc (.cells #[.pointer (some ⟨ob, 0, none⟩)] 24)) = W0 at *
  clear hW0
  have hB : w.heap.size ≤ W0.heap.size := by omega
  refine range_all (n := 5) (gf := 25) (ba := #[.pointer (some ⟨ob, 0, none⟩)]) rfl (enters_of Try.func25 (by kernel_rfl) rfl) ys.length (fun k => pt ys[k]?) rfl
    (SpIn w lb ob xs ys V) (SpIn.steady hB) HI0.out (nodes_tells 4 (by omega) ob ys ND.out _ ?hF ?hN) ?act1 ?assign ?body ?done
  case hF => intro W hW; have := hW.o.h.f; simpa using this
  case hN =>
    intro k W b hW hk
    have := (hW.o.n 0 b (by rw [List.getElem?_drop]; simpa using hk)).z
    rw [List.getElem?_drop] at this
    exact this
  case assign =>
    intro l k W K hK
    gi_wp2
    exact hK
  case body =>
    intro l k W hW hk
    obtain ⟨b, hb⟩ : ∃ b, ys[k]? = some b := ⟨_, List.getElem?_eq_getElem hk⟩
    have hbm := List.mem_of_getElem? hb
    rw [hb, pt_some]
    have c0 := hW.bl
    have c1 := hW.bo
    have HW := Lib.hid hW
    have HBk := Lib.hid hb
    clear hW hb
    gi_wp2_with fail
    refine ⟨trivial, ?_⟩
    refine (CallsIn.inRound l (callsIn_wide.2 (HW.out.o.cut_of (i := 0) (b := b) (by rw [List.getElem?_drop]; simpa using HBk.out) (by rw [List.length_drop]; omega)))).mono ?_
    rintro e W1 ⟨⟨r, rfl⟩, o1, n1, ch1⟩
    rw [drop_succ] at o1
    have dsub : ∀ j, LB ob (ys.drop k) j → LB ob ys j := by
      rintro j (rfl | hj)
      · exact .inl rfl
      · exact .inr (List.mem_of_mem_drop hj)
    have lsub : ∀ j, LB lb (xs ++ ys.take k) j → LB lb xs j ∨ j ∈ ys.take k := by
      rintro j (rfl | hj)
      · exact .inl (.inl rfl)
      · rcases List.mem_append.1 hj with hj | hj
        · exact .inl (.inr hj)
        · exact .inr hj
    have apart : ∀ j, LB lb (xs ++ ys.take k) j → ¬ LB ob (ys.drop k) j := by
      intro j hj ho
      rcases lsub j hj with hj | hj
      · exact HD.out j hj (dsub j ho)
      · rcases ho with rfl | ho
        · exact HSelf.out (List.mem_of_mem_take hj)
        · obtain ⟨a, ha⟩ := List.mem_iff_getElem?.1 hj
          obtain ⟨c, hc⟩ := List.mem_iff_getElem?.1 ho
          rw [List.getElem?_take] at ha
          rw [List.getElem?_drop] at hc
          split at ha
          · have := ND.out _ _ _ ha hc; omega
          · cases ha
    have l1 := HW.out.l.kept ch1 apart
    have bnot : b ∉ xs ++ ys.take k := fun hm => apart b (.inr hm) (.inr (List.mem_of_getElem? (i := 0) (by rw [List.getElem?_drop]; simpa using HBk.out)))
    have bne : b ≠ lb := fun e => HD.out lb (.inl rfl) (.inr (e ▸ hbm))
    have d0 := ch1.keeps c0 (fun e => by have := HO.out _ (dsub _ e); simp at this)
    have d1 := ch1.keeps c1 (fun e => by have := HO.out _ (dsub _ e); simp at this; omega)
    have O1 := Lib.hid o1
    have N1 := Lib.hid n1
    have C1 := Lib.hid ch1
    have L1 := Lib.hid l1
    clear o1 n1 ch1 l1 c0 c1
    gi_wp2_with fail
    refine ⟨trivial, ?_⟩
    refine (CallsIn.inRound l (callsIn_wide.2 (L1.out.link_of N1.out bnot bne (by rw [List.length_append, List.length_take]; omega)))).mono ?_
    rintro e W2 ⟨⟨r2, rfl⟩, l2, ch2⟩
    rw [List.append_assoc, ← take_succ HBk.out] at l2
    have C2 := Lib.hid ch2
    have L2 := Lib.hid l2
    clear l2 ch2
    gi_wp2
    have low : ∀ j, (LB lb (xs ++ ys.take k) j ∨ j = b) → LB lb xs j ∨ LB ob ys j := by
      rintro j (hj | rfl)
      · rcases lsub j hj with hj | hj
        · exact .inl hj
        · exact .inr (.inr (List.mem_of_mem_take hj))
      · exact .inr (.inr hbm)
    have low' : ∀ j, (LB lb xs j ∨ LB ob ys j) → j < w.heap.size := fun j hj => hj.elim (HL.out j) (HO.out j)
    have dsub' : ∀ j, LB ob (ys.drop (k + 1)) j → LB ob (ys.drop k) j := by
      rintro j (rfl | hj)
      · exact .inl rfl
      · rw [← drop_succ] at hj; exact .inr (List.mem_of_mem_eraseIdx hj)
    refine ⟨(Keeps.of_ch C1.out fun j hj => ?_).trans (Keeps.of_ch C2.out fun j hj => ?_), O1.out.kept C2.out ?_, L2.out, C2.out.keeps d0 ?_, C2.out.keeps d1 ?_, ?_⟩
    · have := HO.out j (dsub j hj); omega
    · have := low' j (low j hj); omega
    · rintro j hj (hl | rfl)
      · exact apart j hl (dsub' j hj)
      · rcases hj with rfl | hj
        · exact HSelf.out hbm
        · obtain ⟨c, hc⟩ := List.mem_iff_getElem?.1 hj
          rw [List.getElem?_drop] at hc
          have := ND.out _ _ _ HBk.out hc; omega
    · intro e; have := low' _ (low _ e); simp at this
    · intro e; have := low' _ (low _ e); simp at this; omega
    · exact (HW.out.c.then C1.out fun j _ hj => .inr (dsub j hj)).then C2.out fun j _ hj => low j hj
  case done =>
    intro D W hD hW hK
    have HW := Lib.hid hW
    clear hW
    gi_wp2
    refine ⟨by simp, .inl ⟨_, _, rfl, run_takeDeferred hK, ?_⟩⟩
    refine ⟨_, results_tmp rfl _ _ _, rfl, ?_, ?_, ?_⟩
    · have := (SpIn.steady (B := w.heap.size) (Nat.le_refl _)).put (.deferred none) HW.out (by omega) hK rfl
      have := this.l
      rwa [List.take_length] at this
    · have := (SpIn.steady (B := w.heap.size) (Nat.le_refl _)).put (.deferred none) HW.out (by omega) hK rfl
      have := this.o
      rwa [List.drop_length] at this
    · have := (SpIn.steady (B := w.heap.size) (Nat.le_refl _)).put (.deferred none) HW.out (by omega) hK rfl
      exact this.c

theorem splice_self (lb : Nat) (w : World) (hk : Blk w lb) :
    Calls Try.prog 11 #[.pointer (some ⟨lb, 0, none⟩), .pointer (some ⟨lb, 0, none⟩)] w fun e w' => e = .returned (.int .i64 1) ∧ Ch Nil w w' := by
  have hE := eqlL (w := (w.alloc (.cells #[.pointer (some ⟨lb, 0, none⟩)] 24)).alloc (.cells #[.pointer (some ⟨lb, 0, none⟩)] 24)) (some lb) (some lb)
    (fun x e => by cases e; exact hk.kept (S := Nil) (((Ch.refl _ _).alloc _).alloc _) (fun e => e)) (fun x e => by cases e; exact hk.kept (S := Nil) (((Ch.refl _ _).alloc _).alloc _) (fun e => e))
  rw [decide_eq_true rfl] at hE
  simp only [pt_some] at hE
  go_enter Try.func11, Try.ntmps11
  go_wp2
  go_ret
  exact ⟨rfl, ((Ch.refl _ _).alloc _).alloc _⟩
theorem splice_nonlist (lb : Nat) (w : World) :
    Calls Try.prog 11 #[.pointer (some ⟨lb, 0, none⟩), .pointer none] w fun e w' => e = .returned (.int .i64 1) ∧ Ch Nil w w' := by
  go_enter Try.func11, Try.ntmps11
  go_wp2
  go_ret
  exact ⟨rfl, ((Ch.refl _ _).alloc _).alloc _⟩
theorem splice_nil (p : Option Addr) (w : World) :
    Calls Try.prog 11 #[.pointer none, .pointer p] w fun e w' => e = .returned (.int .i64 6) ∧ Ch Nil w w' := by
  go_enter Try.func11, Try.ntmps11
  go_wp2
  go_ret
  exact ⟨rfl, ((Ch.refl _ _).alloc _).alloc _⟩
end
end Go.Proofs.Ytmebkogkcnmkiaa.LI
