/-
  The statements' question, whether lists have what the document's have: they have.
-/
import Derived.Test.YtmebkogkcnmkiaaListMach
import Derived.Test.YtmebkogkcnmkiaaListRef3
import Derived.Test.YtmebkogkcnmkiaaListPush
import Derived.Deep.Cut
import Derived.Deep.CutRange
import Derived.Deep.CutBlock
namespace Go.Proofs.Ytmebkogkcnmkiaa
open Go.RowKit Verge LI
attribute [local go_sem] Oper.semAt_some
set_option linter.unusedVariables false
set_option linter.unusedSimpArgs false

/-- three lists, the document's answer, the row of all nodes, an array of the lists -/
structure LSt (w : World) (M R : Nat → Prop) (lb : Nat → Nat) (q : Nat) (nb : Nat → Nat) (V Val : Nat → Int) (L : Nat → List Nat) (wb : Nat) (ra : Nat → Option Addr) (rc : Nat → Nat) (va : Option Addr) (vc : Nat) (an : Option Addr) (cn bx : Nat) : Prop where
  m : Mach w M lb q nb V L
  f : RefL w R wb q Val L ra rc va vc
  v : ∀ i, i < q → V (nb i) = Val i
  r : RowN w an q cn nb
  x : ∀ k, k < 3 → w.cell? ⟨bx, k, none⟩ = some (.pointer (some ⟨lb k, 0, none⟩))
section
variable {w w' : World} {M R : Nat → Prop} {lb : Nat → Nat} {q wb vc cn bx : Nat} {nb : Nat → Nat} {V Val : Nat → Int} {L : Nat → List Nat} {ra : Nat → Option Addr} {rc : Nat → Nat} {va an : Option Addr}
theorem LSt.nil (h : LSt w M R lb q nb V Val L wb ra rc va vc an cn bx) (c : Ch Nil w w') : LSt w' M R lb q nb V Val L wb ra rc va vc an cn bx :=
  ⟨h.m.kept c (fun _ _ e => e), h.f.kept c (fun _ _ e => e), h.v, h.r.kept c (fun _ _ e => e), fun k hk => c.keeps (h.x k hk) (fun e => e)⟩
theorem Mach.ofL (h : Mach w M lb q nb V L) {k i : Nat} (hk : k < 3) : (ofL L i == (k : Int)) = decide (i ∈ L k) := by
  by_cases hx : ∃ o, o < 3 ∧ i ∈ L o
  · obtain ⟨o, ho, hm⟩ := hx
    have e := ofL_at ho hm (fun k' hk' hm' => by have := h.one k' o i (by omega) ho hm' hm; omega)
    rw [e]
    by_cases hi : i ∈ L k
    · have := h.one o k i ho hk hm hi; subst this; simp [hi]
    · rw [decide_eq_false hi, beq_eq_false_iff_ne]
      intro e'; have : o = k := by omega
      subst this; exact hi hm
  · have hno : ∀ o, o < 3 → i ∉ L o := fun o ho hm => hx ⟨o, ho, hm⟩
    rw [ofL_none hno, decide_eq_false (hno k hk), beq_eq_false_iff_ne]; omega

set_option maxRecDepth 100000 in
set_option maxHeartbeats 1600000 in
theorem same_true (h : LSt w M R lb q nb V Val L wb ra rc va vc an cn bx) (hq : q ≤ 1000) (hl : ∀ k, k < 3 → (L k).length ≤ 1000) :
    Calls Try.prog 15 #[.agg #[.pointer (some ⟨lb 0, 0, none⟩), .pointer (some ⟨lb 1, 0, none⟩), .pointer (some ⟨lb 2, 0, none⟩)], .slice an q cn, .pointer (some ⟨wb, 0, none⟩)] w fun e w' => e = .returned (.bool true) ∧ Ch Nil w w' := by
  obtain ⟨by_, hby⟩ : ∃ b, b = w.heap.size := ⟨_, rfl⟩
  have c1 : Ch Nil w (w.alloc (.cells #[.pointer (some ⟨lb 0, 0, none⟩), .pointer (some ⟨lb 1, 0, none⟩), .pointer (some ⟨lb 2, 0, none⟩)] 26)) := (Ch.refl _ _).alloc _
  have h1 : LSt (w.alloc (.cells #[.pointer (some ⟨lb 0, 0, none⟩), .pointer (some ⟨lb 1, 0, none⟩), .pointer (some ⟨lb 2, 0, none⟩)] 26)) M R lb q nb V Val L wb ra rc va vc an cn by_ := by
    refine ⟨(h.nil c1).m, (h.nil c1).f, h.v, (h.nil c1).r, fun k hk => ?_⟩
    rw [hby, cell_fresh]
    match k, hk with
    | 0, _ => rfl
    | 1, _ => rfl
    | 2, _ => rfl
  have H1 := Lib.hid h1
  have C1 := Lib.hid c1
  have HL := Lib.hid hl
  clear h h1 c1 hl
  go_enter Try.func15, Try.ntmps15
  go_wp2
  rw [← hby]
  generalize (w.alloc (.cells #[.pointer (some ⟨lb 0, 0, none⟩), .pointer (some ⟨lb 1, 0, none⟩), .pointer (some ⟨lb 2, 0, none⟩)] 26)) = w1 at *
  clear hby
  go_loopw [7] (fun i wr => ∃ t : Nat, t ≤ 3 ∧ i = .int .i64 t ∧ Ch Nil w1 wr) (fun i _ => 3 - (intOf i).toNat)
  case atStart => exact ⟨0, by omega, rfl, Ch.refl _ _⟩
  case round =>
    obtain ⟨t, ht, rfl, hc⟩ := hrel
    have HC := Lib.hid hc
    clear hc
    by_cases hlt : t < 3
    · have htz : (t : Int) < 3 := by omega
      have hlen := HL.out t hlt
      have G := Lib.hid (H1.out.nil HC.out)
      have eb : (((L t).length : Int) != ((L t).length : Int)) = false := by simp
      go_wp2
      refine wp_region_held_drew (S := fun w' => w'.cell? ⟨by_, t, none⟩ = some (.pointer (some ⟨lb t, 0, none⟩)) ∧ w'.cell? ⟨wb, t, none⟩ = some (.slice (ra t) (L t).length (rc t))) (by kernel_rfl) ⟨G.out.x t hlt, G.out.f.c t hlt⟩ (fun hHeld => ?_)
      have G2 := Lib.hid (G.out.nil ((Ch.refl Nil wr).drew))
      have HC2 := Lib.hid HC.out.drew
      generalize wr.drew = X at hHeld G2 HC2 ⊢
      refine take_at (v := ?_) 0 (some 14) rfl (by kernel_rfl) (by kernel_rfl) (by kernel_rfl) (by kernel_rfl) (fun _ _ _ h => h) (Or.inl ⟨by rfl, ?_⟩) (by assumption) ?_
      rotate_left
      · intro w hSw; (try dsimp only at hSw); go_simp; try (with_reducible rfl)
      (try simp only [Act.put, List.setIfInBounds_toArray, List.set_cons_zero, List.set_cons_succ])
      refine take_at (v := ?_) 1 (some 15) rfl (by kernel_rfl) (by kernel_rfl) (by kernel_rfl) (by kernel_rfl) (fun _ _ _ h => h) (Or.inl ⟨by rfl, ?_⟩) (by assumption) ?_
      rotate_left
      · intro w hSw; (try dsimp only at hSw); go_simp; try (with_reducible rfl)
      (try simp only [Act.put, List.setIfInBounds_toArray, List.set_cons_zero, List.set_cons_succ])
      refine take_at (v := ?_) 2 (some 16) rfl (by kernel_rfl) (by kernel_rfl) (by kernel_rfl) (by kernel_rfl) (fun _ _ _ h => h) (Or.inl ⟨by rfl, ?_⟩) (by assumption) ?_
      rotate_left
      · intro w hSw; (try dsimp only at hSw); go_simp; try (with_reducible rfl)
      (try simp only [Act.put, List.setIfInBounds_toArray, List.set_cons_zero, List.set_cons_succ])
      refine take_at (v := ?_) 4 (some 18) rfl (by kernel_rfl) (by kernel_rfl) (by kernel_rfl) (by kernel_rfl) (fun _ _ _ h => h) (Or.inl ⟨by rfl, ?_⟩) (by assumption) ?_
      rotate_left
      · intro w hSw; (try dsimp only at hSw); go_simp; try (with_reducible rfl)
      (try simp only [Act.put, List.setIfInBounds_toArray, List.set_cons_zero, List.set_cons_succ])
      refine take_at (v := ?_) 5 (some 19) rfl (by kernel_rfl) (by kernel_rfl) (by kernel_rfl) (by kernel_rfl) (fun _ _ _ h => h) (Or.inl ⟨by rfl, ?_⟩) (by assumption) ?_
      rotate_left
      · intro w hSw; (try dsimp only at hSw); go_simp; try (with_reducible rfl)
      (try simp only [Act.put, List.setIfInBounds_toArray, List.set_cons_zero, List.set_cons_succ])
      refine take_at (v := ?_) 6 (some 20) rfl (by kernel_rfl) (by kernel_rfl) (by kernel_rfl) (by kernel_rfl) (fun _ _ _ h => h) (Or.inl ⟨by rfl, ?_⟩) (by assumption) ?_
      rotate_left
      · intro w hSw; (try dsimp only at hSw); go_simp; try (with_reducible rfl)
      (try simp only [Act.put, List.setIfInBounds_toArray, List.set_cons_zero, List.set_cons_succ])
      refine take_at (v := ?_) 7 (some 21) rfl (by kernel_rfl) (by kernel_rfl) (by kernel_rfl) (by kernel_rfl) (fun _ _ _ h => h) (Or.inl ⟨by rfl, ?_⟩) (by assumption) ?_
      rotate_left
      · intro w hSw; (try dsimp only at hSw); go_simp; try (with_reducible rfl)
      (try simp only [Act.put, List.setIfInBounds_toArray, List.set_cons_zero, List.set_cons_succ])
      refine take_at (v := ?_) 8 (some 22) rfl (by kernel_rfl) (by kernel_rfl) (by kernel_rfl) (by kernel_rfl) (fun _ _ _ h => h) (Or.inl ⟨by rfl, ?_⟩) (by assumption) ?_
      rotate_left
      · intro w hSw; (try dsimp only at hSw); go_simp; try (with_reducible rfl)
      (try simp only [Act.put, List.setIfInBounds_toArray, List.set_cons_zero, List.set_cons_succ])
      refine take_at (v := ?_) 9 (some 23) rfl (by kernel_rfl) (by kernel_rfl) (by kernel_rfl) (by kernel_rfl) (fun _ _ _ h => h) (Or.inl ⟨by rfl, ?_⟩) (by assumption) ?_
      rotate_left
      · intro w hSw; (try dsimp only at hSw); go_simp; try (with_reducible rfl)
      (try simp only [Act.put, List.setIfInBounds_toArray, List.set_cons_zero, List.set_cons_succ])
      refine take_at (v := ?_) 10 (some 24) rfl (by kernel_rfl) (by kernel_rfl) (by kernel_rfl) (by kernel_rfl) (fun _ _ _ h => h) (Or.inl ⟨by rfl, ?_⟩) (by assumption) ?_
      rotate_left
      · intro w hSw; (try dsimp only at hSw); go_simp; try (with_reducible rfl)
      (try simp only [Act.put, List.setIfInBounds_toArray, List.set_cons_zero, List.set_cons_succ])
      refine wpAnyH_ready (rs := [3]) (by kernel_rfl) (by simp) ?_
      refine AllReadyH.cons rfl (fun K' hK => ?_) AllReadyH.nil
      go_simp
      refine (G2.out.m.len hlt).mono ?_
      rintro e w2 ⟨rfl, rfl⟩
      refine hK.out _ _ hHeld (fun hHeld2 => ?_)
      clear hK K' hHeld2
      (try simp only [Act.put, List.setIfInBounds_toArray, List.set_cons_zero, List.set_cons_succ])
      refine take_at (v := ?_) 11 (some 25) rfl (by kernel_rfl) (by kernel_rfl) (by kernel_rfl) (by kernel_rfl) (fun _ _ _ h => h) (Or.inl ⟨by rfl, ?_⟩) (by assumption) ?_
      rotate_left
      · intro w hSw; (try dsimp only at hSw); go_simp; try (with_reducible rfl)
      (try simp only [Act.put, List.setIfInBounds_toArray, List.set_cons_zero, List.set_cons_succ])
      refine take_at (v := ?_) 12 (some 26) rfl (by kernel_rfl) (by kernel_rfl) (by kernel_rfl) (by kernel_rfl) (fun _ _ _ h => h) (Or.inl ⟨by rfl, ?_⟩) (by assumption) ?_
      rotate_left
      · intro w hSw; (try dsimp only at hSw); go_simp; try (with_reducible rfl)
      (try simp only [Act.put, List.setIfInBounds_toArray, List.set_cons_zero, List.set_cons_succ])
      refine take_at (v := ?_) 13 (some 27) rfl (by kernel_rfl) (by kernel_rfl) (by kernel_rfl) (by kernel_rfl) (fun _ _ _ h => h) (Or.inl ⟨by rfl, ?_⟩) (by assumption) ?_
      rotate_left
      · intro w hSw; (try dsimp only at hSw); go_simp; try (with_reducible rfl)
      (try simp only [Act.put, List.setIfInBounds_toArray, List.set_cons_zero, List.set_cons_succ])
      refine take_at (v := ?_) 14 (some 28) rfl (by kernel_rfl) (by kernel_rfl) (by kernel_rfl) (by kernel_rfl) (fun _ _ _ h => h) (Or.inl ⟨by rfl, ?_⟩) (by assumption) ?_
      rotate_left
      · intro w hSw; (try dsimp only at hSw); go_simp; try (with_reducible rfl)
      (try simp only [Act.put, List.setIfInBounds_toArray, List.set_cons_zero, List.set_cons_succ])
      refine take_at (v := ?_) 15 (some 29) rfl (by kernel_rfl) (by kernel_rfl) (by kernel_rfl) (by kernel_rfl) (fun _ _ _ h => h) (Or.inl ⟨by rfl, ?_⟩) (by assumption) ?_
      rotate_left
      · intro w hSw; (try dsimp only at hSw); go_simp; try (with_reducible rfl)
      (try simp only [Act.put, List.setIfInBounds_toArray, List.set_cons_zero, List.set_cons_succ])
      refine take_at (v := ?_) 17 (some 31) rfl (by kernel_rfl) (by kernel_rfl) (by kernel_rfl) (by kernel_rfl) (fun _ _ _ h => h) (Or.inl ⟨by rfl, ?_⟩) (by assumption) ?_
      rotate_left
      · intro w hSw; (try dsimp only at hSw); go_simp; try (with_reducible rfl)
      (try simp only [Act.put, List.setIfInBounds_toArray, List.set_cons_zero, List.set_cons_succ])
      refine take_at (v := ?_) 18 (some 32) rfl (by kernel_rfl) (by kernel_rfl) (by kernel_rfl) (by kernel_rfl) (fun _ _ _ h => h) (Or.inl ⟨by rfl, ?_⟩) (by assumption) ?_
      rotate_left
      · intro w hSw; (try dsimp only at hSw); go_simp; try (with_reducible rfl)
      (try simp only [Act.put, List.setIfInBounds_toArray, List.set_cons_zero, List.set_cons_succ])
      refine wpAnyH_ready (rs := [16]) (by kernel_rfl) (by simp) ?_
      refine AllReadyH.cons rfl (fun K' hK => ?_) AllReadyH.nil
      go_simp
      refine (G2.out.m.all hlt (by omega) G2.out.v).mono ?_
      rintro e w3 ⟨r3, c3', rfl, row3, c3⟩
      have R3 := Lib.hid row3
      have G3 := Lib.hid (G2.out.nil c3)
      have HC3 := Lib.hid (HC2.out.trans c3)
      clear hHeld
      refine hK.out _ _ ⟨G3.out.x t hlt, G3.out.f.c t hlt⟩ (fun hHeld => ?_)
      clear hK K' row3 c3
      (try simp only [Act.put, List.setIfInBounds_toArray, List.set_cons_zero, List.set_cons_succ])
      refine wpAnyH_ready (rs := [19]) (by kernel_rfl) (by simp) ?_
      refine AllReadyH.cons rfl (fun K' hK => ?_) AllReadyH.nil
      go_simp
      refine (G3.out.f.all hlt (by omega)).mono ?_
      rintro e w4 ⟨r4, c4', rfl, row4, own4, c4⟩
      have R4 := Lib.hid row4
      have R3' := Lib.hid (R3.out.kept c4 (fun _ _ e => e))
      have G4 := Lib.hid (G3.out.nil c4)
      have HC4 := Lib.hid (HC3.out.trans c4)
      clear hHeld
      refine hK.out _ _ ⟨G4.out.x t hlt, G4.out.f.c t hlt⟩ (fun hHeld => ?_)
      clear hK K' row4 own4 c4
      (try simp only [Act.put, List.setIfInBounds_toArray, List.set_cons_zero, List.set_cons_succ])
      refine wpAnyH_ready (rs := [20]) (by kernel_rfl) (by simp) ?_
      refine AllReadyH.cons rfl (fun K' hK => ?_) AllReadyH.nil
      go_simp
      refine (ints_same R3'.out R4.out (by omega)).mono ?_
      rintro e w5 ⟨rfl, c5⟩
      have G5 := Lib.hid (G4.out.nil c5)
      have HC5 := Lib.hid (HC4.out.trans c5)
      clear hHeld
      refine hK.out _ _ ⟨G5.out.x t hlt, G5.out.f.c t hlt⟩ (fun hHeld => ?_)
      clear hK K' c5
      (try simp only [Act.put, List.setIfInBounds_toArray, List.set_cons_zero, List.set_cons_succ])
      refine take_at (v := ?_) 21 (some 35) rfl (by kernel_rfl) (by kernel_rfl) (by kernel_rfl) (by kernel_rfl) (fun _ _ _ h => h) (Or.inl ⟨by rfl, ?_⟩) (by assumption) ?_
      rotate_left
      · intro w hSw; (try dsimp only at hSw); go_simp; try (with_reducible rfl)
      (try simp only [Act.put, List.setIfInBounds_toArray, List.set_cons_zero, List.set_cons_succ])
      refine take_at (v := ?_) 22 (some 36) rfl (by kernel_rfl) (by kernel_rfl) (by kernel_rfl) (by kernel_rfl) (fun _ _ _ h => h) (Or.inl ⟨by rfl, ?_⟩) (by assumption) ?_
      rotate_left
      · intro w hSw; (try dsimp only at hSw); go_simp; try (with_reducible rfl)
      (try simp only [Act.put, List.setIfInBounds_toArray, List.set_cons_zero, List.set_cons_succ])
      refine wpAnyH_done (by kernel_rfl) ?_ _
      clear hHeld R3 R3' R4 G G2 G3 G4 HC HC2 HC3 HC4
      have x5 := G5.out.x t hlt
      go_wp2_with fail
      refine (G5.out.m.first hlt).mono ?_
      cases hh : (L t)[0]?
      case' none =>
        simp only [Option.map_none, pt_none]
        rintro e w6 ⟨rfl, rfl⟩
        have hz : (L t).length = 0 := by
          rcases Nat.eq_zero_or_pos (L t).length with h | h
          · exact h
          · rw [List.getElem?_eq_getElem h] at hh; cases hh
        have ez : (((L t).length : Int) == 0) = true := by rw [hz]; rfl
        have f5 := G5.out.f.c t hlt
        clear hz hh
        go_wp2
      case' some y =>
        simp only [Option.map_some, pt_some]
        rintro e w6 ⟨rfl, rfl⟩
        have hpos : 0 < (L t).length := (List.getElem?_eq_some_iff.1 hh).1
        have ez : (((L t).length : Int) == 0) = false := by rw [beq_eq_false_iff_ne]; omega
        have hyq : y < q := G5.out.m.xl t hlt y (List.mem_of_getElem? hh)
        have f5 := G5.out.f.c t hlt
        obtain ⟨g, hg, -⟩ := (G5.out.f.r t hlt).form hpos
        have hr := G5.out.f.r t hlt
        rw [hg] at f5 hr
        have q1 : w5.cell? ⟨g, 0, none⟩ = some (.int .i64 (y : Int)) := by
          have := Row.cell hr 0 (by omega)
          rw [show numR (L t) 0 = (y : Int) from by simp only [numR]; rw [List.getD_eq_getElem?_getD, hh]; rfl] at this
          exact this
        have lc1 := Row.len_cap hr
        have hrN := G5.out.r
        obtain ⟨gn, hgn, -⟩ := hrN.form (by omega)
        rw [hgn] at hrN ⊢
        have q2 : w5.cell? ⟨gn, y, none⟩ = some (.pointer (some ⟨nb y, 0, none⟩)) := Row.cell hrN y (by omega)
        have lc2 := Row.len_cap hrN
        have hE := LI.neqN (w := w5) (some (nb y)) (some (nb y)) (fun x e => by cases e; exact G5.out.m.blkN hyq) (fun x e => by cases e; exact G5.out.m.blkN hyq)
        rw [decide_eq_true rfl] at hE
        simp only [pt_some, Bool.not_true] at hE
        have hyz : (y : Int) < (q : Int) := by omega
        have hpz : (0 : Int) < ((L t).length : Int) := by omega
        have hpn : 0 < (L t).length := hpos
        clear hr hrN hg hh
        go_wp2
        rw [← hgn]
        clear q1 q2 hE lc1 lc2 hgn hyz hpz hpn hpos
      all_goals
        clear ez f5 x5
        go_loopw [9] (fun i wr => ∃ j : Nat, j ≤ q ∧ i = .int .i64 j ∧ Ch Nil w1 wr) (fun i _ => q - (intOf i).toNat)
        case atStart => exact ⟨0, by omega, rfl, HC5.out⟩
        case round =>
          clear G5 HC5
          obtain ⟨j, hj, rfl, hc⟩ := hrel
          have HC := Lib.hid hc
          clear hc
          have G := Lib.hid (H1.out.nil HC.out)
          by_cases hjq : j < q
          · have hjz : (j : Int) < (q : Int) := by omega
            obtain ⟨gn, hgn, -⟩ := G.out.r.form (by omega)
            have hrN := G.out.r
            rw [hgn] at hrN ⊢
            have lc2 := Row.len_cap hrN
            have q2 : wr.cell? ⟨gn, j, none⟩ = some (.pointer (some ⟨nb j, 0, none⟩)) := Row.cell hrN j (by omega)
            have Q2 := Lib.hid q2
            have HGN := Lib.hid hgn
            clear hrN q2 hgn
            obtain ⟨z, hz⟩ : ∃ z, z = decide (j ∈ L t) := ⟨_, rfl⟩
            obtain ⟨oz, hoz⟩ : ∃ oz, oz = ofL L j := ⟨_, rfl⟩
            have hof : (oz == (t : Int)) = z := by rw [hoz, hz]; exact G.out.m.ofL hlt
            have HZ := Lib.hid hz
            have HOZ := Lib.hid hoz
            have ezz : (z != z) = false := by simp
            clear hz hoz
            go_wp2
            refine wp_region_held_drew (S := fun w' => w'.cell? ⟨by_, t, none⟩ = some (.pointer (some ⟨lb t, 0, none⟩)) ∧ w'.cell? ⟨gn, j, none⟩ = some (.pointer (some ⟨nb j, 0, none⟩))) (by kernel_rfl) ⟨G.out.x t hlt, Q2.out⟩ (fun hHeld => ?_)
            have G2 := Lib.hid (G.out.nil ((Ch.refl Nil wr).drew))
            have HC2 := Lib.hid HC.out.drew
            clear Q2
            generalize wr.drew = X at hHeld G2 HC2 ⊢
            refine take_at (v := ?_) 0 (some 77) rfl (by kernel_rfl) (by kernel_rfl) (by kernel_rfl) (by kernel_rfl) (fun _ _ _ h => h) (Or.inl ⟨by rfl, ?_⟩) (by assumption) ?_
            rotate_left
            · intro w hSw; (try dsimp only at hSw); go_simp; try (with_reducible rfl)
            (try simp only [Act.put, List.setIfInBounds_toArray, List.set_cons_zero, List.set_cons_succ])
            refine take_at (v := ?_) 1 (some 78) rfl (by kernel_rfl) (by kernel_rfl) (by kernel_rfl) (by kernel_rfl) (fun _ _ _ h => h) (Or.inl ⟨by rfl, ?_⟩) (by assumption) ?_
            rotate_left
            · intro w hSw; (try dsimp only at hSw); go_simp; try (with_reducible rfl)
            (try simp only [Act.put, List.setIfInBounds_toArray, List.set_cons_zero, List.set_cons_succ])
            refine take_at (v := ?_) 2 (some 79) rfl (by kernel_rfl) (by kernel_rfl) (by kernel_rfl) (by kernel_rfl) (fun _ _ _ h => h) (Or.inl ⟨by rfl, ?_⟩) (by assumption) ?_
            rotate_left
            · intro w hSw; (try dsimp only at hSw); go_simp; try (with_reducible rfl)
            (try simp only [Act.put, List.setIfInBounds_toArray, List.set_cons_zero, List.set_cons_succ])
            refine take_at (v := ?_) 3 (some 80) rfl (by kernel_rfl) (by kernel_rfl) (by kernel_rfl) (by kernel_rfl) (fun _ _ _ h => h) (Or.inl ⟨by rfl, ?_⟩) (by assumption) ?_
            rotate_left
            · intro w hSw; (try dsimp only at hSw); go_simp; try (with_reducible rfl)
            (try simp only [Act.put, List.setIfInBounds_toArray, List.set_cons_zero, List.set_cons_succ])
            refine take_at (v := ?_) 4 (some 81) rfl (by kernel_rfl) (by kernel_rfl) (by kernel_rfl) (by kernel_rfl) (fun _ _ _ h => h) (Or.inl ⟨by rfl, ?_⟩) (by assumption) ?_
            rotate_left
            · intro w hSw; (try dsimp only at hSw); go_simp; try (with_reducible rfl)
            (try simp only [Act.put, List.setIfInBounds_toArray, List.set_cons_zero, List.set_cons_succ])
            refine take_at (v := ?_) 5 (some 82) rfl (by kernel_rfl) (by kernel_rfl) (by kernel_rfl) (by kernel_rfl) (fun _ _ _ h => h) (Or.inl ⟨by rfl, ?_⟩) (by assumption) ?_
            rotate_left
            · intro w hSw; (try dsimp only at hSw); go_simp; try (with_reducible rfl)
            (try simp only [Act.put, List.setIfInBounds_toArray, List.set_cons_zero, List.set_cons_succ])
            refine take_at (v := ?_) 6 (some 83) rfl (by kernel_rfl) (by kernel_rfl) (by kernel_rfl) (by kernel_rfl) (fun _ _ _ h => h) (Or.inl ⟨by rfl, ?_⟩) (by assumption) ?_
            rotate_left
            · intro w hSw; (try dsimp only at hSw); go_simp; try (with_reducible rfl)
            (try simp only [Act.put, List.setIfInBounds_toArray, List.set_cons_zero, List.set_cons_succ])
            refine take_at (v := ?_) 8 (some 85) rfl (by kernel_rfl) (by kernel_rfl) (by kernel_rfl) (by kernel_rfl) (fun _ _ _ h => h) (Or.inl ⟨by rfl, ?_⟩) (by assumption) ?_
            rotate_left
            · intro w hSw; (try dsimp only at hSw); go_simp; try (with_reducible rfl)
            (try simp only [Act.put, List.setIfInBounds_toArray, List.set_cons_zero, List.set_cons_succ])
            refine take_at (v := ?_) 9 (some 86) rfl (by kernel_rfl) (by kernel_rfl) (by kernel_rfl) (by kernel_rfl) (fun _ _ _ h => h) (Or.inl ⟨by rfl, ?_⟩) (by assumption) ?_
            rotate_left
            · intro w hSw; (try dsimp only at hSw); go_simp; try (with_reducible rfl)
            (try simp only [Act.put, List.setIfInBounds_toArray, List.set_cons_zero, List.set_cons_succ])
            refine take_at (v := ?_) 11 (some 88) rfl (by kernel_rfl) (by kernel_rfl) (by kernel_rfl) (by kernel_rfl) (fun _ _ _ h => h) (Or.inl ⟨by rfl, ?_⟩) (by assumption) ?_
            rotate_left
            · intro w hSw; (try dsimp only at hSw); go_simp; try (with_reducible rfl)
            (try simp only [Act.put, List.setIfInBounds_toArray, List.set_cons_zero, List.set_cons_succ])
            refine wpAnyH_ready (rs := [7]) (by kernel_rfl) (by simp) ?_
            refine AllReadyH.cons rfl (fun K' hK => ?_) AllReadyH.nil
            go_simp
            refine (G2.out.m.has hlt hjq).mono ?_
            rw [← HZ.out]
            rintro e w2 ⟨rfl, rfl⟩
            refine hK.out _ _ hHeld (fun hHeld2 => ?_)
            clear hK K' hHeld2
            (try simp only [Act.put, List.setIfInBounds_toArray, List.set_cons_zero, List.set_cons_succ])
            refine wpAnyH_ready (rs := [10]) (by kernel_rfl) (by simp) ?_
            refine AllReadyH.cons rfl (fun K' hK => ?_) AllReadyH.nil
            go_simp
            refine (G2.out.f.of j (fun k hk => by have := HL.out k hk; omega)).mono ?_
            rw [← HOZ.out]
            rintro e w2 ⟨rfl, rfl⟩
            refine hK.out _ _ hHeld (fun hHeld2 => ?_)
            clear hK K' hHeld2
            (try simp only [Act.put, List.setIfInBounds_toArray, List.set_cons_zero, List.set_cons_succ])
            refine take_at (v := ?_) 12 (some 89) rfl (by kernel_rfl) (by kernel_rfl) (by kernel_rfl) (by kernel_rfl) (fun _ _ _ h => h) (Or.inl ⟨by rfl, ?_⟩) (by assumption) ?_
            rotate_left
            · intro w hSw; (try dsimp only at hSw); go_simp; try (with_reducible rfl)
            (try simp only [Act.put, List.setIfInBounds_toArray, List.set_cons_zero, List.set_cons_succ])
            refine take_at (v := ?_) 13 (some 90) rfl (by kernel_rfl) (by kernel_rfl) (by kernel_rfl) (by kernel_rfl) (fun _ _ _ h => h) (Or.inl ⟨by rfl, ?_⟩) (by assumption) ?_
            rotate_left
            · intro w hSw; (try dsimp only at hSw); go_simp; try (with_reducible rfl)
            (try simp only [Act.put, List.setIfInBounds_toArray, List.set_cons_zero, List.set_cons_succ])
            refine wpAnyH_done (by kernel_rfl) ?_ _
            clear hHeld
            go_wp2
            go_roundw
            case rel => exact ⟨j + 1, by omega, by go_num, HC2.out⟩
            case measure => simp [intOf]; omega
          · obtain rfl : q = j := by omega
            go_wp2
            go_roundw
            case rel => exact ⟨t + 1, by omega, by go_num, HC.out⟩
            case measure => simp [intOf]; omega
    · obtain rfl : t = 3 := by omega
      go_wp2
      go_ret
      exact ⟨rfl, C1.out.trans HC.out⟩
end
end Go.Proofs.Ytmebkogkcnmkiaa
