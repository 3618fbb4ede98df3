/-
  Proved: for every v and out the statement ListOrder returns true: what was pushed is drained in its order, but what was unlinked, nothing is there then, and what was unlinked can be put again; and nothing that was there is changed. Conditions: none.
-/
import Derived.Test.YtfofiheoebchmaaListFam
import Derived.Test.YtfofiheoebchmaaIsRow
import Derived.Test.YtfofiheoebchmaaHeld
import Derived.Deep.Cut
import Derived.Deep.CutRange
import Derived.Deep.CutBlock
import Derived.ProofKit
import Derived.OpenShut
import Derived.ChangeOld
import Derived.Below
namespace Go.Proofs.Ytfofiheoebchmaa
open Go.ChangeShapes Go.WideShapes Go.ChangeAt Go.RowKit Verge LI
set_option linter.unusedVariables false
set_option linter.unusedSimpArgs false
attribute [local go_sem] Oper.semAt_some

theorem there_snoc {F : Nat → Bool} {n : Nat} (h : F n = false) : there F (n + 1) = there F n ++ [n] := by rw [there_succ, h]; rfl
theorem there_same {F : Nat → Bool} {n : Nat} (h : F n = true) : there F (n + 1) = there F n := by rw [there_succ, h]; simp
theorem gone_snoc {F : Nat → Bool} {n : Nat} (h : F n = true) : gone F (n + 1) = gone F n ++ [n] := by rw [gone_succ, h]; rfl
theorem gone_same {F : Nat → Bool} {n : Nat} (h : F n = false) : gone F (n + 1) = gone F n := by rw [gone_succ, h]; simp

/-- what is pushed, and a map beside it that says false of all -/
structure PM (w wr : World) (lb k : Nat) (nb : Nat → Nat) (V zs : Nat → Int) (a : Option Addr) (cap mb : Nat) : Prop where
  p : Pushed w wr lb k nb V zs a cap
  m : MapB wr mb 0 (fun _ => false)
  nl : ¬ LB lb (firsts nb k) mb
  nr : ¬ OwnS a mb
  hm : w.heap.size ≤ mb
theorem PM.more {w wr w5 w6 : World} {lb k b g cap cap6 H mb : Nat} {nb : Nat → Nat} {V zs : Nat → Int} {a : Option Addr} (h : PM w wr lb k nb V zs a cap mb) (hb : wr.heap.size ≤ b) (h5 : IsL w5 lb (firsts nb k ++ [b]) (upd V b (zs k))) (c5 : Ch (LB lb (firsts nb k)) wr w5)
    (c6 : Ch (OwnS a) w5 w6) (row6 : RowN w6 (some ⟨g, 0, none⟩) (k + 1) cap6 (upd nb k b)) (at6 : OwnS a g ∨ g = H) (hH : w5.heap.size ≤ H) :
    PM w w6 lb (k + 1) (upd nb k b) (upd V b (zs k)) zs (some ⟨g, 0, none⟩) cap6 mb := by
  have hlt := h.m.lt
  have s5 := c5.size
  refine ⟨h.p.more hb h5 c5 c6 row6 at6 hH, (h.m.kept c5 h.nl).kept c6 h.nr, ?_, ?_, h.hm⟩
  · rw [← firsts_succ]
    rintro (e | hm)
    · exact h.nl (.inl e)
    · rcases List.mem_append.1 hm with hm | hm
      · exact h.nl (.inr hm)
      · simp at hm; omega
  · intro e
    cases e
    rcases at6 with h' | h'
    · exact h.nr h'
    · simp only at hlt; omega

/-- the rows of what is there and of what is gone, as far as they are made -/
structure Two (w wr : World) (B i : Nat) (F : Nat → Bool) (zs : Nat → Int) (aw ag : Option Addr) (cw cg : Nat) : Prop where
  w : RowI wr aw (there F i).length cw (fun j => zs ((there F i).getD j 0))
  g : RowI wr ag (gone F i).length cg (fun j => zs ((gone F i).getD j 0))
  hw : ∀ j, OwnS aw j → B ≤ j
  hg : ∀ j, OwnS ag j → B ≤ j
  ap : ∀ j, OwnS aw j → ¬ OwnS ag j
/-- a family whose blocks lie below B -/
structure Low (w wr : World) (B lb len : Nat) (xs : List Nat) (nb : Nat → Nat) (V zs : Nat → Int) (a : Option Addr) (cap mb cnt : Nat) (F : Nat → Bool) : Prop where
  f : Fam w wr lb len xs nb V zs a cap mb cnt F
  n : ∀ j, NB lb len nb j → j < B
  r : ∀ j, OwnS a j → j < B
  m : mb < B
  s : w.heap.size ≤ B
  t : B ≤ wr.heap.size
theorem Low.kept {S : Nat → Prop} {w wr w5 : World} {B lb len cap mb cnt : Nat} {xs : List Nat} {nb : Nat → Nat} {V zs : Nat → Int} {a : Option Addr} {F : Nat → Bool} (h : Low w wr B lb len xs nb V zs a cap mb cnt F) (c : Ch S wr w5) (hS : ∀ j, S j → B ≤ j) : Low w w5 B lb len xs nb V zs a cap mb cnt F :=
  ⟨h.f.kept c (fun j hj e => by have := h.n j hj; have := hS j e; omega) (fun j hj e => by have := h.r j hj; have := hS j e; omega) (fun e => by have := h.m; have := hS mb e; omega) (fun j e => by have := hS j e; have := h.s; omega), h.n, h.r, h.m, h.s, Nat.le_trans h.t c.size⟩
section
variable {w wr w6 : World} {B i g cap6 H : Nat} {F : Nat → Bool} {zs : Nat → Int} {aw ag : Option Addr} {cw cg : Nat}
/-- one more is there -/
theorem Two.there (h : Two w wr B i F zs aw ag cw cg) (hF : F i = false) (hB : B ≤ wr.heap.size) (c6 : Ch (OwnS aw) wr w6) (row6 : RowI w6 (some ⟨g, 0, none⟩) ((there F i).length + 1) cap6 (fun j => zs ((there F (i + 1)).getD j 0))) (at6 : OwnS aw g ∨ g = H) (hH : wr.heap.size ≤ H) :
    Two w w6 B (i + 1) F zs (some ⟨g, 0, none⟩) ag cap6 cg := by
  have e1 : (Verge.there F (i + 1)).length = (Verge.there F i).length + 1 := by rw [there_succ, hF]; simp
  have e2 : Verge.gone F (i + 1) = Verge.gone F i := by rw [gone_succ, hF]; simp
  refine ⟨by rw [e1]; exact row6, by rw [e2]; exact h.g.kept c6 (fun j hj e => h.ap j e hj), ?_, h.hg, ?_⟩
  · intro j hj; cases hj
    rcases at6 with h' | h'
    · exact h.hw _ h'
    · simp only; omega
  · intro j hj; cases hj
    rcases at6 with h' | h'
    · exact h.ap _ h'
    · intro e; have := h.g.lt _ e; simp only at this; omega
/-- one more is gone -/
theorem Two.gone (h : Two w wr B i F zs aw ag cw cg) (hF : F i = true) (hB : B ≤ wr.heap.size) (c6 : Ch (OwnS ag) wr w6) (row6 : RowI w6 (some ⟨g, 0, none⟩) ((gone F i).length + 1) cap6 (fun j => zs ((gone F (i + 1)).getD j 0))) (at6 : OwnS ag g ∨ g = H) (hH : wr.heap.size ≤ H) :
    Two w w6 B (i + 1) F zs aw (some ⟨g, 0, none⟩) cw cap6 := by
  have e1 : (Verge.gone F (i + 1)).length = (Verge.gone F i).length + 1 := by rw [gone_succ, hF]; simp
  have e2 : Verge.there F (i + 1) = Verge.there F i := by rw [there_succ, hF]; simp
  refine ⟨by rw [e2]; exact h.w.kept c6 (fun j hj e => h.ap j hj e), by rw [e1]; exact row6, h.hw, ?_, ?_⟩
  · intro j hj; cases hj
    rcases at6 with h' | h'
    · exact h.hg _ h'
    · simp only; omega
  · intro j hj e; cases e
    rcases at6 with h' | h'
    · exact h.ap _ hj h'
    · have := h.w.lt _ hj; simp only at this; omega
end

set_option maxRecDepth 100000 in
set_option maxHeartbeats 1600000 in
theorem ListOrder_walk (a : Option Addr) (len cap : Nat) (zs : List Int) (ao : Option Addr) (leno capo : Nat) (os : List Int) (w : World) (hv : IsRow .i64 w a len cap zs) (ho : IsRow .u8 w ao leno capo os) :
    Calls Try.prog 4 #[.slice a len cap, .slice ao leno capo] w fun e w' => e = .returned (.bool true) ∧ Below w.heap.size w w' := by
  have hsm := hv.small
  have hsm2 := ho.small
  have HV := Lib.hid hv
  have HO := Lib.hid ho
  clear hv ho
  go_enter Try.func4, Try.ntmps4
  go_wp2_with fail
  refine (alive_any _).mono ?_
  rintro e w1 ⟨rfl, c1⟩
  have C1 := Lib.hid c1
  clear c1
  by_cases h1 : 200 < len
  · go_wp2
    go_ret
    exact ⟨rfl, C1.out.below (Nat.le_refl _) (fun _ _ h => h.elim)⟩
  by_cases h2 : 200 < leno
  · have hz : decide (200 < (len : Int)) = false := by rw [decide_eq_false_iff_not]; omega
    go_wp2
    go_ret
    exact ⟨rfl, C1.out.below (Nat.le_refl _) (fun _ _ h => h.elim)⟩
  have hz : decide (200 < (len : Int)) = false := by rw [decide_eq_false_iff_not]; omega
  have hz2 : (len : Int) ≤ 200 := by omega
  have hz3 : (leno : Int) ≤ 200 := by omega
  go_wp2_with fail
  refine (LI.new_of _ (fun _ => 0)).mono ?_
  rintro e w2 ⟨lb, rfl, hlb, hl2, c2⟩
  have hmm : ∀ (t : TypeId) (w : World), (Instr.makeMap t none).run Try.prog w = .ok (.map (some w.heap.size)) (w.alloc (.map #[] 0)) := fun _ _ => rfl
  have s1 := C1.out.size
  have hlt2 : lb < w2.heap.size := hl2.lt (.inl rfl)
  have p2 : Pushed w w2 lb 0 (fun _ => 0) (fun _ => 0) (fun i => zs.getD i 0) none 0 := pushed_new hl2 (by omega) (C1.out.up c2 (fun _ e => e.elim)) (fun _ => 0) _
  have s2 := p2.c.size
  have PM2 : Hid (PM w (w2.alloc (.map #[] 0)) lb 0 (fun _ => 0) (fun _ => 0) (fun i => zs.getD i 0) none 0 w2.heap.size) := ⟨p2.kept (S := Nil) ((Ch.refl _ _).alloc _) (fun _ _ e => e) (fun _ _ e => e) (fun _ e => e.elim), MapB.new w2, (by
    rintro (e | e)
    · omega
    · cases e), (fun e => by cases e), s2⟩
  clear hl2 c2 p2
  go_wp2
  clear hmm
  obtain ⟨mb, hmb⟩ : ∃ mb, mb = w2.heap.size := ⟨_, rfl⟩
  rw [← hmb] at PM2 ⊢
  generalize w2.alloc (.map #[] 0) = w3 at *
  clear hmb
  go_loopw [6, 8] (fun n i wr => ∃ (k : Nat) (nb : Nat → Nat) (V : Nat → Int) (ar : Option Addr) (cr : Nat), k ≤ len ∧ i = .int .i64 k ∧ n = .slice ar k cr ∧ PM w wr lb k nb V (fun i => zs.getD i 0) ar cr mb) (fun _ i _ => len - (intOf i).toNat)
  case atStart => exact ⟨0, _, _, none, 0, by omega, rfl, rfl, PM2.out⟩
  case round =>
    obtain ⟨k, nb, V, ar, cr, hk, rfl, rfl, hp⟩ := hrel
    have HP := Lib.hid hp
    clear hp
    by_cases hlt : k < len
    · obtain ⟨x, rfl, hc, hwf⟩ := HV.out.item hlt
      have hc' := HP.out.p.c.keeps hc (fun e => e)
      have hkz : (k : Int) < (len : Int) := by omega
      clear hc
      go_wp2_with fail
      refine (HP.out.p.l.push _ (by rw [firsts_len]; omega)).mono ?_
      rintro e w5 ⟨b, rfl, hb, h5, c5⟩
      have H5 := Lib.hid h5
      have C5 := Lib.hid c5
      have R5 := Lib.hid ((HP.out.p.r.kept c5 HP.out.p.ap).kept (S := Nil) ((Ch.refl Nil w5).alloc (Obj.cells #[.pointer (some ⟨b, 0, none⟩)] 35)) (fun _ _ e => e))
      clear h5 c5 hc'
      go_wp2_with (at_builtin; refine append_row _ rfl _ _ _ rfl 35 (.pointer none) 1 8 Try.underlying27 (by kernel_rfl) rfl (by omega) (by omega) rfl R5.out (by omega) w5.heap.size 1 [.pointer (some ⟨b, 0, none⟩)] 35 rfl rfl (heap_alloc_new w5 _) (by simp [Value.oneCell']) (ptrN (upd nb k b)) (fun i hi => by dsimp only [ptrN]; rw [upd_other _ _ _ _ (by omega)]) (by intro j u hu; obtain rfl : j = 0 := (by cases j; rfl; simp at hu); simp at hu; subst hu; simp [ptrN, upd_same]) _ rfl ?_)
      intro g cap6 w6 row6 ch6 at6 lt6
      have c6 : Ch (OwnS ar) w5 w6 := (((Ch.refl Nil w5).alloc _).mono (fun _ _ e => e.elim)).trans ch6
      have FIN := Lib.hid (HP.out.more hb H5.out C5.out c6 row6 at6 (by simp))
      clear ch6 row6 at6 lt6 R5 c6
      go_wp2
      go_roundw
      case rel => exact ⟨k + 1, _, _, _, _, by omega, by go_num, rfl, FIN.out⟩
      case measure => simp [intOf]; omega
    · obtain rfl : len = k := by omega
      have FA := Lib.hid (HP.out.p.fam HP.out.m HP.out.hm HP.out.nl HP.out.nr)
      clear HP PM2
      go_wp2
      go_loopw [9, 10] (fun i _ wr => ∃ (k cnt : Nat) (F : Nat → Bool), k ≤ leno ∧ cnt ≤ k ∧ i = .int .i64 k ∧ Fam w wr lb len (there F len) nb V (fun i => zs.getD i 0) ar cr mb cnt F) (fun i _ _ => leno - (intOf i).toNat)
      case atStart => exact ⟨0, 0, _, by omega, by omega, rfl, by rw [there_all (fun _ _ => rfl)]; exact FA.out⟩
      case round =>
        clear FA
        obtain ⟨k, cnt, F, hk2, hcnt, rfl, hf⟩ := hrel
        have FA := Lib.hid hf
        clear hf
        by_cases hlt2 : k < leno ∧ 0 < len
        · obtain ⟨hl1, hpos⟩ := hlt2
          obtain ⟨x, rfl, hc, hwf⟩ := HO.out.item hl1
          have hc' := FA.out.c.keeps hc (fun e => e)
          clear hc
          obtain ⟨z, hz4⟩ : ∃ z, os.getD k 0 = z := ⟨_, rfl⟩
          rw [hz4] at hc' hwf
          clear hz4
          obtain ⟨ht0, ht1⟩ := bounds_u8 hwf
          clear hwf
          obtain ⟨kn, hkn, hkl⟩ := mod_u8 (n := len) ht0 hpos
          have HKN := Lib.hid hkn
          clear hkn
          have hkz : (k : Int) < (leno : Int) := by omega
          have hposz : (0 : Int) < (len : Int) := by omega
          go_upto_region 18 with (fail)
          rw [HKN.out]
          clear HKN hc'
          obtain ⟨gn, rfl, -⟩ := FA.out.r.form hpos
          have FD := Lib.hid (FA.out.nil ((Ch.refl Nil wr).drew))
          have lc := FA.out.r.len_cap
          have hkz2 : (kn : Int) < (len : Int) := by omega
          cases hF : F kn with
          | false =>
            have HF := Lib.hid hF
            have hS : (wr.drew.cell? ⟨gn, kn, none⟩ = some (.pointer (some ⟨nb kn, 0, none⟩))) ∧ (Instr.lookup 50 (.map (some mb)) (.int .i64 (kn : Int)) false).run Try.prog wr.drew = .ok (.bool false) wr.drew := ⟨FD.out.r.cell kn (by omega), by have := FD.out.m.look kn (by omega); rwa [hF] at this⟩
            clear hF
            refine wp_region_held_drew (S := fun w' => (w'.cell? ⟨gn, kn, none⟩ = some (.pointer (some ⟨nb kn, 0, none⟩))) ∧ (Instr.lookup 50 (.map (some mb)) (.int .i64 (kn : Int)) false).run Try.prog w' = .ok (.bool false) w') (by kernel_rfl) hS (fun hHeld => ?_)
            clear hS
            generalize wr.drew = wd at hHeld FD ⊢
            refine take_at (v := ?_) 0 (some 63) rfl (by kernel_rfl) (by kernel_rfl) (by kernel_rfl) (by kernel_rfl) (fun _ _ _ h => h) (Or.inl ⟨by rfl, ?_⟩) (by assumption) ?_
            rotate_left
            · intro w hSw; (try dsimp only at hSw); go_simp; try (with_reducible rfl)
            (try simp only [Act.put, List.setIfInBounds_toArray, List.set_cons_zero, List.set_cons_succ])
            refine take_at (v := ?_) 1 (some 64) rfl (by kernel_rfl) (by kernel_rfl) (by kernel_rfl) (by kernel_rfl) (fun _ _ _ h => h) (Or.inl ⟨by rfl, ?_⟩) (by assumption) ?_
            rotate_left
            · intro w hSw; (try dsimp only at hSw); go_simp; try (with_reducible rfl)
            (try simp only [Act.put, List.setIfInBounds_toArray, List.set_cons_zero, List.set_cons_succ])
            refine take_at (v := ?_) 2 (some 65) rfl (by kernel_rfl) (by kernel_rfl) (by kernel_rfl) (by kernel_rfl) (fun _ _ _ h => h) (Or.inl ⟨by rfl, ?_⟩) (by assumption) ?_
            rotate_left
            · intro w hSw; (try dsimp only at hSw); go_simp; try (with_reducible rfl)
            (try simp only [Act.put, List.setIfInBounds_toArray, List.set_cons_zero, List.set_cons_succ])
            refine take_at (v := ?_) 3 (some 66) rfl (by kernel_rfl) (by kernel_rfl) (by kernel_rfl) (by kernel_rfl) (fun _ _ _ h => h) (Or.inl ⟨by rfl, ?_⟩) (by assumption) ?_
            rotate_left
            · intro w hSw; (try dsimp only at hSw); go_simp; try (with_reducible rfl)
            (try simp only [Act.put, List.setIfInBounds_toArray, List.set_cons_zero, List.set_cons_succ])
            refine take_at (v := ?_) 4 (some 67) rfl (by kernel_rfl) (by kernel_rfl) (by kernel_rfl) (by kernel_rfl) (fun _ _ _ h => h) (Or.inl ⟨by rfl, ?_⟩) (by assumption) ?_
            rotate_left
            · intro w hSw; (try dsimp only at hSw); go_simp; try (with_reducible rfl)
            (try simp only [Act.put, List.setIfInBounds_toArray, List.set_cons_zero, List.set_cons_succ])
            refine take_at (v := ?_) 7 (some 70) rfl (by kernel_rfl) (by kernel_rfl) (by kernel_rfl) (by kernel_rfl) (fun _ _ _ h => h) (Or.inl ⟨by rfl, ?_⟩) (by assumption) ?_
            rotate_left
            · intro w hSw; (try dsimp only at hSw); go_simp; try (with_reducible rfl)
            (try simp only [Act.put, List.setIfInBounds_toArray, List.set_cons_zero, List.set_cons_succ])
            refine take_at (v := ?_) 8 (some 71) rfl (by kernel_rfl) (by kernel_rfl) (by kernel_rfl) (by kernel_rfl) (fun _ _ _ h => h) (Or.inl ⟨by rfl, ?_⟩) (by assumption) ?_
            rotate_left
            · intro w hSw; (try dsimp only at hSw); go_simp; try (with_reducible rfl)
            (try simp only [Act.put, List.setIfInBounds_toArray, List.set_cons_zero, List.set_cons_succ])
            refine take_at (v := ?_) 9 (some 72) rfl (by kernel_rfl) (by kernel_rfl) (by kernel_rfl) (by kernel_rfl) (fun _ _ _ h => h) (Or.inl ⟨by rfl, ?_⟩) (by assumption) ?_
            rotate_left
            · intro w hSw; (try dsimp only at hSw); go_simp; try (with_reducible rfl)
            (try simp only [Act.put, List.setIfInBounds_toArray, List.set_cons_zero, List.set_cons_succ])
            refine wpAnyH_ready (rs := [5]) (by kernel_rfl) (by simp) ?_
            refine AllReadyH.cons rfl (fun K' hK => ?_) AllReadyH.nil
            go_simp
            obtain ⟨i, hi1, hi2⟩ := there_out (F := F) hkl HF.out
            refine (FD.out.unlink hi1 (by have := there_len (F := F) (n := len); omega)).mono ?_
            rintro e w5 ⟨rfl, f5, c5⟩
            rw [hi2] at f5
            have F5 := Lib.hid f5
            refine hK.out _ _ ⟨f5.r.cell kn (by omega), by have := f5.m.look kn (by omega); rwa [HF.out] at this⟩ (fun hHeld2 => ?_)
            clear hK K' hHeld f5 c5 hi1 hi2
            (try simp only [Act.put, List.setIfInBounds_toArray, List.set_cons_zero, List.set_cons_succ])
            refine take_at (v := ?_) 6 (some 69) rfl (by kernel_rfl) (by kernel_rfl) (by kernel_rfl) (by kernel_rfl) (fun _ _ _ h => h) (Or.inl ⟨by rfl, ?_⟩) (by assumption) ?_
            rotate_left
            · intro w hSw; (try dsimp only at hSw); go_simp; try (with_reducible rfl)
            (try simp only [Act.put, List.setIfInBounds_toArray, List.set_cons_zero, List.set_cons_succ])
            refine take_at (v := ?_) 10 (some 73) rfl (by kernel_rfl) (by kernel_rfl) (by kernel_rfl) (by kernel_rfl) (fun _ _ _ h => h) (Or.inl ⟨by rfl, ?_⟩) (by assumption) ?_
            rotate_left
            · intro w hSw; (try dsimp only at hSw); go_simp; try (with_reducible rfl)
            (try simp only [Act.put, List.setIfInBounds_toArray, List.set_cons_zero, List.set_cons_succ])
            refine wpAnyH_done (by kernel_rfl) ?_ _
            clear hHeld2
            obtain ⟨w6, hrun, hm6, c6⟩ := F5.out.m.put kn (by omega) (by omega)
            have FIN := Lib.hid (F5.out.mapped hm6 c6)
            clear hm6 c6
            go_wp2
            go_roundw
            case rel => exact ⟨k + 1, cnt + 1, _, by omega, by omega, by go_num, FIN.out⟩
            case measure => simp [intOf]; omega
          | true =>
            have HF := Lib.hid hF
            have hS : (wr.drew.cell? ⟨gn, kn, none⟩ = some (.pointer (some ⟨nb kn, 0, none⟩))) ∧ (Instr.lookup 50 (.map (some mb)) (.int .i64 (kn : Int)) false).run Try.prog wr.drew = .ok (.bool true) wr.drew := ⟨FD.out.r.cell kn (by omega), by have := FD.out.m.look kn (by omega); rwa [hF] at this⟩
            clear hF
            refine wp_region_held_drew (S := fun w' => (w'.cell? ⟨gn, kn, none⟩ = some (.pointer (some ⟨nb kn, 0, none⟩))) ∧ (Instr.lookup 50 (.map (some mb)) (.int .i64 (kn : Int)) false).run Try.prog w' = .ok (.bool true) w') (by kernel_rfl) hS (fun hHeld => ?_)
            clear hS
            generalize wr.drew = wd at hHeld FD ⊢
            refine take_at (v := ?_) 0 (some 63) rfl (by kernel_rfl) (by kernel_rfl) (by kernel_rfl) (by kernel_rfl) (fun _ _ _ h => h) (Or.inl ⟨by rfl, ?_⟩) (by assumption) ?_
            rotate_left
            · intro w hSw; (try dsimp only at hSw); go_simp; try (with_reducible rfl)
            (try simp only [Act.put, List.setIfInBounds_toArray, List.set_cons_zero, List.set_cons_succ])
            refine take_at (v := ?_) 1 (some 64) rfl (by kernel_rfl) (by kernel_rfl) (by kernel_rfl) (by kernel_rfl) (fun _ _ _ h => h) (Or.inl ⟨by rfl, ?_⟩) (by assumption) ?_
            rotate_left
            · intro w hSw; (try dsimp only at hSw); go_simp; try (with_reducible rfl)
            (try simp only [Act.put, List.setIfInBounds_toArray, List.set_cons_zero, List.set_cons_succ])
            refine take_at (v := ?_) 2 (some 65) rfl (by kernel_rfl) (by kernel_rfl) (by kernel_rfl) (by kernel_rfl) (fun _ _ _ h => h) (Or.inl ⟨by rfl, ?_⟩) (by assumption) ?_
            rotate_left
            · intro w hSw; (try dsimp only at hSw); go_simp; try (with_reducible rfl)
            (try simp only [Act.put, List.setIfInBounds_toArray, List.set_cons_zero, List.set_cons_succ])
            refine take_at (v := ?_) 3 (some 66) rfl (by kernel_rfl) (by kernel_rfl) (by kernel_rfl) (by kernel_rfl) (fun _ _ _ h => h) (Or.inl ⟨by rfl, ?_⟩) (by assumption) ?_
            rotate_left
            · intro w hSw; (try dsimp only at hSw); go_simp; try (with_reducible rfl)
            (try simp only [Act.put, List.setIfInBounds_toArray, List.set_cons_zero, List.set_cons_succ])
            refine take_at (v := ?_) 4 (some 67) rfl (by kernel_rfl) (by kernel_rfl) (by kernel_rfl) (by kernel_rfl) (fun _ _ _ h => h) (Or.inl ⟨by rfl, ?_⟩) (by assumption) ?_
            rotate_left
            · intro w hSw; (try dsimp only at hSw); go_simp; try (with_reducible rfl)
            (try simp only [Act.put, List.setIfInBounds_toArray, List.set_cons_zero, List.set_cons_succ])
            refine take_at (v := ?_) 7 (some 70) rfl (by kernel_rfl) (by kernel_rfl) (by kernel_rfl) (by kernel_rfl) (fun _ _ _ h => h) (Or.inl ⟨by rfl, ?_⟩) (by assumption) ?_
            rotate_left
            · intro w hSw; (try dsimp only at hSw); go_simp; try (with_reducible rfl)
            (try simp only [Act.put, List.setIfInBounds_toArray, List.set_cons_zero, List.set_cons_succ])
            refine take_at (v := ?_) 8 (some 71) rfl (by kernel_rfl) (by kernel_rfl) (by kernel_rfl) (by kernel_rfl) (fun _ _ _ h => h) (Or.inl ⟨by rfl, ?_⟩) (by assumption) ?_
            rotate_left
            · intro w hSw; (try dsimp only at hSw); go_simp; try (with_reducible rfl)
            (try simp only [Act.put, List.setIfInBounds_toArray, List.set_cons_zero, List.set_cons_succ])
            refine take_at (v := ?_) 9 (some 72) rfl (by kernel_rfl) (by kernel_rfl) (by kernel_rfl) (by kernel_rfl) (fun _ _ _ h => h) (Or.inl ⟨by rfl, ?_⟩) (by assumption) ?_
            rotate_left
            · intro w hSw; (try dsimp only at hSw); go_simp; try (with_reducible rfl)
            (try simp only [Act.put, List.setIfInBounds_toArray, List.set_cons_zero, List.set_cons_succ])
            refine wpAnyH_ready (rs := [5]) (by kernel_rfl) (by simp) ?_
            refine AllReadyH.cons rfl (fun K' hK => ?_) AllReadyH.nil
            go_simp
            refine (FD.out.unlink_no hkl (by rw [mem_there, HF.out]; simp)).mono ?_
            rintro e w5 ⟨rfl, rfl⟩
            refine hK.out _ _ hHeld (fun hHeld2 => ?_)
            clear hK K' hHeld
            (try simp only [Act.put, List.setIfInBounds_toArray, List.set_cons_zero, List.set_cons_succ])
            refine take_at (v := ?_) 6 (some 69) rfl (by kernel_rfl) (by kernel_rfl) (by kernel_rfl) (by kernel_rfl) (fun _ _ _ h => h) (Or.inl ⟨by rfl, ?_⟩) (by assumption) ?_
            rotate_left
            · intro w hSw; (try dsimp only at hSw); go_simp; try (with_reducible rfl)
            (try simp only [Act.put, List.setIfInBounds_toArray, List.set_cons_zero, List.set_cons_succ])
            refine take_at (v := ?_) 10 (some 73) rfl (by kernel_rfl) (by kernel_rfl) (by kernel_rfl) (by kernel_rfl) (fun _ _ _ h => h) (Or.inl ⟨by rfl, ?_⟩) (by assumption) ?_
            rotate_left
            · intro w hSw; (try dsimp only at hSw); go_simp; try (with_reducible rfl)
            (try simp only [Act.put, List.setIfInBounds_toArray, List.set_cons_zero, List.set_cons_succ])
            refine wpAnyH_done (by kernel_rfl) ?_ _
            clear hHeld2
            obtain ⟨w6, hrun, hm6, c6⟩ := FD.out.m.put kn (by omega) (by omega)
            have f6 := FD.out.mapped hm6 c6
            rw [there_congr (F := F) (G := upd F kn true) (fun i _ => by
              by_cases e : i = kn
              · rw [e, upd_same]; exact HF.out
              · rw [upd_other _ _ _ _ e])] at f6
            have FIN := Lib.hid f6
            clear hm6 c6 f6
            go_wp2
            go_roundw
            case rel => exact ⟨k + 1, cnt + 1, _, by omega, by omega, by go_num, FIN.out⟩
            case measure => simp [intOf]; omega
        · have LOW := Lib.hid (show Low w wr wr.heap.size lb len (there F len) nb V (fun i => zs.getD i 0) ar cr mb cnt F from ⟨FA.out, fun j hj => FA.out.lt hj, fun j hj => FA.out.r.lt j hj, FA.out.m.lt, FA.out.c.size, Nat.le_refl _⟩)
          have TWO := Lib.hid (show Two w wr wr.heap.size 0 F (fun i => zs.getD i 0) none none 0 0 from ⟨Row.nil _ _ _ _, Row.nil _ _ _ _, fun j hj => (by cases hj), fun j hj => (by cases hj), fun j hj => (by cases hj)⟩)
          obtain ⟨B, hB⟩ : ∃ B, B = wr.heap.size := ⟨_, rfl⟩
          rw [← hB] at LOW TWO
          clear FA hB
          have hd : (decide ((k : Int) < (leno : Int)) = false ∧ (leno : Int) ≤ (k : Int)) ∨ (((k : Int) < (leno : Int)) ∧ decide (0 < (len : Int)) = false ∧ (len : Int) ≤ 0) := by
            by_cases h : k < leno
            · refine .inr ⟨by omega, decide_eq_false (by omega), by omega⟩
            · exact .inl ⟨decide_eq_false (by omega), by omega⟩
          have tl := there_len (F := F) (n := len)
          have gl := gone_len (F := F) (n := len)
          obtain ⟨hd1, hd2⟩ | ⟨hd1, hd2, hd3⟩ := hd
          all_goals
            go_wp2
            try (have HD3 := Lib.hid hd3; clear hd3)
            clear hd1 hd2 hlt2
            go_loopw [11, 12, 13] (fun wa ga i wr => ∃ (q : Nat) (aw ag : Option Addr) (cw cg : Nat), q ≤ len ∧ i = .int .i64 q ∧ wa = .slice aw (there F q).length cw ∧ ga = .slice ag (gone F q).length cg ∧ Low w wr B lb len (there F len) nb V (fun i => zs.getD i 0) ar cr mb cnt F ∧ Two w wr B q F (fun i => zs.getD i 0) aw ag cw cg) (fun _ _ i _ => len - (intOf i).toNat)
            case atStart => exact ⟨0, none, none, 0, 0, by omega, rfl, rfl, rfl, LOW.out, TWO.out⟩
            case round =>
              clear LOW TWO
              obtain ⟨q, aw, ag, cw, cg, hq, rfl, rfl, rfl, lw, tw⟩ := hrel
              have LOW := Lib.hid lw
              have TWO := Lib.hid tw
              clear lw tw
              by_cases hlq : q < len
              · first
                | exfalso
                  have := HD3.out
                  omega
                | obtain ⟨x, rfl, hc, hwf⟩ := HV.out.item hlq
                  have hc' := LOW.out.f.c.keeps hc (fun e => e)
                  obtain ⟨zv, hzv⟩ : ∃ zv, zs.getD q 0 = zv := ⟨_, rfl⟩
                  rw [hzv] at hc'
                  have ZV := Lib.hid hzv
                  have hqz : (q : Int) < (len : Int) := by omega
                  have lk := LOW.out.f.m.look q (by omega)
                  have hal : Ch Nil wr (wr.alloc (.cells #[.int .i64 zv] 3)) := (Ch.refl _ _).alloc _
                  have HAL := Lib.hid hal
                  have tlq := there_len (F := F) (n := q)
                  have glq := gone_len (F := F) (n := q)
                  clear hc hwf hal hzv
                  cases hF : F q with
                  | true =>
                    have HF := Lib.hid hF
                    rw [hF] at lk
                    clear hF
                    have R5 := Lib.hid (TWO.out.g.kept HAL.out (fun _ _ e => e))
                    go_wp2_with (at_builtin; refine append_row _ rfl _ _ _ rfl 3 (.int .i64 0) 1 8 Try.underlying29 (by kernel_rfl) rfl (by omega) (by omega) rfl R5.out (by omega) wr.heap.size 1 [.int .i64 zv] 3 rfl rfl (heap_alloc_new wr _) (by simp [Value.oneCell']) (fun j => .int .i64 (zs.getD ((gone F (q + 1)).getD j 0) 0)) (fun j hj => by simp only; rw [gone_snoc HF.out, getD_snoc _ _ _ (by omega)]) (by intro j u hu; obtain rfl : j = 0 := (by cases j; rfl; simp at hu); simp at hu; subst hu; simp only [Nat.mul_one, Nat.add_zero]; rw [gone_snoc HF.out, getD_last, ZV.out]) _ rfl ?_)
                    intro g cap6 w6 row6 ch6 at6 lt6
                    have c6 : Ch (OwnS ag) wr w6 := (HAL.out.mono (fun _ _ e => e.elim)).trans ch6
                    have T6 := Lib.hid (TWO.out.gone HF.out LOW.out.t c6 row6 at6 (by simp))
                    have L6 := Lib.hid (LOW.out.kept c6 (fun j hj => TWO.out.hg j hj))
                    have E1 := Lib.hid (there_same HF.out)
                    have E2 : Hid ((gone F q).length + 1 = (gone F (q + 1)).length) := Lib.hid (by rw [gone_snoc HF.out]; simp)
                    clear ch6 row6 at6 lt6 R5 c6 lk hc'
                    go_wp2
                    go_roundw
                    case rel => exact ⟨q + 1, aw, some ⟨g, 0, none⟩, cw, cap6, by omega, by go_num, by rw [E1.out], by rw [E2.out], L6.out, T6.out⟩
                    case measure => simp [intOf]; omega
                  | false =>
                    have HF := Lib.hid hF
                    rw [hF] at lk
                    clear hF
                    have R5 := Lib.hid (TWO.out.w.kept HAL.out (fun _ _ e => e))
                    go_wp2_with (at_builtin; refine append_row _ rfl _ _ _ rfl 3 (.int .i64 0) 1 8 Try.underlying29 (by kernel_rfl) rfl (by omega) (by omega) rfl R5.out (by omega) wr.heap.size 1 [.int .i64 zv] 3 rfl rfl (heap_alloc_new wr _) (by simp [Value.oneCell']) (fun j => .int .i64 (zs.getD ((there F (q + 1)).getD j 0) 0)) (fun j hj => by simp only; rw [there_snoc HF.out, getD_snoc _ _ _ (by omega)]) (by intro j u hu; obtain rfl : j = 0 := (by cases j; rfl; simp at hu); simp at hu; subst hu; simp only [Nat.mul_one, Nat.add_zero]; rw [there_snoc HF.out, getD_last, ZV.out]) _ rfl ?_)
                    intro g cap6 w6 row6 ch6 at6 lt6
                    have c6 : Ch (OwnS aw) wr w6 := (HAL.out.mono (fun _ _ e => e.elim)).trans ch6
                    have T6 := Lib.hid (TWO.out.there HF.out LOW.out.t c6 row6 at6 (by simp))
                    have L6 := Lib.hid (LOW.out.kept c6 (fun j hj => TWO.out.hw j hj))
                    have E1 := Lib.hid (gone_same HF.out)
                    have E2 : Hid ((there F q).length + 1 = (there F (q + 1)).length) := Lib.hid (by rw [there_snoc HF.out]; simp)
                    clear ch6 row6 at6 lt6 R5 c6 lk hc'
                    go_wp2
                    go_roundw
                    case rel => exact ⟨q + 1, some ⟨g, 0, none⟩, ag, cap6, cg, by omega, by go_num, by rw [E2.out], by rw [E1.out], L6.out, T6.out⟩
                    case measure => simp [intOf]; omega
              · obtain rfl : len = q := by omega
                go_wp2_with fail
                refine (LOW.out.f.drain (by omega)).mono ?_
                rintro e w5 ⟨r5, c5', rfl, row5, own5, f5, c5⟩
                have hNB : ∀ j, NB lb len nb j → j < B := LOW.out.n
                have W5 := Lib.hid (TWO.out.w.kept c5 (fun j hj e => by have := TWO.out.hw j hj; have := hNB j e; omega))
                have G5 := Lib.hid (TWO.out.g.kept c5 (fun j hj e => by have := TWO.out.hg j hj; have := hNB j e; omega))
                have L5 := Lib.hid (show Low w w5 B lb len [] nb V (fun i => zs.getD i 0) ar cr mb cnt F from ⟨f5, LOW.out.n, LOW.out.r, LOW.out.m, LOW.out.s, Nat.le_trans LOW.out.t c5.size⟩)
                have R5 := Lib.hid row5
                have HG := Lib.hid TWO.out.hg
                clear row5 own5 f5 c5 hNB LOW TWO
                go_wp2_with fail
                refine (ints_same R5.out W5.out (by omega)).mono ?_
                rintro e w6 ⟨rfl, c6⟩
                have L6 := Lib.hid (L5.out.kept c6 (fun _ e => e.elim))
                have G6 := Lib.hid (G5.out.kept c6 (fun _ _ e => e))
                clear c6 R5 W5 L5 G5
                go_wp2_with fail
                refine (LI.len_of lb 0 _ L6.out.f.l.h.n).mono ?_
                rintro e w7 ⟨rfl, rfl⟩
                go_wp2_with fail
                refine (LI.first_of lb none _ L6.out.f.l.h.f).mono ?_
                simp only [pt_none]
                rintro e w7 ⟨rfl, rfl⟩
                go_wp2
                go_loopw [14] (fun i wr => ∃ (p : Nat), p ≤ len ∧ i = .int .i64 p ∧ Low w wr B lb len (gone F p) nb V (fun i => zs.getD i 0) ar cr mb cnt F ∧ RowI wr ag (gone F len).length cg (fun j => (fun i => zs.getD i 0) ((gone F len).getD j 0))) (fun i _ => len - (intOf i).toNat)
                case atStart => exact ⟨0, by omega, rfl, L6.out, G6.out⟩
                case round =>
                  clear L6 G6
                  obtain ⟨p, hp, rfl, lw, gw⟩ := hrel
                  have LOW := Lib.hid lw
                  have GW := Lib.hid gw
                  clear lw gw
                  by_cases hlp : p < len
                  · first
                    | exfalso
                      have := HD3.out
                      omega
                    | have lk := LOW.out.f.m.look p (by omega)
                      have hpz : (p : Int) < (len : Int) := by omega
                      have glp := gone_len (F := F) (n := p)
                      obtain ⟨gn, rfl, -⟩ := LOW.out.f.r.form (by omega)
                      have lcp := LOW.out.f.r.len_cap
                      have qn : wr.cell? ⟨gn, p, none⟩ = some (.pointer (some ⟨nb p, 0, none⟩)) := LOW.out.f.r.cell p (by omega)
                      cases hF : F p with
                      | true =>
                        have HF := Lib.hid hF
                        rw [hF] at lk
                        clear hF
                        go_wp2_with fail
                        refine (LOW.out.f.put hlp (by rw [mem_gone]; omega) (by omega)).mono ?_
                        rintro e w8 ⟨rfl, f8, c8⟩
                        rw [← gone_snoc HF.out] at f8
                        have L8 := Lib.hid (show Low w w8 B lb len (gone F (p + 1)) nb V (fun i => zs.getD i 0) (some ⟨gn, 0, none⟩) cr mb cnt F from ⟨f8, LOW.out.n, LOW.out.r, LOW.out.m, LOW.out.s, Nat.le_trans LOW.out.t c8.size⟩)
                        have G8 := Lib.hid (GW.out.kept c8 (fun j hj e => by have := HG.out j hj; have := LOW.out.n j e; omega))
                        clear f8 c8 lk qn
                        go_wp2
                        go_roundw
                        case rel => exact ⟨p + 1, by omega, by go_num, L8.out, G8.out⟩
                        case measure => simp [intOf]; omega
                      | false =>
                        have HF := Lib.hid hF
                        rw [hF] at lk
                        clear hF
                        have l8 := LOW.out
                        rw [← gone_same HF.out] at l8
                        have L8 := Lib.hid l8
                        clear l8
                        go_wp2
                        clear lk
                        go_roundw
                        case rel => exact ⟨p + 1, by omega, by go_num, L8.out, GW.out⟩
                        case measure => simp [intOf]; omega
                  · obtain rfl : len = p := by omega
                    go_wp2_with fail
                    refine (LOW.out.f.all (by omega)).mono ?_
                    rintro e w8 ⟨r8, c8', rfl, row8, own8, f8, c8⟩
                    have R8 := Lib.hid row8
                    have G8 := Lib.hid (GW.out.kept c8 (fun _ _ e => e))
                    have C8 := Lib.hid f8.c
                    clear row8 own8 f8 c8
                    go_wp2_with fail
                    refine (ints_same R8.out G8.out (by omega)).mono ?_
                    rintro e w9 ⟨rfl, c9⟩
                    have C9 := Lib.hid (C8.out.up c9 (fun _ e => e.elim))
                    clear c9
                    go_wp2
                    go_ret
                    exact ⟨rfl, C9.out.below (Nat.le_refl _) (fun _ _ h => h.elim)⟩

theorem ListOrder_own : ownKnob Try.prog.godebug = none := by kernel_rfl
theorem ListOrder_laidOut : laidOutB Try.prog = true := by kernel_rfl

set_option maxRecDepth 100000 in
theorem ListOrder_lifted (os : Os) (started : os.Started) (H : Type) (enc : TypeId × Value → H) :
    ReturnsInHanded {} Try.checked os 4 .any (Rows.listOrderSpec.pre6 enc Try.prog Try.f4 Rows.listOrderRow.domain false) (Rows.listOrderSpec.post enc Try.prog Try.f4 false true false false) := by
  refine returnsInHanded_of_change (C := Try.checked) ListOrder_own started (by kernel_rfl) Try.func4
    (ChangeSpec.witness6 (enc := enc) (C := Try.checked) false ⟨#[], #[.slice none 0 0, .slice none 0 0], []⟩ 8 (by kernel_rfl) (by kernel_rfl) (by kernel_rfl) (by kernel_rfl)) ?_
  intro W base args ds gs before hval0 hW hcnd _
  have hval : ∀ (j : Nat) t v, Try.f4.params[j]? = some t → args[j]? = some v → Value.okWide Try.prog W .any base t v := hval0
  have hW' := hW
  obtain ⟨p, q, hA0, hV, rfl, hfz, hnd⟩ := hW
  have hA : DataW.TrodAll enc Try.prog W 0 (fun _ => true) true Try.f4.params.toList args.toList ds p := hA0
  rw [Try.params4] at hA hval
  obtain ⟨v0, vs0, d0, ds0, p0, q0, hargs, rfl, rfl, h0, r0⟩ := trodAll_cons hA
  obtain ⟨v1, vs1, d1, ds1, p1, q1, rfl, rfl, rfl, h1, r1⟩ := trodAll_cons r0
  obtain ⟨rfl, rfl, rfl⟩ := trodAll_nil r1
  obtain rfl : args = #[v0, v1] := by cases args; simp_all
  obtain ⟨rfl, rfl⟩ := trodVars_none hV
  obtain ⟨a0, len0, cap0, rfl⟩ := okWide_slice Try.underlying29 (hval 0 29 v0 rfl rfl)
  have k0 := h0
  have lt0 : ∀ x ∈ p0, x.block < W.heap.size := by obtain ⟨m, hm⟩ := k0; exact DataW.trod_lt m _ _ _ hm
  obtain ⟨z0, w0⟩ : ∃ zs, IsRow .i64 W a0 len0 cap0 zs := by
    obtain ⟨fuel, hf⟩ := h0
    rcases open_ints Try.underlying29 Try.underlying3 (by kernel_rfl) hf with ⟨hcs, _⟩ | ⟨x, l, c, zs, hcs, _, hl, hm, hz, _, hcell, hwz⟩
    · simp [Value.cells] at hcs
      obtain ⟨rfl, rfl, rfl⟩ := hcs
      exact ⟨[], .inl ⟨rfl, rfl, rfl, rfl⟩⟩
    · simp [Value.cells] at hcs
      obtain ⟨rfl, rfl, rfl⟩ := hcs
      exact ⟨zs, .inr ⟨_, rfl, hl, hm, by simpa using hz, hcell, hwz⟩⟩
  obtain ⟨a1, len1, cap1, rfl⟩ := okWide_slice Try.underlying49 (hval 1 49 v1 rfl rfl)
  have k1 := h1
  have lt1 : ∀ x ∈ p1, x.block < W.heap.size := by obtain ⟨m, hm⟩ := k1; exact DataW.trod_lt m _ _ _ hm
  obtain ⟨z1, w1⟩ : ∃ zs, IsRow .u8 W a1 len1 cap1 zs := by
    obtain ⟨fuel, hf⟩ := h1
    rcases open_ints Try.underlying49 Try.underlying5 (by kernel_rfl) hf with ⟨hcs, _⟩ | ⟨x, l, c, zs, hcs, _, hl, hm, hz, _, hcell, hwz⟩
    · simp [Value.cells] at hcs
      obtain ⟨rfl, rfl, rfl⟩ := hcs
      exact ⟨[], .inl ⟨rfl, rfl, rfl, rfl⟩⟩
    · simp [Value.cells] at hcs
      obtain ⟨rfl, rfl, rfl⟩ := hcs
      exact ⟨zs, .inr ⟨_, rfl, hl, hm, by simpa using hz, hcell, hwz⟩⟩
  clear hA0 hval0
  refine (ListOrder_walk a0 len0 cap0 z0 a1 len1 cap1 z1 W w0 w1).mono fun e W' ⟨he, bel⟩ => ?_
  subst he
  exact ⟨_, rfl, _, _, _, [], _, [], hW', trodAll_mk1 (shut_bool Try.underlying4 _), (trodAll_cons_mk (Below.trod ListOrder_laidOut (by kernel_rfl) (of_decide_eq_true (by kernel_rfl)) k0 bel lt0) (trodAll_cons_mk (Below.trod ListOrder_laidOut (by kernel_rfl) (of_decide_eq_true (by kernel_rfl)) k1 bel lt1) trodAll_mk0)), rfl, bel.frame _, fun h => by cases h⟩

theorem listOrder_holds : Rows.ListOrderSaid :=
  OpenClaim.holds_of_wide 4 Try.f4 rfl rfl rfl rfl rfl rfl rfl ⟨rfl, rfl, rfl, rfl, rfl⟩ rfl rfl rfl rfl rfl (by kernel_rfl) Try.func4 (by kernel_rfl)
    (of_decide_eq_true (by kernel_rfl)) (by unfold Func.isWrapper; rw [if_neg (of_decide_eq_false (by kernel_rfl))]; exact ⟨rfl, rfl⟩)
    (fun os started H enc _ => ListOrder_lifted os started H enc)
end Go.Proofs.Ytfofiheoebchmaa
