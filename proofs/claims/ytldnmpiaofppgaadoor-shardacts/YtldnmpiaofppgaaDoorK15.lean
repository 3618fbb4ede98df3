import Derived.Test.YtldnmpiaofppgaaDoorK14
import Derived.Lib.Hide
import Derived.Deep.Draws
import Derived.Deep.QuietTactic
import Derived.BigQuiet
/-
  Contracts of package shard's New, of its ring's functions through a shard, of the document's Tasks; a shard as the laws on its wheel use it; the document's example.
-/
namespace Go.Proofs.YtldnmpiaofppgaaDoor
open Go.RowKit Verge Go.Proofs.YtldnmpiaofppgaaDoor.LT
attribute [local go_sem] Oper.semAt_some
set_option linter.unusedVariables false
set_option linter.unusedSimpArgs false
theorem sNew_out (n : Int) (w : World) (hn : Hid (n < 1 ∨ 64 < n)) :
    Calls Tryd.prog 9 #[.int .i64 n] w fun e w' => e = .returned (.tuple #[.pointer none, .int .i64 4]) ∧ w = w' := by
  go_enter Tryd.func9, Tryd.ntmps9
  go_wp2_with fail
  refine (RT.new_out n _ hn).mono ?_
  rintro e w1 ⟨rfl, rfl⟩
  go_wp2
  go_ret2
  exact ⟨rfl, rfl⟩
/-- what a new shard is -/
structure NewSh (w w' : World) (n s r rs l : Nat) (g : Wh) : Prop where
  sh : IsSh w' s r l g.wb
  ri : RT.IsRing w' r rs n 0 0 (fun _ => false) (fun _ => tk0)
  lk : IsLk w' l ⟨0, false, 0⟩
  d : Drv w w' g 0 [] []
  b1 : w.heap.size ≤ r ∧ r < l
  b2 : w.heap.size ≤ rs ∧ rs < l
  b3 : ∀ k, WS g [] k → l < k ∧ k < s
set_option maxHeartbeats 2000000 in
theorem sNew_ok (n : Nat) (w : World) (n0 : 0 < n) (n1 : n ≤ 64) :
    Calls Tryd.prog 9 #[.int .i64 n] w fun e w' => ∃ s r rs l g, e = .returned (.tuple #[.pointer (some ⟨s, 0, none⟩), .int .i64 0]) ∧ NewSh w w' n s r rs l g := by
  go_enter Tryd.func9, Tryd.ntmps9
  go_wp2_with fail
  refine (RT.new_of n _ n0 n1).mono ?_
  rintro e w1 ⟨r, rs, rfl, hr, hrs, h1, c1⟩
  have H1 := Lib.hid h1
  have C1 := Lib.hid c1
  have lr := h1.lt
  have lrs := h1.lt2
  clear h1 c1
  go_wp2_with fail
  refine (new_lk _).mono ?_
  rintro e w2 ⟨rfl, k2, c2⟩
  have l2 := k2.lt
  obtain ⟨l, hl⟩ : ∃ l, l = w1.heap.size := ⟨_, rfl⟩
  rw [← hl] at k2 l2 ⊢
  have hl2 : r < l ∧ rs < l := by omega
  have K2 := Lib.hid k2
  have H2 := Lib.hid (H1.out.kept c2 (fun e => e) (fun e => e))
  have C2 := Lib.hid (C1.out.trans c2)
  clear k2 c2 hl H1 C1 lr lrs
  go_wp2_with fail
  refine (Drv.new (w0 := w) 0 (by decide) C2.out).mono ?_
  rintro e w3 ⟨g, rfl, hg, d3, c3⟩
  have D3 := Lib.hid d3
  have K3 := Lib.hid (K2.out.kept c3 (fun e => e))
  have H3 := Lib.hid (H2.out.kept c3 (fun e => e) (fun e => e))
  have HG : Hid (∀ k, WS g [] k → l < k ∧ k < w3.heap.size) := Lib.hid fun k hk => ⟨by have := hg k hk; omega, d3.lt hk⟩
  clear d3 c3 hg K2 H2 C2
  go_wp2
  go_ret2
  have cA : Ch Nil w3 (w3.alloc (Obj.cells #[.pointer (some ⟨r, 0, none⟩), .pointer (some ⟨l, 0, none⟩), .pointer (some ⟨g.wb, 0, none⟩)] 74)) := (Ch.refl _ _).alloc _
  exact ⟨_, r, rs, l, g, rfl, ⟨by rw [cell_fresh]; rfl, by rw [cell_fresh]; rfl, by rw [cell_fresh]; rfl⟩, H3.out.kept cA (fun e => e) (fun e => e), K3.out.kept cA (fun e => e), D3.out.quiet cA, ⟨hr, hl2.1⟩, ⟨hrs, hl2.2⟩, HG.out⟩

section
variable {S : Nat → Prop} {w0 w w' : World} {s r rs l v n nx fi : Nat} {V : Nat → Tk} {Pb : Nat → Bool}
theorem sBegin_of (h : IsSh w s r l v) (k : RT.IsRing w r rs n nx fi Pb V) :
    Calls Tryd.prog 20 #[.pointer (some ⟨s, 0, none⟩)] w fun e w' => ∃ t, e = .returned (.pointer (some ⟨t, 0, none⟩)) ∧ w.heap.size ≤ t ∧ t ≠ r ∧ t ≠ rs ∧ RT.IsT w' t r 0 0 0 false ∧ RT.IsRing w' r rs n nx fi Pb V ∧ Ch Nil w w' := by
  have hfld := fld_sh0
  have H := Lib.hid h
  have K := Lib.hid k
  clear h k
  go_enter Tryd.func20, Tryd.ntmps20
  go_wp2_with fail
  refine (whole_of H.out).mono ?_
  rintro e w1 ⟨rfl, c1⟩
  have C1 := Lib.hid c1
  have sz := c1.size
  clear c1
  go_wp2_with fail
  refine (RT.begin_of (K.out.kept C1.out (fun e => e) (fun e => e))).mono ?_
  rintro e w2 ⟨t, rfl, ht, h1, h2, k2, r2, c2⟩
  have C2 := Lib.hid (C1.out.trans c2)
  have K2 := Lib.hid k2
  have R2 := Lib.hid r2
  clear c2 k2 r2
  go_wp2
  go_ret
  exact ⟨t, rfl, by omega, h1, h2, K2.out, R2.out, C2.out⟩
theorem sWaiting_of (h : IsSh w s r l v) (k : RT.IsRing w r rs n nx fi Pb V) (hle : fi ≤ nx) (hx : nx ≤ 1000000) (d : Nat) (hd : Hid (nx - fi = d)) :
    Calls Tryd.prog 24 #[.pointer (some ⟨s, 0, none⟩)] w fun e w' => e = .returned (.int .i64 (d : Nat)) ∧ RT.IsRing w' r rs n nx fi Pb V ∧ Ch (RT.Two r rs) w w' := by
  have hfld := fld_sh0
  have H := Lib.hid h
  have K := Lib.hid k
  clear h k
  go_enter Tryd.func24, Tryd.ntmps24
  go_wp2_with fail
  refine (whole_of H.out).mono ?_
  rintro e w1 ⟨rfl, c1⟩
  have C1 := Lib.hid c1
  clear c1
  go_wp2_with fail
  refine (RT.len_at r rs n nx fi Pb V _ (K.out.kept C1.out (fun e => e) (fun e => e)) hle hx).mono ?_
  rw [hd.out]
  rintro e w2 ⟨rfl, r2, c2⟩
  have C2 := Lib.hid ((C1.out.mono (fun _ _ e => e.elim)).trans c2)
  have R2 := Lib.hid r2
  clear c2 r2
  go_wp2
  go_ret
  exact ⟨rfl, R2.out, C2.out⟩
theorem sReady_of (h : IsSh w s r l v) (k : RT.IsRing w r rs n nx fi Pb V) (hx : fi ≤ 1000000) (b : Bool) (hb : Hid (Pb fi = b)) :
    Calls Tryd.prog 22 #[.pointer (some ⟨s, 0, none⟩)] w fun e w' => e = .returned (.bool b) ∧ RT.IsRing w' r rs n nx fi Pb V ∧ Ch (RT.Two r rs) w w' := by
  have hfld := fld_sh0
  have H := Lib.hid h
  have K := Lib.hid k
  clear h k
  go_enter Tryd.func22, Tryd.ntmps22
  go_wp2_with fail
  refine (whole_of H.out).mono ?_
  rintro e w1 ⟨rfl, c1⟩
  have C1 := Lib.hid c1
  clear c1
  go_wp2_with fail
  refine (RT.ready_at r rs n nx fi Pb V _ (K.out.kept C1.out (fun e => e) (fun e => e)) hx).mono ?_
  rw [hb.out]
  rintro e w2 ⟨rfl, r2, c2⟩
  have C2 := Lib.hid ((C1.out.mono (fun _ _ e => e.elim)).trans c2)
  have R2 := Lib.hid r2
  clear c2 r2
  go_wp2
  go_ret
  exact ⟨rfl, R2.out, C2.out⟩
/-- the box of Pop's result -/
theorem popBox (w : World) : ∀ W, W = w.alloc (Obj.cells #[.int .u64 0, .int .i64 0, .int .u64 0, .int .u64 0, .int .u64 0] 37) → Ch Nil w W ∧ IsTk W w.heap.size 0 tk0 ∧ Blk W w.heap.size := by
  rintro W rfl
  exact ⟨(Ch.refl _ _).alloc _, IsTk.new w 37 tk0, Blk.new _ _ _⟩
set_option maxHeartbeats 2000000 in
theorem sPop_nil (w : World) :
    Calls Tryd.prog 25 #[.pointer none] w fun e w' => e = .returned (.tuple #[tkA tk0, .int .i64 6]) ∧ Ch Nil w w' := by
  have hfld := fld_sh0
  obtain ⟨cA, r0, k0⟩ := popBox w _ rfl
  have CA := Lib.hid cA
  clear cA
  go_enter Tryd.func25, Tryd.ntmps25
  go_upto_region 1 with (fail)
  generalize w.alloc (Obj.cells #[.int .u64 0, .int .i64 0, .int .u64 0, .int .u64 0, .int .u64 0] 37) = W at CA r0 k0 ⊢
  obtain ⟨B, hB⟩ : ∃ B, B = w.heap.size := ⟨_, rfl⟩
  rw [← hB] at r0 k0 ⊢
  have HB := Lib.hid hB
  have R0 := Lib.hid r0
  have K0 := Lib.hid k0
  clear hB r0 k0
  go_wp2_with fail
  refine (whole_nil _).mono ?_
  rintro e w1 ⟨rfl, c1⟩
  have C1 := Lib.hid c1
  clear c1
  go_wp2_with fail
  refine (RT.pop_nil _).mono ?_
  unfold tkA tk0
  rintro e w2 ⟨rfl, c2⟩
  have C2 := Lib.hid (C1.out.trans c2)
  have r2 := R0.out.kept C2.out (fun e => e)
  have k2 := K0.out.kept C2.out (fun e => e)
  obtain ⟨x0, x1, x2, x3, x4⟩ := r2.cells0
  have g0 := k2.fz 0
  have g1 := k2.fz 1
  have g2 := k2.fz 2
  have g3 := k2.fz 3
  have g4 := k2.fz 4
  clear c2
  go_wp2
  have hr := setTk_is (u := tk0) r2
  have hc : Ch Nil w (setTk w2 B 0 tk0) := (CA.out.trans C2.out).up (setTk_tch w2 B 0 tk0).ch (fun i e => by have := HB.out; have e' : i = B := e; omega)
  (try simp only [Exit.inBlock, Exit.then])
  refine bodyPost_ret (v := .tuple #[tkA tk0, .int .i64 6]) ?hr rfl ⟨rfl, hc⟩
  case hr =>
    change (results _ _).run _ (setTk w2 B 0 tk0) = .ok _ (setTk w2 B 0 tk0)
    generalize setTk w2 B 0 tk0 = W5 at hr ⊢
    obtain ⟨c0, c1, c2, c3, c4⟩ := hr.cells0
    simp [results, Tryd.results25, go_sem, c0, c1, c2, c3, c4]
set_option maxHeartbeats 2000000 in
theorem sPop_ok (h : IsSh w s r l v) (k : RT.IsRing w r rs n nx fi Pb V) (hx : fi ≤ 900000) (hP : Hid (Pb fi = true)) (hN : Hid (Pb (fi + n) = false)) (u : Tk) (hv : Hid (V fi = u)) :
    Calls Tryd.prog 25 #[.pointer (some ⟨s, 0, none⟩)] w fun e w' => e = .returned (.tuple #[tkA u, .int .i64 0]) ∧ RT.IsRing w' r rs n nx (fi + 1) Pb V ∧ Ch (RT.Two r rs) w w' := by
  have hfld := fld_sh0
  obtain ⟨cA, r0, k0⟩ := popBox w _ rfl
  have H := Lib.hid (h.kept cA (fun e => e))
  have K := Lib.hid (k.kept cA (fun e => e) (fun e => e))
  have hBr : w.heap.size ≠ r := by have := k.lt; omega
  have hBs : w.heap.size ≠ rs := by have := k.lt2; omega
  have CA := Lib.hid cA
  clear cA h k
  go_enter Tryd.func25, Tryd.ntmps25
  go_upto_region 1 with (fail)
  generalize w.alloc (Obj.cells #[.int .u64 0, .int .i64 0, .int .u64 0, .int .u64 0, .int .u64 0] 37) = W at CA r0 k0 H K ⊢
  obtain ⟨B, hB⟩ : ∃ B, B = w.heap.size := ⟨_, rfl⟩
  rw [← hB] at r0 k0 hBr hBs ⊢
  have HB := Lib.hid hB
  have R0 := Lib.hid r0
  have K0 := Lib.hid k0
  clear hB r0 k0
  go_wp2_with fail
  refine (whole_of H.out).mono ?_
  rintro e w1 ⟨rfl, c1⟩
  have C1 := Lib.hid c1
  clear c1
  go_wp2_with fail
  refine (RT.pop_ok r rs n nx fi Pb V _ (K.out.kept C1.out (fun e => e) (fun e => e)) hx hP hN u hv).mono ?_
  unfold tkA
  rintro e w2 ⟨rfl, k2, c2⟩
  have C2 := Lib.hid ((C1.out.mono (fun _ _ e => e.elim)).trans c2)
  have K2 := Lib.hid k2
  have nB : ¬ RT.Two r rs B := fun e => by rcases e with e | e <;> contradiction
  have r2 := R0.out.kept C2.out nB
  have b2 := K0.out.kept C2.out nB
  obtain ⟨x0, x1, x2, x3, x4⟩ := r2.cells0
  have g0 := b2.fz 0
  have g1 := b2.fz 1
  have g2 := b2.fz 2
  have g3 := b2.fz 3
  have g4 := b2.fz 4
  clear c2 k2
  go_wp2
  have hr := setTk_is (u := u) r2
  have ct := (setTk_tch w2 B 0 u).ch
  have hk := K2.out.kept ct (fun e => hBr e.symm) (fun e => hBs e.symm)
  have hc : Ch (RT.Two r rs) w (setTk w2 B 0 u) := ((CA.out.mono (fun _ _ e => e.elim)).trans C2.out).then ct (fun i hi e => by have := HB.out; have e' : i = B := e; omega)
  (try simp only [Exit.inBlock, Exit.then])
  refine bodyPost_ret (v := .tuple #[tkA u, .int .i64 0]) ?hr rfl ⟨rfl, hk, hc⟩
  case hr =>
    change (results _ _).run _ (setTk w2 B 0 u) = .ok _ (setTk w2 B 0 u)
    generalize setTk w2 B 0 u = W5 at hr ⊢
    obtain ⟨c0, c1, c2, c3, c4⟩ := hr.cells0
    simp [results, Tryd.results25, go_sem, c0, c1, c2, c3, c4]
set_option maxHeartbeats 2000000 in
theorem sPop_none (h : IsSh w s r l v) (k : RT.IsRing w r rs n nx fi Pb V) (hx : fi ≤ 900000) (hP : Hid (Pb fi = false)) :
    Calls Tryd.prog 25 #[.pointer (some ⟨s, 0, none⟩)] w fun e w' => e = .returned (.tuple #[tkA tk0, .int .i64 6]) ∧ RT.IsRing w' r rs n nx fi Pb V ∧ Ch (RT.Two r rs) w w' := by
  have hfld := fld_sh0
  obtain ⟨cA, r0, k0⟩ := popBox w _ rfl
  have H := Lib.hid (h.kept cA (fun e => e))
  have K := Lib.hid (k.kept cA (fun e => e) (fun e => e))
  have hBr : w.heap.size ≠ r := by have := k.lt; omega
  have hBs : w.heap.size ≠ rs := by have := k.lt2; omega
  have CA := Lib.hid cA
  clear cA h k
  go_enter Tryd.func25, Tryd.ntmps25
  go_upto_region 1 with (fail)
  generalize w.alloc (Obj.cells #[.int .u64 0, .int .i64 0, .int .u64 0, .int .u64 0, .int .u64 0] 37) = W at CA r0 k0 H K ⊢
  obtain ⟨B, hB⟩ : ∃ B, B = w.heap.size := ⟨_, rfl⟩
  rw [← hB] at r0 k0 hBr hBs ⊢
  have HB := Lib.hid hB
  have R0 := Lib.hid r0
  have K0 := Lib.hid k0
  clear hB r0 k0
  go_wp2_with fail
  refine (whole_of H.out).mono ?_
  rintro e w1 ⟨rfl, c1⟩
  have C1 := Lib.hid c1
  clear c1
  go_wp2_with fail
  refine (RT.pop_none r rs n nx fi Pb V _ (K.out.kept C1.out (fun e => e) (fun e => e)) (by omega) hP).mono ?_
  unfold tkA tk0
  rintro e w2 ⟨rfl, k2, c2⟩
  have C2 := Lib.hid ((C1.out.mono (fun _ _ e => e.elim)).trans c2)
  have K2 := Lib.hid k2
  have nB : ¬ RT.Two r rs B := fun e => by rcases e with e | e <;> contradiction
  have r2 := R0.out.kept C2.out nB
  have b2 := K0.out.kept C2.out nB
  obtain ⟨x0, x1, x2, x3, x4⟩ := r2.cells0
  have g0 := b2.fz 0
  have g1 := b2.fz 1
  have g2 := b2.fz 2
  have g3 := b2.fz 3
  have g4 := b2.fz 4
  clear c2 k2
  go_wp2
  have hr := setTk_is (u := tk0) r2
  have ct := (setTk_tch w2 B 0 tk0).ch
  have hk := K2.out.kept ct (fun e => hBr e.symm) (fun e => hBs e.symm)
  have hc : Ch (RT.Two r rs) w (setTk w2 B 0 tk0) := ((CA.out.mono (fun _ _ e => e.elim)).trans C2.out).then ct (fun i hi e => by have := HB.out; have e' : i = B := e; omega)
  (try simp only [Exit.inBlock, Exit.then])
  refine bodyPost_ret (v := .tuple #[tkA tk0, .int .i64 6]) ?hr rfl ⟨rfl, hk, hc⟩
  case hr =>
    change (results _ _).run _ (setTk w2 B 0 tk0) = .ok _ (setTk w2 B 0 tk0)
    generalize setTk w2 B 0 tk0 = W5 at hr ⊢
    obtain ⟨c0, c1, c2, c3, c4⟩ := hr.cells0
    simp [results, Tryd.results25, go_sem, c0, c1, c2, c3, c4]
end
end Go.Proofs.YtldnmpiaofppgaaDoor

/-
  The document's Tasks (are two lists of tasks the same?), and its example, as the statements ask it.
-/
namespace Go.Proofs.YtldnmpiaofppgaaDoor
open Go.RowKit Verge Go.Proofs.YtldnmpiaofppgaaDoor.LT
attribute [local go_sem] Oper.semAt_some
set_option linter.unusedVariables false
set_option linter.unusedSimpArgs false

set_option maxHeartbeats 2000000 in
theorem same_of {w : World} {a b : Option Addr} {c1 c2 : Nat} {L M : List Tk} (h1 : TSrc w a L) (h2 : TSrc w b M) (hl : L.length ≤ 1000000) (hm : M.length ≤ 1000000) :
    Calls Tryd.prog 13 #[.slice a L.length c1, .slice b M.length c2] w fun e w' => e = .returned (.bool (decide (L = M))) ∧ Ch Nil w w' := by
  obtain ⟨n, hn⟩ : ∃ n, n = L.length := ⟨_, rfl⟩
  obtain ⟨m, hm'⟩ : ∃ m, m = M.length := ⟨_, rfl⟩
  have HN := Lib.hid hn
  have HM := Lib.hid hm'
  have S1 := Lib.hid h1
  have S2 := Lib.hid h2
  rw [← hn] at hl ⊢
  rw [← hm'] at hm ⊢
  clear hn hm' h1 h2
  go_enter Tryd.func13, Tryd.ntmps13
  by_cases hne : n = m
  · subst hne
    go_wp2
    go_loopw [5] (fun i wr => ∃ k : Nat, k ≤ n ∧ i = .int .i64 k ∧ Hid (L.take k = M.take k) ∧ Ch Nil w wr) (fun i _ => n - (intOf i).toNat)
    case atStart => exact ⟨0, by omega, rfl, Lib.hid rfl, Ch.refl _ _⟩
    case round =>
      obtain ⟨k, hk, rfl, HT, hc⟩ := hrel
      have HC := Lib.hid hc
      by_cases hlt : k < n
      · obtain ⟨b1, o1, rfl, -, k1⟩ := (S1.out.kept hc (fun _ _ e => e)).form (by rw [← HN.out]; omega)
        obtain ⟨b2, o2, rfl, -, k2⟩ := (S2.out.kept hc (fun _ _ e => e)).form (by rw [← HM.out]; omega)
        obtain ⟨f, hf⟩ : ∃ f, L[k]? = some f := ⟨_, List.getElem?_eq_getElem (by rw [← HN.out]; exact hlt)⟩
        obtain ⟨g, hg⟩ : ∃ f, M[k]? = some f := ⟨_, List.getElem?_eq_getElem (by rw [← HM.out]; exact hlt)⟩
        obtain ⟨f0, f1, f2, f3, f4⟩ := (k1 k f hf).cells
        obtain ⟨g0, g1, g2, g3, g4⟩ := (k2 k g hg).cells
        have hkz : (k : Int) < (n : Int) := by omega
        have hkz0 : (0 : Int) ≤ (k : Int) := by omega
        have HF := Lib.hid hf
        have HG := Lib.hid hg
        have hE := eqT f g
        clear k1 k2 hf hg hc
        by_cases hfg : f = g
        · have hd : decide (f = g) = true := by simp [hfg]
          rw [hd] at hE
          unfold tkA at hE
          have HFG := Lib.hid hfg
          clear hfg hd
          go_wp2
          go_quiet (fail)
          go_wp2
          go_roundw
          case rel =>
            refine ⟨k + 1, by omega, by go_num, Lib.hid ?_, HC.out.drewN _⟩
            rw [List.take_add_one, List.take_add_one, HT.out, HF.out, HG.out, HFG.out]
          case measure => simp [intOf]; omega
        · have hd : decide (f = g) = false := by simp [hfg]
          rw [hd] at hE
          unfold tkA at hE
          have HFG := Lib.hid hfg
          clear hfg hd
          go_wp2
          go_quiet (fail)
          go_wp2
          go_ret
          have hd : decide (L = M) = false := decide_eq_false fun e => by
            have h1 := HF.out
            rw [e, HG.out] at h1
            exact HFG.out (Option.some.inj h1).symm
          exact ⟨by rw [hd]; rfl, HC.out.drewN _⟩
      · obtain rfl : k = n := by omega
        clear hc
        go_wp2
        go_ret
        have hd : decide (L = M) = true := decide_eq_true (by
          have := HT.out
          rwa [List.take_of_length_le (by have := HN.out; omega), List.take_of_length_le (by have := HM.out; omega)] at this)
        exact ⟨by rw [hd]; rfl, HC.out⟩
  · have hz : (n : Int) ≠ (m : Int) := by omega
    go_wp2
    go_ret
    have hd : decide (L = M) = false := decide_eq_false fun e => hne (by rw [HN.out, HM.out, e])
    exact ⟨by rw [hd]; rfl, Ch.refl _ _⟩

/-- a shard, by the row of the tasks that it armed: nothing that was there before has turned -/
structure Sh (w0 w : World) (s : Nat) (g : Wh) (now : Nat) (Q P : List Ent) : Prop where
  d : Drv w0 w g now Q P
  c : ∃ r l, IsSh w s r l g.wb
  s0 : w0.heap.size ≤ s
  ns : ¬ WS g P s
section
variable {S : Nat → Prop} {w0 w w' : World} {s : Nat} {g : Wh} {now : Nat} {P Q : List Ent}
theorem Sh.quiet (h : Sh w0 w s g now Q P) (c : Ch Nil w w') : Sh w0 w' s g now Q P := by
  obtain ⟨r, l, k⟩ := h.c
  exact ⟨h.d.quiet c, ⟨r, l, k.kept c (fun e => e)⟩, h.s0, h.ns⟩
theorem Sh.later (h : Sh w0 w s g now Q P) (c : Ch S w w') (hn : ∀ k, (WS g P k ∨ k = s) → ¬ S k) (hs : ∀ k, S k → w0.heap.size ≤ k) : Sh w0 w' s g now Q P := by
  obtain ⟨r, l, k⟩ := h.c
  exact ⟨h.d.later c (fun k hk => hn k (.inl hk)) hs, ⟨r, l, k.kept c (hn s (.inr rfl))⟩, h.s0, h.ns⟩
theorem Sh.lt (h : Sh w0 w s g now Q P) {k : Nat} (hk : WS g P k ∨ k = s) : k < w.heap.size := by
  rcases hk with hk | rfl
  · exact h.d.lt hk
  · obtain ⟨r, l, k⟩ := h.c; exact k.lt
theorem Sh.hi (h : Sh w0 w s g now Q P) {k : Nat} (hk : WS g P k ∨ k = s) : w0.heap.size ≤ k := by
  rcases hk with hk | rfl
  · exact h.d.hi k hk
  · exact h.s0
theorem Sh.new (n : Nat) (n0 : 0 < n) (n1 : n ≤ 64) (c : Ch Nil w0 w) :
    Calls Tryd.prog 9 #[.int .i64 n] w fun e w' => ∃ s g, e = .returned (.tuple #[.pointer (some ⟨s, 0, none⟩), .int .i64 0]) ∧ Sh w0 w' s g 0 [] [] ∧ Ch Nil w w' ∧ w.heap.size ≤ s ∧ (∀ k, WS g [] k → w.heap.size ≤ k) :=
  (sNew_ok n w n0 n1).mono fun e w' ⟨s, r, rs, l, g, he, h⟩ => by
    have hw := c.size
    have h3 := h.b3
    have h1 := h.b1
    have hs : l < s := by have := h3 g.wb (.inl rfl); omega
    exact ⟨s, g, he, ⟨h.d.base c, ⟨r, l, h.sh⟩, by omega, fun e => by have := (h3 s e).2; omega⟩, h.d.c, by omega, fun k hk => by have := (h3 k hk).1; omega⟩
theorem Sh.arm (h : Sh w0 w s g now Q P) (u : Tk) (h0 : 0 ≤ u.s) (hd : u.d < 18446744073709551616) (hn : now < 18446744073709551615) (hl : Q.length ≤ 80000) (d : Nat) (hdd : Hid (d = max u.d (now + 1))) :
    Calls Tryd.prog 10 #[.pointer (some ⟨s, 0, none⟩), .agg #[.int .u64 (u.i : Nat), .int .i64 u.s, .int .u64 (u.g : Nat), .int .u64 (u.d : Nat), .int .u64 (u.p : Nat)]] w fun e w' => ∃ b, e = .returned (.tuple #[.int .u64 (d : Nat), .int .i64 0]) ∧ w.heap.size ≤ b ∧ Sh w0 w' s g now (Q ++ [⟨b, d, reD u d⟩]) (P ++ [⟨b, d, reD u d⟩]) ∧ Ch (WS g P) w w' := by
  obtain ⟨r, l, k⟩ := h.c
  refine (sArm_ok k h.d h.ns u h0 hd hn hl d hdd).mono ?_
  rintro e w' ⟨b, he, hb, d', c⟩
  have := k.lt
  exact ⟨b, he, hb, ⟨d', ⟨r, l, k.kept c h.ns⟩, h.s0, fun e => by
    rcases WS.more e with e | e
    · exact h.ns e
    · simp only at e; omega⟩, c⟩
theorem Sh.turn (h : Sh w0 w s g now Q P) (hn : now + 1 < 18446744073709551616) (hl : Q.length ≤ 45000) :
    Calls Tryd.prog 12 #[.pointer (some ⟨s, 0, none⟩)] w fun e w' => ∃ a cap, e = .returned (.tuple #[.slice a ((dueQ Q (now + 1)).map (·.u)).length cap, .int .i64 0]) ∧ TRow w' a cap ((dueQ Q (now + 1)).map (·.u)) ∧ (∀ k, OwnS a k → w.heap.size ≤ k) ∧ Sh w0 w' s g (now + 1) (leftQ Q (now + 1)) P ∧ Ch (WS g P) w w' := by
  obtain ⟨r, l, k⟩ := h.c
  refine (sTurn_ok k h.d hn hl).mono ?_
  rintro e w' ⟨a, cap, he, row, own, d', c⟩
  exact ⟨a, cap, he, row, own, ⟨d', ⟨r, l, k.kept c h.ns⟩, h.s0, h.ns⟩, c⟩
theorem Sh.now_of (h : Sh w0 w s g now Q P) :
    Calls Tryd.prog 17 #[.pointer (some ⟨s, 0, none⟩)] w fun e w' => e = .returned (.int .u64 (now : Nat)) ∧ Ch Nil w w' := by
  obtain ⟨r, l, k⟩ := h.c
  exact sNow_of k now h.d.q.w.t
theorem Sh.armed (h : Sh w0 w s g now Q P) (T : Tab w0) (hl : Q.length ≤ 100000) :
    Calls Tryd.prog 18 #[.pointer (some ⟨s, 0, none⟩)] w fun e w' => e = .returned (.int .i64 (Q.length : Nat)) ∧ Ch Nil w w' := by
  obtain ⟨r, l, k⟩ := h.c
  exact sArmed_of k h.d.q (T.keeps h.d.c (fun e => e)) hl
theorem Sh.next (h : Sh w0 w s g now Q P) (T : Tab w0) (hl : Q.length ≤ 100000) :
    Calls Tryd.prog 15 #[.pointer (some ⟨s, 0, none⟩)] w fun e w' => ((Q = [] ∧ e = .returned (.tuple #[.int .u64 0, .int .i64 6])) ∨ ∃ m : Nat, IsMin Q m ∧ e = .returned (.tuple #[.int .u64 (m : Nat), .int .i64 0])) ∧ Ch Nil w w' := by
  obtain ⟨r, l, k⟩ := h.c
  exact sNext_of k h.d.q (T.keeps h.d.c (fun e => e)) hl
end
def tkE : Tk := ⟨64, 0, 0, 0, 0⟩
def tkF : Tk := ⟨64, 0, 0, 1, 0⟩
theorem dueE (b : Nat) : (dueQ ([] ++ [⟨b, 1, reD tkE 1⟩]) (0 + 1)).map (·.u) = [tkF] := by simp [dueQ, reD, tkE, tkF]

set_option maxHeartbeats 4000000 in
set_option maxRecDepth 100000 in
theorem alive_any (w : World) :
    Calls Tryd.prog 8 #[] w fun e w' => e = .returned (.bool true) ∧ Ch Nil w w' := by
  go_enter Tryd.func8, Tryd.ntmps8
  go_wp2_with fail
  refine (Sh.new (w0 := w) 4 (by omega) (by omega) (Ch.refl _ _)).mono ?_
  rintro e w1 ⟨s, g, rfl, d1, -, -, -⟩
  have D1 := Lib.hid d1
  clear d1
  go_wp2_with fail
  refine (D1.out.arm tkE (by decide) (by decide) (by decide) (by simp) 1 rfl).mono ?_
  rintro e w2 ⟨b, rfl, hb, d2, -⟩
  have D2 := Lib.hid d2
  clear d2 D1
  go_wp2_with fail
  refine (D2.out.turn (by decide) (by simp)).mono ?_
  rw [dueE]
  rintro e w3 ⟨a, cap, rfl, r3, g3, d3, c3⟩
  have hc : Ch Nil w w3 := d3.d.c
  have cA : Ch Nil w3 (w3.alloc (Obj.cells #[.int .u64 64, .int .i64 0, .int .u64 0, .int .u64 1, .int .u64 0] 37)) := (Ch.refl _ _).alloc _
  have CA := Lib.hid (hc.trans cA)
  have S1 : Hid (TSrc (w3.alloc (Obj.cells #[.int .u64 64, .int .i64 0, .int .u64 0, .int .u64 1, .int .u64 0] 37)) a [tkF]) := Lib.hid ((TRow.src r3).kept cA (fun _ _ e => e))
  have S2 : Hid (TSrc (w3.alloc (Obj.cells #[.int .u64 64, .int .i64 0, .int .u64 0, .int .u64 1, .int .u64 0] 37)) (some ⟨w3.heap.size, 0, none⟩) [tkF]) := Lib.hid (.inr ⟨_, 0, rfl, fun i f hf => by
    obtain ⟨rfl, rfl⟩ : i = 0 ∧ f = tkF := by cases i <;> simp at hf; exact ⟨rfl, hf.symm⟩
    exact IsTk.new w3 37 tkF⟩)
  clear r3 g3 d3 c3 hc cA
  simp only [List.length_cons, List.length_nil, Nat.zero_add]
  go_wp2_with fail
  refine (same_of (c1 := cap) (c2 := 1) S1.out S2.out (by simp) (by simp)).mono ?_
  rintro e w4 ⟨rfl, c4⟩
  have C4 := Lib.hid (CA.out.trans c4)
  clear c4
  simp only [decide_true]
  go_wp2
  go_ret
  exact ⟨rfl, C4.out⟩
end Go.Proofs.YtldnmpiaofppgaaDoor
