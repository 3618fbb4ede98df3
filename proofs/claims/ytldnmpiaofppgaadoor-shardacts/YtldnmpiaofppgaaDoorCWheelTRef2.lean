import Derived.Test.YtldnmpiaofppgaaDoorCWheelTRef1
/-
  The document's wheel: its Out, Remove, Next.
-/
namespace Go.Proofs.YtldnmpiaofppgaaDoor
open Go.RowKit Verge Go.Proofs.YtldnmpiaofppgaaDoor.LT
attribute [local go_sem] Oper.semAt_some
set_option linter.unusedVariables false
set_option linter.unusedSimpArgs false
section
variable {S : Nat → Prop} {zc : Option Value} {w w' : World} {rb now : Nat} {l : List Dn} {ar : Option Addr} {cr : Nat} {x : Dn}
set_option maxHeartbeats 1000000 in
theorem refOut_of (H : RefW zc w rb now l ar cr) (p : Nat) (hl : l.length ≤ 100000) :
    Calls Tryd.prog 68 #[.pointer (some ⟨rb, 0, none⟩), .int .i64 ((p / 64 : Nat) : Int), .int .i64 ((p % 64 : Nat) : Int)] w fun e w' => ∃ ao co ar' cr', e = .returned (.slice ao ((l).filter fun x => decide (x.p = p)).length co) ∧ RowD w' ao ((l).filter fun x => decide (x.p = p)).length co ((l).filter fun x => decide (x.p = p)) ∧ (∀ k, OwnS ao k → w.heap.size ≤ k) ∧ RefW zc w' rb now ((l).filter fun x => !decide (x.p = p)) ar' cr' ∧ (∀ k, OwnS ar' k → w.heap.size ≤ k) ∧ (∀ k, OwnS ao k → ¬ OwnS ar' k) ∧ Ch (One rb) w w' := by
  have c1 := H.s
  have f1 := H.k.fz 1
  have H0 := Lib.hid H
  have rlt := H.k.lt
  obtain ⟨n, hn⟩ : ∃ n, n = l.length := ⟨_, rfl⟩
  have LEN := Lib.hid hn
  rw [← hn] at c1 hl
  obtain ⟨lv, hlv⟩ : ∃ lv, lv = p / 64 := ⟨_, rfl⟩
  obtain ⟨sl, hsl⟩ : ∃ sl, sl = p % 64 := ⟨_, rfl⟩
  rw [← hlv, ← hsl]
  have HL := Lib.hid hlv
  have HS := Lib.hid hsl
  clear H hn hlv hsl
  go_enter Tryd.func68, Tryd.ntmps68
  go_wp2
  go_loopw [9, 7, 8] (fun i s s2 wr => ∃ (k : Nat) (b : Option Addr) (cp : Nat) (b2 : Option Addr) (cp2 : Nat), k ≤ n ∧ i = .int .i64 k ∧ s = .slice b ((l.take k).filter fun x => decide (x.p = p)).length cp ∧ s2 = .slice b2 ((l.take k).filter fun x => !decide (x.p = p)).length cp2 ∧ RowD wr b ((l.take k).filter fun x => decide (x.p = p)).length cp ((l.take k).filter fun x => decide (x.p = p)) ∧ RowD wr b2 ((l.take k).filter fun x => !decide (x.p = p)).length cp2 ((l.take k).filter fun x => !decide (x.p = p)) ∧ (∀ j, OwnS b j → w.heap.size ≤ j) ∧ (∀ j, OwnS b2 j → w.heap.size ≤ j) ∧ (∀ j, OwnS b j → ¬ OwnS b2 j) ∧ Ch Nil w wr) (fun i _ _ _ => n - (intOf i).toNat)
  case atStart => exact ⟨0, none, 0, none, 0, by omega, rfl, rfl, rfl, Row.nil _ _ _ _, Row.nil _ _ _ _, fun j e => (by cases e), fun j e => (by cases e), fun j e => (by cases e), Ch.refl _ _⟩
  case round =>
    obtain ⟨k, b, cp, b2, cp2, hk, rfl, rfl, rfl, r7, r7b, g7, g7b, dj, c7⟩ := hrel
    have R7 := Lib.hid r7
    have R7b := Lib.hid r7b
    have G7 := Lib.hid g7
    have G7b := Lib.hid g7b
    have DJ := Lib.hid dj
    have C7 := Lib.hid c7
    have d1 := c7.keeps c1 (fun e => e)
    have fd : wr.frozen? ⟨rb, 1, none⟩ = false := (H0.out.k.kept c7 (fun e => e)).fz 1
    clear r7 r7b g7 g7b dj c7
    by_cases hlt : k < n
    · obtain ⟨x, hx⟩ : ∃ x, l[k]? = some x := ⟨_, List.getElem?_eq_getElem (by rw [← LEN.out]; exact hlt)⟩
      have hr := H0.out.r
      rw [← LEN.out] at hr
      obtain ⟨ga, rfl, -⟩ := hr.form (by omega)
      obtain ⟨p0, p1, p2, p3⟩ := RowD.cells hr hlt hx
      have q0 := C7.out.keeps p0 (fun e => e)
      have q1 := C7.out.keeps p1 (fun e => e)
      have q2 := C7.out.keeps p2 (fun e => e)
      have q3 := C7.out.keeps p3 (fun e => e)
      clear p0 p1 p2 p3
      have lc := hr.len_cap
      have TK : Hid (l.take (k + 1) = l.take k ++ [x]) := Lib.hid (by rw [List.take_add_one, hx]; rfl)
      have hkz : (k : Int) < (n : Int) := by omega
      have hkz0 : (0 : Int) ≤ (k : Int) := by omega
      obtain ⟨xu, hxu⟩ : ∃ xu, xu = x.u := ⟨_, rfl⟩
      obtain ⟨xd, hxd⟩ : ∃ xd, xd = x.d := ⟨_, rfl⟩
      obtain ⟨xl, hxl⟩ : ∃ xl, xl = x.p / 64 := ⟨_, rfl⟩
      obtain ⟨xs, hxs⟩ : ∃ xs, xs = x.p % 64 := ⟨_, rfl⟩
      rw [← hxu] at q0
      rw [← hxd] at q1
      rw [← hxl] at q2
      rw [← hxs] at q3
      have HXU := Lib.hid hxu
      have HXD := Lib.hid hxd
      have HXL := Lib.hid hxl
      have HXS := Lib.hid hxs
      have HX := Lib.hid hx
      clear hr hx hxu hxd hxl hxs

      by_cases he : x.p = p
      · have e1 : xl = lv := by rw [HXL.out, he]; exact HL.out.symm
        have e2 : xs = sl := by rw [HXS.out, he]; exact HS.out.symm
        subst e1
        subst e2
        obtain ⟨F, hF⟩ : ∃ F, F = ((l.take k).filter fun x => decide (x.p = p)) := ⟨_, rfl⟩
        have NXL : Hid (((l.take (k + 1)).filter fun x => decide (x.p = p)) = F ++ [x]) := Lib.hid (by rw [TK.out, List.filter_append, hF]; simp [he])
        rw [← hF] at R7 ⊢
        have hfl : F.length ≤ 100000 := by rw [hF]; exact Nat.le_trans (List.length_filter_le _ _) (by rw [List.length_take]; omega)
        obtain ⟨fn, hfn⟩ : ∃ fn, fn = F.length := ⟨_, rfl⟩
        have R8 := Lib.hid (Row.kept (S := Nil) R7.out ((Ch.refl Nil wr).alloc (Obj.cells #[.int .i64 xu, .int .u64 (xd : Nat), .int .i64 ((xl : Nat) : Int), .int .i64 ((xs : Nat) : Int)] 89)) (fun _ _ e => e))
        have V1 : Hid (∀ i, i < fn * 4 → dval (F ++ [x]) i = dval F i) := Lib.hid fun i hi => dval_old (by rw [← hfn]; exact hi)
        have V2 : Hid (∀ (j : Nat) (v : Value), ([.int .i64 xu, .int .u64 (xd : Nat), .int .i64 ((xl : Nat) : Int), .int .i64 ((xs : Nat) : Int)] : List Value)[j]? = some v → dval (F ++ [x]) (fn * 4 + j) = v) := Lib.hid (by
          intro j v hv
          rw [hfn]
          exact dval_new j v (by rw [← HXU.out, ← HXD.out, ← HXL.out, ← HXS.out]; exact hv))
        have HFN := Lib.hid hfn
        rw [← hfn] at R8 hfl ⊢
        clear hF hfn
        go_wp2_with (at_builtin; refine append_row _ rfl _ _ _ rfl 89 (.agg #[.int .i64 0, .int .u64 0, .int .i64 0, .int .i64 0]) 4 32 Tryd.underlying30 (by kernel_rfl) rfl (by omega) (by omega) rfl R8.out (by omega) wr.heap.size 1 [.int .i64 xu, .int .u64 (xd : Nat), .int .i64 ((xl : Nat) : Int), .int .i64 ((xs : Nat) : Int)] 89 rfl rfl (heap_alloc_new wr _) (by simp [Value.oneCell']) _ V1.out V2.out _ rfl ?_)
        intro gb cp6 w8 row8 ch8 at8 lt8
        have ROW := Lib.hid row8
        have CH := Lib.hid ((((Ch.refl Nil wr).alloc _).mono (fun _ _ e => e.elim)).trans ch8)
        have AT : Hid (OwnS b gb ∨ wr.heap.size ≤ gb) := Lib.hid (by rcases at8 with h | h; exact .inl h; exact .inr (by (try simp at h); omega))
        clear row8 ch8 at8 lt8 R8
        have NXG : Hid (((l.take (k + 1)).filter fun x => !decide (x.p = p)) = ((l.take k).filter fun x => !decide (x.p = p))) := Lib.hid (by rw [TK.out, List.filter_append]; simp [he])
        have RB := Lib.hid (Row.kept R7b.out CH.out (fun j hj e => DJ.out j e hj))
        have dlt := Row.lt R7b.out
        go_wp2
        go_roundw
        case rel =>
          refine ⟨k + 1, _, cp6, b2, cp2, by omega, by go_num, by rw [NXL.out, List.length_append, ← HFN.out]; rfl, by rw [NXG.out], by rw [NXL.out, List.length_append, ← HFN.out]; exact ROW.out, by rw [NXG.out]; exact RB.out, ?_, G7b.out, ?_, C7.out.up CH.out G7.out⟩
          · intro j e
            cases e
            have := C7.out.size
            rcases AT.out with h' | h'
            · exact G7.out _ h'
            · (try simp only); omega
          · intro j e
            cases e
            rcases AT.out with h' | h'
            · exact DJ.out _ h'
            · exact fun e' => by have := dlt _ e'; simp only at this; omega
        case measure => simp [intOf]; omega
      · by_cases e1 : xl = lv
        · have e2 : xs ≠ sl := fun e2 => he (by have h1 := HL.out; have h2 := HS.out; have h3 := HXL.out; have h4 := HXS.out; omega)
          subst e1
          have hb : (((xs : Nat) : Int) == ((sl : Nat) : Int)) = false := by rw [beq_eq_false_iff_ne]; omega
          have hb2 : ¬ ((xs : Nat) : Int) = ((sl : Nat) : Int) := by omega
          obtain ⟨F, hF⟩ : ∃ F, F = ((l.take k).filter fun x => !decide (x.p = p)) := ⟨_, rfl⟩
          have NXL : Hid (((l.take (k + 1)).filter fun x => !decide (x.p = p)) = F ++ [x]) := Lib.hid (by rw [TK.out, List.filter_append, hF]; simp [he])
          rw [← hF] at R7b ⊢
          have hfl : F.length ≤ 100000 := by rw [hF]; exact Nat.le_trans (List.length_filter_le _ _) (by rw [List.length_take]; omega)
          obtain ⟨fn, hfn⟩ : ∃ fn, fn = F.length := ⟨_, rfl⟩
          have R8 := Lib.hid (Row.kept (S := Nil) R7b.out ((Ch.refl Nil wr).alloc (Obj.cells #[.int .i64 xu, .int .u64 (xd : Nat), .int .i64 ((xl : Nat) : Int), .int .i64 ((xs : Nat) : Int)] 89)) (fun _ _ e => e))
          have V1 : Hid (∀ i, i < fn * 4 → dval (F ++ [x]) i = dval F i) := Lib.hid fun i hi => dval_old (by rw [← hfn]; exact hi)
          have V2 : Hid (∀ (j : Nat) (v : Value), ([.int .i64 xu, .int .u64 (xd : Nat), .int .i64 ((xl : Nat) : Int), .int .i64 ((xs : Nat) : Int)] : List Value)[j]? = some v → dval (F ++ [x]) (fn * 4 + j) = v) := Lib.hid (by
            intro j v hv
            rw [hfn]
            exact dval_new j v (by rw [← HXU.out, ← HXD.out, ← HXL.out, ← HXS.out]; exact hv))
          have HFN := Lib.hid hfn
          rw [← hfn] at R8 hfl ⊢
          clear hF hfn
          go_wp2_with (at_builtin; refine append_row _ rfl _ _ _ rfl 89 (.agg #[.int .i64 0, .int .u64 0, .int .i64 0, .int .i64 0]) 4 32 Tryd.underlying30 (by kernel_rfl) rfl (by omega) (by omega) rfl R8.out (by omega) wr.heap.size 1 [.int .i64 xu, .int .u64 (xd : Nat), .int .i64 ((xl : Nat) : Int), .int .i64 ((xs : Nat) : Int)] 89 rfl rfl (heap_alloc_new wr _) (by simp [Value.oneCell']) _ V1.out V2.out _ rfl ?_)
          intro gb cp6 w8 row8 ch8 at8 lt8
          have ROW := Lib.hid row8
          have CH := Lib.hid ((((Ch.refl Nil wr).alloc _).mono (fun _ _ e => e.elim)).trans ch8)
          have AT : Hid (OwnS b2 gb ∨ wr.heap.size ≤ gb) := Lib.hid (by rcases at8 with h | h; exact .inl h; exact .inr (by (try simp at h); omega))
          clear row8 ch8 at8 lt8 R8
          have NXG : Hid (((l.take (k + 1)).filter fun x => decide (x.p = p)) = ((l.take k).filter fun x => decide (x.p = p))) := Lib.hid (by rw [TK.out, List.filter_append]; simp [he])
          have RB := Lib.hid (Row.kept R7.out CH.out (fun j hj e => DJ.out j hj e))
          have dlt := Row.lt R7.out
          go_wp2
          go_roundw
          case rel =>
            refine ⟨k + 1, b, cp, _, cp6, by omega, by go_num, by rw [NXG.out], by rw [NXL.out, List.length_append, ← HFN.out]; rfl, by rw [NXG.out]; exact RB.out, by rw [NXL.out, List.length_append, ← HFN.out]; exact ROW.out, G7.out, ?_, ?_, C7.out.up CH.out G7b.out⟩
            · intro j e
              cases e
              have := C7.out.size
              rcases AT.out with h' | h'
              · exact G7b.out _ h'
              · (try simp only); omega
            · intro j hj e
              cases e
              rcases AT.out with h' | h'
              · exact DJ.out _ hj h'
              · have := dlt _ hj; simp only at this; omega
          case measure => simp [intOf]; omega
        · have hb : (((xl : Nat) : Int) == ((lv : Nat) : Int)) = false := by rw [beq_eq_false_iff_ne]; omega
          have hb2 : ¬ ((xl : Nat) : Int) = ((lv : Nat) : Int) := by omega
          obtain ⟨F, hF⟩ : ∃ F, F = ((l.take k).filter fun x => !decide (x.p = p)) := ⟨_, rfl⟩
          have NXL : Hid (((l.take (k + 1)).filter fun x => !decide (x.p = p)) = F ++ [x]) := Lib.hid (by rw [TK.out, List.filter_append, hF]; simp [he])
          rw [← hF] at R7b ⊢
          have hfl : F.length ≤ 100000 := by rw [hF]; exact Nat.le_trans (List.length_filter_le _ _) (by rw [List.length_take]; omega)
          obtain ⟨fn, hfn⟩ : ∃ fn, fn = F.length := ⟨_, rfl⟩
          have R8 := Lib.hid (Row.kept (S := Nil) R7b.out ((Ch.refl Nil wr).alloc (Obj.cells #[.int .i64 xu, .int .u64 (xd : Nat), .int .i64 ((xl : Nat) : Int), .int .i64 ((xs : Nat) : Int)] 89)) (fun _ _ e => e))
          have V1 : Hid (∀ i, i < fn * 4 → dval (F ++ [x]) i = dval F i) := Lib.hid fun i hi => dval_old (by rw [← hfn]; exact hi)
          have V2 : Hid (∀ (j : Nat) (v : Value), ([.int .i64 xu, .int .u64 (xd : Nat), .int .i64 ((xl : Nat) : Int), .int .i64 ((xs : Nat) : Int)] : List Value)[j]? = some v → dval (F ++ [x]) (fn * 4 + j) = v) := Lib.hid (by
            intro j v hv
            rw [hfn]
            exact dval_new j v (by rw [← HXU.out, ← HXD.out, ← HXL.out, ← HXS.out]; exact hv))
          have HFN := Lib.hid hfn
          rw [← hfn] at R8 hfl ⊢
          clear hF hfn
          go_wp2_with (at_builtin; refine append_row _ rfl _ _ _ rfl 89 (.agg #[.int .i64 0, .int .u64 0, .int .i64 0, .int .i64 0]) 4 32 Tryd.underlying30 (by kernel_rfl) rfl (by omega) (by omega) rfl R8.out (by omega) wr.heap.size 1 [.int .i64 xu, .int .u64 (xd : Nat), .int .i64 ((xl : Nat) : Int), .int .i64 ((xs : Nat) : Int)] 89 rfl rfl (heap_alloc_new wr _) (by simp [Value.oneCell']) _ V1.out V2.out _ rfl ?_)
          intro gb cp6 w8 row8 ch8 at8 lt8
          have ROW := Lib.hid row8
          have CH := Lib.hid ((((Ch.refl Nil wr).alloc _).mono (fun _ _ e => e.elim)).trans ch8)
          have AT : Hid (OwnS b2 gb ∨ wr.heap.size ≤ gb) := Lib.hid (by rcases at8 with h | h; exact .inl h; exact .inr (by (try simp at h); omega))
          clear row8 ch8 at8 lt8 R8
          have NXG : Hid (((l.take (k + 1)).filter fun x => decide (x.p = p)) = ((l.take k).filter fun x => decide (x.p = p))) := Lib.hid (by rw [TK.out, List.filter_append]; simp [he])
          have RB := Lib.hid (Row.kept R7.out CH.out (fun j hj e => DJ.out j hj e))
          have dlt := Row.lt R7.out
          go_wp2
          go_roundw
          case rel =>
            refine ⟨k + 1, b, cp, _, cp6, by omega, by go_num, by rw [NXG.out], by rw [NXL.out, List.length_append, ← HFN.out]; rfl, by rw [NXG.out]; exact RB.out, by rw [NXL.out, List.length_append, ← HFN.out]; exact ROW.out, G7.out, ?_, ?_, C7.out.up CH.out G7b.out⟩
            · intro j e
              cases e
              have := C7.out.size
              rcases AT.out with h' | h'
              · exact G7b.out _ h'
              · (try simp only); omega
            · intro j hj e
              cases e
              rcases AT.out with h' | h'
              · exact DJ.out _ hj h'
              · have := dlt _ hj; simp only at this; omega
          case measure => simp [intOf]; omega
    · obtain rfl : k = n := by omega
      have e : l.take k = l := by rw [LEN.out, List.take_length]
      rw [e] at R7 R7b ⊢
      go_wp2
      go_ret
      have ch : Ch (One rb) wr (wr.setCell ⟨rb, 1, none⟩ (.slice b2 ((l).filter fun x => !decide (x.p = p)).length cp2)) := (Ch.refl _ _).setB 1 _
      have nrb : ∀ a : Option Addr, (∀ j, OwnS a j → w.heap.size ≤ j) → ¬ OwnS a rb := fun a h e => by have := h rb e; omega
      refine ⟨b, cp, b2, cp2, rfl, Row.kept R7.out ch (fun j hj e => by have e' : j = rb := e; subst e'; exact nrb b G7.out hj), G7.out, ⟨?_, World.cell?_setCell_same _ _ _ d1, ?_, Row.kept R7b.out ch (fun j hj e => by have e' : j = rb := e; subst e'; exact nrb b2 G7b.out hj), nrb b2 G7b.out, (cell_ne (by omega) _).trans ((C7.out.cell (p := ⟨rb, 2, none⟩) H0.out.k.lt (fun e => e)).trans H0.out.z)⟩, G7b.out, DJ.out, (C7.out.mono fun _ _ e => e.elim).trans ch⟩
      · exact (cell_ne (by omega) _).trans (C7.out.keeps H0.out.t (fun e => e))
      · exact (H0.out.k.kept C7.out (fun e => e)).set _ _
set_option maxHeartbeats 1000000 in
theorem refNext_of (H : RefW zc w rb now l ar cr) (hl : l.length ≤ 100000) :
    Calls Tryd.prog 16 #[.pointer (some ⟨rb, 0, none⟩)] w fun e w' => ((l = [] ∧ e = .returned (.tuple #[.int .u64 0, .bool false])) ∨ ∃ m : Nat, MinD l m ∧ e = .returned (.tuple #[.int .u64 (m : Nat), .bool true])) ∧ w = w' := by
  have c1 := H.s
  have H0 := Lib.hid H
  obtain ⟨n, hn⟩ : ∃ n, n = l.length := ⟨_, rfl⟩
  have LEN := Lib.hid hn
  rw [← hn] at c1 hl
  clear H hn
  go_enter Tryd.func16, Tryd.ntmps16
  go_wp2
  go_loopw [6, 4, 5] (fun i v s wr => ∃ (k m : Nat), k ≤ n ∧ i = .int .i64 k ∧ v = .int .u64 (m : Nat) ∧ wr = w ∧ ((k = 0 ∧ m = 0 ∧ s = .bool false) ∨ (s = .bool true ∧ (∃ x, x ∈ l ∧ x.d = m) ∧ ∀ j x, j < k → l[j]? = some x → m ≤ x.d))) (fun i _ _ _ => n - (intOf i).toNat)
  case atStart => exact ⟨0, 0, by omega, rfl, rfl, rfl, .inl ⟨rfl, rfl, rfl⟩⟩
  case round =>
    obtain ⟨k, m, hk, rfl, rfl, rfl, hc⟩ := hrel
    by_cases hlt : k < n
    · have C7 : Hid (Ch Nil wr wr) := Lib.hid (Ch.refl _ _)
      obtain ⟨x, hx⟩ : ∃ x, l[k]? = some x := ⟨_, List.getElem?_eq_getElem (by rw [← LEN.out]; exact hlt)⟩
      have hr := H0.out.r
      rw [← LEN.out] at hr
      obtain ⟨ga, rfl, -⟩ := hr.form (by omega)
      obtain ⟨p0, p1, p2, p3⟩ := RowD.cells hr hlt hx
      have q0 := C7.out.keeps p0 (fun e => e)
      have q1 := C7.out.keeps p1 (fun e => e)
      have q2 := C7.out.keeps p2 (fun e => e)
      have q3 := C7.out.keeps p3 (fun e => e)
      clear p0 p1 p2 p3
      have lc := hr.len_cap
      have TK : Hid (l.take (k + 1) = l.take k ++ [x]) := Lib.hid (by rw [List.take_add_one, hx]; rfl)
      have hkz : (k : Int) < (n : Int) := by omega
      have hkz0 : (0 : Int) ≤ (k : Int) := by omega
      obtain ⟨xu, hxu⟩ : ∃ xu, xu = x.u := ⟨_, rfl⟩
      obtain ⟨xd, hxd⟩ : ∃ xd, xd = x.d := ⟨_, rfl⟩
      obtain ⟨xl, hxl⟩ : ∃ xl, xl = x.p / 64 := ⟨_, rfl⟩
      obtain ⟨xs, hxs⟩ : ∃ xs, xs = x.p % 64 := ⟨_, rfl⟩
      rw [← hxu] at q0
      rw [← hxd] at q1
      rw [← hxl] at q2
      rw [← hxs] at q3
      have HXU := Lib.hid hxu
      have HXD := Lib.hid hxd
      have HXL := Lib.hid hxl
      have HXS := Lib.hid hxs
      have HX := Lib.hid hx
      clear hr hx hxu hxd hxl hxs

      rcases hc with ⟨rfl, rfl, rfl⟩ | ⟨rfl, hm, hle⟩
      · go_wp2
        go_roundw
        case rel =>
          refine ⟨1, xd, by omega, by go_num, rfl, by first | rfl | trivial, .inr ⟨rfl, ⟨x, List.mem_of_getElem? HX.out, HXD.out.symm⟩, fun j y hj hy => ?_⟩⟩
          obtain rfl : j = 0 := by omega
          rw [HX.out] at hy; cases hy; rw [HXD.out]; exact Nat.le_refl _
        case measure => simp [intOf]; omega
      · have HM := Lib.hid hm
        have HLE := Lib.hid hle
        clear hm hle
        by_cases hd : xd < m
        · have hz : (xd : Int) < (m : Int) := by omega
          go_wp2
          go_roundw
          case rel =>
            refine ⟨k + 1, xd, by omega, by go_num, rfl, by first | rfl | trivial, .inr ⟨rfl, ⟨x, List.mem_of_getElem? HX.out, HXD.out.symm⟩, fun j y hj hy => ?_⟩⟩
            by_cases e : j = k
            · subst e; rw [HX.out] at hy; cases hy; rw [HXD.out]; exact Nat.le_refl _
            · have := HLE.out j y (by omega) hy; omega
          case measure => simp [intOf]; omega
        · have hz : (m : Int) ≤ (xd : Int) := by omega
          go_wp2
          go_roundw
          case rel =>
            refine ⟨k + 1, m, by omega, by go_num, rfl, by first | rfl | trivial, .inr ⟨rfl, HM.out, fun j y hj hy => ?_⟩⟩
            by_cases e : j = k
            · subst e; rw [HX.out] at hy; cases hy; rw [← HXD.out]; omega
            · exact HLE.out j y (by omega) hy
          case measure => simp [intOf]; omega
    · obtain rfl : k = n := by omega
      rcases hc with ⟨rfl, rfl, rfl⟩ | ⟨rfl, hm, hle⟩
      · have hl0 : l = [] := List.eq_nil_of_length_eq_zero LEN.out.symm
        have HL0 := Lib.hid hl0
        clear hl0
        go_wp2
        go_ret2
        exact ⟨.inl ⟨HL0.out, rfl⟩, rfl⟩
      · have HM := Lib.hid hm
        have HLE := Lib.hid hle
        clear hm hle
        go_wp2
        go_ret2
        refine ⟨.inr ⟨m, ⟨HM.out, fun y hy => ?_⟩, rfl⟩, rfl⟩
        obtain ⟨j, hj⟩ := List.mem_iff_getElem?.1 hy
        exact HLE.out j y (by rw [LEN.out]; exact (List.getElem?_eq_some_iff.1 hj).1) hj
end
end Go.Proofs.YtldnmpiaofppgaaDoor
