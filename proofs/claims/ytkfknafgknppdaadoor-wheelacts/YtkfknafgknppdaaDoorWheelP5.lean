/-
  Contracts of package wheel's values, At, Beyond, Len, Now, of ints.
-/
import Derived.Test.YtkfknafgknppdaaDoorWheelP4
namespace Go.Proofs.YtkfknafgknppdaaDoor.LP
open Go.RowKit Verge
attribute [local go_sem] Oper.semAt_some
set_option linter.unusedVariables false
set_option linter.unusedSimpArgs false
/-- the value of the i-th entry -/
def valU (ys : List Ent) (i : Nat) : Value := .int .i64 (ys.getD i ⟨0, 0, 0⟩).u
/-- a row of entries' values -/
abbrev RowU (w : World) (a : Option Addr) (n cap : Nat) (ys : List Ent) : Prop := Row w 3 1 a n cap (valU ys)
section
variable {S : Nat → Prop} {w w' : World} {g : Wh} {now : Nat} {R : Nat → List Ent} {P Q : List Ent} {x : Ent} {ys : List Ent} {a : Option Addr} {cap : Nat}
theorem valU_get {i : Nat} (h : ys[i]? = some x) : valU ys i = .int .i64 x.u := by unfold valU; rw [List.getD_eq_getElem?_getD, h]; rfl

set_option maxHeartbeats 1000000 in
theorem values_of (ys : List Ent) (hg : Given w a ys Nil) (he : ∀ x, x ∈ ys → w.cell? ⟨x.e, 1, none⟩ = some (.int .i64 x.u)) (hn : ys.length ≤ 100000) :
    Calls Tryd.prog 37 #[.slice a ys.length cap] w fun e w' => ∃ a' cap', e = .returned (.slice a' ys.length cap') ∧ RowU w' a' ys.length cap' ys ∧ (∀ k, OwnS a' k → w.heap.size ≤ k) ∧ Ch Nil w w' := by
  have HG := Lib.hid hg
  have HE := Lib.hid he
  obtain ⟨n, hln⟩ : ∃ n, n = ys.length := ⟨_, rfl⟩
  have LEN := Lib.hid hln
  rw [← hln] at hn ⊢
  clear hg he hln
  go_enter Tryd.func37, Tryd.ntmps37
  go_wp2
  go_loopw [8, 3] (fun i s wr => ∃ (k : Nat) (b : Option Addr) (cp : Nat), k ≤ n ∧ i = .int .i64 k ∧ s = .slice b k cp ∧ RowU wr b k cp ys ∧ (∀ j, OwnS b j → w.heap.size ≤ j) ∧ Ch Nil w wr) (fun i _ _ => n - (intOf i).toNat)
  case atStart => exact ⟨0, none, 0, by omega, rfl, rfl, Row.nil _ _ _ _, fun j e => (by cases e), Ch.refl _ _⟩
  case round =>
    obtain ⟨k, b, cp, hk, rfl, rfl, r7, g7, c7⟩ := hrel
    have R7 := Lib.hid r7
    have G7 := Lib.hid g7
    have C7 := Lib.hid c7
    clear r7 g7 c7
    by_cases hlt : k < n
    · have hkl : k < ys.length := by rw [← LEN.out]; exact hlt
      obtain ⟨x, hx⟩ : ∃ x, ys[k]? = some x := ⟨_, List.getElem?_eq_getElem hkl⟩
      obtain ⟨ga, rfl, -, hcell⟩ : ∃ b, a = some ⟨b, 0, none⟩ ∧ ¬ Nil b ∧ ∀ i x, ys[i]? = some x → w.cell? ⟨b, i, none⟩ = some (.pointer (some ⟨x.e, 0, none⟩)) := by
        rcases HG.out with h | h
        · rw [h] at hkl; simp at hkl
        · exact h
      have q1 := C7.out.keeps (hcell k x hx) (fun e => e)
      have q2 := C7.out.keeps (HE.out x (List.mem_of_getElem? hx)) (fun e => e)
      have HX := Lib.hid hx
      obtain ⟨u, hu⟩ : ∃ u, u = x.u := ⟨_, rfl⟩
      rw [← hu] at q2
      have HU := Lib.hid hu
      have R8 := Lib.hid (Row.kept (S := Nil) R7.out ((Ch.refl Nil wr).alloc (Obj.cells #[.int .i64 u] 3)) (fun _ _ e => e))
      have hkz : (k : Int) < (n : Int) := by omega
      have hkz0 : (0 : Int) ≤ (k : Int) := by omega
      clear hcell hx hu
      go_wp2_with (at_builtin; refine append_row _ rfl _ _ _ rfl 3 (.int .i64 0) 1 8 Tryd.underlying47 (by kernel_rfl) rfl (by omega) (by omega) rfl R8.out (by omega) wr.heap.size 1 [.int .i64 u] 3 rfl rfl (heap_alloc_new wr _) (by simp [Value.oneCell']) (valU ys) (fun i hi => rfl) (by intro j v hv; obtain rfl : j = 0 := (by cases j; rfl; simp at hv); simp at hv; subst hv; rw [HU.out]; simpa using valU_get HX.out) _ rfl ?_)
      intro gb cp6 w8 row8 ch8 at8 lt8
      have ROW := Lib.hid row8
      have CH := Lib.hid ((((Ch.refl Nil wr).alloc _).mono (fun _ _ e => e.elim)).trans ch8)
      have AT := Lib.hid at8
      clear row8 ch8 at8 lt8 R8
      go_wp2
      go_roundw
      case rel =>
        refine ⟨k + 1, _, cp6, by omega, by go_num, rfl, ROW.out, ?_, C7.out.up CH.out G7.out⟩
        intro j e
        cases e
        have := C7.out.size
        rcases AT.out with h' | h'
        · exact G7.out _ h'
        · (try simp at h'); (try simp only); omega
      case measure => simp [intOf]; omega
    · obtain rfl : k = n := by omega
      go_wp2
      go_ret
      exact ⟨b, cp, rfl, R7.out, G7.out, C7.out⟩

theorem RowE.given {T : Nat → Prop} {xs : List Nat} (h : RowE w a xs.length cap (valAt xs pre)) (hx : xs = ys.map nd) (hT : ∀ k, OwnS a k → ¬ T k) : Given w a ys T := by
  subst hx; rw [List.length_map] at h; exact RowX.given h hT

set_option maxHeartbeats 1000000 in
theorem IsW.at_of {h s : Nat} (H : IsW w g now R P) (hh : h < 4) (hs : s < 64) (hl : (R (64 * h + s)).length ≤ 100000) :
    Calls Tryd.prog 15 #[.pointer (some ⟨g.wb, 0, none⟩), .int .i64 (h : Nat), .int .i64 (s : Nat)] w fun e w' => ∃ a cap, e = .returned (.slice a (R (64 * h + s)).length cap) ∧ RowU w' a (R (64 * h + s)).length cap (R (64 * h + s)) ∧ (∀ k, OwnS a k → w.heap.size ≤ k) ∧ Ch Nil w w' := by
  have c1 := H.p h hh
  have hz : (h : Int) < 4 := by omega
  have hz0 : (0 : Int) ≤ (h : Int) := by omega
  have AT := Lib.hid (vat_of (H.v h hh) hs (by rw [nrow_len hs]; exact hl))
  have HE : Hid (∀ x, x ∈ R (64 * h + s) → w.cell? ⟨x.e, 1, none⟩ = some (.int .i64 x.u)) := Lib.hid fun x hx => (H.e x (H.y.r _ (by omega) x hx)).u
  clear H
  go_enter Tryd.func15, Tryd.ntmps15
  go_wp2_with fail
  refine AT.out.mono ?_
  rintro e w1 ⟨a1, cap1, rfl, r1, g1, c1'⟩
  have V := Lib.hid (values_of (cap := cap1) (R (64 * h + s)) (RowE.given r1 (nrow_at hs) (fun _ _ e => e)) (fun x hx => c1'.keeps (HE.out x hx) (fun e => e)) hl)
  have sz := c1'.size
  have C1 := Lib.hid c1'
  rw [nrow_len hs]
  clear r1 g1 c1' AT HE c1
  go_wp2_with fail
  refine V.out.mono ?_
  rintro e w2 ⟨a2, cap2, rfl, r2, g2, c2⟩
  have R2 := Lib.hid r2
  have G2 := Lib.hid g2
  have C2 := Lib.hid (C1.out.trans c2)
  clear r2 g2 c2 V
  go_wp2
  go_ret
  exact ⟨a2, cap2, rfl, R2.out, fun k hk => by have := G2.out k hk; omega, C2.out⟩
/-- of no level or slot: none -/
theorem at_nolevel (wb : Nat) (l s : Int) (hl : l < 0 ∨ 4 ≤ l) (w : World) :
    Calls Tryd.prog 15 #[.pointer (some ⟨wb, 0, none⟩), .int .i64 l, .int .i64 s] w fun e w' => e = .returned (.slice none 0 0) ∧ w = w' := by
  by_cases h0 : l < 0
  · clear hl
    go_enter Tryd.func15, Tryd.ntmps15
    go_wp2
    go_ret
    exact ⟨rfl, rfl⟩
  · have h1 : 4 ≤ l := by omega
    have h2 : 0 ≤ l := by omega
    clear hl
    go_enter Tryd.func15, Tryd.ntmps15
    go_wp2
    go_ret
    exact ⟨rfl, rfl⟩
theorem at_nil (l s : Int) (w : World) :
    Calls Tryd.prog 15 #[.pointer none, .int .i64 l, .int .i64 s] w fun e w' => e = .returned (.slice none 0 0) ∧ w = w' := by
  go_enter Tryd.func15, Tryd.ntmps15
  go_wp2
  go_ret
  exact ⟨rfl, rfl⟩
theorem IsW.at_noslot {h : Nat} (H : IsW w g now R P) (hh : h < 4) (s : Int) (hs : s < 0 ∨ 64 ≤ s) :
    Calls Tryd.prog 15 #[.pointer (some ⟨g.wb, 0, none⟩), .int .i64 (h : Nat), .int .i64 s] w fun e w' => ∃ a cap, e = .returned (.slice a 0 cap) ∧ RowU w' a 0 cap [] ∧ (∀ k, OwnS a k → w.heap.size ≤ k) ∧ Ch Nil w w' := by
  have c1 := H.p h hh
  have hz : (h : Int) < 4 := by omega
  have hz0 : (0 : Int) ≤ (h : Int) := by omega
  have AT := Lib.hid (vat_range (g.vb h) s hs w)
  have V := Lib.hid (values_of (w := w) (a := none) (cap := 0) [] (.inl rfl) (fun x hx => (by cases hx)) (by simp))
  clear H hs
  go_enter Tryd.func15, Tryd.ntmps15
  go_wp2_with fail
  refine AT.out.mono ?_
  rintro e w1 ⟨rfl, rfl⟩
  go_wp2_with fail
  refine V.out.mono ?_
  rintro e w2 ⟨a2, cap2, rfl, r2, g2, c2⟩
  have R2 := Lib.hid r2
  have G2 := Lib.hid g2
  have C2 := Lib.hid c2
  clear r2 g2 c2 V
  go_wp2
  go_ret
  exact ⟨a2, cap2, rfl, R2.out, G2.out, C2.out⟩
theorem IsW.beyond (H : IsW w g now R P) (hl : (R 256).length ≤ 100000) :
    Calls Tryd.prog 35 #[.pointer (some ⟨g.wb, 0, none⟩)] w fun e w' => ∃ a cap, e = .returned (.slice a (R 256).length cap) ∧ RowU w' a (R 256).length cap (R 256) ∧ (∀ k, OwnS a k → w.heap.size ≤ k) ∧ Ch Nil w w' := by
  have c1 := H.b
  have AT := Lib.hid (H.l.all (by rw [List.length_map]; exact hl))
  have HE : Hid (∀ x, x ∈ R 256 → w.cell? ⟨x.e, 1, none⟩ = some (.int .i64 x.u)) := Lib.hid fun x hx => (H.e x (H.y.r _ (by omega) x hx)).u
  clear H
  go_enter Tryd.func35, Tryd.ntmps35
  go_wp2_with fail
  refine AT.out.mono ?_
  rintro e w1 ⟨a1, cap1, rfl, r1, g1, c1'⟩
  have V := Lib.hid (values_of (cap := cap1) (R 256) (RowE.given r1 rfl (fun _ _ e => e)) (fun x hx => c1'.keeps (HE.out x hx) (fun e => e)) hl)
  have sz := c1'.size
  have C1 := Lib.hid c1'
  rw [List.length_map]
  clear r1 g1 c1' AT HE c1
  go_wp2_with fail
  refine V.out.mono ?_
  rintro e w2 ⟨a2, cap2, rfl, r2, g2, c2⟩
  have R2 := Lib.hid r2
  have G2 := Lib.hid g2
  have C2 := Lib.hid (C1.out.trans c2)
  clear r2 g2 c2 V
  go_wp2
  go_ret
  exact ⟨a2, cap2, rfl, R2.out, fun k hk => by have := G2.out k hk; omega, C2.out⟩
theorem beyond_nil (w : World) :
    Calls Tryd.prog 35 #[.pointer none] w fun e w' => e = .returned (.slice none 0 0) ∧ w = w' := by
  go_enter Tryd.func35, Tryd.ntmps35
  go_wp2
  go_ret
  exact ⟨rfl, rfl⟩
theorem now_at (wb now : Nat) (w : World) (hn : w.cell? ⟨wb, 0, none⟩ = some (.int .u64 (now : Nat))) :
    Calls Tryd.prog 16 #[.pointer (some ⟨wb, 0, none⟩)] w fun e w' => e = .returned (.int .u64 (now : Nat)) ∧ w = w' := by
  go_enter Tryd.func16, Tryd.ntmps16
  go_wp2
  go_ret
  exact ⟨rfl, rfl⟩
theorem now_nil (w : World) :
    Calls Tryd.prog 16 #[.pointer none] w fun e w' => e = .returned (.int .u64 0) ∧ w = w' := by
  go_enter Tryd.func16, Tryd.ntmps16
  go_wp2
  go_ret
  exact ⟨rfl, rfl⟩

/-- how many the first k levels have, and what lies beyond -/
def lenUpto (R : Nat → List Ent) : Nat → Nat
  | 0 => (R 256).length
  | k + 1 => lenUpto R k + totX (nrow R k)
theorem lenUpto_all : lenUpto (rowsOf Q now) 4 = Q.length := by
  have h : ∀ b, totX (nrow (rowsOf Q now) b) = totUpto (fun s => (rowsOf Q now (64 * b + s)).map (·.e)) 64 := fun b => totUpto_congr 64 fun i hi => by rw [nrow_len hi, List.length_map]
  rw [← tot_all now Q]
  simp only [lenUpto, h]
theorem lenUpto_le (k : Nat) (hk : k ≤ 4) : lenUpto R k ≤ lenUpto R 4 := by
  have : k = 0 ∨ k = 1 ∨ k = 2 ∨ k = 3 ∨ k = 4 := by omega
  rcases this with rfl | rfl | rfl | rfl | rfl <;> simp only [lenUpto] <;> omega

set_option maxHeartbeats 1000000 in
set_option maxRecDepth 100000 in
theorem IsQ.len (H : IsQ w g now Q P) (T : Tab w) (hl : Q.length ≤ 100000) :
    Calls Tryd.prog 34 #[.pointer (some ⟨g.wb, 0, none⟩)] w fun e w' => e = .returned (.int .i64 (Q.length : Nat)) ∧ Ch Nil w w' := by
  have q0 := H.w.p 0 (by omega)
  have q1 := H.w.p 1 (by omega)
  have q2 := H.w.p 2 (by omega)
  have q3 := H.w.p 3 (by omega)
  have q4 := H.w.b
  have LL := Lib.hid (len_of g.lb _ w H.w.l.h.n)
  rw [List.length_map] at LL
  have VL : Hid (∀ h wr, h < 4 → Ch Nil w wr → Calls Tryd.prog 53 #[.pointer (some ⟨g.vb h, 0, none⟩)] wr fun e w' => e = .returned (.int .i64 (totX (nrow (rowsOf Q now) h) : Nat)) ∧ Ch Nil wr w') := Lib.hid fun h wr hh c =>
    vlen_of ((H.w.v h hh).kept c (fun _ _ e => e)) (T.keeps c (fun e => e)) (fun i hi => by rw [nrow_len hi]; have := rowsOf_len (Q := Q) (now := now) (p := 64 * h + i); omega)
  have LE : Hid (∀ k, k ≤ 4 → lenUpto (rowsOf Q now) k ≤ 100000) := Lib.hid fun k hk => by have := lenUpto_le (R := rowsOf Q now) k hk; rw [lenUpto_all] at this; omega
  have ALL := Lib.hid (lenUpto_all (Q := Q) (now := now))
  have ST : Hid (∀ k, lenUpto (rowsOf Q now) (k + 1) = lenUpto (rowsOf Q now) k + totX (nrow (rowsOf Q now) k)) := Lib.hid fun k => rfl
  have L0 : Hid (lenUpto (rowsOf Q now) 0 = (rowsOf Q now 256).length) := Lib.hid rfl
  generalize lenUpto (rowsOf Q now) = f at *
  clear H T
  have ix : ∀ (p0 p1 p2 p3 : Value) (w : World), (Instr.index 60 (.agg #[p0, p1, p2, p3]) (.int .i64 0)).run Tryd.prog w = .ok p0 w ∧ (Instr.index 60 (.agg #[p0, p1, p2, p3]) (.int .i64 1)).run Tryd.prog w = .ok p1 w ∧ (Instr.index 60 (.agg #[p0, p1, p2, p3]) (.int .i64 2)).run Tryd.prog w = .ok p2 w ∧ (Instr.index 60 (.agg #[p0, p1, p2, p3]) (.int .i64 3)).run Tryd.prog w = .ok p3 w := fun _ _ _ _ _ => ⟨by kernel_rfl, by kernel_rfl, by kernel_rfl, by kernel_rfl⟩
  have i0 := fun w => (ix (.pointer (some ⟨g.vb 0, 0, none⟩)) (.pointer (some ⟨g.vb 1, 0, none⟩)) (.pointer (some ⟨g.vb 2, 0, none⟩)) (.pointer (some ⟨g.vb 3, 0, none⟩)) w).1
  have i1 := fun w => (ix (.pointer (some ⟨g.vb 0, 0, none⟩)) (.pointer (some ⟨g.vb 1, 0, none⟩)) (.pointer (some ⟨g.vb 2, 0, none⟩)) (.pointer (some ⟨g.vb 3, 0, none⟩)) w).2.1
  have i2 := fun w => (ix (.pointer (some ⟨g.vb 0, 0, none⟩)) (.pointer (some ⟨g.vb 1, 0, none⟩)) (.pointer (some ⟨g.vb 2, 0, none⟩)) (.pointer (some ⟨g.vb 3, 0, none⟩)) w).2.2.1
  have i3 := fun w => (ix (.pointer (some ⟨g.vb 0, 0, none⟩)) (.pointer (some ⟨g.vb 1, 0, none⟩)) (.pointer (some ⟨g.vb 2, 0, none⟩)) (.pointer (some ⟨g.vb 3, 0, none⟩)) w).2.2.2
  clear ix
  go_enter Tryd.func34, Tryd.ntmps34
  go_wp2_with fail
  refine LL.out.mono ?_
  rintro e w1 ⟨rfl, rfl⟩
  rw [← L0.out]
  go_wp2
  go_loopw [17, 3] (fun i c wr => ∃ k : Nat, k ≤ 4 ∧ i = .int .i64 k ∧ c = .int .i64 (f k : Nat) ∧ Ch Nil w wr) (fun i _ _ => 4 - (intOf i).toNat)
  case atStart => exact ⟨0, by omega, rfl, rfl, Ch.refl _ _⟩
  case round =>
    obtain ⟨k, hk, rfl, rfl, c5⟩ := hrel
    have C5 := Lib.hid c5
    clear c5
    by_cases hlt : k < 4
    · have b1 := LE.out k (by omega)
      have b2 := LE.out (k + 1) (by omega)
      have V := Lib.hid (VL.out k wr hlt C5.out)
      have st := ST.out k
      generalize totX (nrow (rowsOf Q now) k) = m at *
      obtain ⟨p, hp⟩ : ∃ p, p = f k := ⟨_, rfl⟩
      rw [← hp] at b1 st ⊢
      have SUM := Lib.hid st
      have b3 : p + m ≤ 100000 := by omega
      clear st hp b2
      have : k = 0 ∨ k = 1 ∨ k = 2 ∨ k = 3 := by omega
      rcases this with rfl | rfl | rfl | rfl
      all_goals
        go_wp2_with fail
        refine V.out.mono ?_
        rintro e w6 ⟨rfl, c6⟩
        have C6 := Lib.hid (C5.out.trans c6)
        clear c6
        go_wp2
        go_roundw
        case rel => first | exact ⟨0 + 1, by omega, by go_num, by rw [SUM.out]; go_num, C6.out⟩ | exact ⟨1 + 1, by omega, by go_num, by rw [SUM.out]; go_num, C6.out⟩ | exact ⟨2 + 1, by omega, by go_num, by rw [SUM.out]; go_num, C6.out⟩ | exact ⟨3 + 1, by omega, by go_num, by rw [SUM.out]; go_num, C6.out⟩
        case measure => simp [intOf]
    · obtain rfl : k = 4 := by omega
      rw [ALL.out]
      go_wp2
      go_ret
      exact ⟨rfl, C5.out⟩
theorem len_nilw (w : World) :
    Calls Tryd.prog 34 #[.pointer none] w fun e w' => e = .returned (.int .i64 0) ∧ w = w' := by
  go_enter Tryd.func34, Tryd.ntmps34
  go_wp2
  go_ret
  exact ⟨rfl, rfl⟩
end
end Go.Proofs.YtkfknafgknppdaaDoor.LP
