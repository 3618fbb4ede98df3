/-
  Contracts of package floor's Config, Slab, Pipe, Log, and of the law's own plain.
-/
import Derived.Test.YtkialefhjfoniaaGreatFlShape
namespace Go.Proofs.YtkialefhjfoniaaGreat
open Go.RowKit Verge
attribute [local go_sem] Oper.semAt_some
set_option linter.unusedVariables false
set_option linter.unusedSimpArgs false

section
variable {w : World} {F : Fb} {tr : Option Addr} {tl tc : Nat}
theorem slab_nil (w : World) :
    Calls Tryz.prog 13 #[.pointer none] w fun e w' => e = .returned (.pointer none) ∧ Ch Nil w w' := by
  have hfld := fld1
  go_enter Tryz.func13, Tryz.ntmps13
  go_wp2_with fail
  refine (whole_nil _).mono ?_
  rintro e w1 ⟨rfl, c1⟩
  have C1 := Lib.hid c1
  clear c1
  go_wp2
  go_ret
  exact ⟨rfl, C1.out⟩
theorem slab_of (h : IsF w F tr tl tc) :
    Calls Tryz.prog 13 #[.pointer (some ⟨F.f, 0, none⟩)] w fun e w' => e = .returned (.pointer (some ⟨F.sb, 0, none⟩)) ∧ Ch Nil w w' := by
  have hfld := fld1
  have H := Lib.hid h
  clear h
  go_enter Tryz.func13, Tryz.ntmps13
  go_wp2_with fail
  refine (whole_of H.out).mono ?_
  rintro e w1 ⟨rfl, c1⟩
  have C1 := Lib.hid c1
  clear c1
  go_wp2
  go_ret
  exact ⟨rfl, C1.out⟩
theorem pipe_nil (w : World) :
    Calls Tryz.prog 16 #[.pointer none] w fun e w' => e = .returned (.pointer none) ∧ Ch Nil w w' := by
  have hfld := fld3
  go_enter Tryz.func16, Tryz.ntmps16
  go_wp2_with fail
  refine (whole_nil _).mono ?_
  rintro e w1 ⟨rfl, c1⟩
  have C1 := Lib.hid c1
  clear c1
  go_wp2
  go_ret
  exact ⟨rfl, C1.out⟩
theorem pipe_of (h : IsF w F tr tl tc) :
    Calls Tryz.prog 16 #[.pointer (some ⟨F.f, 0, none⟩)] w fun e w' => e = .returned (.pointer (some ⟨F.pb, 0, none⟩)) ∧ Ch Nil w w' := by
  have hfld := fld3
  have H := Lib.hid h
  clear h
  go_enter Tryz.func16, Tryz.ntmps16
  go_wp2_with fail
  refine (whole_of H.out).mono ?_
  rintro e w1 ⟨rfl, c1⟩
  have C1 := Lib.hid c1
  clear c1
  go_wp2
  go_ret
  exact ⟨rfl, C1.out⟩
theorem log_nil (w : World) :
    Calls Tryz.prog 18 #[.pointer none] w fun e w' => e = .returned (.pointer none) ∧ Ch Nil w w' := by
  have hfld := fld4
  go_enter Tryz.func18, Tryz.ntmps18
  go_wp2_with fail
  refine (whole_nil _).mono ?_
  rintro e w1 ⟨rfl, c1⟩
  have C1 := Lib.hid c1
  clear c1
  go_wp2
  go_ret
  exact ⟨rfl, C1.out⟩
theorem log_of (h : IsF w F tr tl tc) :
    Calls Tryz.prog 18 #[.pointer (some ⟨F.f, 0, none⟩)] w fun e w' => e = .returned (.pointer (some ⟨F.lb, 0, none⟩)) ∧ Ch Nil w w' := by
  have hfld := fld4
  have H := Lib.hid h
  clear h
  go_enter Tryz.func18, Tryz.ntmps18
  go_wp2_with fail
  refine (whole_of H.out).mono ?_
  rintro e w1 ⟨rfl, c1⟩
  have C1 := Lib.hid c1
  clear c1
  go_wp2
  go_ret
  exact ⟨rfl, C1.out⟩
set_option maxHeartbeats 4000000 in
set_option maxRecDepth 100000 in
theorem config_nil (w : World) :
    Calls Tryz.prog 57 #[.pointer none] w fun e w' => e = .returned (.agg #[.int .i64 0, .int .i64 0, .int .i64 0, .int .i64 0, .int .i64 0, .int .i64 0]) ∧ Ch Nil w w' := by
  have hfld := fld0
  have cA : Ch Nil w (w.alloc (Obj.cells #[.int .i64 0, .int .i64 0, .int .i64 0, .int .i64 0, .int .i64 0, .int .i64 0] 29)) := (Ch.refl _ _).alloc _
  have bx : IsVs (w.alloc (Obj.cells #[.int .i64 0, .int .i64 0, .int .i64 0, .int .i64 0, .int .i64 0, .int .i64 0] 29)) w.heap.size [.int .i64 0, .int .i64 0, .int .i64 0, .int .i64 0, .int .i64 0, .int .i64 0] := IsVs.new w [.int .i64 0, .int .i64 0, .int .i64 0, .int .i64 0, .int .i64 0, .int .i64 0] 29
  have CA := Lib.hid cA
  clear cA
  go_enter Tryz.func57, Tryz.ntmps57
  go_upto_region 1 with (fail)
  generalize w.alloc (Obj.cells #[.int .i64 0, .int .i64 0, .int .i64 0, .int .i64 0, .int .i64 0, .int .i64 0] 29) = W at CA bx ⊢
  obtain ⟨B, hB⟩ : ∃ B, B = w.heap.size := ⟨_, rfl⟩
  rw [← hB] at bx ⊢
  have HB := Lib.hid hB
  have BX := Lib.hid bx
  clear hB bx
  go_wp2_with fail
  refine (whole_nil _).mono ?_
  rintro e w1 ⟨rfl, k1⟩
  have BX := Lib.hid (BX.out.kept k1 (fun e => e))
  have CA := Lib.hid (CA.out.trans k1)
  clear k1
  obtain ⟨c0, c1, c2, c3, c4, c5⟩ := BX.out.cells6
  have f0 := BX.out.b.fz 0
  have f1 := BX.out.b.fz 1
  have f2 := BX.out.b.fz 2
  have f3 := BX.out.b.fz 3
  have f4 := BX.out.b.fz 4
  have f5 := BX.out.b.fz 5
  go_wp2
  have hr : IsVs (setVs w1 B 0 [.int .i64 0, .int .i64 0, .int .i64 0, .int .i64 0, .int .i64 0, .int .i64 0]) B [.int .i64 0, .int .i64 0, .int .i64 0, .int .i64 0, .int .i64 0, .int .i64 0] := BX.out.set rfl
  have hc : Ch Nil w (setVs w1 B 0 [.int .i64 0, .int .i64 0, .int .i64 0, .int .i64 0, .int .i64 0, .int .i64 0]) := setVs_nil B _ CA.out (Nat.le_of_eq HB.out.symm)
  (try simp only [Exit.inBlock, Exit.then])
  refine bodyPost_ret (v := .agg #[.int .i64 0, .int .i64 0, .int .i64 0, .int .i64 0, .int .i64 0, .int .i64 0]) ?hr rfl ⟨rfl, hc⟩
  case hr =>
    change (results _ _).run _ (setVs w1 B 0 [.int .i64 0, .int .i64 0, .int .i64 0, .int .i64 0, .int .i64 0, .int .i64 0]) = .ok _ (setVs w1 B 0 [.int .i64 0, .int .i64 0, .int .i64 0, .int .i64 0, .int .i64 0, .int .i64 0])
    generalize setVs w1 B 0 [.int .i64 0, .int .i64 0, .int .i64 0, .int .i64 0, .int .i64 0, .int .i64 0] = W5 at hr ⊢
    obtain ⟨d0, d1, d2, d3, d4, d5⟩ := hr.cells6
    simp [results, Tryz.results57, go_sem, d0, d1, d2, d3, d4, d5]
set_option maxHeartbeats 4000000 in
set_option maxRecDepth 100000 in
theorem config_of (h : IsF w F tr tl tc) :
    Calls Tryz.prog 57 #[.pointer (some ⟨F.f, 0, none⟩)] w fun e w' => e = .returned (.agg #[.int .i64 F.c.s, .int .i64 F.c.c, .int .i64 F.c.r, .int .i64 F.c.m, .int .i64 F.c.k, .int .i64 F.c.l]) ∧ Ch Nil w w' := by
  have hfld := fld0
  have cA : Ch Nil w (w.alloc (Obj.cells #[.int .i64 0, .int .i64 0, .int .i64 0, .int .i64 0, .int .i64 0, .int .i64 0] 29)) := (Ch.refl _ _).alloc _
  have bx : IsVs (w.alloc (Obj.cells #[.int .i64 0, .int .i64 0, .int .i64 0, .int .i64 0, .int .i64 0, .int .i64 0] 29)) w.heap.size [.int .i64 0, .int .i64 0, .int .i64 0, .int .i64 0, .int .i64 0, .int .i64 0] := IsVs.new w [.int .i64 0, .int .i64 0, .int .i64 0, .int .i64 0, .int .i64 0, .int .i64 0] 29
  have H := Lib.hid (h.kept cA (fun e => e))
  clear h
  have CA := Lib.hid cA
  clear cA
  go_enter Tryz.func57, Tryz.ntmps57
  go_upto_region 1 with (fail)
  generalize w.alloc (Obj.cells #[.int .i64 0, .int .i64 0, .int .i64 0, .int .i64 0, .int .i64 0, .int .i64 0] 29) = W at CA bx H ⊢
  obtain ⟨B, hB⟩ : ∃ B, B = w.heap.size := ⟨_, rfl⟩
  rw [← hB] at bx ⊢
  have HB := Lib.hid hB
  have BX := Lib.hid bx
  clear hB bx
  go_wp2_with fail
  refine (whole_of H.out).mono ?_
  rintro e w1 ⟨rfl, k1⟩
  have BX := Lib.hid (BX.out.kept k1 (fun e => e))
  have CA := Lib.hid (CA.out.trans k1)
  clear k1 H
  obtain ⟨c0, c1, c2, c3, c4, c5⟩ := BX.out.cells6
  have f0 := BX.out.b.fz 0
  have f1 := BX.out.b.fz 1
  have f2 := BX.out.b.fz 2
  have f3 := BX.out.b.fz 3
  have f4 := BX.out.b.fz 4
  have f5 := BX.out.b.fz 5
  go_wp2
  have hr : IsVs (setVs w1 B 0 [.int .i64 F.c.s, .int .i64 F.c.c, .int .i64 F.c.r, .int .i64 F.c.m, .int .i64 F.c.k, .int .i64 F.c.l]) B [.int .i64 F.c.s, .int .i64 F.c.c, .int .i64 F.c.r, .int .i64 F.c.m, .int .i64 F.c.k, .int .i64 F.c.l] := BX.out.set rfl
  have hc : Ch Nil w (setVs w1 B 0 [.int .i64 F.c.s, .int .i64 F.c.c, .int .i64 F.c.r, .int .i64 F.c.m, .int .i64 F.c.k, .int .i64 F.c.l]) := setVs_nil B _ CA.out (Nat.le_of_eq HB.out.symm)
  (try simp only [Exit.inBlock, Exit.then])
  refine bodyPost_ret (v := .agg #[.int .i64 F.c.s, .int .i64 F.c.c, .int .i64 F.c.r, .int .i64 F.c.m, .int .i64 F.c.k, .int .i64 F.c.l]) ?hr rfl ⟨rfl, hc⟩
  case hr =>
    change (results _ _).run _ (setVs w1 B 0 [.int .i64 F.c.s, .int .i64 F.c.c, .int .i64 F.c.r, .int .i64 F.c.m, .int .i64 F.c.k, .int .i64 F.c.l]) = .ok _ (setVs w1 B 0 [.int .i64 F.c.s, .int .i64 F.c.c, .int .i64 F.c.r, .int .i64 F.c.m, .int .i64 F.c.k, .int .i64 F.c.l])
    generalize setVs w1 B 0 [.int .i64 F.c.s, .int .i64 F.c.c, .int .i64 F.c.r, .int .i64 F.c.m, .int .i64 F.c.k, .int .i64 F.c.l] = W5 at hr ⊢
    obtain ⟨d0, d1, d2, d3, d4, d5⟩ := hr.cells6
    simp [results, Tryz.results57, go_sem, d0, d1, d2, d3, d4, d5]
set_option maxHeartbeats 4000000 in
set_option maxRecDepth 100000 in
theorem plain_of (s r : Int) (w : World) :
    Calls Tryz.prog 6 #[.int .i64 s, .int .i64 r] w fun e w' => e = .returned (.agg #[.int .i64 s, .int .i64 r, .int .i64 4, .int .i64 4, .int .i64 2, .int .i64 4]) ∧ Ch Nil w w' := by
  have hfld := fld0
  have cA : Ch Nil w (w.alloc (Obj.cells #[.int .i64 0, .int .i64 0, .int .i64 0, .int .i64 0, .int .i64 0, .int .i64 0] 29)) := (Ch.refl _ _).alloc _
  have bx : IsVs (w.alloc (Obj.cells #[.int .i64 0, .int .i64 0, .int .i64 0, .int .i64 0, .int .i64 0, .int .i64 0] 29)) w.heap.size [.int .i64 0, .int .i64 0, .int .i64 0, .int .i64 0, .int .i64 0, .int .i64 0] := IsVs.new w [.int .i64 0, .int .i64 0, .int .i64 0, .int .i64 0, .int .i64 0, .int .i64 0] 29
  have CA := Lib.hid cA
  clear cA
  go_enter Tryz.func6, Tryz.ntmps6
  go_upto_region 1 with (fail)
  generalize w.alloc (Obj.cells #[.int .i64 0, .int .i64 0, .int .i64 0, .int .i64 0, .int .i64 0, .int .i64 0] 29) = W at CA bx ⊢
  obtain ⟨B, hB⟩ : ∃ B, B = w.heap.size := ⟨_, rfl⟩
  rw [← hB] at bx ⊢
  have HB := Lib.hid hB
  have BX := Lib.hid bx
  clear hB bx
  obtain ⟨c0, c1, c2, c3, c4, c5⟩ := BX.out.cells6
  have f0 := BX.out.b.fz 0
  have f1 := BX.out.b.fz 1
  have f2 := BX.out.b.fz 2
  have f3 := BX.out.b.fz 3
  have f4 := BX.out.b.fz 4
  have f5 := BX.out.b.fz 5
  go_wp2
  have hr : IsVs (setVs W B 0 [.int .i64 s, .int .i64 r, .int .i64 4, .int .i64 4, .int .i64 2, .int .i64 4]) B [.int .i64 s, .int .i64 r, .int .i64 4, .int .i64 4, .int .i64 2, .int .i64 4] := BX.out.set rfl
  have hc : Ch Nil w (setVs W B 0 [.int .i64 s, .int .i64 r, .int .i64 4, .int .i64 4, .int .i64 2, .int .i64 4]) := setVs_nil B _ CA.out (Nat.le_of_eq HB.out.symm)
  (try simp only [Exit.inBlock, Exit.then])
  refine bodyPost_ret (v := .agg #[.int .i64 s, .int .i64 r, .int .i64 4, .int .i64 4, .int .i64 2, .int .i64 4]) ?hr rfl ⟨rfl, hc⟩
  case hr =>
    change (results _ _).run _ (setVs W B 0 [.int .i64 s, .int .i64 r, .int .i64 4, .int .i64 4, .int .i64 2, .int .i64 4]) = .ok _ (setVs W B 0 [.int .i64 s, .int .i64 r, .int .i64 4, .int .i64 4, .int .i64 2, .int .i64 4])
    generalize setVs W B 0 [.int .i64 s, .int .i64 r, .int .i64 4, .int .i64 4, .int .i64 2, .int .i64 4] = W5 at hr ⊢
    obtain ⟨d0, d1, d2, d3, d4, d5⟩ := hr.cells6
    simp [results, Tryz.results6, go_sem, d0, d1, d2, d3, d4, d5]
end
end Go.Proofs.YtkialefhjfoniaaGreat
