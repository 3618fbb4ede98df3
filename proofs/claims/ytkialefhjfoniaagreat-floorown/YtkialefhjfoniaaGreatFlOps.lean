/-
  Contracts of package floor's Enter, Leave, Inside, Work, Busy, Shut, Closed, Turn, Now: of a floor, of no floor.
-/
import Derived.Test.YtkialefhjfoniaaGreatFlConf
import Derived.IntWalk
namespace Go.Proofs.YtkialefhjfoniaaGreat
open Go.RowKit Verge
attribute [local go_sem] Oper.semAt_some
set_option linter.unusedVariables false
set_option linter.unusedSimpArgs false

section
variable {w : World} {F : Fb} {tr : Option Addr} {tl tc : Nat}
theorem inside_of (h : IsF w F tr tl tc) {v : Int} (hc : IsJ w F.ins 0 v) :
    Calls Tryz.prog 24 #[.pointer (some ⟨F.f, 0, none⟩)] w fun e w' => e = .returned (.int .i64 v) ∧ IsJ w' F.ins 0 v ∧ Ch (One F.ins) w w' := by
  have hfld := fld6
  have H := Lib.hid h
  have C := Lib.hid hc
  clear h hc
  go_enter Tryz.func24, Tryz.ntmps24
  go_wp2_with fail
  refine (whole_of H.out).mono ?_
  rintro e w1 ⟨rfl, c1⟩
  have C1 := Lib.hid c1
  have K1 := Lib.hid (C.out.kept c1 (fun e => e))
  clear c1 C
  go_wp2_with fail
  refine (floadJ _ K1.out).mono ?_
  rintro e w2 ⟨rfl, k2, c2⟩
  have C2 := Lib.hid ((C1.out.mono (fun _ _ e => e.elim)).trans c2.ch)
  have K2 := Lib.hid k2
  clear c2 k2
  go_wp2
  go_ret
  exact ⟨rfl, K2.out, C2.out⟩
theorem inside_nil (w : World) :
    Calls Tryz.prog 24 #[.pointer none] w fun e w' => e = .returned (.int .i64 0) ∧ Ch Nil w w' := by
  have hfld := fld6
  go_enter Tryz.func24, Tryz.ntmps24
  go_wp2_with fail
  refine (whole_nil _).mono ?_
  rintro e w1 ⟨rfl, c1⟩
  have C1 := Lib.hid c1
  clear c1
  go_wp2_with fail
  refine (floadJ_nil _).mono ?_
  rintro e w2 ⟨rfl, rfl⟩
  go_wp2
  go_ret
  exact ⟨rfl, C1.out⟩
theorem busy_of (h : IsF w F tr tl tc) {v : Int} (hc : IsJ w F.bz 0 v) :
    Calls Tryz.prog 25 #[.pointer (some ⟨F.f, 0, none⟩)] w fun e w' => e = .returned (.int .i64 v) ∧ IsJ w' F.bz 0 v ∧ Ch (One F.bz) w w' := by
  have hfld := fld7
  have H := Lib.hid h
  have C := Lib.hid hc
  clear h hc
  go_enter Tryz.func25, Tryz.ntmps25
  go_wp2_with fail
  refine (whole_of H.out).mono ?_
  rintro e w1 ⟨rfl, c1⟩
  have C1 := Lib.hid c1
  have K1 := Lib.hid (C.out.kept c1 (fun e => e))
  clear c1 C
  go_wp2_with fail
  refine (floadJ _ K1.out).mono ?_
  rintro e w2 ⟨rfl, k2, c2⟩
  have C2 := Lib.hid ((C1.out.mono (fun _ _ e => e.elim)).trans c2.ch)
  have K2 := Lib.hid k2
  clear c2 k2
  go_wp2
  go_ret
  exact ⟨rfl, K2.out, C2.out⟩
theorem busy_nil (w : World) :
    Calls Tryz.prog 25 #[.pointer none] w fun e w' => e = .returned (.int .i64 0) ∧ Ch Nil w w' := by
  have hfld := fld7
  go_enter Tryz.func25, Tryz.ntmps25
  go_wp2_with fail
  refine (whole_nil _).mono ?_
  rintro e w1 ⟨rfl, c1⟩
  have C1 := Lib.hid c1
  clear c1
  go_wp2_with fail
  refine (floadJ_nil _).mono ?_
  rintro e w2 ⟨rfl, rfl⟩
  go_wp2
  go_ret
  exact ⟨rfl, C1.out⟩
theorem now_of (h : IsF w F tr tl tc) {v : Int} (hc : IsU w F.nw 0 v) :
    Calls Tryz.prog 31 #[.pointer (some ⟨F.f, 0, none⟩)] w fun e w' => e = .returned (.int .u64 v) ∧ IsU w' F.nw 0 v ∧ Ch (One F.nw) w w' := by
  have hfld := fld8
  have H := Lib.hid h
  have C := Lib.hid hc
  clear h hc
  go_enter Tryz.func31, Tryz.ntmps31
  go_wp2_with fail
  refine (whole_of H.out).mono ?_
  rintro e w1 ⟨rfl, c1⟩
  have C1 := Lib.hid c1
  have K1 := Lib.hid (C.out.kept c1 (fun e => e))
  clear c1 C
  go_wp2_with fail
  refine (floadU _ K1.out).mono ?_
  rintro e w2 ⟨rfl, k2, c2⟩
  have C2 := Lib.hid ((C1.out.mono (fun _ _ e => e.elim)).trans c2.ch)
  have K2 := Lib.hid k2
  clear c2 k2
  go_wp2
  go_ret
  exact ⟨rfl, K2.out, C2.out⟩
theorem now_nil (w : World) :
    Calls Tryz.prog 31 #[.pointer none] w fun e w' => e = .returned (.int .u64 0) ∧ Ch Nil w w' := by
  have hfld := fld8
  go_enter Tryz.func31, Tryz.ntmps31
  go_wp2_with fail
  refine (whole_nil _).mono ?_
  rintro e w1 ⟨rfl, c1⟩
  have C1 := Lib.hid c1
  clear c1
  go_wp2_with fail
  refine (floadU_nil _).mono ?_
  rintro e w2 ⟨rfl, rfl⟩
  go_wp2
  go_ret
  exact ⟨rfl, C1.out⟩
theorem closed_of (h : IsF w F tr tl tc) {v : Bool} (hc : IsB w F.cl v) :
    Calls Tryz.prog 30 #[.pointer (some ⟨F.f, 0, none⟩)] w fun e w' => e = .returned (.bool v) ∧ IsB w' F.cl v ∧ Ch (One F.cl) w w' := by
  have hfld := fld5
  have H := Lib.hid h
  have C := Lib.hid hc
  clear h hc
  go_enter Tryz.func30, Tryz.ntmps30
  go_wp2_with fail
  refine (whole_of H.out).mono ?_
  rintro e w1 ⟨rfl, c1⟩
  have C1 := Lib.hid c1
  have K1 := Lib.hid (C.out.kept c1 (fun e => e))
  clear c1 C
  go_wp2_with fail
  refine (floadB _ K1.out).mono ?_
  rintro e w2 ⟨rfl, k2, c2⟩
  have C2 := Lib.hid ((C1.out.mono (fun _ _ e => e.elim)).trans c2.ch)
  have K2 := Lib.hid k2
  clear c2 k2
  go_wp2
  go_ret
  exact ⟨rfl, K2.out, C2.out⟩
theorem closed_nil (w : World) :
    Calls Tryz.prog 30 #[.pointer none] w fun e w' => e = .returned (.bool false) ∧ Ch Nil w w' := by
  have hfld := fld5
  go_enter Tryz.func30, Tryz.ntmps30
  go_wp2_with fail
  refine (whole_nil _).mono ?_
  rintro e w1 ⟨rfl, c1⟩
  have C1 := Lib.hid c1
  clear c1
  go_wp2_with fail
  refine (floadB_nil _).mono ?_
  rintro e w2 ⟨rfl, rfl⟩
  go_wp2
  go_ret
  exact ⟨rfl, C1.out⟩
theorem shut_first (h : IsF w F tr tl tc) (hc : IsB w F.cl false) :
    Calls Tryz.prog 10 #[.pointer (some ⟨F.f, 0, none⟩)] w fun e w' => e = .returned (.bool true) ∧ IsB w' F.cl true ∧ Ch (One F.cl) w w' := by
  have hfld := fld5
  have H := Lib.hid h
  have C := Lib.hid hc
  clear h hc
  go_enter Tryz.func10, Tryz.ntmps10
  go_wp2_with fail
  refine (whole_of H.out).mono ?_
  rintro e w1 ⟨rfl, c1⟩
  have C1 := Lib.hid c1
  have K1 := Lib.hid (C.out.kept c1 (fun e => e))
  clear c1 C
  go_wp2_with fail
  refine (shutB_first K1.out).mono ?_
  rintro e w2 ⟨rfl, k2, c2⟩
  have C2 := Lib.hid ((C1.out.mono (fun _ _ e => e.elim)).trans c2.ch)
  have K2 := Lib.hid k2
  clear c2 k2
  go_wp2
  go_ret
  exact ⟨rfl, K2.out, C2.out⟩
theorem shut_again (h : IsF w F tr tl tc) (hc : IsB w F.cl true) :
    Calls Tryz.prog 10 #[.pointer (some ⟨F.f, 0, none⟩)] w fun e w' => e = .returned (.bool false) ∧ IsB w' F.cl true ∧ Ch (One F.cl) w w' := by
  have hfld := fld5
  have H := Lib.hid h
  have C := Lib.hid hc
  clear h hc
  go_enter Tryz.func10, Tryz.ntmps10
  go_wp2_with fail
  refine (whole_of H.out).mono ?_
  rintro e w1 ⟨rfl, c1⟩
  have C1 := Lib.hid c1
  have K1 := Lib.hid (C.out.kept c1 (fun e => e))
  clear c1 C
  go_wp2_with fail
  refine (shutB_again K1.out).mono ?_
  rintro e w2 ⟨rfl, k2, c2⟩
  have C2 := Lib.hid ((C1.out.mono (fun _ _ e => e.elim)).trans c2.ch)
  have K2 := Lib.hid k2
  clear c2 k2
  go_wp2
  go_ret
  exact ⟨rfl, K2.out, C2.out⟩
theorem shut_nil (w : World) :
    Calls Tryz.prog 10 #[.pointer none] w fun e w' => e = .returned (.bool false) ∧ Ch Nil w w' := by
  have hfld := fld5
  go_enter Tryz.func10, Tryz.ntmps10
  go_wp2_with fail
  refine (whole_nil _).mono ?_
  rintro e w1 ⟨rfl, c1⟩
  have C1 := Lib.hid c1
  clear c1
  go_wp2_with fail
  refine (shutB_nil _).mono ?_
  rintro e w2 ⟨rfl, rfl⟩
  go_wp2
  go_ret
  exact ⟨rfl, C1.out⟩
theorem enter_of (h : IsF w F tr tl tc) {v : Nat} (hv : v ≤ 1000000) (hc : IsJ w F.ins 0 (v : Nat)) :
    Calls Tryz.prog 7 #[.pointer (some ⟨F.f, 0, none⟩)] w fun e w' => e = .returned (.tuple #[]) ∧ IsJ w' F.ins 0 ((v + 1 : Nat) : Int) ∧ Ch (One F.ins) w w' := by
  have hfld := fld6
  have H := Lib.hid h
  have C := Lib.hid hc
  clear h hc
  go_enter Tryz.func7, Tryz.ntmps7
  go_wp2_with fail
  refine (whole_of H.out).mono ?_
  rintro e w1 ⟨rfl, c1⟩
  have C1 := Lib.hid c1
  have K1 := Lib.hid (C.out.kept c1 (fun e => e))
  clear c1 C
  go_wp2_with fail
  refine (count_more v hv K1.out).mono ?_
  rintro e w2 ⟨rfl, k2, c2⟩
  have C2 := Lib.hid ((C1.out.mono (fun _ _ e => e.elim)).trans c2.ch)
  have K2 := Lib.hid k2
  clear c2 k2
  go_wp2
  go_end0
  exact ⟨rfl, K2.out, C2.out⟩
theorem enter_nil (w : World) :
    Calls Tryz.prog 7 #[.pointer none] w fun e w' => e = .returned (.tuple #[]) ∧ Ch Nil w w' := by
  have hfld := fld6
  go_enter Tryz.func7, Tryz.ntmps7
  go_wp2_with fail
  refine (whole_nil _).mono ?_
  rintro e w1 ⟨rfl, c1⟩
  have C1 := Lib.hid c1
  clear c1
  go_wp2_with fail
  refine (count_more_nil _).mono ?_
  rintro e w2 ⟨rfl, rfl⟩
  go_wp2
  go_end0
  exact ⟨rfl, C1.out⟩
theorem leave_yes (h : IsF w F tr tl tc) {v : Nat} (hv : v ≤ 1000000) (h0 : Hid (0 < v)) (hc : IsJ w F.ins 0 (v : Nat)) :
    Calls Tryz.prog 8 #[.pointer (some ⟨F.f, 0, none⟩)] w fun e w' => e = .returned (.int .i64 0) ∧ IsJ w' F.ins 0 ((v - 1 : Nat) : Int) ∧ Ch (One F.ins) w w' := by
  have hfld := fld6
  have H := Lib.hid h
  have C := Lib.hid hc
  clear h hc
  go_enter Tryz.func8, Tryz.ntmps8
  go_wp2_with fail
  refine (whole_of H.out).mono ?_
  rintro e w1 ⟨rfl, c1⟩
  have C1 := Lib.hid c1
  have K1 := Lib.hid (C.out.kept c1 (fun e => e))
  clear c1 C
  go_wp2_with fail
  refine (count_less v hv K1.out h0.out).mono ?_
  rintro e w2 ⟨rfl, k2, c2⟩
  have C2 := Lib.hid ((C1.out.mono (fun _ _ e => e.elim)).trans c2.ch)
  have K2 := Lib.hid k2
  clear c2 k2
  go_wp2
  go_ret
  exact ⟨rfl, K2.out, C2.out⟩
theorem leave_no (h : IsF w F tr tl tc) {v : Nat} (hv : v ≤ 1000000) (h0 : Hid (v = 0)) (hc : IsJ w F.ins 0 (v : Nat)) :
    Calls Tryz.prog 8 #[.pointer (some ⟨F.f, 0, none⟩)] w fun e w' => e = .returned (.int .i64 6) ∧ IsJ w' F.ins 0 (v : Int) ∧ Ch (One F.ins) w w' := by
  have hfld := fld6
  have H := Lib.hid h
  have C := Lib.hid hc
  clear h hc
  go_enter Tryz.func8, Tryz.ntmps8
  go_wp2_with fail
  refine (whole_of H.out).mono ?_
  rintro e w1 ⟨rfl, c1⟩
  have C1 := Lib.hid c1
  have K1 := Lib.hid (C.out.kept c1 (fun e => e))
  clear c1 C
  go_wp2_with fail
  refine (count_lessno v hv K1.out h0.out).mono ?_
  rintro e w2 ⟨rfl, k2, c2⟩
  have C2 := Lib.hid ((C1.out.mono (fun _ _ e => e.elim)).trans c2.ch)
  have K2 := Lib.hid k2
  clear c2 k2
  go_wp2
  go_ret
  exact ⟨rfl, K2.out, C2.out⟩
theorem leave_nil (w : World) :
    Calls Tryz.prog 8 #[.pointer none] w fun e w' => e = .returned (.int .i64 6) ∧ Ch Nil w w' := by
  have hfld := fld6
  go_enter Tryz.func8, Tryz.ntmps8
  go_wp2_with fail
  refine (whole_nil _).mono ?_
  rintro e w1 ⟨rfl, c1⟩
  have C1 := Lib.hid c1
  clear c1
  go_wp2_with fail
  refine (count_less_nil _).mono ?_
  rintro e w2 ⟨rfl, rfl⟩
  go_wp2
  go_ret
  exact ⟨rfl, C1.out⟩
theorem work_on (h : IsF w F tr tl tc) {v : Nat} (hv : v ≤ 1000000) (hc : IsJ w F.bz 0 (v : Nat)) :
    Calls Tryz.prog 9 #[.pointer (some ⟨F.f, 0, none⟩), .bool true] w fun e w' => e = .returned (.int .i64 0) ∧ IsJ w' F.bz 0 ((v + 1 : Nat) : Int) ∧ Ch (One F.bz) w w' := by
  have hfld := fld7
  have H := Lib.hid h
  have C := Lib.hid hc
  clear h hc
  go_enter Tryz.func9, Tryz.ntmps9
  go_wp2_with fail
  refine (whole_of H.out).mono ?_
  rintro e w1 ⟨rfl, c1⟩
  have C1 := Lib.hid c1
  have K1 := Lib.hid (C.out.kept c1 (fun e => e))
  clear c1 C
  go_wp2_with fail
  refine (count_more v hv K1.out).mono ?_
  rintro e w2 ⟨rfl, k2, c2⟩
  have C2 := Lib.hid ((C1.out.mono (fun _ _ e => e.elim)).trans c2.ch)
  have K2 := Lib.hid k2
  clear c2 k2
  go_wp2
  go_ret
  exact ⟨rfl, K2.out, C2.out⟩
theorem work_nil (w : World) :
    Calls Tryz.prog 9 #[.pointer none, .bool true] w fun e w' => e = .returned (.int .i64 6) ∧ Ch Nil w w' := by
  have hfld := fld7
  go_enter Tryz.func9, Tryz.ntmps9
  go_wp2_with fail
  refine (whole_nil _).mono ?_
  rintro e w1 ⟨rfl, c1⟩
  have C1 := Lib.hid c1
  clear c1
  go_wp2_with fail
  refine (count_more_nil _).mono ?_
  rintro e w2 ⟨rfl, rfl⟩
  go_wp2
  go_ret
  exact ⟨rfl, C1.out⟩
theorem work_yes (h : IsF w F tr tl tc) {v : Nat} (hv : v ≤ 1000000) (h0 : Hid (0 < v)) (hc : IsJ w F.bz 0 (v : Nat)) :
    Calls Tryz.prog 9 #[.pointer (some ⟨F.f, 0, none⟩), .bool false] w fun e w' => e = .returned (.int .i64 0) ∧ IsJ w' F.bz 0 ((v - 1 : Nat) : Int) ∧ Ch (One F.bz) w w' := by
  have hfld := fld7
  have H := Lib.hid h
  have C := Lib.hid hc
  clear h hc
  go_enter Tryz.func9, Tryz.ntmps9
  go_wp2_with fail
  refine (whole_of H.out).mono ?_
  rintro e w1 ⟨rfl, c1⟩
  have C1 := Lib.hid c1
  have K1 := Lib.hid (C.out.kept c1 (fun e => e))
  clear c1 C
  go_wp2_with fail
  refine (count_less v hv K1.out h0.out).mono ?_
  rintro e w2 ⟨rfl, k2, c2⟩
  have C2 := Lib.hid ((C1.out.mono (fun _ _ e => e.elim)).trans c2.ch)
  have K2 := Lib.hid k2
  clear c2 k2
  go_wp2
  go_ret
  exact ⟨rfl, K2.out, C2.out⟩
theorem work_no (h : IsF w F tr tl tc) {v : Nat} (hv : v ≤ 1000000) (h0 : Hid (v = 0)) (hc : IsJ w F.bz 0 (v : Nat)) :
    Calls Tryz.prog 9 #[.pointer (some ⟨F.f, 0, none⟩), .bool false] w fun e w' => e = .returned (.int .i64 6) ∧ IsJ w' F.bz 0 (v : Int) ∧ Ch (One F.bz) w w' := by
  have hfld := fld7
  have H := Lib.hid h
  have C := Lib.hid hc
  clear h hc
  go_enter Tryz.func9, Tryz.ntmps9
  go_wp2_with fail
  refine (whole_of H.out).mono ?_
  rintro e w1 ⟨rfl, c1⟩
  have C1 := Lib.hid c1
  have K1 := Lib.hid (C.out.kept c1 (fun e => e))
  clear c1 C
  go_wp2_with fail
  refine (count_lessno v hv K1.out h0.out).mono ?_
  rintro e w2 ⟨rfl, k2, c2⟩
  have C2 := Lib.hid ((C1.out.mono (fun _ _ e => e.elim)).trans c2.ch)
  have K2 := Lib.hid k2
  clear c2 k2
  go_wp2
  go_ret
  exact ⟨rfl, K2.out, C2.out⟩
/-- one more than a time below 2^64 - 1 -/
theorem addOne (a : Nat) (h : a ≤ 1000000) (w : World) :
    Calls Tryz.prog 48 #[.int .u64 (a : Nat), .int .u64 1] w fun e w' => e = .returned (.tuple #[.int .u64 ((a + 1 : Nat) : Int), .int .i64 0]) ∧ w = w' := by
  go_enter Tryz.func48, Tryz.ntmps48
  go_wp2
  go_ret2
  exact ⟨by first | rfl | (simp; done), rfl⟩
abbrev Two14 (b c : Nat) : Nat → Prop := fun k => k = b ∨ k = c
set_option maxHeartbeats 1000000 in
theorem turn1_of {x y b c : Nat} {e0 : Int} (a : Nat) (h : a ≤ 1000000) (hb : IsVs w b [.int .u64 (x : Nat)]) (hc : IsVs w c [.int .i64 e0]) (hne : b ≠ c) :
    Calls Tryz.prog 47 #[.int .u64 (a : Nat), .pointer (some ⟨b, 0, none⟩), .pointer (some ⟨c, 0, none⟩)] w fun e w' => e = .returned (.tuple #[.int .u64 ((a + 1 : Nat) : Int), .bool true]) ∧ IsVs w' b [.int .u64 ((a + 1 : Nat) : Int)] ∧ IsVs w' c [.int .i64 0] ∧ Ch (Two14 b c) w w' := by
  have B := Lib.hid hb
  have C := Lib.hid hc
  have b0 := hb.c 0 _ rfl
  have c0 := hc.c 0 _ rfl
  have fb := hb.b.fz 0
  have fc := hc.b.fz 0
  clear hb hc
  go_enter Tryz.func47, Tryz.ntmps47
  go_wp2_with fail
  refine (addOne a h _).mono ?_
  obtain ⟨t, ht⟩ : ∃ t, t = ((a + 1 : Nat) : Int) := ⟨_, rfl⟩
  rw [← ht]
  have HT := Lib.hid ht
  clear ht
  rintro e w1 ⟨rfl, rfl⟩
  go_upto_region 2 with (fail)
  have k1 : Ch (One b) w (w.setCell ⟨b, 0, none⟩ (.int .u64 t)) := (Ch.refl _ _).setB 0 _
  have k2 : Ch (One c) (w.setCell ⟨b, 0, none⟩ (.int .u64 t)) ((w.setCell ⟨b, 0, none⟩ (.int .u64 t)).setCell ⟨c, 0, none⟩ (.int .i64 0)) := (Ch.refl _ _).setB 0 _
  have B2 := Lib.hid ((B.out.setAt 0 (.int .u64 t)).kept k2 (fun e => hne e))
  have C2 := Lib.hid ((C.out.kept k1 (fun e => hne (show c = b from e).symm)).setAt 0 (.int .i64 0))
  have K2 := Lib.hid (show Ch (Two14 b c) w _ from (k1.mono (fun _ _ e => .inl e)).then k2 (fun _ _ e => .inr e))
  clear k1 k2 b0 c0 fb fc B C
  generalize (w.setCell ⟨b, 0, none⟩ (.int .u64 t)).setCell ⟨c, 0, none⟩ (.int .i64 0) = w2 at B2 C2 K2 ⊢
  have b0 := B2.out.c 0 _ rfl
  have c0 := C2.out.c 0 _ rfl
  go_wp2
  go_quiet (fail)
  go_wp2
  go_ret2
  refine ⟨by rw [HT.out]; first | done | rfl, (by have := B2.out; rw [HT.out] at this; first | exact this.kept (S := Nil) ((Ch.refl _ _).drewN _) (fun e => e)), C2.out.kept (S := Nil) ((Ch.refl _ _).drewN _) (fun e => e), K2.out.drewN _⟩
theorem turnU_of {x b c n : Nat} {e0 : Int} (a : Nat) (h : a ≤ 1000000) (hn : IsU w n 0 (a : Nat)) (hb : IsVs w b [.int .u64 (x : Nat)]) (hc : IsVs w c [.int .i64 e0]) (hne : b ≠ c) (nb : n ≠ b) (nc : n ≠ c) :
    Calls Tryz.prog 46 #[.pointer (some ⟨n, 0, none⟩), .func (.func 47) #[] #[.pointer (some ⟨b, 0, none⟩), .pointer (some ⟨c, 0, none⟩)]] w fun e w' => e = .returned (.tuple #[.int .u64 (a : Nat), .bool true]) ∧ IsVs w' b [.int .u64 ((a + 1 : Nat) : Int)] ∧ IsVs w' c [.int .i64 0] ∧ IsU w' n 0 ((a + 1 : Nat) : Int) ∧ Ch (fun k => k = n ∨ k = b ∨ k = c) w w' := by
  have hfn := fn_nilU
  have N := Lib.hid hn
  have B := Lib.hid hb
  have C := Lib.hid hc
  clear hn hb hc
  go_enter Tryz.func46, Tryz.ntmps46
  go_wp2_with fail
  refine (floadU _ N.out).mono ?_
  rintro e w1 ⟨rfl, h1, c1⟩
  have N1 := Lib.hid h1
  have B1 := Lib.hid (B.out.kept c1.ch (fun e => nb (show b = n from e).symm))
  have C1 := Lib.hid (C.out.kept c1.ch (fun e => nc (show c = n from e).symm))
  have K1 := Lib.hid c1.ch
  clear h1 c1
  go_wp2_with fail
  refine (turn1_of (x := x) (y := 0) (b := b) (c := c) a h B1.out C1.out hne).mono ?_
  rintro e w2 ⟨rfl, h1, h2, c2⟩
  have n2 : ¬ Two14 b c n := fun e => by rcases e with e | e <;> contradiction
  have N2 := Lib.hid (N1.out.kept c2 n2)
  have B2 := Lib.hid h1
  have C2 := Lib.hid h2
  have K2 := Lib.hid (show Ch (fun k => k = n ∨ k = b ∨ k = c) w w2 from (K1.out.mono (fun _ _ e => .inl e)).then c2 (fun _ _ e => .inr e))
  clear h1 h2 c2 n2
  obtain ⟨t, ht⟩ : ∃ t, t = ((a + 1 : Nat) : Int) := ⟨_, rfl⟩
  rw [← ht] at B2 ⊢
  have HT := Lib.hid ht
  clear ht
  go_wp2_with fail
  refine (fchangeU _ _ N2.out).mono ?_
  rintro e w3 ⟨rfl, h3, c3⟩
  have N3 := Lib.hid h3
  have C3 := Lib.hid c3.ch
  clear h3 c3
  go_wp2
  go_ret2
  exact ⟨rfl, (by have := B2.out; rw [HT.out] at this; exact this.kept C3.out (fun e => nb (show b = n from e).symm)), C2.out.kept C3.out (fun e => nc (show c = n from e).symm), (by have := N3.out; rw [HT.out] at this; exact this), K2.out.then C3.out (fun _ _ e => .inl e)⟩
theorem turnU_nil {b c : Nat} (w : World) :
    Calls Tryz.prog 46 #[.pointer none, .func (.func 47) #[] #[.pointer (some ⟨b, 0, none⟩), .pointer (some ⟨c, 0, none⟩)]] w fun e w' => e = .returned (.tuple #[.int .u64 0, .bool false]) ∧ w = w' := by
  have hfn := fn_nilU
  go_enter Tryz.func46, Tryz.ntmps46
  go_wp2_with fail
  refine (floadU_nil _).mono ?_
  rintro e w1 ⟨rfl, rfl⟩
  go_wp2
  go_ret2
  exact ⟨rfl, rfl⟩
/-- Turn's two boxes -/
theorem turnBox (w : World) : ∀ W, W = ((w.alloc (Obj.cells #[.int .u64 0] 31)).alloc (Obj.cells #[.int .i64 6] 25)) → IsVs W w.heap.size [.int .u64 ((0 : Nat) : Int)] ∧ IsVs W (w.heap.size + 1) [.int .i64 6] ∧ Ch Nil w W := by
  rintro W rfl
  have c1 : Ch Nil w (w.alloc (Obj.cells #[.int .u64 0] 31)) := (Ch.refl _ _).alloc _
  have c2 : Ch Nil (w.alloc (Obj.cells #[.int .u64 0] 31)) ((w.alloc (Obj.cells #[.int .u64 0] 31)).alloc (Obj.cells #[.int .i64 6] 25)) := (Ch.refl _ _).alloc _
  have e1 : (w.alloc (Obj.cells #[.int .u64 0] 31)).heap.size = w.heap.size + 1 := by simp
  have v1 := (IsVs.new w [.int .u64 0] 31).kept c2 (fun e => e)
  have v2 := IsVs.new (w.alloc (Obj.cells #[.int .u64 0] 31)) [.int .i64 6] 25
  rw [e1] at v2
  exact ⟨v1, v2, c1.trans c2⟩
set_option maxHeartbeats 2000000 in
theorem turn_of (h : IsF w F tr tl tc) {a : Nat} (ha : a ≤ 1000000) (hc : IsU w F.nw 0 (a : Nat)) :
    Calls Tryz.prog 11 #[.pointer (some ⟨F.f, 0, none⟩)] w fun e w' => e = .returned (.tuple #[.int .u64 ((a + 1 : Nat) : Int), .int .i64 0]) ∧ IsU w' F.nw 0 ((a + 1 : Nat) : Int) ∧ Ch (One F.nw) w w' := by
  have hmf : ∀ (fn : Fn) (first cap : Array Value) (w : World), (Instr.makeFunc fn first cap).run Tryz.prog w = .ok (.func fn first cap) w := fun _ _ _ _ => rfl
  have hfld := fld8
  obtain ⟨v1, v2, cA⟩ := turnBox w _ rfl
  have H := Lib.hid (h.kept cA (fun e => e))
  have N := Lib.hid (hc.kept cA (fun e => e))
  have NB := Lib.hid (show F.nw ≠ w.heap.size ∧ F.nw ≠ w.heap.size + 1 from by have := hc.lt; omega)
  clear h hc
  have CA := Lib.hid cA
  clear cA
  go_enter Tryz.func11, Tryz.ntmps11
  go_upto_region 2 with (fail)
  generalize (w.alloc (Obj.cells #[.int .u64 0] 31)).alloc (Obj.cells #[.int .i64 6] 25) = W at v1 v2 CA H N ⊢
  obtain ⟨b, hb⟩ : ∃ b, b = w.heap.size := ⟨_, rfl⟩
  rw [← hb] at v1 v2 NB ⊢
  have HB := Lib.hid hb
  clear hb
  have V1 := Lib.hid v1
  have V2 := Lib.hid v2
  clear v1 v2
  go_wp2_with fail
  refine (whole_of H.out).mono ?_
  rintro e w1 ⟨rfl, c1⟩
  have C1 := Lib.hid (CA.out.trans c1)
  have U1 := Lib.hid (V1.out.kept c1 (fun e => e))
  have U2 := Lib.hid (V2.out.kept c1 (fun e => e))
  have N1 := Lib.hid (N.out.kept c1 (fun e => e))
  clear c1 V1 V2 N
  go_wp2_with fail
  refine (turnU_of (x := 0) a ha N1.out U1.out U2.out (by omega) NB.out.1 NB.out.2).mono ?_
  rintro e w2 ⟨rfl, u1, u2, n2, c2⟩
  have C2 := Lib.hid (show Ch (One F.nw) w w2 from (C1.out.mono (fun _ _ e => e.elim)).then c2 (fun i hi e => by have := HB.out; rcases e with e | e | e; exact e; omega; omega))
  have N2 := Lib.hid n2
  have b0 := u1.c 0 _ rfl
  have c0 := u2.c 0 _ rfl
  clear u1 u2 n2 c2
  go_wp2
  go_quiet (fail)
  go_wp2
  go_ret2
  exact ⟨by first | rfl | simp, N2.out.kept (S := Nil) ((Ch.refl _ _).drewN _) (fun e => e), C2.out.drewN _⟩
set_option maxHeartbeats 2000000 in
theorem turn_nil (w : World) :
    Calls Tryz.prog 11 #[.pointer none] w fun e w' => e = .returned (.tuple #[.int .u64 0, .int .i64 6]) ∧ Ch Nil w w' := by
  have hmf : ∀ (fn : Fn) (first cap : Array Value) (w : World), (Instr.makeFunc fn first cap).run Tryz.prog w = .ok (.func fn first cap) w := fun _ _ _ _ => rfl
  have hfld := fld8
  obtain ⟨v1, v2, cA⟩ := turnBox w _ rfl
  have CA := Lib.hid cA
  clear cA
  go_enter Tryz.func11, Tryz.ntmps11
  go_upto_region 2 with (fail)
  generalize (w.alloc (Obj.cells #[.int .u64 0] 31)).alloc (Obj.cells #[.int .i64 6] 25) = W at v1 v2 CA ⊢
  obtain ⟨b, hb⟩ : ∃ b, b = w.heap.size := ⟨_, rfl⟩
  rw [← hb] at v1 v2 ⊢
  have HB := Lib.hid hb
  clear hb
  have V1 := Lib.hid v1
  have V2 := Lib.hid v2
  clear v1 v2
  go_wp2_with fail
  refine (whole_nil _).mono ?_
  rintro e w1 ⟨rfl, c1⟩
  have C1 := Lib.hid (CA.out.trans c1)
  have b0 := (V1.out.kept c1 (fun e => e)).c 0 _ rfl
  have c0 := (V2.out.kept c1 (fun e => e)).c 0 _ rfl
  clear c1 V1 V2
  go_wp2_with fail
  refine (turnU_nil _).mono ?_
  rintro e w2 ⟨rfl, rfl⟩
  go_wp2
  go_quiet (fail)
  go_wp2
  go_ret2
  exact ⟨by first | rfl | simp, C1.out.drewN _⟩
end
end Go.Proofs.YtkialefhjfoniaaGreat
