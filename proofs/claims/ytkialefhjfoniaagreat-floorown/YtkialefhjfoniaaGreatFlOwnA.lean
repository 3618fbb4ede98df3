/-
  What FloorOwn calls beside: a shard's lock, a pipe's Put where there is room, a log's Put, a request's first step.
-/
import Derived.Test.YtkialefhjfoniaaGreatFlLens
import Derived.Test.YtkialefhjfoniaaGreatFlShard
import Derived.Test.YtkialefhjfoniaaGreatLockT4
import Derived.Test.YtkialefhjfoniaaGreatSlabWalks4
import Derived.Test.YtkialefhjfoniaaGreatPipeComm
import Derived.Test.YtkialefhjfoniaaGreatFirMem
import Derived.RegionTactic
import Derived.Lib.Hide
namespace Go.Proofs.YtkialefhjfoniaaGreat
open Go.RowKit Verge Go.Conc
attribute [local go_sem] Oper.semAt_some
set_option linter.unusedVariables false
set_option linter.unusedSimpArgs false

theorem fldSd1 (a b c : Value) (w : World) : (Instr.field 112 (.agg #[a, b, c]) 1).run Tryz.prog w = .ok b w := by kernel_rfl
section
variable {w : World} {s l : Nat} {r v : Option Addr}
set_option maxHeartbeats 2000000 in
theorem sWhole_of (h0 : w.cell? ⟨s, 0, none⟩ = some (.pointer r)) (h1 : w.cell? ⟨s, 1, none⟩ = some (.pointer (some ⟨l, 0, none⟩))) (h2 : w.cell? ⟨s, 2, none⟩ = some (.pointer v)) :
    Calls Tryz.prog 58 #[.pointer (some ⟨s, 0, none⟩)] w fun e w' => e = .returned (.agg #[.pointer r, .pointer (some ⟨l, 0, none⟩), .pointer v]) ∧ Ch Nil w w' := by
  have cA : Ch Nil w (w.alloc (Obj.cells #[.pointer none, .pointer none, .pointer none] 112)) := (Ch.refl _ _).alloc _
  have bx : IsVs (w.alloc (Obj.cells #[.pointer none, .pointer none, .pointer none] 112)) w.heap.size [.pointer none, .pointer none, .pointer none] := IsVs.new w [.pointer none, .pointer none, .pointer none] 112
  replace h0 := cA.keeps h0 (fun e => e)
  replace h1 := cA.keeps h1 (fun e => e)
  replace h2 := cA.keeps h2 (fun e => e)
  have CA := Lib.hid cA
  clear cA
  go_enter Tryz.func58, Tryz.ntmps58
  go_upto_region 1 with (fail)
  generalize w.alloc (Obj.cells #[.pointer none, .pointer none, .pointer none] 112) = W at CA bx h0 h1 h2 ⊢
  obtain ⟨B, hB⟩ : ∃ B, B = w.heap.size := ⟨_, rfl⟩
  rw [← hB] at bx ⊢
  have HB := Lib.hid hB
  clear hB
  have BX := Lib.hid bx
  have c0 := bx.c 0 _ rfl
  have c1 := bx.c 1 _ rfl
  have c2 := bx.c 2 _ rfl
  have f0 := bx.b.fz 0
  have f1 := bx.b.fz 1
  have f2 := bx.b.fz 2
  clear bx
  go_wp2
  have hr : IsVs (setVs W B 0 [.pointer r, .pointer (some ⟨l, 0, none⟩), .pointer v]) B [.pointer r, .pointer (some ⟨l, 0, none⟩), .pointer v] := BX.out.set rfl
  have hc : Ch Nil w (setVs W B 0 [.pointer r, .pointer (some ⟨l, 0, none⟩), .pointer v]) := setVs_nil B _ CA.out (Nat.le_of_eq HB.out.symm)
  (try simp only [Exit.inBlock, Exit.then])
  refine bodyPost_ret (v := .agg #[.pointer r, .pointer (some ⟨l, 0, none⟩), .pointer v]) ?hr rfl ⟨rfl, hc⟩
  case hr =>
    change (results _ _).run _ (setVs W B 0 [.pointer r, .pointer (some ⟨l, 0, none⟩), .pointer v]) = .ok _ (setVs W B 0 [.pointer r, .pointer (some ⟨l, 0, none⟩), .pointer v])
    generalize setVs W B 0 [.pointer r, .pointer (some ⟨l, 0, none⟩), .pointer v] = W5 at hr ⊢
    have d0 := hr.c 0 _ rfl
    have d1 := hr.c 1 _ rfl
    have d2 := hr.c 2 _ rfl
    simp [results, Tryz.results58, go_sem, d0, d1, d2]
theorem sLock_of (h : IsSd w s l) :
    Calls Tryz.prog 21 #[.pointer (some ⟨s, 0, none⟩)] w fun e w' => e = .returned (.pointer (some ⟨l, 0, none⟩)) ∧ Ch Nil w w' := by
  have hfld := fldSd1
  obtain ⟨r, v, h0, h2⟩ := h.rv
  have H0 := Lib.hid h0
  have H1 := Lib.hid h.lk
  have H2 := Lib.hid h2
  clear h h0 h2
  go_enter Tryz.func21, Tryz.ntmps21
  go_wp2_with fail
  refine (sWhole_of H0.out H1.out H2.out).mono ?_
  rintro e w1 ⟨rfl, c1⟩
  have C1 := Lib.hid c1
  clear c1
  go_wp2
  go_ret
  exact ⟨rfl, C1.out⟩
end
-- a pipe of firings
theorem eqlCF (cb : Nat) (w : World) : (binOp .eql 97 (.chan (some cb)) (.chan none)).run Tryz.prog w = .ok (.bool false) w := by
  have h : ∀ d, (Op.equalIn (d + 1) 97 (.chan (some cb)) (.chan none)).run Tryz.prog w = .ok false w := fun d => by
    simp [Op.equalIn, run_underlying Tryz.underlying97]
  simp only [binOp]
  simp [show Op.equal 97 (.chan (some cb)) (.chan none) = Op.equalIn (9999 + 1) 97 (.chan (some cb)) (.chan none) from rfl, h]
theorem roomlessF_of (pb cb : Nat) (w : World) (hc : w.cell? ⟨pb, 0, none⟩ = some (.chan (some cb))) :
    Calls Tryz.prog 53 #[.pointer (some ⟨pb, 0, none⟩)] w fun e w' => e = .returned (.bool false) ∧ w = w' := by
  have hE := eqlCF cb w
  go_enter Tryz.func53, Tryz.ntmps53
  go_wp2
  go_ret
  exact ⟨rfl, rfl⟩
theorem spilledF_of (pb n : Nat) (w : World) (hc : w.cell? ⟨pb, 3, none⟩ = some (.int .i64 n)) :
    Calls Tryz.prog 54 #[.pointer (some ⟨pb, 0, none⟩)] w fun e w' => e = .returned (.int .i64 n) ∧ w = w' := by
  go_enter Tryz.func54, Tryz.ntmps54
  go_wp2_with fail
  refine (lenF_of pb n w hc).mono ?_
  rintro e w' ⟨rfl, rfl⟩
  go_wp2
  go_ret
  exact ⟨rfl, rfl⟩
section
variable {w : World} {pb cb cap : Nat}
set_option maxHeartbeats 2000000 in
theorem sentF_room (x0 x1 x2 x3 : Int) (h : IsP w pb cb cap #[]) (hroom : 0 < cap) :
    Calls Tryz.prog 55 #[.pointer (some ⟨pb, 0, none⟩), .agg #[.int .u64 x0, .int .u64 x1, .int .u64 x2, .int .u64 x3]] w fun e w' => e = .returned (.bool true) ∧ Ch (One cb) w w' := by
  have cA : Ch Nil w (w.alloc (Obj.cells #[.int .u64 x0, .int .u64 x1, .int .u64 x2, .int .u64 x3] 52)) := (Ch.refl _ _).alloc _
  have bx : IsVs (w.alloc (Obj.cells #[.int .u64 x0, .int .u64 x1, .int .u64 x2, .int .u64 x3] 52)) w.heap.size [.int .u64 x0, .int .u64 x1, .int .u64 x2, .int .u64 x3] := IsVs.new w [.int .u64 x0, .int .u64 x1, .int .u64 x2, .int .u64 x3] 52
  have h1 := h.kept cA (fun e => e) (fun e => e)
  have hl := h.clt
  have HL := Lib.hid hl
  clear h hl
  have CA := Lib.hid cA
  clear cA
  go_enter Tryz.func55, Tryz.ntmps55
  go_upto_region 1 with (fail)
  generalize w.alloc (Obj.cells #[.int .u64 x0, .int .u64 x1, .int .u64 x2, .int .u64 x3] 52) = W at CA bx h1 ⊢
  obtain ⟨B, hB⟩ : ∃ B, B = w.heap.size := ⟨_, rfl⟩
  rw [← hB] at bx ⊢
  have HB := Lib.hid hB
  clear hB
  have c0 := bx.c 0 _ rfl
  have c1 := bx.c 1 _ rfl
  have c2 := bx.c 2 _ rfl
  have c3 := bx.c 3 _ rfl
  have hc := h1.v.c 0 _ rfl
  obtain ⟨s, r, hb⟩ := h1.c
  have HBB := Lib.hid hb
  clear hb h1 bx
  go_upto_region 3 with (fail)
  clear c0 c1 c2 c3 hc
  refine OpsTo.region ?_
  refine OpsTo.selSend (c := cb) (v := .agg #[.int .u64 x0, .int .u64 x1, .int .u64 x2, .int .u64 x3]) (z := .agg #[.int .u64 0, .int .u64 0, .int .u64 0, .int .u64 0]) rfl rfl (by simp [go_sem, execOp, scase, Act.eval]) HBB.out (by simpa using hroom) ?_
  have HC : Hid (Ch (One cb) w (W.setChan cb cap (#[].push (.agg #[.int .u64 x0, .int .u64 x1, .int .u64 x2, .int .u64 x3])) false (s + 1) r false)) := Lib.hid (Ch.chan (S := One cb) (Ch_any CA.out) (c := cb) (fun _ => rfl) _ _ _ _ _ _)
  generalize W.setChan cb cap (#[].push (.agg #[.int .u64 x0, .int .u64 x1, .int .u64 x2, .int .u64 x3])) false (s + 1) r false = Z at *
  refine OpsTo.value rfl rfl (by go_simp; exact ⟨rfl, rfl⟩) ?_
  refine OpsTo.value rfl rfl (by go_simp; exact ⟨rfl, rfl⟩) ?_
  refine OpsTo.done ?_
  go_wp2
  go_ret
  exact ⟨rfl, HC.out⟩
set_option maxHeartbeats 2000000 in
theorem putF_room (x0 x1 x2 x3 : Int) (h : IsP w pb cb cap #[]) (hroom : 0 < cap) :
    Calls Tryz.prog 17 #[.pointer (some ⟨pb, 0, none⟩), .agg #[.int .u64 x0, .int .u64 x1, .int .u64 x2, .int .u64 x3]] w fun e w' => (∃ v, e = .returned v) ∧ Ch (One cb) w w' := by
  have cA : Ch Nil w (w.alloc (Obj.cells #[.int .u64 x0, .int .u64 x1, .int .u64 x2, .int .u64 x3] 52)) := (Ch.refl _ _).alloc _
  have bx : IsVs (w.alloc (Obj.cells #[.int .u64 x0, .int .u64 x1, .int .u64 x2, .int .u64 x3] 52)) w.heap.size [.int .u64 x0, .int .u64 x1, .int .u64 x2, .int .u64 x3] := IsVs.new w [.int .u64 x0, .int .u64 x1, .int .u64 x2, .int .u64 x3] 52
  have h1 := h.kept cA (fun e => e) (fun e => e)
  clear h
  have CA := Lib.hid cA
  clear cA
  go_enter Tryz.func17, Tryz.ntmps17
  go_upto_region 1 with (fail)
  generalize w.alloc (Obj.cells #[.int .u64 x0, .int .u64 x1, .int .u64 x2, .int .u64 x3] 52) = W at CA bx h1 ⊢
  obtain ⟨B, hB⟩ : ∃ B, B = w.heap.size := ⟨_, rfl⟩
  rw [← hB] at bx ⊢
  have HB := Lib.hid hB
  clear hB
  have H1 := Lib.hid h1
  have c0 := bx.c 0 _ rfl
  have c1 := bx.c 1 _ rfl
  have c2 := bx.c 2 _ rfl
  have c3 := bx.c 3 _ rfl
  have h0 := h1.v.c 0 _ rfl
  have h3 : W.cell? ⟨pb, 3, none⟩ = some (.int .i64 ((0 : Nat) : Int)) := h1.v.c 3 _ rfl
  have h5 := h1.v.c 5 _ rfl
  clear h1 bx
  go_wp2_with fail
  refine (roomlessF_of pb cb W h0).mono ?_
  rintro e w' ⟨rfl, rfl⟩
  go_wp2_with fail
  refine (spilledF_of pb 0 W h3).mono ?_
  rintro e w' ⟨rfl, rfl⟩
  go_wp2_with fail
  refine (sentF_room x0 x1 x2 x3 H1.out hroom).mono ?_
  rintro e Z ⟨rfl, cz⟩
  have HC := Lib.hid ((Ch_any CA.out).trans cz)
  clear cz c0 c1 c2 c3 h0 h3 h5
  go_wp2
  go_ret2
  exact ⟨⟨_, rfl⟩, HC.out⟩
end
section
variable {w w' W : World} {a : Option Addr} {L M : List Fr} {cap b : Nat}
set_option maxHeartbeats 2000000 in
theorem lPut_of {a2 : Option Addr} {c : Nat} (h : IsLog w b a cap L) (hs : Src w a2 M) (hc0 : a2 = none → c = 0) (hl : L.length ≤ 1000000) (hm : M.length ≤ 1000000) :
    Calls Tryz.prog 19 #[.pointer (some ⟨b, 0, none⟩), .slice a2 M.length c] w fun e w' => ∃ a' cap', e = .returned (.tuple #[]) ∧ IsLog w' b a' cap' (L ++ M) ∧ Ch (LgS b a) w w' ∧ ∀ g, OwnS a' g → OwnS a g ∨ w.heap.size ≤ g := by
  have HH := Lib.hid h
  have HS := Lib.hid hs
  have HC0 := Lib.hid hc0
  have c1 := h.c
  have f1 := h.f
  have hlt := lt_of_cell h.c
  obtain ⟨m, hm'⟩ : ∃ m, m = M.length := ⟨_, rfl⟩
  obtain ⟨n, hn'⟩ : ∃ m, m = L.length := ⟨_, rfl⟩
  rw [← hm'] at hm ⊢
  rw [← hn'] at c1 hl
  have HM := Lib.hid hm'
  have HN := Lib.hid hn'
  have HL2 := Lib.hid hl
  have HM2 := Lib.hid hm
  clear h hs hm' hn' hc0
  go_enter Tryz.func19, Tryz.ntmps19
  go_wp2_with (at_builtin; refine append_frs w rfl _ _ _ rfl Tryz.underlying105 (by kernel_rfl) rfl HN.out HH.out.row (by rw [← HN.out]; exact HL2.out) (by rw [← HM.out]; exact HM2.out) m c rfl HM.out HS.out HC0.out _ rfl ?_)
  intro a' cap' w2 row ch at_
  have ROW := Lib.hid row
  have CH := Lib.hid ch
  have AT := Lib.hid at_
  have d1 := ch.keeps c1 HH.out.ap
  have g1 := (ch.frozen (p := ⟨b, 0, none⟩) hlt HH.out.ap).trans f1
  clear row ch at_
  go_wp2
  go_end0
  have nb : ¬ OwnS a' b := fun e => by
    rcases AT.out b e with h | h
    · exact HH.out.ap h
    · omega
  refine ⟨a', cap', rfl, ⟨?_, ?_, ROW.out.kept (S := One b) ((Ch.refl _ _).setB 0 _) (fun k hk e => by cases e; exact nb hk), nb⟩, ?_, fun g hg => (AT.out g hg).imp (fun h => h) (fun h => Nat.le_of_eq h.symm)⟩
  · rw [List.length_append, ← HN.out, ← HM.out]; exact World.cell?_setCell_same _ _ _ d1
  · exact (World.frozen?_setCell _ _ _ _).trans g1
  · exact (CH.out.mono (fun _ _ e => .inr e)).set (p := ⟨b, 0, none⟩) (fun _ => .inl rfl) _

end
end Go.Proofs.YtkialefhjfoniaaGreat
