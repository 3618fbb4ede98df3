/-
  Contracts of package pipe's small functions at string: what it is in memory; sends and receives.
-/
import Derived.Test.YtpddiphknpplcaaPListS3
import Derived.Deep.Cut
namespace Go.Proofs.Ytpddiphknpplcaa.PS
open Go.RowKit Go.Conc Verge
attribute [local go_sem] Oper.semAt_some
variable {X : Oth}
set_option linter.unusedVariables false
set_option linter.unusedSimpArgs false

/-- a channel held against nil -/
theorem eqlC (cb : Nat) (w : World) : (binOp .eql 64 (.chan (some cb)) (.chan none)).run Try.prog w = .ok (.bool false) w := by
  have h : ∀ d, (Op.equalIn (d + 1) 64 (.chan (some cb)) (.chan none)).run Try.prog w = .ok false w := fun d => by
    simp [Op.equalIn, run_underlying Try.underlying64]
  simp only [binOp]
  simp [show Op.equal 64 (.chan (some cb)) (.chan none) = Op.equalIn (9999 + 1) 64 (.chan (some cb)) (.chan none) from rfl, h]
theorem roomless_of (pb cb : Nat) (w : World) (hc : w.cell? ⟨pb, 0, none⟩ = some (.chan (some cb))) :
    Calls Try.prog 32 #[.pointer (some ⟨pb, 0, none⟩)] w fun e w' => e = .returned (.bool false) ∧ w = w' := by
  have hE := eqlC cb w
  go_enter Try.func32, Try.ntmps32
  go_wp2
  go_ret
  exact ⟨rfl, rfl⟩
theorem roomless_nil (w : World) :
    Calls Try.prog 32 #[.pointer none] w fun e w' => e = .returned (.bool true) ∧ w = w' := by
  go_enter Try.func32, Try.ntmps32
  go_wp2
  go_ret
  exact ⟨rfl, rfl⟩
theorem spilled_of (pb n : Nat) (w : World) (hc : w.cell? ⟨pb, 3, none⟩ = some (.int .i64 n)) :
    Calls Try.prog 24 #[.pointer (some ⟨pb, 0, none⟩)] w fun e w' => e = .returned (.int .i64 n) ∧ w = w' := by
  go_enter Try.func24, Try.ntmps24
  go_wp2_with fail
  refine (len_of pb n w hc).mono ?_
  rintro e w' ⟨rfl, rfl⟩
  go_wp2
  go_ret
  exact ⟨rfl, rfl⟩
theorem spilled_nil (w : World) :
    Calls Try.prog 24 #[.pointer none] w fun e w' => e = .returned (.int .i64 0) ∧ w = w' := by
  go_enter Try.func24, Try.ntmps24
  go_wp2
  go_ret
  exact ⟨rfl, rfl⟩

section
variable {w : World} {pb cb cap s r : Nat} {buf : Array Value}
theorem sent_room (v : ByteArray) (hc : w.cell? ⟨pb, 0, none⟩ = some (.chan (some cb))) (hb : w.heap[cb]? = some (.chan cap buf false s r false)) (hroom : buf.size < cap) :
    Calls Try.prog 33 #[.pointer (some ⟨pb, 0, none⟩), .string v] w fun e w' => e = .returned (.bool true) ∧ w' = w.setChan cb cap (buf.push (.string v)) false (s + 1) r false := by
  go_enter Try.func33, Try.ntmps33
  go_upto_region 3 with (fail)
  refine OpsTo.region ?_
  refine OpsTo.selSend (c := cb) (v := .string v) (z := .string ⟨#[]⟩) rfl rfl (by simp [go_sem, execOp, scase, Act.eval]) hb hroom ?_
  refine OpsTo.value rfl rfl (by go_simp; exact ⟨rfl, rfl⟩) ?_
  refine OpsTo.value rfl rfl (by go_simp; exact ⟨rfl, rfl⟩) ?_
  refine OpsTo.done ?_
  go_wp2
  go_ret
  exact ⟨rfl, rfl⟩
theorem sent_full (v : ByteArray) (hc : w.cell? ⟨pb, 0, none⟩ = some (.chan (some cb))) (hb : w.heap[cb]? = some (.chan cap buf false s r false)) (hfull : cap ≤ buf.size) :
    Calls Try.prog 33 #[.pointer (some ⟨pb, 0, none⟩), .string v] w fun e w' => e = .returned (.bool false) ∧ w = w' := by
  go_enter Try.func33, Try.ntmps33
  go_upto_region 3 with (fail)
  refine OpsTo.region ?_
  refine OpsTo.selFull (c := cb) (v := .string v) (z := .string ⟨#[]⟩) rfl rfl (by simp [go_sem, execOp, scase, Act.eval]) hb hfull ?_
  refine OpsTo.value rfl rfl (by go_simp; exact ⟨rfl, rfl⟩) ?_
  refine OpsTo.value rfl rfl (by go_simp; exact ⟨rfl, rfl⟩) ?_
  refine OpsTo.done ?_
  go_wp2
  go_ret
  exact ⟨rfl, rfl⟩
theorem received_some (v : ByteArray) (bs : Array Value) (hc : w.cell? ⟨pb, 0, none⟩ = some (.chan (some cb))) (hb : w.heap[cb]? = some (.chan cap buf false s r false)) (h0 : 0 < buf.size) (hv : buf.getD 0 undef = .string v) (hbs : buf.extract 1 buf.size = bs) :
    Calls Try.prog 35 #[.pointer (some ⟨pb, 0, none⟩)] w fun e w' => e = .returned (.tuple #[.string v, .bool true]) ∧ w' = w.setChan cb cap bs false s (r + 1) false := by
  have HV := Lib.hid hv
  have HS := Lib.hid hbs
  clear hv hbs
  go_enter Try.func35, Try.ntmps35
  go_upto_region 4 with (fail)
  refine OpsTo.region ?_
  refine OpsTo.selRecv (c := cb) (z := .string ⟨#[]⟩) rfl rfl (by simp [go_sem, execOp, rcase, Act.eval]) hb h0 ?_
  rw [HV.out, HS.out]
  refine OpsTo.value rfl rfl (by go_simp; exact ⟨rfl, rfl⟩) ?_
  refine OpsTo.value rfl rfl (by go_simp; exact ⟨rfl, rfl⟩) ?_
  refine OpsTo.done ?_
  go_wp2
  go_ret2
  exact ⟨rfl, rfl⟩
theorem received_none (hc : w.cell? ⟨pb, 0, none⟩ = some (.chan (some cb))) (hb : w.heap[cb]? = some (.chan cap #[] false s r false)) :
    Calls Try.prog 35 #[.pointer (some ⟨pb, 0, none⟩)] w fun e w' => e = .returned (.tuple #[.string ⟨#[]⟩, .bool false]) ∧ w = w' := by
  go_enter Try.func35, Try.ntmps35
  go_upto_region 4 with (fail)
  refine OpsTo.region ?_
  refine OpsTo.selNone (c := cb) (z := .string ⟨#[]⟩) rfl rfl (by simp [go_sem, execOp, rcase, Act.eval]) hb ?_
  refine OpsTo.value rfl rfl (by go_simp; exact ⟨rfl, rfl⟩) ?_
  refine OpsTo.value rfl rfl (by go_simp; exact ⟨rfl, rfl⟩) ?_
  refine OpsTo.done ?_
  go_wp2
  go_ret2
  exact ⟨rfl, rfl⟩
theorem received_nil (w : World) :
    Calls Try.prog 35 #[.pointer none] w fun e w' => e = .returned (.tuple #[.string ⟨#[]⟩, .bool false]) ∧ w = w' := by
  go_enter Try.func35, Try.ntmps35
  go_wp2
  go_ret2
  exact ⟨rfl, rfl⟩
end
end Go.Proofs.Ytpddiphknpplcaa.PS
