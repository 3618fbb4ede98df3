/-
  The statements' function 'free': a record that isn't free is made free, and the count dropped; many steps of one request.
-/
import Derived.Test.YtkialefhjfoniaaSlabAlive
import Derived.Test.YtkialefhjfoniaaSlabPlain2
namespace Go.Proofs.Ytkialefhjfoniaa
open Go.RowKit Verge
attribute [local go_sem] Oper.semAt_some
set_option linter.unusedVariables false
set_option linter.unusedSimpArgs false
theorem state_ok (x : Rec) (h : Ok1 x) (g : x.gv ≤ 900000) (w : World) :
    Calls Try.prog 40 #[.int .u64 (x.wd : Nat)] w fun e w' => e = .returned (.int .i64 (busy x : Nat)) ∧ w = w' := by
  have hs := state_any x.wd (h.lt g (Nat.le_refl _)) w
  rw [h.ok (by omega), if_pos rfl] at hs
  have e : x.wd % 8 = busy x := by
    rcases busy_cases x with hb | hb
    · rw [hb, h.busy0 hb]; omega
    · rw [hb, h.busy1 hb]; omega
  rw [e] at hs
  exact hs
theorem step_fit {q b rb n : Nat} {s : Nat × (Nat → Rec) × Rq} {w : World} (h : SQ w q b rb n s.1 s.2.1 s.2.2) (f : Fit n s) :
    Calls Try.prog 37 #[.pointer (some ⟨q, 0, none⟩)] w fun e w' => e = .returned (.int .i64 ((stepM n s.1 s.2.1 s.2.2).2.2.ss : Nat)) ∧ SQ w' q b rb n (stepM n s.1 s.2.1 s.2.2).1 (stepM n s.1 s.2.1 s.2.2).2.1 (stepM n s.1 s.2.1 s.2.2).2.2 ∧ Ch (Tri q b rb) w w' :=
  step_any h f.st f.seen f.slot f.wd f.gv
end Go.Proofs.Ytkialefhjfoniaa
