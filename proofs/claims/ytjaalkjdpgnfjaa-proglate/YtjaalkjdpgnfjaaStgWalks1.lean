/-
  Contracts of a stage's and of a program's small functions.
-/
import Derived.Test.YtjaalkjdpgnfjaaStgMem
import Derived.Test.YtjaalkjdpgnfjaaHeld
import Derived.Deep.QuietTactic
import Derived.BigQuiet
import Derived.RegionTactic
import Derived.BigRegion
namespace Go.Proofs.Ytjaalkjdpgnfjaa
open Go.RowKit Verge
attribute [local go_sem] Oper.semAt_some
set_option linter.unusedVariables false
set_option linter.unusedSimpArgs false

theorem run_neq_fn (P : Program) (w : World) (t : TypeId) (f : Fn) (a c : Array Value) (τ : _) (h : P.underlying t = some τ) (hf : τ matches .func ..) : (binOp .neq t (.func f a c) .nilFunc).run P w = .ok (.bool true) w := by
  simp only [binOp]
  simp [show Op.equal t (.func f a c) .nilFunc = Op.equalIn (9999 + 1) t (.func f a c) .nilFunc from rfl, run_equalIn_fn P w 9999 t f a c τ h hf]
theorem run_equalIn_nilfn (P : Program) (w : World) (d : Nat) (t : TypeId) (τ : _) (h : P.underlying t = some τ) (hf : τ matches .func ..) : (Op.equalIn (d + 1) t .nilFunc .nilFunc).run P w = .ok true w := by
  cases τ <;> simp at hf
  simp [Op.equalIn, run_underlying h]
theorem run_eql_nilfn (P : Program) (w : World) (t : TypeId) (τ : _) (h : P.underlying t = some τ) (hf : τ matches .func ..) : (binOp .eql t .nilFunc .nilFunc).run P w = .ok (.bool true) w := by
  simp only [binOp]
  simp [show Op.equal t .nilFunc .nilFunc = Op.equalIn (9999 + 1) t .nilFunc .nilFunc from rfl, run_equalIn_nilfn P w 9999 t τ h hf]
theorem run_neq_nilfn (P : Program) (w : World) (t : TypeId) (τ : _) (h : P.underlying t = some τ) (hf : τ matches .func ..) : (binOp .neq t .nilFunc .nilFunc).run P w = .ok (.bool false) w := by
  simp only [binOp]
  simp [show Op.equal t .nilFunc .nilFunc = Op.equalIn (9999 + 1) t .nilFunc .nilFunc from rfl, run_equalIn_nilfn P w 9999 t τ h hf]
theorem eql_do0 (w : World) : (binOp .eql 29 .nilFunc .nilFunc).run Try.prog w = .ok (.bool true) w := run_eql_nilfn _ w _ _ Try.underlying29 rfl
theorem eql_may0 (w : World) : (binOp .eql 23 .nilFunc .nilFunc).run Try.prog w = .ok (.bool true) w := run_eql_nilfn _ w _ _ Try.underlying23 rfl
theorem neq_fn0 (w : World) : (binOp .neq 1 .nilFunc .nilFunc).run Try.prog w = .ok (.bool false) w := run_neq_nilfn _ w _ _ Try.underlying1 rfl
theorem eql_do (f : Fn) (a c : Array Value) (w : World) : (binOp .eql 29 (.func f a c) .nilFunc).run Try.prog w = .ok (.bool false) w := run_eql_fn _ w _ f a c _ Try.underlying29 rfl
theorem eql_may (f : Fn) (a c : Array Value) (w : World) : (binOp .eql 23 (.func f a c) .nilFunc).run Try.prog w = .ok (.bool false) w := run_eql_fn _ w _ f a c _ Try.underlying23 rfl
theorem neq_fn (f : Fn) (a c : Array Value) (w : World) : (binOp .neq 1 (.func f a c) .nilFunc).run Try.prog w = .ok (.bool true) w := run_neq_fn _ w _ f a c _ Try.underlying1 rfl

theorem IsFn.one {v : Value} (h : IsFn v) : v.oneCell' = true := by rcases h with rfl | ⟨K, c, rfl⟩ <;> rfl
theorem IsFn.store {v : Value} (h : IsFn v) (P : Program) (w : World) (a : Addr) (m : Mode) : (store a v m).run P w = stored P w a v m := by
  rcases h with rfl | ⟨K, c, rfl⟩
  · exact run_store P w a _ m rfl
  · exact run_store P w a _ m rfl

set_option maxHeartbeats 1000000 in
theorem isEnd_any (m d : Value) (hd : IsFn d) (w : World) :
    Calls Try.prog 30 #[.agg #[m, d]] w fun e w' => e = .returned (.bool (isNilF d)) ∧ Ch Nil w w' := by
  have hD := eql_do
  have hD0 := eql_do0
  have c0 : Ch Nil w (w.alloc (.cells #[m, d] 31)) := (Ch.refl _ _).alloc _
  rcases hd with rfl | ⟨K, c, rfl⟩
  · go_enter Try.func30, Try.ntmps30
    go_wp2
    go_ret
    exact ⟨rfl, c0⟩
  · go_enter Try.func30, Try.ntmps30
    go_wp2
    go_ret
    exact ⟨rfl, c0⟩

/-- what a function that says whether a step may be made answers -/
def Says (m : Value) (r : Bool) (w : World) : Prop :=
  (m = .nilFunc ∧ r = true) ∨ ∃ K c, m = .func (.func K) #[] c ∧ Enters K ∧ ∀ w', Ch Nil w w' → Calls Try.prog K c w' fun e w'' => e = .returned (.bool r) ∧ Ch Nil w' w''
theorem Says.fn {m : Value} {r : Bool} {w : World} (h : Says m r w) : IsFn m := by
  rcases h with ⟨e, -⟩ | ⟨K, c, e, -⟩
  · exact .inl e
  · exact .inr ⟨K, c, e⟩

set_option maxHeartbeats 1000000 in
theorem may_end (m : Value) (w : World) :
    Calls Try.prog 31 #[.agg #[m, .nilFunc]] w fun e w' => e = .returned (.bool false) ∧ Ch Nil w w' := by
  have c0 : Ch Nil w (w.alloc (.cells #[m, .nilFunc] 31)) := (Ch.refl _ _).alloc _
  go_enter Try.func31, Try.ntmps31
  go_wp2_with fail
  refine (isEnd_any _ _ (.inl rfl) _).mono ?_
  rintro e w1 ⟨rfl, c1⟩
  have C1 := Lib.hid (c0.trans c1)
  clear c0 c1
  simp only [isNilF]
  go_wp2
  go_ret
  exact ⟨rfl, C1.out⟩

set_option maxHeartbeats 1000000 in
theorem may_go (m : Value) (f : Fn) (fa fc : Array Value) (r : Bool) (w : World) (h : Says m r w) (hf : IsFn (.func f fa fc)) :
    Calls Try.prog 31 #[.agg #[m, .func f fa fc]] w fun e w' => e = .returned (.bool r) ∧ Ch Nil w w' := by
  have hM := eql_may
  have hM0 := eql_may0
  have c0 : Ch Nil w (w.alloc (.cells #[m, .func f fa fc] 31)) := (Ch.refl _ _).alloc _
  rcases h with ⟨rfl, rfl⟩ | ⟨K, c, rfl, en, hs⟩
  · have k0 : (w.alloc (.cells #[.nilFunc, .func f fa fc] 31)).cell? ⟨w.heap.size, 0, none⟩ = some .nilFunc := by rw [cell_fresh]; rfl
    have K0 := Lib.hid k0
    have C0 := Lib.hid c0
    clear k0 c0
    go_enter Try.func31, Try.ntmps31
    go_wp2_with fail
    refine (isEnd_any _ _ hf _).mono ?_
    rintro e w1 ⟨rfl, c1⟩
    have k1 := c1.keeps K0.out (fun e => e)
    have C1 := Lib.hid (C0.out.trans c1)
    clear C0 c1
    simp only [isNilF]
    go_wp2
    go_ret
    exact ⟨rfl, C1.out⟩
  · have k0 : (w.alloc (.cells #[.func (.func K) #[] c, .func f fa fc] 31)).cell? ⟨w.heap.size, 0, none⟩ = some (.func (.func K) #[] c) := by rw [cell_fresh]; rfl
    have K0 := Lib.hid k0
    have C0 := Lib.hid c0
    have HS := Lib.hid hs
    have hE := en
    unfold Enters at hE
    clear k0 c0 hs
    go_enter Try.func31, Try.ntmps31
    go_wp2_with fail
    refine (isEnd_any _ _ hf _).mono ?_
    rintro e w1 ⟨rfl, c1⟩
    have k1 := c1.keeps K0.out (fun e => e)
    have C1 := Lib.hid (C0.out.trans c1)
    clear C0 c1
    simp only [isNilF]
    go_wp2_with fail
    refine (HS.out _ C1.out).mono ?_
    rintro e w2 ⟨rfl, c2⟩
    have C2 := Lib.hid (C1.out.trans c2)
    clear C1 c2
    go_wp2
    go_ret
    exact ⟨rfl, C2.out⟩

set_option maxHeartbeats 1000000 in
theorem new_any (m d : Value) (w : World) :
    Calls Try.prog 10 #[.agg #[m, d]] w fun e w' => ∃ b, e = .returned (.pointer (some ⟨b, 0, none⟩)) ∧ IsPg w' b m d 0 ∧ Ch Nil w w' ∧ w.heap.size ≤ b := by
  have c0 : Ch Nil w (w.alloc (.cells #[m, d] 31)) := (Ch.refl _ _).alloc _
  go_enter Try.func10, Try.ntmps10
  go_wp2
  go_ret
  refine ⟨_, rfl, ?_, c0.alloc _, by simp⟩
  have := IsPg.new (w.alloc (.cells #[m, d] 31)) m d 0 46
  simpa using this
end Go.Proofs.Ytjaalkjdpgnfjaa
