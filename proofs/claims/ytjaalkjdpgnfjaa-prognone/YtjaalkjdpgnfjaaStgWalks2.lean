/-
  Contracts of a program's functions: may it, is it done, how many steps, a step.
-/
import Derived.Test.YtjaalkjdpgnfjaaStgWalks1
namespace Go.Proofs.Ytjaalkjdpgnfjaa
open Go.RowKit Verge
attribute [local go_sem] Oper.semAt_some
set_option linter.unusedVariables false
set_option linter.unusedSimpArgs false

/-- may the stage of these two functions be made? -/
def May (m d : Value) (r : Bool) (w : World) : Prop := (d = .nilFunc ∧ r = false) ∨ ∃ K c, d = .func (.func K) #[] c ∧ Says m r w
theorem stage_may {m d : Value} {r : Bool} {w : World} (h : May m d r w) :
    Calls Try.prog 31 #[.agg #[m, d]] w fun e w' => e = .returned (.bool r) ∧ Ch Nil w w' := by
  rcases h with ⟨rfl, rfl⟩ | ⟨K, c, rfl, h⟩
  · exact may_end m w
  · exact may_go m _ _ _ r w h (.inr ⟨K, c, rfl⟩)
theorem Says.kept {m : Value} {r : Bool} {w w' : World} (h : Says m r w) (c : Ch Nil w w') : Says m r w' := by
  rcases h with h | ⟨K, cs, e, en, h⟩
  · exact .inl h
  · exact .inr ⟨K, cs, e, en, fun w2 c2 => h w2 (c.trans c2)⟩
theorem May.kept {m d : Value} {r : Bool} {w w' : World} (h : May m d r w) (c : Ch Nil w w') : May m d r w' := by
  rcases h with h | ⟨K, cs, e, h⟩
  · exact .inl h
  · exact .inr ⟨K, cs, e, h.kept c⟩

theorem pMay_nil (w : World) : Calls Try.prog 13 #[.pointer none] w fun e w' => e = .returned (.bool false) ∧ Ch Nil w w' := by
  go_enter Try.func13, Try.ntmps13
  go_wp2
  go_ret
  exact ⟨rfl, Ch.refl _ _⟩
theorem pDone_nil (w : World) : Calls Try.prog 12 #[.pointer none] w fun e w' => e = .returned (.bool true) ∧ Ch Nil w w' := by
  go_enter Try.func12, Try.ntmps12
  go_wp2
  go_ret
  exact ⟨rfl, Ch.refl _ _⟩
theorem pSteps_nil (w : World) : Calls Try.prog 14 #[.pointer none] w fun e w' => e = .returned (.int .i64 0) ∧ Ch Nil w w' := by
  go_enter Try.func14, Try.ntmps14
  go_wp2
  go_ret
  exact ⟨rfl, Ch.refl _ _⟩
theorem pStep_nil (w : World) : Calls Try.prog 16 #[.pointer none] w fun e w' => e = .returned (.bool false) ∧ Ch Nil w w' := by
  go_enter Try.func16, Try.ntmps16
  go_wp2_with fail
  refine (pMay_nil _).mono ?_
  rintro e w1 ⟨rfl, c1⟩
  have C1 := Lib.hid c1
  clear c1
  go_wp2
  go_ret
  exact ⟨rfl, C1.out⟩

section
variable {w : World} {b : Nat} {m d : Value} {n : Int} {r : Bool}
set_option maxHeartbeats 1000000 in
theorem pMay_of (h : IsPg w b m d n) (hr : May m d r w) : Calls Try.prog 13 #[.pointer (some ⟨b, 0, none⟩)] w fun e w' => e = .returned (.bool r) ∧ Ch Nil w w' := by
  have HR := Lib.hid hr
  clear hr
  obtain ⟨hm, hd, hn, hk⟩ := h
  go_enter Try.func13, Try.ntmps13
  go_wp2_with fail
  refine (stage_may HR.out).mono ?_
  rintro e w1 ⟨rfl, c1⟩
  have C1 := Lib.hid c1
  clear c1
  go_wp2
  go_ret
  exact ⟨rfl, C1.out⟩
set_option maxHeartbeats 1000000 in
theorem pDone_of (h : IsPg w b m d n) (hf : IsFn d) : Calls Try.prog 12 #[.pointer (some ⟨b, 0, none⟩)] w fun e w' => e = .returned (.bool (isNilF d)) ∧ Ch Nil w w' := by
  have HF := Lib.hid hf
  clear hf
  obtain ⟨hm, hd, hn, hk⟩ := h
  go_enter Try.func12, Try.ntmps12
  go_wp2_with fail
  refine (isEnd_any _ _ HF.out _).mono ?_
  rintro e w1 ⟨rfl, c1⟩
  have C1 := Lib.hid c1
  clear c1
  go_wp2
  go_ret
  exact ⟨rfl, C1.out⟩
theorem pSteps_of (h : IsPg w b m d n) : Calls Try.prog 14 #[.pointer (some ⟨b, 0, none⟩)] w fun e w' => e = .returned (.int .i64 n) ∧ Ch Nil w w' := by
  obtain ⟨hm, hd, hn, hk⟩ := h
  go_enter Try.func14, Try.ntmps14
  go_wp2
  go_ret
  exact ⟨rfl, Ch.refl _ _⟩
set_option maxHeartbeats 1000000 in
theorem pStep_no (h : IsPg w b m d n) (hr : May m d false w) : Calls Try.prog 16 #[.pointer (some ⟨b, 0, none⟩)] w fun e w' => e = .returned (.bool false) ∧ Ch Nil w w' := by
  have HR := Lib.hid hr
  have HH := Lib.hid h
  clear hr h
  go_enter Try.func16, Try.ntmps16
  go_wp2_with fail
  refine (pMay_of HH.out HR.out).mono ?_
  rintro e w1 ⟨rfl, c1⟩
  have C1 := Lib.hid c1
  clear c1
  go_wp2
  go_ret
  exact ⟨rfl, C1.out⟩
set_option maxHeartbeats 2000000 in
/-- a step that may be made: whatever the stage's Do does (R), its answer is the next stage -/
theorem pStep_yes {K : Nat} {c : Array Value} {R : Value → Value → World → World → Prop} (h : IsPg w b m (.func (.func K) #[] c) n) (hr : Says m true w) (en : Enters K) (hn : n < 1000000) (hn0 : 0 ≤ n)
    (hdo : ∀ w1, Ch Nil w w1 → Calls Try.prog K c w1 fun e w' => ∃ m' d', e = .returned (.agg #[m', d']) ∧ IsFn m' ∧ IsFn d' ∧ IsPg w' b m (.func (.func K) #[] c) n ∧ R m' d' w1 w') :
    Calls Try.prog 16 #[.pointer (some ⟨b, 0, none⟩)] w fun e w' => e = .returned (.bool true) ∧ ∃ m' d' w1 w2, Ch Nil w w1 ∧ R m' d' w1 w2 ∧ IsPg w' b m' d' (n + 1) ∧ Ch (One b) w2 w' := by
  have HR := Lib.hid hr
  have HH := Lib.hid h
  have HD := Lib.hid hdo
  have hE := en
  unfold Enters at hE
  clear hr h hdo en
  go_enter Try.func16, Try.ntmps16
  go_wp2_with fail
  refine (pMay_of HH.out (.inr ⟨_, _, rfl, HR.out⟩)).mono ?_
  rintro e w1 ⟨rfl, c1⟩
  obtain ⟨h1, h2, h3, h4⟩ := HH.out.kept c1 (fun e => e)
  have C1 := Lib.hid c1
  clear c1
  go_wp2_with fail
  refine (HD.out w1 C1.out).mono ?_
  rintro e w2 ⟨m', d', rfl, fm, fd, hp, hR⟩
  have st1 := fm.store
  have st2 := fd.store
  have RR := Lib.hid hR
  have HP := Lib.hid hp
  obtain ⟨p1, p2, p3, p4⟩ := hp
  have hfz := p4.fz
  clear hR h1 h2 h3 h4 fm fd
  have hw : IntKind.i64.wrap (n + 1) = n + 1 := IntWalk.i64_in _ (by omega)
  go_wp2
  go_ret
  have hs := HP.out.set m' d' (n + 1)
  refine ⟨rfl, m', d', w1, w2, C1.out, RR.out, ?_, ?_⟩
  · simpa using hs
  · exact (((Ch.refl _ _).setB _ _).setB _ _).setB _ _
end
end Go.Proofs.Ytjaalkjdpgnfjaa
