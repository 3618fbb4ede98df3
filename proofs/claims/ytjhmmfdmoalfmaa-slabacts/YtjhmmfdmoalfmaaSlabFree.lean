/-
  The statements' function 'free': a record that isn't free is made free, and the count dropped; many steps of one request.
-/
import Derived.Test.YtjhmmfdmoalfmaaSlabAlive
import Derived.Test.YtjhmmfdmoalfmaaSlabPlain2
namespace Go.Proofs.Ytjhmmfdmoalfmaa
open Go.RowKit Verge
attribute [local go_sem] Oper.semAt_some
set_option linter.unusedVariables false
set_option linter.unusedSimpArgs false
theorem state_ok (x : Rec) (h : Ok1 x) (g : x.gv ≤ 900000) (w : World) :
    Calls Try.prog 24 #[.int .u64 (x.wd : Nat)] w fun e w' => e = .returned (.int .i64 (busy x : Nat)) ∧ w = w' := by
  have hs := state_any x.wd (h.lt g (Nat.le_refl _)) w
  rw [h.ok (by omega), if_pos rfl] at hs
  have e : x.wd % 8 = busy x := by
    rcases busy_cases x with hb | hb
    · rw [hb, h.busy0 hb]; omega
    · rw [hb, h.busy1 hb]; omega
  rw [e] at hs
  exact hs
theorem free_no {b rb n cnt lk m : Nat} {R : Nat → Rec} (k : Nat) {w : World} (h : IsS w b rb n cnt R) (i : Inv n cnt R lk m) (hm : m ≤ 900000) (hk : k < n) (hb : busy (R k) = 0) :
    Calls Try.prog 21 #[.pointer (some ⟨b, 0, none⟩), .int .i64 k] w fun e w' => e = .returned (.bool false) ∧ IsS w' b rb n cnt R ∧ Ch (Two b rb) w w' := by
  have H := Lib.hid h
  have st := state_ok (R k) (i.ok k hk) (Nat.le_trans (i.gv k hk) hm)
  rw [hb] at st
  have ST := Lib.hid st
  clear h i st
  go_enter Try.func21, Try.ntmps21
  go_wp2_with fail
  refine (word_in k H.out hk).mono ?_
  rintro e w1 ⟨rfl, s1, c1⟩
  have S1 := Lib.hid s1
  clear s1
  go_wp2_with fail
  refine (ST.out _).mono ?_
  rintro e w2 ⟨rfl, rfl⟩
  go_wp2
  go_ret
  exact ⟨rfl, S1.out, Ch_two2 c1⟩
theorem free_yes {b rb n cnt lk m : Nat} {R : Nat → Rec} (k : Nat) {w : World} (h : IsS w b rb n cnt R) (i : Inv n cnt R lk m) (hm : m ≤ 900000) (hk : k < n) (hb : busy (R k) = 1) :
    Calls Try.prog 21 #[.pointer (some ⟨b, 0, none⟩), .int .i64 k] w fun e w' => e = .returned (.bool true) ∧ IsS w' b rb n (cnt - 1) (upR R k ⟨256 * (R k).gv, (R k).gv, (R k).pd⟩) ∧ Ch (Two b rb) w w' := by
  have H := Lib.hid h
  have hg : (R k).gv ≤ 900000 := Nat.le_trans (i.gv k hk) hm
  have st := state_ok (R k) (i.ok k hk) hg
  rw [hb] at st
  have ST := Lib.hid st
  have e0 := (i.ok k hk).busy1 hb
  have e1 : ∀ per, nxZ (R k).wd 9 per = (256 * (R k).gv, 0) := fun per => by rw [e0]; exact nx_finish1 _ per (by omega)
  have E1 := Lib.hid e1
  have s2 := state_ok ⟨256 * (R k).gv, (R k).gv, (R k).pd⟩ (.inl rfl) hg
  rw [busy_of0 rfl] at s2
  have ST2 := Lib.hid s2
  have hc := i.pos hk hb
  have L := Lib.hid (if_pos hc : (if 0 < cnt then (0 : Int) else 6) = 0)
  have hcl : cnt ≤ 1000000 := by have := i.le; have := h.n1; omega
  have hw := (i.ok k hk).lt (i.gv k hk) hm
  obtain ⟨v, hv⟩ : ∃ v, v = (R k).wd := ⟨_, rfl⟩
  have HV := Lib.hid hv
  rw [← hv] at hw
  clear h i st s2 e0 e1 hv hc
  go_enter Try.func21, Try.ntmps21
  go_wp2_with fail
  refine (word_in k H.out hk).mono ?_
  rintro e w1 ⟨rfl, s1, c1⟩
  have S1 := Lib.hid s1
  clear s1
  go_wp2_with fail
  refine (ST.out _).mono ?_
  rintro e w2 ⟨rfl, rfl⟩
  rw [← HV.out]
  go_wp2_with fail
  have ht := try_go k v 9 S1.out hk hw (by rw [HV.out, E1.out]) HV.out.symm
  rw [HV.out, E1.out, ← HV.out] at ht
  refine ht.mono ?_
  clear ht
  rintro e w3 ⟨rfl, s3, c3⟩
  have S3 := Lib.hid s3
  clear s3
  go_wp2_with fail
  refine (ST2.out _).mono ?_
  rintro e w4 ⟨rfl, rfl⟩
  go_wp2_with fail
  refine (drop_of S3.out hcl).mono ?_
  rintro e w5 ⟨rfl, s5, c5⟩
  rw [L.out]
  have S5 := Lib.hid s5
  clear s5
  go_wp2
  go_ret
  exact ⟨rfl, S5.out, ((Ch_two2 c1).trans (Ch_two2 c3)).trans (Ch_two1 c5)⟩
/-- whichever: what holds then -/
theorem free_any {b rb n cnt lk m : Nat} {R : Nat → Rec} (k : Nat) {w : World} (h : IsS w b rb n cnt R) (i : Inv n cnt R lk m) (hm : m ≤ 900000) (hk : k < n) :
    Calls Try.prog 21 #[.pointer (some ⟨b, 0, none⟩), .int .i64 k] w fun e w' => ∃ (cnt' : Nat) (R' : Nat → Rec) (x : Bool), e = .returned (.bool x) ∧ IsS w' b rb n cnt' R' ∧ Inv n cnt' R' lk m ∧ (∀ j, (R' j).gv = (R j).gv) ∧ Ch (Two b rb) w w' := by
  rcases busy_cases (R k) with hb | hb
  · exact (free_no k h i hm hk hb).mono fun e w' ⟨he, s, c⟩ => ⟨_, _, _, he, s, i, fun _ => rfl, c⟩
  · refine (free_yes k h i hm hk hb).mono fun e w' ⟨he, s, c⟩ => ⟨_, _, _, he, s, i.freed hk hb _, fun j => ?_, c⟩
    by_cases e : j = k
    · subst e; rw [upR_same]
    · rw [upR_other _ _ e]
theorem step_fit {q b rb n : Nat} {s : Nat × (Nat → Rec) × Rq} {w : World} (h : SQ w q b rb n s.1 s.2.1 s.2.2) (f : Fit n s) :
    Calls Try.prog 14 #[.pointer (some ⟨q, 0, none⟩)] w fun e w' => e = .returned (.int .i64 ((stepM n s.1 s.2.1 s.2.2).2.2.ss : Nat)) ∧ SQ w' q b rb n (stepM n s.1 s.2.1 s.2.2).1 (stepM n s.1 s.2.1 s.2.2).2.1 (stepM n s.1 s.2.1 s.2.2).2.2 ∧ Ch (Tri q b rb) w w' :=
  step_any h f.st f.seen f.slot f.wd f.gv
end Go.Proofs.Ytjhmmfdmoalfmaa
