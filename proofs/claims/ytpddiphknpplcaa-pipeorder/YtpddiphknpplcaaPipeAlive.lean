/-
  The statements' 'alive': the document's example, of texts.
-/
import Derived.Test.YtpddiphknpplcaaPipeS3
namespace Go.Proofs.Ytpddiphknpplcaa
open Go.RowKit Verge
attribute [local go_sem] Oper.semAt_some
set_option linter.unusedVariables false
set_option linter.unusedSimpArgs false

theorem alive_any (w : World) :
    Calls Try.prog 7 #[] w fun e w' => e = .returned (.bool true) ∧ Ch Nil w w' := by
  go_enter Try.func7, Try.ntmps7
  go_wp2_with fail
  refine (PS.new_of 1 (by omega) (by omega) (fun _ => ⟨#[]⟩) w).mono ?_
  rintro e w1 ⟨rfl, p1, c1⟩
  obtain ⟨pb, hpb⟩ : ∃ pb, pb = w.heap.size + 1 := ⟨_, rfl⟩
  obtain ⟨cb, hcb⟩ : ∃ cb, cb = w.heap.size := ⟨_, rfl⟩
  rw [← hpb, ← hcb] at p1
  rw [← hpb]
  have no : ∀ xs : List Nat, (∀ k ∈ xs, w.heap.size ≤ k) → ∀ i, i < w.heap.size → PS.PB pb cb xs i → False := by
    rintro xs hxs i hi ((rfl | hk) | rfl)
    · omega
    · have := hxs i hk; omega
    · omega
  have P1 := Lib.hid p1
  have C1 := Lib.hid c1
  have HP := Lib.hid hpb
  have HN := Lib.hid no
  clear p1 c1 hpb hcb no
  go_wp2_with fail
  refine (P1.out.put_room ⟨#[97]⟩ (by simp)).mono ?_
  rintro e w2 ⟨rfl, p2, c2⟩
  have P2 := Lib.hid p2
  have C2 := Lib.hid (C1.out.then c2 (HN.out [] (by simp)))
  clear p2 c2 P1
  go_wp2_with fail
  refine (P2.out.put_spill ⟨#[98]⟩ (fun _ => by simp) (by simp) (by omega)).mono ?_
  rintro e w3 ⟨rfl, b, hb, p3, c3⟩
  have P3 := Lib.hid p3
  have hb' : w.heap.size ≤ b := Nat.le_trans C2.out.size hb
  have C3 := Lib.hid (C2.out.then c3 (HN.out [] (by simp)))
  clear p3 c3 P2 C2 hb
  go_wp2_with fail
  refine (P3.out.take_more (x := ⟨#[97]⟩) (ch := []) (b := b) (xs := []) (by simp) (by simp)).mono ?_
  rintro e w4 ⟨rfl, p4, c4⟩
  have C4 := Lib.hid (C3.out.then c4 (HN.out [b] (by simpa using hb')))
  rw [upd_same] at p4
  have P4 := Lib.hid p4
  clear p4 c4 P3 C3
  go_wp2_with fail
  refine (PS.spilled_of pb 0 _ P4.out.l.h.n).mono ?_
  rintro e w' ⟨rfl, rfl⟩
  go_wp2_with fail
  refine (P4.out.take_one (x := ⟨#[98]⟩) (ch := [])).mono ?_
  rintro e w5 ⟨rfl, p5, c5⟩
  have C5 := Lib.hid (C4.out.then c5 (HN.out [] (by simp)))
  clear p5 c5 P4 C4
  go_wp2
  go_ret
  exact ⟨rfl, C5.out⟩
end Go.Proofs.Ytpddiphknpplcaa
