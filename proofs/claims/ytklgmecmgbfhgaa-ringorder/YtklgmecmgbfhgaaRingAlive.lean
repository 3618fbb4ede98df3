/-
  The document's example, as the statements ask it.
-/
import Derived.Test.YtklgmecmgbfhgaaRingI6
namespace Go.Proofs.Ytklgmecmgbfhgaa
open Go.RowKit Verge RI
attribute [local go_sem] Oper.semAt_some
set_option linter.unusedVariables false

set_option maxHeartbeats 4000000 in
set_option maxRecDepth 100000 in
theorem alive_any (w : World) :
    Calls Try.prog 8 #[] w fun e w' => e = .returned (.bool true) ∧ Ch Nil w w' := by
  go_enter Try.func8, Try.ntmps8
  go_wp2_with fail
  refine (new_of 1 _ (by omega) (by omega)).mono ?_
  rintro e w1 ⟨b, sb, rfl, hb, hs, h1, c1⟩
  have H1 := Lib.hid h1
  clear h1
  go_wp2_with fail
  refine (begin_of H1.out).mono ?_
  rintro e w2 ⟨t, rfl, ht, htb, hts, k2, h2, c2⟩
  have H2 := Lib.hid h2
  have K2 := Lib.hid k2
  have hlt2 := k2.lt
  clear h2 k2
  go_wp2_with fail
  refine (begin_of H2.out).mono ?_
  rintro e w3 ⟨u, rfl, hu, hub, hus, l3, h3, c3⟩
  have H3 := Lib.hid h3
  have L3 := Lib.hid l3
  have K3 := Lib.hid (K2.out.kept c3 (fun e => e))
  have hut : t ≠ u := by omega
  have hwt : w.heap.size ≤ t := by have := c1.size; omega
  have hwu : w.heap.size ≤ u := by omega
  have D3 := Lib.hid ((c1.trans c2).trans c3)
  clear h3 l3 c1 c2 c3
  go_wp2_with fail
  refine (step_to ⟨0, 0, 0, false⟩ ⟨1, 0, 0, false⟩ 0 H3.out K3.out htb hts (by simp) (by simp) (by simp [tickStep])).mono ?_
  rintro e w4 ⟨rfl, h4, k4, c4⟩
  have H4 := Lib.hid h4
  have K4 := Lib.hid k4
  have D4 := Lib.hid (Ch_upTri D3.out c4 hwt hb hs)
  have L4 := Lib.hid (L3.out.kept c4 (fun e => by rcases e with e | e | e <;> omega))
  clear h4 k4 c4
  go_wp2_with fail
  refine (step_to ⟨1, 0, 0, false⟩ ⟨2, 0, 0, false⟩ 0 H4.out K4.out htb hts (by simp) (by simp) (by simp [tickStep])).mono ?_
  rintro e w5 ⟨rfl, h5, k5, c5⟩
  have H5 := Lib.hid h5
  have K5 := Lib.hid k5
  have D5 := Lib.hid (Ch_upTri D4.out c5 hwt hb hs)
  have L5 := Lib.hid (L4.out.kept c5 (fun e => by rcases e with e | e | e <;> omega))
  clear h5 k5 c5
  go_wp2_with fail
  refine (step_to ⟨2, 0, 0, false⟩ ⟨2, 2, 0, false⟩ 1 H5.out K5.out htb hts (by simp) (by simp) (by simp [tickStep])).mono ?_
  rintro e w6 ⟨rfl, h6, k6, c6⟩
  have H6 := Lib.hid h6
  have K6 := Lib.hid k6
  have D6 := Lib.hid (Ch_upTri D5.out c6 hwt hb hs)
  have L6 := Lib.hid (L5.out.kept c6 (fun e => by rcases e with e | e | e <;> omega))
  clear h6 k6 c6
  go_wp2_with fail
  refine (step_to ⟨0, 0, 0, false⟩ ⟨1, 0, 1, false⟩ 1 H6.out L6.out hub hus (by simp) (by simp) (by simp [tickStep])).mono ?_
  rintro e w7 ⟨rfl, h7, l7, c7⟩
  have H7 := Lib.hid h7
  have L7 := Lib.hid l7
  have D7 := Lib.hid (Ch_upTri D6.out c7 hwu hb hs)
  have K7 := Lib.hid (K6.out.kept c7 (fun e => by rcases e with e | e | e <;> omega))
  clear h7 l7 c7
  go_wp2_with fail
  refine (step_to ⟨1, 0, 1, false⟩ ⟨1, 1, 1, false⟩ 1 H7.out L7.out hub hus (by simp) (by simp) (by simp [tickStep])).mono ?_
  rintro e w8 ⟨rfl, h8, l8, c8⟩
  have H8 := Lib.hid h8
  have D8 := Lib.hid (Ch_upTri D7.out c8 hwu hb hs)
  have K8 := Lib.hid (K7.out.kept c8 (fun e => by rcases e with e | e | e <;> omega))
  clear h8 l8 c8
  go_wp2_with fail
  refine (fill_ok t b sb 1 1 0 _ _ 2 0 7 _ H8.out K8.out htb hts (by omega) (by omega)).mono ?_
  rintro e w9 ⟨rfl, h9, k9, c9⟩
  have H9 := Lib.hid h9
  have D9 := Lib.hid (Ch_upTri D8.out c9 hwt hb hs)
  clear h9 k9 c9
  go_wp2_with fail
  refine (pop_ok b sb 1 1 0 _ _ _ H9.out (by omega) (by simp [Hid, upd]) (by simp [Hid, upd])).mono ?_
  rw [upd_same]
  rintro e w10 ⟨rfl, h10, c10⟩
  have D10 := Lib.hid (Ch_upTwo D9.out c10 hb hs)
  clear h10 c10
  go_wp2
  go_ret
  exact ⟨rfl, D10.out⟩
end Go.Proofs.Ytklgmecmgbfhgaa
