/-
  The statements' example: a row of two functions, each of which puts a letter behind a string.
-/
import Derived.Test.YtjaalkjdpgnfjaaStgPg
namespace Go.Proofs.Ytjaalkjdpgnfjaa
open Go.RowKit Verge
attribute [local go_sem] Oper.semAt_some
set_option linter.unusedVariables false
set_option linter.unusedSimpArgs false

/-- a variable in block A that holds this string -/
def Str (A : Nat) (s : Array UInt8) : Own where
  P M w := w.cell? ⟨A, 0, none⟩ = some (.string ⟨s⟩) ∧ Blk w A ∧ ∀ k, M k ↔ k = A
  lt M w h k hk := by
    obtain ⟨h1, h2, h3⟩ := h
    rw [(h3 k).1 hk]
    exact h2.lt
  ag M w w' h c := by
    obtain ⟨h1, h2, h3⟩ := h
    exact ⟨c.cell h1 ((h3 A).2 rfl), c.blk h2 ((h3 A).2 rfl), h3⟩
theorem enters_a1 : Enters 27 := enters_of Try.func27 (by kernel_rfl) rfl
theorem enters_a2 : Enters 28 := enters_of Try.func28 (by kernel_rfl) rfl
section
variable {A : Nat} {w : World}
theorem a1_of (h : w.cell? ⟨A, 0, none⟩ = some (.string ⟨#[]⟩)) (hk : Blk w A) : Calls Try.prog 27 #[.pointer (some ⟨A, 0, none⟩)] w fun e w' => e = .returned (.tuple #[]) ∧ w.setCell ⟨A, 0, none⟩ (.string ⟨#[97]⟩) = w' := by
  have hfz := hk.fz
  clear hk
  go_enter Try.func27, Try.ntmps27
  go_wp2
  go_end0
  exact ⟨rfl, rfl⟩
theorem a2_of (h : w.cell? ⟨A, 0, none⟩ = some (.string ⟨#[97]⟩)) (hk : Blk w A) : Calls Try.prog 28 #[.pointer (some ⟨A, 0, none⟩)] w fun e w' => e = .returned (.tuple #[]) ∧ w.setCell ⟨A, 0, none⟩ (.string ⟨#[97, 98]⟩) = w' := by
  have hfz := hk.fz
  clear hk
  go_enter Try.func28, Try.ntmps28
  go_wp2
  go_end0
  exact ⟨rfl, rfl⟩
theorem leads_str {K : Nat} {s s' : Array UInt8} (en : Enters K) (hl : A < w.heap.size) (hc : ∀ w, w.cell? ⟨A, 0, none⟩ = some (.string ⟨s⟩) → Blk w A → Calls Try.prog K #[.pointer (some ⟨A, 0, none⟩)] w fun e w' => e = .returned (.tuple #[]) ∧ w.setCell ⟨A, 0, none⟩ (.string ⟨s'⟩) = w') :
    Leads (Str A s) (Str A s') Void Nil (.func (.func K) #[] #[.pointer (some ⟨A, 0, none⟩)]) w := by
  refine ⟨_, _, rfl, en, fun _ e => e.elim, fun w' M a hM h => ?_⟩
  obtain ⟨h1, h2, h3⟩ := h
  refine (hc w' h1 h2).mono ?_
  rintro e w'' ⟨rfl, rfl⟩
  exact ⟨_, Nil, M, rfl, ⟨World.cell?_setCell_same _ _ _ h1, h2.set _ _, h3⟩, ⟨rfl, fun _ e => e⟩, (Ch.refl _ _).set (fun _ => (h3 A).2 rfl) _, fun k hk => .inl hk, fun _ e => e.elim, fun _ e => e.elim, fun _ e => e.elim⟩
end
/-- the example's first two blocks -/
structure Two (w w0 : World) : Prop where
  c : Ch Nil w w0
  s : w0.cell? ⟨w.heap.size, 0, none⟩ = some (.string ⟨#[]⟩)
  k : Blk w0 w.heap.size
  f : w0.cell? ⟨w.heap.size + 1, 0, none⟩ = some (.func (.func 27) #[] #[.pointer (some ⟨w.heap.size, 0, none⟩)])
  g : w0.cell? ⟨w.heap.size + 1, 1, none⟩ = some (.func (.func 28) #[] #[.pointer (some ⟨w.heap.size, 0, none⟩)])
theorem two (w : World) : Two w ((w.alloc (.cells #[.string ⟨#[]⟩] 9)).alloc (.cells #[.func (.func 27) #[] #[.pointer (some ⟨w.heap.size, 0, none⟩)], .func (.func 28) #[] #[.pointer (some ⟨w.heap.size, 0, none⟩)]] 1)) := by
  have zz : (w.alloc (.cells #[.string ⟨#[]⟩] 9)).heap.size = w.heap.size + 1 := by simp
  have c2 : Ch Nil (w.alloc (.cells #[.string ⟨#[]⟩] 9)) ((w.alloc (.cells #[.string ⟨#[]⟩] 9)).alloc (.cells #[.func (.func 27) #[] #[.pointer (some ⟨w.heap.size, 0, none⟩)], .func (.func 28) #[] #[.pointer (some ⟨w.heap.size, 0, none⟩)]] 1)) := (Ch.refl _ _).alloc _
  refine ⟨((Ch.refl _ _).alloc _).trans c2, c2.keeps (by rw [cell_fresh]; rfl) (fun e => e), (Blk.new _ _ _).kept c2 (fun e => e), by rw [← zz, cell_fresh]; rfl, by rw [← zz, cell_fresh]; rfl⟩
set_option maxHeartbeats 8000000 in
theorem alive_any (w : World) : Calls Try.prog 7 #[] w fun e w' => e = .returned (.bool true) ∧ Ch Nil w w' := by
  have h2 := two w
  have H2 := Lib.hid h2
  clear h2
  go_enter Try.func7, Try.ntmps7
  go_wp2_with fail
  generalize (w.alloc (.cells #[.string ⟨#[]⟩] 9)).alloc (.cells #[.func (.func 27) #[] #[.pointer (some ⟨w.heap.size, 0, none⟩)], .func (.func 28) #[] #[.pointer (some ⟨w.heap.size, 0, none⟩)]] 1) = w0 at H2 ⊢
  have lA : w.heap.size < w0.heap.size := lt_of_cell H2.out.s
  have G1 : Gns Nil [.func (.func 27) #[] #[.pointer (some ⟨w.heap.size, 0, none⟩)], .func (.func 28) #[] #[.pointer (some ⟨w.heap.size, 0, none⟩)]] [Str w.heap.size #[97], Str w.heap.size #[97, 98]] (Str w.heap.size #[]) w0 :=
    .inr ⟨_, _, rfl, leads_str enters_a1 lA (fun w h k => a1_of h k), .inr ⟨_, _, rfl, leads_str enters_a2 lA (fun w h k => a2_of h k), trivial⟩⟩
  refine (rowAll_of (cap := 2) G1 (.inr ⟨w.heap.size + 1, 0, rfl, fun i v hi => ?_⟩) (fun _ e => e.elim) (by simp) (by simp) (by simp [maxLen])).mono ?_
  · have hl := (List.getElem?_eq_some_iff.1 hi).1
    simp at hl
    have : i = 0 ∨ i = 1 := by omega
    rcases this with rfl | rfl
    · cases hi; exact H2.out.f
    · cases hi; exact H2.out.g
  rintro e w1 ⟨v, S1, rfl, st1, c1, s1, l1⟩
  have P1 : (Str w.heap.size #[]).P (fun k => k = w.heap.size) w1 := ⟨c1.keeps H2.out.s (fun e => e), H2.out.k.kept c1 (fun e => e), fun k => Iff.rfl⟩
  have NW := Lib.hid (pg_new (X := fun k => k < w.heap.size) st1 P1 (fun k hk e => by rcases s1 k hk with h | h; exact h; omega) l1 (fun k hk => ⟨by have := c1.size; omega, fun e => by omega⟩))
  have C1 := Lib.hid (H2.out.c.trans c1)
  clear G1 st1 c1 s1 l1 P1
  go_wp2_with fail
  refine NW.out.mono ?_
  rintro e w2 ⟨b, rfl, p2, c2, hb⟩
  have C2 := Lib.hid (C1.out.trans c2)
  have P2 := Lib.hid p2
  have D2 := Lib.hid p2.done
  clear c2 p2 C1 NW
  go_wp2_with fail
  refine D2.out.mono ?_
  rintro e w3 ⟨rfl, c3⟩
  have C3 := Lib.hid (C2.out.trans c3)
  have P3 := Lib.hid ((P2.out.kept c3).step (by omega))
  clear c3 C2 P2 D2
  simp only [List.isEmpty_cons]
  go_wp2_with fail
  refine P3.out.mono ?_
  rintro e w4 ⟨rfl, p4, c4⟩
  have C4 := Lib.hid (C3.out.then c4 (fun i hi e => absurd hi e))
  obtain ⟨M4, ⟨k4, -⟩, -⟩ := p4.state
  have P4 := Lib.hid (p4.step (by omega))
  clear c4 C3 P3 p4
  go_wp2_with fail
  refine P4.out.mono ?_
  rintro e w5 ⟨rfl, p5, c5⟩
  have C5 := Lib.hid (C4.out.then c5 (fun i hi e => absurd hi e))
  obtain ⟨M5, ⟨k5, -⟩, -⟩ := p5.state
  have P5 := Lib.hid p5
  have D5 := Lib.hid p5.done
  clear c5 C4 P4 p5 k4
  go_wp2_with fail
  refine D5.out.mono ?_
  rintro e w6 ⟨rfl, c6⟩
  have C6 := Lib.hid (C5.out.trans c6)
  have P6 := Lib.hid (P5.out.kept c6)
  have D6 := Lib.hid (P5.out.kept c6).stuck
  clear c6 C5 P5 D5 k5
  simp only [List.isEmpty_nil]
  go_wp2_with fail
  refine D6.out.mono ?_
  rintro e w7 ⟨rfl, c7⟩
  have C7 := Lib.hid (C6.out.trans c7)
  have D7 := Lib.hid (P6.out.kept c7).steps
  clear c7 C6 P6 D6
  go_wp2_with fail
  refine D7.out.mono ?_
  rintro e w8 ⟨rfl, c8⟩
  have C8 := Lib.hid (C7.out.trans c8)
  clear c8 C7 D7
  go_wp2
  go_ret
  exact ⟨rfl, C8.out⟩
end Go.Proofs.Ytjaalkjdpgnfjaa
