/-
  The document's pipe in memory, and what each of its calls makes of it.
-/
import Derived.Test.YtpddiphknpplcaaPipeR
import Derived.Test.YtpddiphknpplcaaListInts
namespace Go.Proofs.Ytpddiphknpplcaa.PI
open Go.RowKit Verge
attribute [local go_sem] Oper.semAt_some
set_option linter.unusedVariables false
set_option linter.unusedSimpArgs false

/-- the document's pipe in block vb: its room, its things, is it shut, the greatest spill; its blocks -/
structure Rf (W : World) (vb n : Nat) (q : List Int) (sh : Bool) (m : Nat) (a : Option Addr) (cp : Nat) : Prop where
  n0 : W.cell? ⟨vb, 0, none⟩ = some (.int .i64 n)
  l : W.cell? ⟨vb, 1, none⟩ = some (.slice a q.length cp)
  s : W.cell? ⟨vb, 2, none⟩ = some (.bool sh)
  m0 : W.cell? ⟨vb, 3, none⟩ = some (.int .i64 m)
  k : Blk W vb
  r : Row W 3 1 a q.length cp (qV q)
  ne : ¬ OwnS a vb
def RB (vb : Nat) (a : Option Addr) : Nat → Prop := fun k => k = vb ∨ OwnS a k
section
variable {S : Nat → Prop} {W W' : World} {vb n m cp : Nat} {q : List Int} {sh : Bool} {a : Option Addr}
theorem Rf.lt (h : Rf W vb n q sh m a cp) {k : Nat} (hk : RB vb a k) : k < W.heap.size := by
  rcases hk with rfl | hk
  · exact h.k.lt
  · exact h.r.lt k hk
theorem Rf.kept (h : Rf W vb n q sh m a cp) (c : Ch S W W') (hn : ∀ k, RB vb a k → ¬ S k) : Rf W' vb n q sh m a cp :=
  ⟨c.keeps h.n0 (hn vb (.inl rfl)), c.keeps h.l (hn vb (.inl rfl)), c.keeps h.s (hn vb (.inl rfl)), c.keeps h.m0 (hn vb (.inl rfl)), h.k.kept c (hn vb (.inl rfl)), h.r.kept c (fun k hk => hn k (.inr hk)), h.ne⟩
theorem Rf.setS (h : Rf W vb n q sh m a cp) (b : Bool) : Rf (W.setCell ⟨vb, 2, none⟩ (.bool b)) vb n q b m a cp :=
  ⟨(cell_ne (by omega) _).trans h.n0, (cell_ne (by omega) _).trans h.l, World.cell?_setCell_same _ _ _ h.s, (cell_ne (by omega) _).trans h.m0, h.k.set _ _,
    h.r.kept (S := One vb) ((Ch.refl _ _).setB 2 _) (fun k hk e => h.ne (by have : k = vb := e; subst this; exact hk)), h.ne⟩
theorem Rf.setM (h : Rf W vb n q sh m a cp) (x : Nat) : Rf (W.setCell ⟨vb, 3, none⟩ (.int .i64 x)) vb n q sh x a cp :=
  ⟨(cell_ne (by omega) _).trans h.n0, (cell_ne (by omega) _).trans h.l, (cell_ne (by omega) _).trans h.s, World.cell?_setCell_same _ _ _ h.m0, h.k.set _ _,
    h.r.kept (S := One vb) ((Ch.refl _ _).setB 3 _) (fun k hk e => h.ne (by have : k = vb := e; subst this; exact hk)), h.ne⟩
/-- its row made anew, by a call that turned the old one alone -/
theorem Rf.setL (h : Rf W vb n q sh m a cp) {q' : List Int} {g cp' : Nat} (c : Ch (OwnS a) W W') (row : Row W' 3 1 (some ⟨g, 0, none⟩) q'.length cp' (qV q')) (hg : OwnS a g ∨ W.heap.size ≤ g) :
    Rf (W'.setCell ⟨vb, 1, none⟩ (.slice (some ⟨g, 0, none⟩) q'.length cp')) vb n q' sh m (some ⟨g, 0, none⟩) cp' ∧ Ch (RB vb a) W (W'.setCell ⟨vb, 1, none⟩ (.slice (some ⟨g, 0, none⟩) q'.length cp')) := by
  have hne : g ≠ vb := by
    rintro rfl
    rcases hg with e | e
    · exact h.ne e
    · have := h.k.lt; omega
  refine ⟨⟨(cell_ne (by omega) _).trans (c.keeps h.n0 h.ne), World.cell?_setCell_same _ _ _ (c.keeps h.l h.ne), (cell_ne (by omega) _).trans (c.keeps h.s h.ne), (cell_ne (by omega) _).trans (c.keeps h.m0 h.ne), (h.k.kept c h.ne).set _ _,
    row.kept (S := One vb) ((Ch.refl _ _).setB 1 _) (fun k hk e => ?_), fun e => ?_⟩, ?_⟩
  · have h1 : g = k := by simpa [OwnS] using hk
    have h2 : k = vb := e
    omega
  · have h1 : g = vb := by simpa [OwnS] using e
    exact hne h1
  · exact (c.mono (fun _ _ e => .inr e)).set (p := ⟨vb, 1, none⟩) (fun _ => .inl rfl) _

set_option maxHeartbeats 1000000 in
theorem Rf.spilled (h : Rf W vb n q sh m a cp) (hq : q.length ≤ 100000) (hn : n ≤ 100000) :
    Calls Try.prog 16 #[.pointer (some ⟨vb, 0, none⟩)] W fun e W' => e = .returned (.int .i64 ((q.length - n : Nat) : Int)) ∧ Ch Nil W W' := by
  have c0 := h.n0
  have c1 := h.l
  have lc := h.r.len_cap
  obtain ⟨l, hl⟩ : ∃ l, l = q.length := ⟨_, rfl⟩
  rw [← hl] at c1 hq lc ⊢
  clear h hl
  by_cases hc : n < l
  · obtain ⟨d, hd⟩ : ∃ d : Nat, l - n = d := ⟨_, rfl⟩
    have e1 : (l : Int) - (n : Int) = (d : Int) := by omega
    have e2 : IntKind.i64.wrap (d : Int) = (d : Int) := IntWalk.i64_in _ (by omega)
    have e3 : (n : Int) < (l : Int) := by omega
    rw [hd]
    clear hd
    go_enter Try.func16, Try.ntmps16
    go_wp2
    go_quiet (fail)
    go_wp2
    go_quiet (fail)
    go_wp2
    go_ret
    exact ⟨rfl, ((Ch.refl _ _).drewN _).drewN _⟩
  · have e3 : ¬ (n : Int) < (l : Int) := by omega
    rw [show l - n = 0 by omega]
    go_enter Try.func16, Try.ntmps16
    go_wp2
    go_quiet (fail)
    go_wp2
    go_ret
    exact ⟨rfl, (Ch.refl _ _).drewN _⟩
theorem Rf.putShut (h : Rf W vb n q true m a cp) (v : Int) :
    Calls Try.prog 10 #[.pointer (some ⟨vb, 0, none⟩), .int .i64 v] W fun e W' => e = .returned (.tuple #[.bool false, .bool true]) ∧ W = W' := by
  have c2 := h.s
  clear h
  go_enter Try.func10, Try.ntmps10
  go_wp2
  go_ret2
  exact ⟨rfl, rfl⟩
end
end Go.Proofs.Ytpddiphknpplcaa.PI
