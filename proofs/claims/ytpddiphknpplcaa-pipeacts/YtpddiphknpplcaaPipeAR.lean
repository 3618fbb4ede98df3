/-
  A pipe and the document's, side by side.
-/
import Derived.Test.YtpddiphknpplcaaPipeRef2
import Derived.Test.YtpddiphknpplcaaIsTab
namespace Go.Proofs.Ytpddiphknpplcaa.PI
open Go.RowKit Verge
set_option linter.unusedVariables false

/-- both, apart from each other; what each has -/
structure PaG (w wr : World) (pb cb n vb : Nat) (q : List Int) (m : Nat) (sh : Bool) (S : Nat → Prop) (q2 : List Int) (m2 : Nat) (sh2 : Bool) (a : Option Addr) (cp : Nat) : Prop where
  p : PRS w wr pb cb n q m sh S
  r : Rf wr vb n q2 sh2 m2 a cp
  ap : ∀ j, S j → ¬ RB vb a j
  hr : ∀ j, RB vb a j → w.heap.size ≤ j
section
variable {w wr W' : World} {pb cb n vb m m' m2 cp cp' : Nat} {q q' q2 q2' : List Int} {sh sh' sh2 sh2' : Bool} {S S' : Nat → Prop} {a a' : Option Addr} {m2' : Nat}
theorem PaG.pipe (h : PaG w wr pb cb n vb q m sh S q2 m2 sh2 a cp) (p' : PRS w W' pb cb n q' m' sh' S') (nx : Nxt wr W' S S') : PaG w W' pb cb n vb q' m' sh' S' q2 m2 sh2 a cp :=
  ⟨p', h.r.kept nx.c (fun j hj hs => h.ap j hs hj), fun j hj hr => by
    rcases nx.s j hj with e | e
    · exact h.ap j e hr
    · have := h.r.lt hr; omega, h.hr⟩
theorem PaG.ref (h : PaG w wr pb cb n vb q m sh S q2 m2 sh2 a cp) (r' : Rf W' vb n q2' sh2' m2' a' cp') (c : Ch (RB vb a) wr W') (hg : ∀ j, OwnS a' j → OwnS a j ∨ wr.heap.size ≤ j) : PaG w W' pb cb n vb q m sh S q2' m2' sh2' a' cp' := by
  have hs := h.p.c.size
  refine ⟨h.p.kept c (h.p.c.then c (fun i hi e => by have := h.hr i e; omega)) (fun j hj e => h.ap j hj e), r', ?_, ?_⟩
  · rintro j hj (rfl | e)
    · exact h.ap _ hj (.inl rfl)
    · rcases hg j e with e | e
      · exact h.ap j hj (.inr e)
      · have := h.p.lt hj; omega
  · rintro j (rfl | e)
    · exact h.hr _ (.inl rfl)
    · rcases hg j e with e | e
      · exact h.hr j (.inr e)
      · omega
theorem PaG.quiet (h : PaG w wr pb cb n vb q m sh S q2 m2 sh2 a cp) (c : Ch Nil wr W') : PaG w W' pb cb n vb q m sh S q2 m2 sh2 a cp :=
  ⟨(h.p.quiet c).1, h.r.kept c (fun _ _ e => e), h.ap, h.hr⟩
end
theorem tab_act11 {w : World} {ad : Option Addr} {len cap k : Nat} (hv : IsTab [.i .i64, .i .i64] w ad len cap) (hk : k < len) : ∃ (x : Addr) (z v : Int), ad = some x ∧ len ≤ cap ∧ cap ≤ maxLen ∧ w.cell? (x.add (k * 2)) = some (.int .i64 z) ∧ w.cell? ⟨(x.add (k * 2)).block, (x.add (k * 2)).off + 1, none⟩ = some (.int .i64 v) := by
  rcases hv with ⟨-, h0, -⟩ | ⟨x, rfl, hcap1, hcap2, hx⟩
  · omega
  obtain ⟨_, q0, y0, rfl, wy⟩ := hx k hk 0 _ rfl
  obtain ⟨_, q1, y1, rfl, wy1⟩ := hx k hk 1 _ rfl
  exact ⟨x, y0, y1, rfl, hcap1, hcap2, q0, cell_at (k * 2) 1 q1⟩
/-- what holds between two acts -/
structure PaR (w wr : World) (pb cb n vb : Nat) (q : List Int) (m : Nat) (sh : Bool) (S : Nat → Prop) (a : Option Addr) (cp : Nat) (k : Nat) : Prop where
  g : PaG w wr pb cb n vb q m sh S q m sh a cp
  b : q.length ≤ k
  u : m ≤ k
def PaM (w wr : World) (pb cb n vb k : Nat) : Prop := ∃ q m sh S a cp, PaR w wr pb cb n vb q m sh S a cp k
end Go.Proofs.Ytpddiphknpplcaa.PI
