import Derived.Test.YtldnmpiaofppgaaDoorCShR
import Derived.Test.YtldnmpiaofppgaaDoorCShardRef
import Derived.Test.YtldnmpiaofppgaaDoorK07
import Derived.Deep.QuietTactic
import Derived.BigQuiet
import Derived.Deep.Cut
import Derived.Deep.CutRange
import Derived.Deep.CutBlock
import Derived.RegionTactic
import Derived.BigRegion
/-
  ShardActs: a shard and the document's, side by side.
-/
namespace Go.Proofs.YtldnmpiaofppgaaDoor
open Go.RowKit Verge Go.Proofs.YtldnmpiaofppgaaDoor.LT
set_option linter.unusedVariables false
set_option linter.unusedSimpArgs false
attribute [local go_sem] Oper.semAt_some

/-- a shard and the document's, alike -/
structure AcS (w W : World) (s : Nat) (g : Wh) (now : Nat) (Q P : List Ent) (rb : Nat) (l : List Dn) (L : List Tk) (ar : Option Addr) (cr : Nat) (tb : Option Addr) (tcp : Nat) : Prop where
  h : Sh w W s g now Q P
  r : R13 W rb now l L ar cr tb tcp
  q : RQ (fL L) l Q now
  u : ∀ x, x ∈ Q → x.u.d = x.d ∧ x.d < 18446744073709551616
  d : ∀ k, RS13 rb ar tb k → w.heap.size ≤ k ∧ ¬ ShS s g P k
  b : Q.length ≤ L.length
/-- an act that was laid down -/
structure ActB (w : World) (B : Nat) (x : Ac) : Prop where
  k : w.cell? ⟨B, 0, none⟩ = some (.int .i64 x.k)
  n : w.cell? ⟨B, 1, none⟩ = some (.int .i64 x.n)
  u : w.cell? ⟨B, 2, none⟩ = some (.int .u64 (x.u.i : Nat)) ∧ w.cell? ⟨B, 3, none⟩ = some (.int .i64 x.u.s) ∧ w.cell? ⟨B, 4, none⟩ = some (.int .u64 (x.u.g : Nat)) ∧ w.cell? ⟨B, 5, none⟩ = some (.int .u64 (x.u.d : Nat)) ∧ w.cell? ⟨B, 6, none⟩ = some (.int .u64 (x.u.p : Nat))
theorem ActB.kept {S : Nat → Prop} {w w' : World} {B : Nat} {x : Ac} (h : ActB w B x) (c : Ch S w w') (hn : ¬ S B) : ActB w' B x :=
  ⟨c.keeps h.k hn, c.keeps h.n hn, c.keeps h.u.1 hn, c.keeps h.u.2.1 hn, c.keeps h.u.2.2.1 hn, c.keeps h.u.2.2.2.1 hn, c.keeps h.u.2.2.2.2 hn⟩
theorem ActB.new (w : World) (x : Ac) (t : TypeId) : ActB (w.alloc (.cells #[.int .i64 x.k, .int .i64 x.n, .int .u64 (x.u.i : Nat), .int .i64 x.u.s, .int .u64 (x.u.g : Nat), .int .u64 (x.u.d : Nat), .int .u64 (x.u.p : Nat)] t)) w.heap.size x := by
  refine ⟨?_, ?_, ?_, ?_, ?_, ?_, ?_⟩ <;> (rw [cell_fresh]; rfl)
/-- with an act laid down beside them -/
structure AcB (w W : World) (s : Nat) (g : Wh) (now : Nat) (Q P : List Ent) (rb : Nat) (l : List Dn) (L : List Tk) (ar : Option Addr) (cr : Nat) (tb : Option Addr) (tcp : Nat) (B : Nat) (x : Ac) : Prop where
  a : AcS w W s g now Q P rb l L ar cr tb tcp
  x : ActB W B x
  n : ¬ ShS s g P B ∧ ¬ RS13 rb ar tb B
section
variable {S : Nat → Prop} {w W W' wa wb : World} {s now rb cr tcp cr' tcp' B b d : Nat} {g : Wh} {Q P : List Ent} {l l' : List Dn} {L : List Tk} {ar tb ar' tb' : Option Addr} {x : Ac} {v : Tk}
theorem AcS.quiet (h : AcS w W s g now Q P rb l L ar cr tb tcp) (c : Ch Nil W W') : AcS w W' s g now Q P rb l L ar cr tb tcp := ⟨h.h.quiet c, h.r.quiet c, h.q, h.u, h.d, h.b⟩
theorem AcB.quiet (h : AcB w W s g now Q P rb l L ar cr tb tcp B x) (c : Ch Nil W W') : AcB w W' s g now Q P rb l L ar cr tb tcp B x := ⟨h.a.quiet c, h.x.kept c (fun e => e), h.n⟩
theorem AcB.lt (h : AcB w W s g now Q P rb l L ar cr tb tcp B x) : B < W.heap.size := lt_of_cell h.x.k
theorem AcS.laid (h : AcS w W s g now Q P rb l L ar cr tb tcp) (c : Ch Nil W W') (hx : ActB W' W.heap.size x) : AcB w W' s g now Q P rb l L ar cr tb tcp W.heap.size x :=
  ⟨h.quiet c, hx, fun e => by have := h.h.lt e; omega, fun e => by have := h.r.lt e; omega⟩
theorem AcB.arm (h : AcB w W s g now Q P rb l L ar cr tb tcp B x) (hb : W.heap.size ≤ b) (h' : Sh w wa s g now (Q ++ [⟨b, d, v⟩]) (P ++ [⟨b, d, v⟩])) (ca : Ch (WS g P) W wa)
    (r' : R13 wb rb now (l ++ [⟨((L.length : Nat) : Int), d, spotN d now⟩]) (L ++ [v]) ar' cr' tb' tcp') (oa : ∀ k, OwnS ar' k → OwnS ar k ∨ wa.heap.size ≤ k) (ot : ∀ k, OwnS tb' k → OwnS tb k ∨ wa.heap.size ≤ k) (cb : Ch (RS13 rb ar tb) wa wb)
    (hv : v.d = d) (hd : d < 18446744073709551616) : AcB w wb s g now (Q ++ [⟨b, d, v⟩]) (P ++ [⟨b, d, v⟩]) rb (l ++ [⟨((L.length : Nat) : Int), d, spotN d now⟩]) (L ++ [v]) ar' cr' tb' tcp' B x := by
  have sa := ca.size
  have sw := h'.d.c.size
  have hB := h.lt
  have old : ∀ k, RS13 rb ar tb k → k < W.heap.size := fun k hk => h.a.r.lt hk
  have rs : ∀ k, RS13 rb ar' tb' k → RS13 rb ar tb k ∨ wa.heap.size ≤ k := fun k hk => by
    rcases hk with (hk | hk) | hk
    · exact .inl (.inl (.inl hk))
    · rcases oa k hk with e | e
      · exact .inl (.inl (.inr e))
      · exact .inr e
    · rcases ot k hk with e | e
      · exact .inl (.inr e)
      · exact .inr e
  have apart : ∀ k, RS13 rb ar tb k → ¬ ShS s g (P ++ [⟨b, d, v⟩]) k := fun k hk e => by
    have := old k hk
    rcases ShS.more e with e | e
    · exact (h.a.d k hk).2 e
    · simp only at e; omega
  refine ⟨⟨h'.later cb (fun k hk e => apart k e hk) (fun k hk => (h.a.d k hk).1), r', h.a.q.moreL (fun y hy => ?_) ⟨b, d, v⟩, fun y hy => ?_, fun k hk => ?_, by have := h.a.b; rw [List.length_append, List.length_append]; simp only [List.length_cons, List.length_nil]; omega⟩,
    (h.x.kept ca (fun e => h.n.1 (.inl e))).kept cb h.n.2, fun e => ?_, fun e => ?_⟩
  · have := (h.a.u y hy).1; have := h.a.h.d.q.a y hy; omega
  · rcases List.mem_append.1 hy with hy | hy
    · exact h.a.u y hy
    · simp at hy; subst hy; exact ⟨hv, hd⟩
  · rcases rs k hk with e | e
    · exact ⟨(h.a.d k e).1, apart k e⟩
    · exact ⟨by omega, fun e' => by have := h'.lt e'; omega⟩
  · rcases ShS.more e with e | e
    · exact h.n.1 e
    · simp only at e; omega
  · rcases rs B e with e | e
    · exact h.n.2 e
    · omega
theorem AcB.turn (h : AcB w W s g now Q P rb l L ar cr tb tcp B x) (h' : Sh w wa s g (now + 1) (leftQ Q (now + 1)) P) (ca : Ch (WS g P) W wa)
    (r' : R13 wb rb (now + 1) l' L ar' cr' tb tcp) (q' : RQ (fL L) l' (leftQ Q (now + 1)) (now + 1)) (oa : ∀ k, OwnS ar' k → OwnS ar k ∨ wa.heap.size ≤ k) (cb : Ch (RS rb ar) wa wb) :
    AcB w wb s g (now + 1) (leftQ Q (now + 1)) P rb l' L ar' cr' tb tcp B x := by
  have sa := ca.size
  have sw := h'.d.c.size
  have hB := h.lt
  have rs : ∀ k, RS13 rb ar' tb k → RS13 rb ar tb k ∨ wa.heap.size ≤ k := fun k hk => by
    rcases hk with (hk | hk) | hk
    · exact .inl (.inl (.inl hk))
    · rcases oa k hk with e | e
      · exact .inl (.inl (.inr e))
      · exact .inr e
    · exact .inl (.inr hk)
  refine ⟨⟨h'.later cb (fun k hk e => (h.a.d k (.inl e)).2 hk) (fun k hk => (h.a.d k (.inl hk)).1), r', q', fun y hy => h.a.u y (List.mem_filter.1 hy).1, fun k hk => ?_, Nat.le_trans left_le h.a.b⟩,
    (h.x.kept ca (fun e => h.n.1 (.inl e))).kept cb (fun e => h.n.2 (.inl e)), h.n.1, fun e => ?_⟩
  · rcases rs k hk with e | e
    · exact h.a.d k e
    · exact ⟨by omega, fun e' => by have := h'.lt e'; omega⟩
  · rcases rs B e with e | e
    · exact h.n.2 e
    · omega
/-- the document's, while the shard turns or arms -/
theorem AcS.ref (h : AcS w W s g now Q P rb l L ar cr tb tcp) (ca : Ch (WS g P) W wa) : R13 wa rb now l L ar cr tb tcp := h.r.kept ca (fun k hk e => (h.d k hk).2 (.inl e))
end
/-- what holds when an act has been armed, or not -/
def SyMid (w wc : World) (s : Nat) (g : Wh) (now rb B : Nat) (x : Ac) (k : Nat) : Prop :=
  ∃ (Q P : List Ent) (l : List Dn) (L : List Tk) (ar : Option Addr) (cr : Nat) (tb : Option Addr) (tcp : Nat), AcB w wc s g now Q P rb l L ar cr tb tcp B x ∧ L.length ≤ k
theorem IsMin.same {ys : List Ent} {m m' : Nat} (h : IsMin ys m) (h' : IsMin ys m') : m = m' := by
  obtain ⟨⟨x, hx, rfl⟩, h2⟩ := h
  obtain ⟨⟨y, hy, rfl⟩, h4⟩ := h'
  have := h2 y hy; have := h4 x hx; omega
end Go.Proofs.YtldnmpiaofppgaaDoor
