/-
  A list whose nodes the caller keeps in a row of its own: one pushed more; a value set; a list unlinked or put.
-/
import Derived.Test.YtmebkogkcnmkiaaListHas
import Derived.Test.YtmebkogkcnmkiaaListAlive
namespace Go.Proofs.Ytmebkogkcnmkiaa
open Go.RowKit Verge LI
set_option linter.unusedVariables false

/-- the first k nodes -/
def firsts (nb : Nat → Nat) (k : Nat) : List Nat := (List.range k).map nb
theorem firsts_succ (nb : Nat → Nat) (k b : Nat) : firsts nb k ++ [b] = firsts (upd nb k b) (k + 1) := by
  unfold firsts
  rw [List.range_succ, List.map_append, List.map_congr_left (g := upd nb k b) (fun i hi => (upd_other _ _ _ _ (by have := List.mem_range.1 hi; omega)).symm)]
  simp [upd_same]
theorem firsts_len (nb : Nat → Nat) (k : Nat) : (firsts nb k).length = k := by simp [firsts]
theorem firsts_get (nb : Nat → Nat) {k i : Nat} (h : i < k) : (firsts nb k)[i]? = some (nb i) := by simp [firsts, h]
theorem firsts_mem {nb : Nat → Nat} {k j : Nat} : j ∈ firsts nb k ↔ ∃ i, i < k ∧ nb i = j := by simp [firsts]
theorem firsts_getD (nb : Nat → Nat) {k i : Nat} (h : i < k) : (firsts nb k).getD i 0 = nb i := by rw [List.getD_eq_getElem?_getD, firsts_get nb h]; rfl
/-- a row of pointers to nodes -/
def ptrN (nb : Nat → Nat) : Nat → Value := fun i => .pointer (some ⟨nb i, 0, none⟩)
abbrev RowN (w : World) (a : Option Addr) (n cap : Nat) (nb : Nat → Nat) : Prop := Row w 35 1 a n cap (ptrN nb)

structure Pushed (w wr : World) (lb k : Nat) (nb : Nat → Nat) (V : Nat → Int) (zs : Nat → Int) (a : Option Addr) (cap : Nat) : Prop where
  l : IsL wr lb (firsts nb k) V
  r : RowN wr a k cap nb
  v : ∀ i, i < k → V (nb i) = zs i
  hl : w.heap.size ≤ lb
  hn : ∀ i, i < k → w.heap.size ≤ nb i
  hr : ∀ g, OwnS a g → w.heap.size ≤ g
  ap : ∀ g, OwnS a g → ¬ LB lb (firsts nb k) g
  c : Ch Nil w wr
section
variable {S : Nat → Prop} {w wr w5 w6 : World} {lb k b g cap cap6 H : Nat} {nb : Nat → Nat} {V zs : Nat → Int} {a : Option Addr}
theorem Pushed.more (h : Pushed w wr lb k nb V zs a cap) (hb : wr.heap.size ≤ b) (h5 : IsL w5 lb (firsts nb k ++ [b]) (upd V b (zs k))) (c5 : Ch (LB lb (firsts nb k)) wr w5)
    (c6 : Ch (OwnS a) w5 w6) (row6 : RowN w6 (some ⟨g, 0, none⟩) (k + 1) cap6 (upd nb k b)) (at6 : OwnS a g ∨ g = H) (hH : w5.heap.size ≤ H) :
    Pushed w w6 lb (k + 1) (upd nb k b) (upd V b (zs k)) zs (some ⟨g, 0, none⟩) cap6 := by
  have hlow : ∀ j, LB lb (firsts nb k) j → j < wr.heap.size := fun j hj => h.l.lt hj
  have hlb : lb < wr.heap.size := hlow lb (.inl rfl)
  have hw := h.c.size
  have hw5 := c5.size
  have sub : ∀ j, LB lb (firsts nb k ++ [b]) j → LB lb (firsts nb k) j ∨ j = b := by
    rintro j (rfl | hj)
    · exact .inl (.inl rfl)
    · rcases List.mem_append.1 hj with hj | hj
      · exact .inl (.inr hj)
      · simp at hj; exact .inr hj
  have rlow : ∀ j, OwnS a j → j < wr.heap.size := fun j hj => h.r.lt j hj
  have low5 : ∀ j, LB lb (firsts nb k ++ [b]) j → j < w5.heap.size := fun j hj => h5.lt hj
  refine ⟨?_, row6, ?_, h.hl, ?_, ?_, ?_, ?_⟩
  · rw [← firsts_succ]
    refine h5.kept c6 fun j hj e => ?_
    rcases sub j hj with hj | rfl
    · exact h.ap j e hj
    · have := rlow _ e; omega
  · intro i hi
    by_cases e : i = k
    · subst e; rw [upd_same, upd_same]
    · rw [upd_other _ _ _ _ e, upd_other _ _ _ _ (by have := hlow (nb i) (.inr (firsts_mem.2 ⟨i, by omega, rfl⟩)); omega)]
      exact h.v i (by omega)
  · intro i hi
    by_cases e : i = k
    · subst e; rw [upd_same]; omega
    · rw [upd_other _ _ _ _ e]; exact h.hn i (by omega)
  · intro j hj
    cases hj
    rcases at6 with h' | h'
    · exact h.hr _ h'
    · simp only; omega
  · intro j hj
    cases hj
    rw [← firsts_succ]
    intro hm
    have h1 := low5 _ hm
    rcases at6 with h' | h'
    · rcases sub _ hm with hj | hj
      · exact h.ap _ h' hj
      · have := rlow _ h'; simp only at hj; omega
    · simp only at h1; omega
  · refine (h.c.up c5 fun j hj => ?_).up c6 fun j hj => h.hr j hj
    rcases hj with rfl | hj
    · exact h.hl
    · obtain ⟨i, hi, rfl⟩ := firsts_mem.1 hj; exact h.hn i hi
theorem Pushed.high (h : Pushed w wr lb k nb V zs a cap) : ∀ j, LB lb (firsts nb k) j → w.heap.size ≤ j := by
  rintro j (rfl | hj)
  · exact h.hl
  · obtain ⟨i, hi, rfl⟩ := firsts_mem.1 hj; exact h.hn i hi
/-- what turns no block of ours -/
theorem Pushed.kept (h : Pushed w wr lb k nb V zs a cap) (c : Ch S wr w5) (h1 : ∀ j, LB lb (firsts nb k) j → ¬ S j) (h2 : ∀ j, OwnS a j → ¬ S j) (h3 : ∀ j, S j → w.heap.size ≤ j) : Pushed w w5 lb k nb V zs a cap :=
  ⟨h.l.kept c h1, h.r.kept c h2, h.v, h.hl, h.hn, h.hr, h.ap, h.c.up c h3⟩
theorem pushed_new (h : IsL wr lb [] V) (hl : w.heap.size ≤ lb) (c : Ch Nil w wr) (nb : Nat → Nat) (zs : Nat → Int) : Pushed w wr lb 0 nb V zs none 0 :=
  ⟨h, Row.nil _ _ _ _, fun i hi => by omega, hl, fun i hi => by omega, fun g hg => (by cases hg), fun g hg => (by cases hg), c⟩
end

/-- append of a whole row of numbers to one's own that is empty -/
theorem append_ints {P : Program} (w : World) {ops : Array Oper} {rest : List Oper} {o : Oper} {act : Act} {Q : Exit → Act → World → Prop} (hgd : o.guard = none) (s x : Operand) (t : TypeId)
    (ho : o.op = .call { callee := .builtin .append, args := #[s, x], argTypes := #[t, t] })
    (e : TypeId) (ht : P.underlying t = some (.slice e)) (hi : (P.info? e).map (fun i => (i.zero, i.size, i.bytes)) = some (some (.int .i64 0), 1, 8))
    {a : Option Addr} {c0 : Nat} {f : Nat → Value} (hs : act.eval s = .slice a 0 c0) (hrow : Row w e 1 a 0 c0 f)
    (ad : Addr) (m c : Nat) (F : Nat → Int) (hx : act.eval x = .slice (some ad) m c) (hm : 0 < m) (hm2 : m ≤ 1000000) (hc : ∀ j, j < m → w.cell? (ad.add j) = some (.int .i64 (F j))) (H : Nat) (hH : w.heap.size = H)
    (h : ∀ g cap' w', Row w' e 1 (some ⟨g, 0, none⟩) m cap' (fun i => .int .i64 (F i)) → Ch (OwnS a) w w' → (OwnS a g ∨ g = H) → g < w'.heap.size → wpList P ops Q rest (act.put o.dst (.slice (some ⟨g, 0, none⟩) m cap')) w') : wpList P ops Q (o :: rest) act w := by
  obtain ⟨i, hi', he⟩ := Option.map_eq_some_iff.1 hi
  simp only [Prod.mk.injEq] at he
  obtain ⟨hz, hsize, hbytes⟩ := he
  have hob : (Value.slice a 0 c0).ownBlock = a.map (·.block) := by cases a <;> rfl
  refine wpList_append_lies w hgd s x t ho 0 e i (.int .i64 0) 1 8 ht hi' hz hsize hbytes rfl (by omega) _ 0 _ hs hrow ad m c ((List.range m).map fun i => .int .i64 (F i)) hx (by simp) ?_ ?_ hm ?_ ?_ (Nat.zero_le _) H hH ?_
  · intro j u hu
    rw [List.getElem?_map] at hu
    by_cases hj : j < m
    · rw [List.getElem?_range hj] at hu; simp at hu; subst hu; exact hc j hj
    · rw [List.getElem?_eq_none (by simp; omega)] at hu; simp at hu
  · intro u hu; simp at hu; obtain ⟨j, -, rfl⟩ := hu; simp [Value.oneCell']
  · simp only [maxLen]; omega
  · omega
  · intro g cap' w1 hown hgrow hat hlt
    rw [hob] at hgrow hat
    rw [Nat.zero_add] at hown ⊢
    refine h g cap' w1 ?_ (Ch.of_grown hgrow) hat hlt
    unfold Row
    simpa using hown

/-- a node's value set by whoever has it -/
theorem LI.IsL.setv {w : World} {lb b : Nat} {xs : List Nat} {V : Nat → Int} (h : LI.IsL w lb xs V) (hb : b ∈ xs) (x : Int) : LI.IsL (w.setCell ⟨b, 0, none⟩ (.int .i64 x)) lb xs (upd V b x) := by
  have c : Ch (One b) w (w.setCell ⟨b, 0, none⟩ (.int .i64 x)) := (Ch.refl _ _).setB 0 _
  refine ⟨h.h.kept c (fun e => h.nl (e ▸ hb)), fun i c' hc => ?_, h.nd, h.nl⟩
  by_cases e : c' = b
  · subst e; rw [upd_same]; exact (h.n i c' hc).set0 x
  · rw [upd_other _ _ _ _ e]; exact (h.n i c' hc).kept c e

section
variable {w wr : World} {lb k cap : Nat} {nb : Nat → Nat} {V zs : Nat → Int} {a : Option Addr}
theorem Pushed.inj (h : Pushed w wr lb k nb V zs a cap) {i j : Nat} (hi : i < k) (hj : j < k) (e : nb i = nb j) : i = j :=
  h.l.nd i j (nb i) (firsts_get nb hi) (by rw [e]; exact firsts_get nb hj)
theorem Pushed.setv (h : Pushed w wr lb k nb V zs a cap) {i : Nat} (hi : i < k) (x : Int) : Pushed w (wr.setCell ⟨nb i, 0, none⟩ (.int .i64 x)) lb k nb (upd V (nb i) x) (upd zs i x) a cap := by
  have hm : nb i ∈ firsts nb k := firsts_mem.2 ⟨i, hi, rfl⟩
  have c : Ch (One (nb i)) wr (wr.setCell ⟨nb i, 0, none⟩ (.int .i64 x)) := (Ch.refl _ _).setB 0 _
  refine ⟨h.l.setv hm x, h.r.kept c (fun j hj e => h.ap j hj (.inr (e ▸ hm))), fun j hj => ?_, h.hl, h.hn, h.hr, h.ap, h.c.up c fun j e => e ▸ h.hn i hi⟩
  by_cases e : j = i
  · subst e; rw [upd_same, upd_same]
  · rw [upd_other _ _ _ _ e, upd_other _ _ _ _ (fun e' => e (h.inj hj hi e')), h.v j hj]
/-- what All and Drain tell of it -/
theorem Pushed.ints (h : Pushed w wr lb k nb V zs a cap) {w' : World} {r : Option Addr} {c : Nat} (hr : LI.RowE w' r (firsts nb k).length c (LI.valAt (firsts nb k) V)) : RowI w' r k c zs := by
  rw [firsts_len] at hr
  refine RowI.congr (RowE.ints hr) zs fun i hi => ?_
  rw [firsts_getD nb hi, h.v i hi]
theorem rowI_empty (w : World) (F : Nat → Int) : RowI (w.alloc (.cells #[] 3)) (some ⟨w.heap.size, 0, none⟩) 0 0 F :=
  ⟨rfl, .inr ⟨_, 0, #[], rfl, Nat.zero_le _, World.alloc_heap_new w _, Nat.le_refl _, Nat.zero_le _, rfl, rfl⟩⟩
theorem RowI.set {w : World} {g n cap : Nat} {F : Nat → Int} (h : RowI w (some ⟨g, 0, none⟩) n cap F) {i : Nat} (hi : i < n) (x : Int) : RowI (w.setCell ⟨g, i, none⟩ (.int .i64 x)) (some ⟨g, 0, none⟩) n cap (upd F i x) :=
  Row.set h i (by omega) _ _ (by simp [upd_same]) (fun j hj => by simp [upd_other _ _ _ _ hj])
theorem mod_u8 {t : Int} {n : Nat} (h0 : 0 ≤ t) (hn : 0 < n) : ∃ k : Nat, t % (n : Int) = k ∧ k < n := by
  obtain ⟨m, rfl⟩ := Int.eq_ofNat_of_zero_le h0
  exact ⟨m % n, by omega, Nat.mod_lt _ hn⟩
theorem Pushed.all (h : Pushed w wr lb k nb V zs a cap) (hk : k ≤ 100000) :
    Calls Try.prog 27 #[.pointer (some ⟨lb, 0, none⟩)] wr fun e w' => ∃ r c, e = .returned (.slice r k c) ∧ RowI w' r k c zs ∧ (∀ g, OwnS r g → wr.heap.size ≤ g) ∧ Pushed w w' lb k nb V zs a cap ∧ Ch Nil wr w' := by
  refine (h.l.all (by rw [firsts_len]; exact hk)).mono ?_
  rintro e w' ⟨r, c, he, hr, ho, hc⟩
  rw [firsts_len] at he
  exact ⟨r, c, he, h.ints hr, ho, h.kept hc (fun _ _ e => e) (fun _ _ e => e) (fun _ e => e.elim), hc⟩
theorem Pushed.drain (h : Pushed w wr lb k nb V zs a cap) (hk : k ≤ 100000) :
    Calls Try.prog 13 #[.pointer (some ⟨lb, 0, none⟩)] wr fun e w' => ∃ r c, e = .returned (.slice r k c) ∧ RowI w' r k c zs ∧ (∀ g, OwnS r g → wr.heap.size ≤ g) ∧ IsL w' lb [] V ∧ (∀ i, i < k → IsN w' (nb i) (V (nb i)) none none none) ∧ Ch Nil w w' ∧ Ch (LB lb (firsts nb k)) wr w' := by
  refine (h.l.drain (by rw [firsts_len]; exact hk)).mono ?_
  rintro e w' ⟨r, c, he, hr, ho, hl, hf, hc⟩
  rw [firsts_len] at he
  exact ⟨r, c, he, h.ints hr, ho, hl, fun i hi => hf _ (firsts_mem.2 ⟨i, hi, rfl⟩), h.c.up hc (fun j hj => h.high j hj), hc⟩
end
end Go.Proofs.Ytmebkogkcnmkiaa
