/-
  Lists, the document's answer, the row of nodes, the array of lists and the act under way, side by side: what turns one of them keeps the others.
-/
import Derived.Test.YtmebkogkcnmkiaaListSame
namespace Go.Proofs.Ytmebkogkcnmkiaa
open Go.RowKit Verge LI
set_option linter.unusedVariables false

structure ActH (w wr : World) (lb : Nat → Nat) (ab wb tb nt qm qr qn : Nat) (T : Nat → Int) (M R : Nat → Prop) (nb : Nat → Nat) (V Val : Nat → Int) (L K : Nat → List Nat) (ra : Nat → Option Addr) (rc : Nat → Nat) (va : Option Addr) (vc : Nat) (an : Option Addr) (cn : Nat) : Prop where
  m : Mach wr M lb qm nb V L
  f : RefL wr R wb qr Val K ra rc va vc
  r : RowN wr an qn cn nb
  x : ∀ k, k < 3 → wr.cell? ⟨ab, k, none⟩ = some (.pointer (some ⟨lb k, 0, none⟩))
  t : ∀ j, j < nt → wr.cell? ⟨tb, j, none⟩ = some (.int .i64 (T j))
  al : ab < wr.heap.size
  tl : tb < wr.heap.size
  mr : ∀ j, M j → ¬ R j
  am : ¬ M ab
  ar : ¬ R ab
  ao : ¬ OwnS an ab
  tm : ¬ M tb
  tr : ¬ R tb
  to_ : ¬ OwnS an tb
  om : ∀ j, OwnS an j → ¬ M j
  or_ : ∀ j, OwnS an j → ¬ R j
  hM : ∀ j, M j → w.heap.size ≤ j
  hR : ∀ j, R j → w.heap.size ≤ j
  hO : ∀ j, OwnS an j → w.heap.size ≤ j
  c : Ch Nil w wr
section
variable {S : Nat → Prop} {w wr w' : World} {lb : Nat → Nat} {ab wb tb nt qm qr qn qm' qr' qn' : Nat} {T : Nat → Int} {M R M' R' : Nat → Prop} {nb nb' : Nat → Nat} {V V' Val Val' : Nat → Int} {L K L' K' : Nat → List Nat} {ra ra' : Nat → Option Addr} {rc rc' : Nat → Nat} {va va' an an' : Option Addr} {vc cn vc' cn' : Nat}
theorem ActH.nil (h : ActH w wr lb ab wb tb nt qm qr qn T M R nb V Val L K ra rc va vc an cn) (c : Ch Nil wr w') : ActH w w' lb ab wb tb nt qm qr qn T M R nb V Val L K ra rc va vc an cn :=
  ⟨h.m.kept c (fun _ _ e => e), h.f.kept c (fun _ _ e => e), h.r.kept c (fun _ _ e => e), fun k hk => c.keeps (h.x k hk) (fun e => e), fun k hk => c.keeps (h.t k hk) (fun e => e), Nat.lt_of_lt_of_le h.al c.size, Nat.lt_of_lt_of_le h.tl c.size, h.mr, h.am, h.ar, h.ao, h.tm, h.tr, h.to_, h.om, h.or_, h.hM, h.hR, h.hO, h.c.trans c⟩
/-- the lists have turned -/
theorem ActH.mach (h : ActH w wr lb ab wb tb nt qm qr qn T M R nb V Val L K ra rc va vc an cn) (m' : Mach w' M' lb qm' nb' V' L') (hM' : ∀ j, M' j → M j ∨ wr.heap.size ≤ j) (c : Ch M wr w') (hnb : ∀ i, i < qn → nb' i = nb i) : ActH w w' lb ab wb tb nt qm' qr qn T M' R nb' V' Val L' K ra rc va vc an cn := by
  have s0 := h.c.size
  refine ⟨m', h.f.kept c (fun j hj e => h.mr j e hj), (h.r.kept c (fun j hj => h.om j hj)).congr _ (fun i hi => by simp only [ptrN]; rw [hnb i (by omega)]), fun k hk => c.keeps (h.x k hk) h.am, fun k hk => c.keeps (h.t k hk) h.tm, Nat.lt_of_lt_of_le h.al c.size, Nat.lt_of_lt_of_le h.tl c.size, fun j hj e => ?_, fun e => ?_, h.ar, h.ao, fun e => ?_, h.tr, h.to_, fun j hj e => ?_, h.or_, fun j hj => ?_, h.hR, h.hO, h.c.then c fun j hj e => ?_⟩
  · rcases hM' j hj with h' | h'
    · exact h.mr j h' e
    · have := h.f.lt j e; omega
  · rcases hM' _ e with h' | h'
    · exact h.am h'
    · have := h.al; omega
  · rcases hM' _ e with h' | h'
    · exact h.tm h'
    · have := h.tl; omega
  · rcases hM' _ e with h' | h'
    · exact h.om j hj h'
    · have := h.r.lt j hj; omega
  · rcases hM' _ hj with h' | h'
    · exact h.hM j h'
    · omega
  · have := h.hM j e; omega
/-- the document's answer has turned -/
theorem ActH.ref (h : ActH w wr lb ab wb tb nt qm qr qn T M R nb V Val L K ra rc va vc an cn) (f' : RefL w' R' wb qr' Val' K' ra' rc' va' vc') (hR' : ∀ j, R' j → R j ∨ wr.heap.size ≤ j) (c : Ch R wr w') : ActH w w' lb ab wb tb nt qm qr' qn T M R' nb V Val' L K' ra' rc' va' vc' an cn := by
  have s0 := h.c.size
  refine ⟨h.m.kept c (fun j hj e => h.mr j hj e), f', h.r.kept c (fun j hj => h.or_ j hj), fun k hk => c.keeps (h.x k hk) h.ar, fun k hk => c.keeps (h.t k hk) h.tr, Nat.lt_of_lt_of_le h.al c.size, Nat.lt_of_lt_of_le h.tl c.size, fun j hj e => ?_, h.am, fun e => ?_, h.ao, h.tm, fun e => ?_, h.to_, h.om, fun j hj e => ?_, h.hM, fun j hj => ?_, h.hO, h.c.then c fun j hj e => ?_⟩
  · rcases hR' j e with h' | h'
    · exact h.mr j hj h'
    · have := h.m.lt j hj; omega
  · rcases hR' _ e with h' | h'
    · exact h.ar h'
    · have := h.al; omega
  · rcases hR' _ e with h' | h'
    · exact h.tr h'
    · have := h.tl; omega
  · rcases hR' _ e with h' | h'
    · exact h.or_ j hj h'
    · have := h.r.lt j hj; omega
  · rcases hR' _ hj with h' | h'
    · exact h.hR j h'
    · omega
  · have := h.hR j e; omega
/-- the row of nodes has turned -/
theorem ActH.row (h : ActH w wr lb ab wb tb nt qm qr qn T M R nb V Val L K ra rc va vc an cn) (r' : RowN w' an' qn' cn' nb) (ho : ∀ j, OwnS an' j → OwnS an j ∨ wr.heap.size ≤ j) (c : Ch (OwnS an) wr w') : ActH w w' lb ab wb tb nt qm qr qn' T M R nb V Val L K ra rc va vc an' cn' := by
  have s0 := h.c.size
  refine ⟨h.m.kept c (fun j hj e => h.om j e hj), h.f.kept c (fun j hj e => h.or_ j e hj), r', fun k hk => c.keeps (h.x k hk) h.ao, fun k hk => c.keeps (h.t k hk) h.to_, Nat.lt_of_lt_of_le h.al c.size, Nat.lt_of_lt_of_le h.tl c.size, h.mr, h.am, h.ar, fun e => ?_, h.tm, h.tr, fun e => ?_, fun j hj e => ?_, fun j hj e => ?_, h.hM, h.hR, fun j hj => ?_, h.c.then c fun j hj e => ?_⟩
  · rcases ho _ e with h' | h'
    · exact h.ao h'
    · have := h.al; omega
  · rcases ho _ e with h' | h'
    · exact h.to_ h'
    · have := h.tl; omega
  · rcases ho _ hj with h' | h'
    · exact h.om j h' e
    · have := h.m.lt j e; omega
  · rcases ho _ hj with h' | h'
    · exact h.or_ j h' e
    · have := h.f.lt j e; omega
  · rcases ho _ hj with h' | h'
    · exact h.hO j h'
    · omega
  · have := h.hO j e; omega
/-- an act is laid -/
theorem ActH.act (h : ActH w wr lb ab wb tb nt qm qr qn T M R nb V Val L K ra rc va vc an cn) (y0 y1 y2 y3 : Int) (ty : TypeId) : ActH w (wr.alloc (.cells #[.int .i64 y0, .int .i64 y1, .int .i64 y2, .int .i64 y3] ty)) lb ab wb wr.heap.size 4 qm qr qn (fun j => [y0, y1, y2, y3].getD j 0) M R nb V Val L K ra rc va vc an cn := by
  have h' := h.nil (w' := wr.alloc (.cells #[.int .i64 y0, .int .i64 y1, .int .i64 y2, .int .i64 y3] ty)) ((Ch.refl _ _).alloc _)
  refine ⟨h'.m, h'.f, h'.r, h'.x, fun j hj => ?_, h'.al, by simp, h.mr, h.am, h.ar, h.ao, fun e => by have := h.m.lt _ e; omega, fun e => by have := h.f.lt _ e; omega, fun e => by have := h.r.lt _ e; omega, h.om, h.or_, h.hM, h.hR, h.hO, h'.c⟩
  rw [cell_fresh]
  match j, hj with
  | 0, _ => rfl
  | 1, _ => rfl
  | 2, _ => rfl
  | 3, _ => rfl
end
/-- how many stand in lists -/
def tot (L : Nat → List Nat) : Nat := (L 0).length + (L 1).length + (L 2).length
theorem tot_upd {L : Nat → List Nat} {k : Nat} (hk : k < 3) (xs : List Nat) : tot (upd L k xs) + (L k).length = tot L + xs.length := by
  unfold tot
  match k, hk with
  | 0, _ => simp [upd]; omega
  | 1, _ => simp [upd]; omega
  | 2, _ => simp [upd]; omega
theorem len_tot (L : Nat → List Nat) {k : Nat} (hk : k < 3) : (L k).length ≤ tot L := by
  unfold tot
  match k, hk with
  | 0, _ => omega
  | 1, _ => omega
  | 2, _ => omega
/-- between two acts -/
structure Acts (w wr : World) (lb : Nat → Nat) (ab wb i q : Nat) (M R : Nat → Prop) (nb : Nat → Nat) (V Val : Nat → Int) (L : Nat → List Nat) (ra : Nat → Option Addr) (rc : Nat → Nat) (va : Option Addr) (vc : Nat) (an : Option Addr) (cn : Nat) : Prop where
  h : ∃ tb nt T, ActH w wr lb ab wb tb nt q q q T M R nb V Val L L ra rc va vc an cn
  v : ∀ j, j < q → V (nb j) = Val j
  q : q ≤ i
  t : tot L ≤ i
theorem ActH.lst {w wr : World} {lb : Nat → Nat} {ab wb tb nt q : Nat} {T : Nat → Int} {M R : Nat → Prop} {nb : Nat → Nat} {V Val : Nat → Int} {L : Nat → List Nat} {ra : Nat → Option Addr} {rc : Nat → Nat} {va an : Option Addr} {vc cn : Nat}
    (h : ActH w wr lb ab wb tb nt q q q T M R nb V Val L L ra rc va vc an cn) (v : ∀ j, j < q → V (nb j) = Val j) : LSt wr M R lb q nb V Val L wb ra rc va vc an cn ab := ⟨h.m, h.f, v, h.r, h.x⟩
/-- three lists by their number -/
def three (l0 l1 l2 : Nat) : Nat → Nat := fun k => if k = 0 then l0 else if k = 1 then l1 else l2
theorem acts_new {w w4 : World} {l0 l1 l2 : Nat} {V : Nat → Int} (h0 : IsL w4 l0 [] V) (h1 : IsL w4 l1 [] V) (h2 : IsL w4 l2 [] V) (n1 : l0 ≠ l1) (n2 : l0 ≠ l2) (n3 : l1 ≠ l2) (g0 : w.heap.size ≤ l0) (g1 : w.heap.size ≤ l1) (g2 : w.heap.size ≤ l2) (c : Ch Nil w w4) (ta tw : TypeId) (Val : Nat → Int) (nb : Nat → Nat) :
    Acts w ((w4.alloc (.cells #[.pointer (some ⟨l0, 0, none⟩), .pointer (some ⟨l1, 0, none⟩), .pointer (some ⟨l2, 0, none⟩)] ta)).alloc (.cells #[.slice none 0 0, .slice none 0 0, .slice none 0 0, .slice none 0 0] tw)) (three l0 l1 l2) w4.heap.size (w4.heap.size + 1) 0 0 (fun j => j = l0 ∨ j = l1 ∨ j = l2) (One (w4.heap.size + 1)) nb V Val (fun _ => []) (fun _ => none) (fun _ => 0) none 0 none 0 := by
  have s0 := c.size
  have k0 : l0 < w4.heap.size := h0.lt (.inl rfl)
  have k1 : l1 < w4.heap.size := h1.lt (.inl rfl)
  have k2 : l2 < w4.heap.size := h2.lt (.inl rfl)
  obtain ⟨wa, hwa⟩ : ∃ wa, wa = w4.alloc (.cells #[.pointer (some ⟨l0, 0, none⟩), .pointer (some ⟨l1, 0, none⟩), .pointer (some ⟨l2, 0, none⟩)] ta) := ⟨_, rfl⟩
  have sa : wa.heap.size = w4.heap.size + 1 := by rw [hwa]; simp
  have ca : Ch Nil w4 wa := by rw [hwa]; exact (Ch.refl _ _).alloc _
  have xa : ∀ k, k < 3 → wa.cell? ⟨w4.heap.size, k, none⟩ = some (.pointer (some ⟨three l0 l1 l2 k, 0, none⟩)) := by
    intro k hk
    rw [hwa, cell_fresh]
    match k, hk with
    | 0, _ => rfl
    | 1, _ => rfl
    | 2, _ => rfl
  rw [← hwa]
  clear hwa
  obtain ⟨wz, hwz⟩ : ∃ wz, wz = wa.alloc (.cells #[.slice none 0 0, .slice none 0 0, .slice none 0 0, .slice none 0 0] tw) := ⟨_, rfl⟩
  have cz : Ch Nil wa wz := by rw [hwz]; exact (Ch.refl _ _).alloc _
  have sz : wz.heap.size = w4.heap.size + 2 := by rw [hwz]; simp; omega
  have rz : ∀ k, k < 4 → wz.cell? ⟨w4.heap.size + 1, k, none⟩ = some (.slice none 0 0) := by
    intro k hk
    rw [hwz, ← sa, cell_fresh]
    match k, hk with
    | 0, _ => rfl
    | 1, _ => rfl
    | 2, _ => rfl
    | 3, _ => rfl
  have bz : Blk wz (w4.heap.size + 1) := by rw [hwz, ← sa]; exact Blk.new _ _ _
  rw [← hwz]
  clear hwz
  have cc : Ch Nil w4 wz := ca.trans cz
  have e0 : three l0 l1 l2 0 = l0 := rfl
  have e1 : three l0 l1 l2 1 = l1 := rfl
  have e2 : three l0 l1 l2 2 = l2 := rfl
  refine ⟨⟨w4.heap.size, 0, fun _ => 0, ⟨⟨?_, ?_, ?_, ?_, ?_, ?_, ?_, ?_, ?_, ?_⟩, ⟨fun k hk => rz k (by omega), rz 3 (by omega), bz, fun k hk => Row.nil _ _ _ _, Row.nil _ _ _ _, fun _ _ _ => ⟨rfl, rfl⟩, ?_, rfl, ?_, ?_, ?_, ?_, ?_, ?_, ?_⟩, Row.nil _ _ _ _, fun k hk => cz.keeps (xa k hk) (fun e => e), ?_, by omega, by omega, ?_, ?_, ?_, ?_, ?_, ?_, ?_, ?_, ?_, ?_, ?_, ?_, c.trans cc⟩⟩, ?_, Nat.le_refl _, Nat.le_refl _⟩
  · intro k hk
    match k, hk with
    | 0, _ => exact h0.kept cc (fun _ _ e => e)
    | 1, _ => exact h1.kept cc (fun _ _ e => e)
    | 2, _ => exact h2.kept cc (fun _ _ e => e)
  · intro i hi; omega
  · intro k hk i hi; cases hi
  · intro i j hi; omega
  · intro k k' i _ _ hi; cases hi
  · intro i k hi; omega
  · intro k k' hk hk'
    match k, hk, k', hk' with
    | 0, _, 0, _ => intro _; rfl
    | 0, _, 1, _ => intro e; exact absurd e n1
    | 0, _, 2, _ => intro e; exact absurd e n2
    | 1, _, 0, _ => intro e; exact absurd e.symm n1
    | 1, _, 1, _ => intro _; rfl
    | 1, _, 2, _ => intro e; exact absurd e n3
    | 2, _, 0, _ => intro e; exact absurd e.symm n2
    | 2, _, 1, _ => intro e; exact absurd e.symm n3
    | 2, _, 2, _ => intro _; rfl
  · intro k hk
    match k, hk with
    | 0, _ => exact .inl rfl
    | 1, _ => exact .inr (.inl rfl)
    | 2, _ => exact .inr (.inr rfl)
  · intro i hi; omega
  · intro j hj; omega
  · intro k hk i hi; cases hi
  · intro k hk j e; cases e
  · intro j e; cases e
  · intro k hk e; cases e
  · intro e; cases e
  · intro k k' j _ _ e; cases e
  · intro k j _ e; cases e
  · intro j hj; have : j = w4.heap.size + 1 := hj; omega
  · intro j hj; omega
  · intro j hj e; have : j = w4.heap.size + 1 := e; omega
  · intro e; omega
  · intro e; have : w4.heap.size = w4.heap.size + 1 := e; omega
  · intro e; cases e
  · intro e; omega
  · intro e; have : w4.heap.size = w4.heap.size + 1 := e; omega
  · intro e; cases e
  · intro j e; cases e
  · intro j e; cases e
  · intro j hj; omega
  · intro j hj; have : j = w4.heap.size + 1 := hj; omega
  · intro j e; cases e
  · intro j hj; omega
end Go.Proofs.Ytmebkogkcnmkiaa
