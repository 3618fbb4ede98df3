/-
  Firings in memory: a slice that leads to a row of firings, a row of them that the call owns, a log.
-/
import Derived.Test.YtkialefhjfoniaaGreatCellMem
import Derived.Test.YtkialefhjfoniaaGreatOwnRow
import Derived.Test.YtkialefhjfoniaaGreatListMem
import Derived.Laws.AppendOwnNone
namespace Verge
/-- a firing: timer, generation, deadline, tick -/
structure Fr where
  i : Nat
  g : Nat
  d : Nat
  t : Nat
deriving DecidableEq
/-- its numbers are uint64s -/
def Fr.ok (f : Fr) : Prop := f.i < 18446744073709551616 ∧ f.g < 18446744073709551616 ∧ f.d < 18446744073709551616 ∧ f.t < 18446744073709551616
def Oks (L : List Fr) : Prop := ∀ f, f ∈ L → f.ok
theorem Oks.filter {L : List Fr} (h : Oks L) (p : Fr → Bool) : Oks (L.filter p) := fun f hf => h f (List.mem_filter.1 hf).1
theorem Oks.append {L M : List Fr} (h : Oks L) (k : Oks M) : Oks (L ++ M) := fun f hf => (List.mem_append.1 hf).elim (h f) (k f)
end Verge
namespace Go.Proofs.YtkialefhjfoniaaGreat
open Go.RowKit Verge
set_option linter.unusedVariables false

/-- a firing's cells -/
def frc (f : Fr) : Nat → Value
  | 0 => .int .u64 (f.i : Nat)
  | 1 => .int .u64 (f.g : Nat)
  | 2 => .int .u64 (f.d : Nat)
  | _ => .int .u64 (f.t : Nat)
def frs (f : Fr) : List Value := [.int .u64 (f.i : Nat), .int .u64 (f.g : Nat), .int .u64 (f.d : Nat), .int .u64 (f.t : Nat)]
/-- a firing as a value -/
def frv (f : Fr) : Value := .agg #[.int .u64 (f.i : Nat), .int .u64 (f.g : Nat), .int .u64 (f.d : Nat), .int .u64 (f.t : Nat)]
/-- the cells of a row of firings -/
def fc (L : List Fr) (k : Nat) : Value := match L[k / 4]? with | some f => frc f (k % 4) | none => .bool false
theorem fc_at {L : List Fr} {i : Nat} {f : Fr} (h : L[i]? = some f) {j : Nat} (hj : j < 4) : fc L (i * 4 + j) = frc f j := by
  unfold fc
  rw [show (i * 4 + j) / 4 = i by omega, show (i * 4 + j) % 4 = j by omega, h]
theorem fc_left {L : List Fr} (M : List Fr) {k : Nat} (hk : k < L.length * 4) : fc (L ++ M) k = fc L k := by
  unfold fc
  rw [List.getElem?_append_left (by omega)]
theorem fc_snoc {L : List Fr} (f : Fr) {j : Nat} (hj : j < 4) : fc (L ++ [f]) (L.length * 4 + j) = frc f j :=
  fc_at (by simp) hj
theorem fc_right {L : List Fr} (M : List Fr) {k : Nat} : fc (L ++ M) (L.length * 4 + k) = fc M k := by
  unfold fc
  rw [List.getElem?_append_right (by omega), show (L.length * 4 + k) / 4 - L.length = k / 4 by omega, show (L.length * 4 + k) % 4 = k % 4 by omega]
theorem frs_get {f : Fr} {j : Nat} {u : Value} (h : (frs f)[j]? = some u) : j < 4 ∧ u = frc f j := by
  have hj : j < 4 := (List.getElem?_eq_some_iff.1 h).1
  refine ⟨hj, ?_⟩
  have : j = 0 ∨ j = 1 ∨ j = 2 ∨ j = 3 := by omega
  rcases this with rfl | rfl | rfl | rfl <;> · simp [frs] at h; exact h.symm

/-- a slice that leads to a row of firings -/
def Src (w : World) (a : Option Addr) (L : List Fr) : Prop :=
  L = [] ∨ ∃ b o, a = some ⟨b, o, none⟩ ∧ ∀ i f, L[i]? = some f → ∀ j, j < 4 → w.cell? ⟨b, o + (i * 4 + j), none⟩ = some (frc f j)
/-- a row of firings that the call owns -/
abbrev FRow (w : World) (a : Option Addr) (cap : Nat) (L : List Fr) : Prop := Row w 52 4 a L.length cap (fc L)
section
variable {w w' : World} {a : Option Addr} {L M : List Fr} {S : Nat → Prop} {cap b o : Nat}
theorem Src.nil (w : World) (a : Option Addr) : Src w a [] := .inl rfl
theorem Src.kept (h : Src w a L) (c : Ch S w w') (hn : ∀ k, OwnS a k → ¬ S k) : Src w' a L := by
  rcases h with h | ⟨b, o, rfl, h⟩
  · exact .inl h
  · exact .inr ⟨b, o, rfl, fun i f hf j hj => c.keeps (h i f hf j hj) (hn b rfl)⟩
theorem Src.form (h : Src w a L) (hp : 0 < L.length) : ∃ b o, a = some ⟨b, o, none⟩ ∧ b < w.heap.size ∧ ∀ i f, L[i]? = some f → ∀ j, j < 4 → w.cell? ⟨b, o + (i * 4 + j), none⟩ = some (frc f j) := by
  rcases h with h | ⟨b, o, e, h⟩
  · rw [h] at hp; simp at hp
  · obtain ⟨f, hf⟩ : ∃ f, L[0]? = some f := ⟨_, List.getElem?_eq_getElem hp⟩
    exact ⟨b, o, e, lt_of_cell (h 0 f hf 0 (by omega)), h⟩
theorem FRow.src (h : FRow w a cap L) : Src w a L := by
  by_cases hl : L = []
  · exact .inl hl
  · obtain ⟨g, rfl, -⟩ := h.form (List.length_pos_iff.2 hl)
    refine .inr ⟨g, 0, rfl, fun i f hf j hj => ?_⟩
    have hi := (List.getElem?_eq_some_iff.1 hf).1
    have := h.cell (i * 4 + j) (by omega)
    rw [fc_at hf hj] at this
    simpa using this
/-- the cells of the i-th firing -/
theorem src_cells {i : Nat} {f : Fr} (h : ∀ i f, L[i]? = some f → ∀ j, j < 4 → w.cell? ⟨b, o + (i * 4 + j), none⟩ = some (frc f j)) (hi : L[i]? = some f) :
    w.cell? ⟨b, o + i * 4, none⟩ = some (.int .u64 (f.i : Nat)) ∧ w.cell? ⟨b, o + i * 4 + 1, none⟩ = some (.int .u64 (f.g : Nat)) ∧ w.cell? ⟨b, o + i * 4 + 2, none⟩ = some (.int .u64 (f.d : Nat)) ∧ w.cell? ⟨b, o + i * 4 + 3, none⟩ = some (.int .u64 (f.t : Nat)) :=
  ⟨h i f hi 0 (by omega), h i f hi 1 (by omega), h i f hi 2 (by omega), h i f hi 3 (by omega)⟩
end

/-- append of one firing to a row of one's own -/
theorem append_fr {P : Program} (w : World) {ops : Array Oper} {rest : List Oper} {o : Oper} {act : Act} {Q : Exit → Act → World → Prop} (hgd : o.guard = none) (s x : Operand) (t : TypeId)
    (ho : o.op = .call { callee := .builtin .append, args := #[s, x], argTypes := #[t, t] })
    (ht : P.underlying t = some (.slice 52)) (hi : (P.info? 52).map (fun i => (i.zero, i.size, i.bytes)) = some (some (frv ⟨0, 0, 0, 0⟩), 4, 32))
    {a : Option Addr} {cap n : Nat} {L : List Fr} (hs : act.eval s = .slice a n cap) (hn' : n = L.length) (hrow : FRow w a cap L) (hn : L.length ≤ 1000000)
    (B c : Nat) (f : Fr) (T : TypeId) (hx : act.eval x = .slice (some ⟨B, 0, none⟩) 1 c) (hb : w.heap[B]? = some (.cells (frs f).toArray T (0, 0))) (H : Nat) (hH : w.heap.size = H)
    (h : ∀ g cap' w', FRow w' (some ⟨g, 0, none⟩) cap' (L ++ [f]) → Ch (OwnS a) w w' → (OwnS a g ∨ g = H) → g < w'.heap.size → wpList P ops Q rest (act.put o.dst (.slice (some ⟨g, 0, none⟩) (n + 1) cap')) w') : wpList P ops Q (o :: rest) act w := by
  subst hn'
  refine append_row w hgd s x t ho 52 (frv ⟨0, 0, 0, 0⟩) 4 32 ht hi rfl (by omega) (by omega) hs hrow hn B c (frs f) T hx rfl hb (by simp [frs, Value.oneCell']) (fc (L ++ [f])) (fun i hi => fc_left _ hi) (fun j u hu => ?_) H hH ?_
  · obtain ⟨hj, rfl⟩ := frs_get hu
    exact fc_snoc f hj
  · intro g cap' w' h1 h2 h3 h4
    refine h g cap' w' ?_ h2 h3 h4
    show Row _ _ _ _ (L ++ [f]).length _ _
    rw [List.length_append]
    exact h1
/-- append of many firings to a row of one's own -/
theorem append_frs {P : Program} (w : World) {ops : Array Oper} {rest : List Oper} {o : Oper} {act : Act} {Q : Exit → Act → World → Prop} (hgd : o.guard = none) (s x : Operand) (t : TypeId)
    (ho : o.op = .call { callee := .builtin .append, args := #[s, x], argTypes := #[t, t] })
    (ht : P.underlying t = some (.slice 52)) (hi : (P.info? 52).map (fun i => (i.zero, i.size, i.bytes)) = some (some (frv ⟨0, 0, 0, 0⟩), 4, 32))
    {a a2 : Option Addr} {cap n : Nat} {L M : List Fr} (hs : act.eval s = .slice a n cap) (hn' : n = L.length) (hrow : FRow w a cap L) (hn : L.length ≤ 1000000) (hm : M.length ≤ 1000000)
    (m c : Nat) (hx : act.eval x = .slice a2 m c) (hm' : m = M.length) (hsrc : Src w a2 M) (hc0 : a2 = none → c = 0) (H : Nat) (hH : w.heap.size = H)
    (h : ∀ a' cap' w', FRow w' a' cap' (L ++ M) → Ch (OwnS a) w w' → (∀ g, OwnS a' g → OwnS a g ∨ g = H) → wpList P ops Q rest (act.put o.dst (.slice a' (n + m) cap')) w') : wpList P ops Q (o :: rest) act w := by
  subst hn' hm'
  obtain ⟨i, hi', he⟩ := Option.map_eq_some_iff.1 hi
  simp only [Prod.mk.injEq] at he
  obtain ⟨hz, hsize, hbytes⟩ := he
  have hob : (Value.slice a L.length cap).ownBlock = a.map (·.block) := by cases a <;> rfl
  by_cases hM : M = []
  · subst hM
    have fin : wpList P ops Q rest (act.put o.dst (.slice a L.length cap)) w := by
      have := h a cap w (by rw [List.append_nil]; exact hrow) (Ch.refl _ _) (fun g hg => .inl hg)
      simpa using this
    refine wpList_plain hgd fun K hK => ?_
    have hle := hrow.len_cap
    have hrun : (Builtin.append_ #[t, t] o.type #[.slice a L.length cap, .slice a2 0 c]).run P w = .ok (.slice a L.length cap) w := by
      cases a2 with
      | none =>
        rw [hc0 rfl]
        exact run_append_owned_none (P := P) (w := w) 0 t o.type 52 i 4 ht hi' _ _ _ hrow
      | some ad =>
        rcases hrow.2 with ⟨hv, h0⟩ | ⟨g, cap', cur, hv, -, -, hnc, -⟩
        · simp only [Value.slice.injEq] at hv
          obtain ⟨rfl, e, rfl⟩ := hv
          rw [e]
          simp [Builtin.append_, run_underlying ht, sizeOf, typeInfo, hi', Builtin.lenOf, Builtin.firstCells, loadCells, loadCellsFrom]
        · simp only [Value.slice.injEq] at hv
          obtain ⟨rfl, -, rfl⟩ := hv
          simp [Builtin.append_, run_underlying ht, sizeOf, typeInfo, hi', Builtin.lenOf, Builtin.firstCells, loadCells, loadCellsFrom, hnc, storeCells]
    unfold Oper.wp
    simp [execOp, ho, resolve, invoke, builtin, hs, hx, hrun, Result.andThen]
    exact hK _ _ fin
  · have hpos := List.length_pos_iff.2 hM
    obtain ⟨b, o', rfl, hlt, hcell⟩ := hsrc.form hpos
    refine wpList_append_lies w hgd s x t ho 0 52 i _ 4 32 ht hi' hz hsize hbytes rfl (by omega) _ L.length _ hs hrow ⟨b, o', none⟩ M.length c ((List.range (M.length * 4)).map (fc M)) hx (by simp) ?_ ?_ hpos ?_ ?_ (Nat.zero_le _) H hH ?_
    · intro j u hu
      rw [List.getElem?_map] at hu
      by_cases hj : j < M.length * 4
      · rw [List.getElem?_range hj] at hu
        simp only [Option.map_some, Option.some.injEq] at hu
        subst hu
        obtain ⟨f, hf⟩ : ∃ f, M[j / 4]? = some f := ⟨_, List.getElem?_eq_getElem (by omega)⟩
        have h1 := hcell (j / 4) f hf (j % 4) (by omega)
        rw [show j / 4 * 4 + j % 4 = j by omega] at h1
        have hadd : (⟨b, o', none⟩ : Addr).add j = ⟨b, o' + j, none⟩ := by unfold Addr.add; split <;> simp_all
        rw [hadd, h1]
        unfold fc
        rw [hf]
      · rw [List.getElem?_eq_none (by simp; omega)] at hu; simp at hu
    · intro u hu
      simp only [List.mem_map, List.mem_range] at hu
      obtain ⟨j, hj, rfl⟩ := hu
      obtain ⟨f, hf⟩ : ∃ f, M[j / 4]? = some f := ⟨_, List.getElem?_eq_getElem (by omega)⟩
      unfold fc
      rw [hf]
      have : j % 4 = 0 ∨ j % 4 = 1 ∨ j % 4 = 2 ∨ j % 4 = 3 := by omega
      rcases this with e | e | e | e <;> simp [e, frc, Value.oneCell']
    · simp only [maxLen]; omega
    · omega
    · intro g cap' w1 hown hgrow hat hlt2
      rw [hob] at hgrow hat
      refine h _ cap' w1 ?_ (Ch.of_grown hgrow) (fun k hk => by cases hk; exact hat)
      show Row _ _ _ _ (L ++ M).length _ _
      unfold Row
      rw [List.length_append]
      have e : (List.range ((L.length + M.length) * 4)).map (fc (L ++ M)) = (List.range (L.length * 4)).map (fc L) ++ (List.range (M.length * 4)).map (fc M) := by
        rw [Nat.add_mul, List.range_add, List.map_append, List.map_map]
        congr 1
        · exact List.map_congr_left fun k hk => fc_left _ (List.mem_range.1 hk)
        · exact List.map_congr_left fun k hk => fc_right _
      rw [e]
      exact hown

/-- a log in block b: its slice, its firings -/
structure IsLog (w : World) (b : Nat) (a : Option Addr) (cap : Nat) (L : List Fr) : Prop where
  c : w.cell? ⟨b, 0, none⟩ = some (.slice a L.length cap)
  f : w.frozen? ⟨b, 0, none⟩ = false
  row : FRow w a cap L
  ap : ¬ OwnS a b
/-- a log's blocks -/
def LgS (b : Nat) (a : Option Addr) : Nat → Prop := fun k => k = b ∨ OwnS a k
section
variable {w w' : World} {a : Option Addr} {L M : List Fr} {S : Nat → Prop} {cap b o : Nat}
theorem IsLog.lt (h : IsLog w b a cap L) : ∀ k, LgS b a k → k < w.heap.size := by
  rintro k (rfl | hk)
  · exact lt_of_cell h.c
  · exact h.row.lt k hk
theorem IsLog.kept (h : IsLog w b a cap L) (c : Ch S w w') (hn : ∀ k, LgS b a k → ¬ S k) : IsLog w' b a cap L :=
  ⟨c.keeps h.c (hn b (.inl rfl)), (c.frozen (p := ⟨b, 0, none⟩) (lt_of_cell h.c) (hn b (.inl rfl))).trans h.f, h.row.kept c (fun k hk => hn k (.inr hk)), h.ap⟩
end
end Go.Proofs.YtkialefhjfoniaaGreat
