/-
  WheelExact: what holds in its loops: a wheel, the row of its entries, a map of their states.
-/
import Derived.Test.YtkdkkgbjfabifaaDoorWheelRem
import Derived.Test.YtkdkkgbjfabifaaDoorWheelMap
import Derived.Test.YtkdkkgbjfabifaaDoorIsRow
namespace Go.Proofs.YtkdkkgbjfabifaaDoor
open Go.RowKit Verge LP
set_option linter.unusedVariables false
/-- the i-th number -/
def dzE (zs : List Int) (i : Nat) : Nat := (zs.getD i 0).toNat
/-- all entries that were made, those that are there (their state is 0), the map of the states, the row of the entries -/
structure Ex (w : World) (g : Wh) (mb n0 : Nat) (zs : List Int) (n mm now : Nat) (P Q : List Ent) (F : Nat → Int) (ar : Option Addr) (cr : Nat) (W : World) : Prop where
  d : Drv w W g now Q P
  r : RowX W ar n cr P
  z : MapZ W mb mm F
  ln : P.length = n
  pe : ∀ i x, P[i]? = some x → x.d = n0 + 1 + dzE zs i ∧ x.u = (i : Int)
  qe : Q = P.filter (fun x => decide (F x.u.toNat = 0))
  ro : ∀ k, OwnS ar k → w.heap.size ≤ k ∧ ¬ WS g P k ∧ k ≠ mb
  mo : w.heap.size ≤ mb ∧ ¬ WS g P mb
section
variable {w W W' w5 w6 : World} {g : Wh} {mb n0 n mm now : Nat} {zs : List Int} {P Q : List Ent} {F : Nat → Int} {ar : Option Addr} {cr : Nat} {x : Ent}
theorem Ex.ql (h : Ex w g mb n0 zs n mm now P Q F ar cr W) : Q.length ≤ n := by rw [h.qe, ← h.ln]; exact List.length_filter_le _ _
theorem Ex.quiet (h : Ex w g mb n0 zs n mm now P Q F ar cr W) (c : Ch Nil W W') : Ex w g mb n0 zs n mm now P Q F ar cr W' :=
  ⟨h.d.quiet c, Row.kept h.r c (fun _ _ e => e), h.z.kept c (fun e => e), h.ln, h.pe, h.qe, h.ro, h.mo⟩
theorem Ex.inj (h : Ex w g mb n0 zs n mm now P Q F ar cr W) {y : Ent} (hx : x ∈ P) (hy : y ∈ P) (e : x.u = y.u) : x = y := by
  obtain ⟨i, hi⟩ := List.mem_iff_getElem?.1 hx
  obtain ⟨j, hj⟩ := List.mem_iff_getElem?.1 hy
  have h1 := (h.pe i x hi).2
  have h2 := (h.pe j y hj).2
  obtain rfl : i = j := by omega
  rw [hi] at hj; cases hj; rfl
theorem Ex.mem (h : Ex w g mb n0 zs n mm now P Q F ar cr W) : x ∈ Q ↔ x ∈ P ∧ F x.u.toNat = 0 := by rw [h.qe]; simp
/-- an entry more -/
theorem Ex.more {gb cr6 : Nat} (h : Ex w g mb n0 zs n 0 now P Q (fun _ => 0) ar cr W) (hb : W.heap.size ≤ x.e) (hd : x.d = n0 + 1 + dzE zs n) (hu : x.u = (n : Int)) (d5 : Drv w w5 g now (Q ++ [x]) (P ++ [x])) (c5 : Ch (WS g P) W w5) (c6 : Ch (OwnS ar) w5 w6)
    (row6 : RowX w6 (some ⟨gb, 0, none⟩) (n + 1) cr6 (P ++ [x])) (at6 : OwnS ar gb ∨ w5.heap.size ≤ gb) : Ex w g mb n0 zs (n + 1) 0 now (P ++ [x]) (Q ++ [x]) (fun _ => 0) (some ⟨gb, 0, none⟩) cr6 w6 := by
  have hx5 := (d5.q.w.ent_lt (x := x) (by simp)).2
  have hrl := Row.lt h.r
  have hml := h.z.lt
  have hw := h.d.c.size
  have hw5 := c5.size
  have own : ∀ k, OwnS ar k → ¬ WS g (P ++ [x]) k := fun k hk e => by
    have := hrl k hk
    rcases WS.more e with e | e
    · exact (h.ro k hk).2.1 e
    · omega
  refine ⟨d5.later c6 (fun k hk e => own k e hk) (fun k hk => (h.ro k hk).1), row6, (h.z.kept c5 h.mo.2).kept c6 (fun e => (h.ro _ e).2.2 rfl), by rw [List.length_append, h.ln]; rfl, fun i y hy => ?_, ?_, fun k hk => ?_, h.mo.1, fun e => ?_⟩
  · by_cases hi : i < P.length
    · rw [List.getElem?_append_left hi] at hy; exact h.pe i y hy
    · have := (List.getElem?_eq_some_iff.1 hy).1
      obtain rfl : i = P.length := by simp at this; omega
      simp at hy; subst hy
      rw [h.ln]; exact ⟨hd, hu⟩
  · rw [h.qe]; simp
  · cases hk
    rcases at6 with e | e
    · exact ⟨(h.ro _ e).1, own _ e, (h.ro _ e).2.2⟩
    · refine ⟨by simp only; omega, fun e' => ?_, by simp only; omega⟩
      have := d5.lt e'
      simp only at this; omega
  · rcases WS.more e with e | e
    · exact h.mo.2 e
    · omega
theorem valAt_snoc {i : Nat} (hi : i < P.length) : valAt ((P ++ [x]).map nd) pre i = valAt (P.map nd) pre i := by
  unfold valAt
  rw [List.getD_eq_getElem?_getD, List.getD_eq_getElem?_getD, List.map_append, List.getElem?_append_left (by simpa using hi)]
theorem valAt_last : valAt ((P ++ [x]).map nd) pre P.length = .pointer (some ⟨x.e, 0, none⟩) := valAt_get (by simp)
/-- one was removed, or not; its state is 1 then -/
theorem Ex.rem {k : Nat} (h : Ex w g mb n0 zs n mm now P Q F ar cr W) (hk : P[k]? = some x) {Q' : List Ent} (hq : Q' = P.filter (fun y => decide (F y.u.toNat = 0 ∧ y ≠ x))) (d5 : Drv w w5 g now Q' P) (c5 : Ch (WS g P) W w5) (hz : MapZ w6 mb (mm + 1) (upd F k 1)) (c6 : Ch (One mb) w5 w6) : Ex w g mb n0 zs n (mm + 1) now P Q' (upd F k 1) ar cr w6 := by
  have hu := (h.pe k x hk).2
  have hxP := List.mem_of_getElem? hk
  refine ⟨d5.later c6 (fun j hj e => h.mo.2 (e ▸ hj)) (fun j e => e ▸ h.mo.1), (Row.kept h.r c5 (fun j hj => (h.ro j hj).2.1)).kept c6 (fun j hj e => (h.ro j hj).2.2 e), hz, h.ln, h.pe, ?_, h.ro, h.mo⟩
  rw [hq]
  refine List.filter_congr fun y hy => ?_
  rw [decide_eq_decide]
  by_cases e : y = x
  · subst e
    rw [show y.u.toNat = k by omega, upd_same]
    simp
  · have : y.u.toNat ≠ k := fun e' => e (h.inj hy hxP (by
      obtain ⟨i, hi⟩ := List.mem_iff_getElem?.1 hy
      have := (h.pe i y hi).2; omega))
    rw [upd_other _ _ _ _ this]
    simp [e]
theorem Ex.wo (h : Ex w g mb n0 zs n mm now P Q F ar cr W) : woQ Q x = P.filter (fun y => decide (F y.u.toNat = 0 ∧ y ≠ x)) := by
  rw [h.qe]; unfold woQ; rw [List.filter_filter]
  refine List.filter_congr fun y _ => ?_
  by_cases h1 : F y.u.toNat = 0 <;> by_cases h2 : y = x <;> simp [h1, h2]
theorem Ex.still (h : Ex w g mb n0 zs n mm now P Q F ar cr W) (hn : F x.u.toNat ≠ 0) : Q = P.filter (fun y => decide (F y.u.toNat = 0 ∧ y ≠ x)) := by
  rw [h.qe]
  refine List.filter_congr fun y _ => ?_
  rw [decide_eq_decide]
  refine ⟨fun e => ⟨e, fun e' => hn (e' ▸ e)⟩, fun e => e.1⟩
/-- states of those that are due set to 2 -/
def markF (F : Nat → Int) (ys : List Ent) : Nat → Int := fun i => if ys.any (fun x => decide (x.u.toNat = i)) then 2 else F i
theorem markF_nil : markF F [] = F := by funext i; simp [markF]
theorem markF_more {ys : List Ent} : upd (markF F ys) x.u.toNat 2 = markF F (ys ++ [x]) := by
  funext i
  by_cases e : i = x.u.toNat
  · subst e; rw [upd_same]; simp [markF]
  · rw [upd_other _ _ _ _ e]
    unfold markF
    rw [List.any_append]
    have : decide (x.u.toNat = i) = false := by simpa using fun e' => e e'.symm
    simp [this]
/-- within a tick: those that are due are marked one by one -/
structure ExI (w : World) (g : Wh) (mb n0 : Nat) (zs : List Int) (n mm now : Nat) (P Q : List Ent) (F : Nat → Int) (ar : Option Addr) (cr : Nat) (ag : Option Addr) (cg j : Nat) (W : World) : Prop where
  d : Drv w W g (now + 1) (leftQ Q (now + 1)) P
  r : RowX W ar n cr P
  z : MapZ W mb mm (markF F ((dueQ Q (now + 1)).take j))
  gr : RowI W ag (dueQ Q (now + 1)).length cg (uAt (dueQ Q (now + 1)))
  ln : P.length = n
  pe : ∀ i x, P[i]? = some x → x.d = n0 + 1 + dzE zs i ∧ x.u = (i : Int)
  qe : Q = P.filter (fun x => decide (F x.u.toNat = 0))
  ro : ∀ k, OwnS ar k → w.heap.size ≤ k ∧ ¬ WS g P k ∧ k ≠ mb
  mo : w.heap.size ≤ mb ∧ ¬ WS g P mb
  go : ∀ k, OwnS ag k → k ≠ mb
  nd : Q.Nodup
theorem ExI.inj {ag : Option Addr} {cg j : Nat} {y : Ent} (h : ExI w g mb n0 zs n mm now P Q F ar cr ag cg j W) (hx : x ∈ P) (hy : y ∈ P) (e : x.u.toNat = y.u.toNat) : x = y := by
  obtain ⟨i, hi⟩ := List.mem_iff_getElem?.1 hx
  obtain ⟨j, hj⟩ := List.mem_iff_getElem?.1 hy
  have h1 := (h.pe i x hi).2
  have h2 := (h.pe j y hj).2
  obtain rfl : i = j := by omega
  rw [hi] at hj; cases hj; rfl
/-- the j-th that is due: its number, its place, its state -/
theorem ExI.at {ag : Option Addr} {cg j : Nat} (h : ExI w g mb n0 zs n mm now P Q F ar cr ag cg j W) (hx : (dueQ Q (now + 1))[j]? = some x) : ∃ i : Nat, x.u = (i : Int) ∧ i < n ∧ n0 + 1 + dzE zs i = now + 1 ∧ markF F ((dueQ Q (now + 1)).take j) i = 0 := by
  have hm := List.mem_of_getElem? hx
  have hq := due_mem x hm
  have hP : x ∈ P ∧ F x.u.toNat = 0 := by rw [h.qe] at hq; simpa using hq
  obtain ⟨i, hi⟩ := List.mem_iff_getElem?.1 hP.1
  have hpe := h.pe i x hi
  have hd := due_at x hm
  refine ⟨i, hpe.2, by rw [← h.ln]; exact (List.getElem?_eq_some_iff.1 hi).1, by omega, ?_⟩
  unfold markF
  have hF : F i = 0 := by have := hP.2; rwa [hpe.2, Int.toNat_natCast] at this
  rw [hF]
  split
  · rename_i ha
    exfalso
    obtain ⟨y, hy, e⟩ := List.any_eq_true.1 ha
    have hyd : y ∈ dueQ Q (now + 1) := List.mem_of_mem_take hy
    have hyP : y ∈ P := by have := due_mem y hyd; rw [h.qe] at this; exact (List.mem_filter.1 this).1
    have e' : y.u.toNat = i := by simpa using e
    obtain rfl := h.inj hP.1 hyP (by rw [hpe.2, Int.toNat_natCast]; exact e'.symm)
    obtain ⟨m, hm'⟩ := List.mem_iff_getElem?.1 hy
    rw [List.getElem?_take] at hm'
    split at hm'
    · have hjl := (List.getElem?_eq_some_iff.1 hx).1
      have hnd : (dueQ Q (now + 1)).Nodup := h.nd.filter _
      have := (List.getElem?_inj hjl hnd).1 (hx.trans hm'.symm); omega
    · cases hm'
  · rfl
theorem ExI.more {ag : Option Addr} {cg j i : Nat} (h : ExI w g mb n0 zs n mm now P Q F ar cr ag cg j W) (hx : (dueQ Q (now + 1))[j]? = some x) (hi : x.u = (i : Int)) (hz : MapZ w6 mb (mm + 1) (upd (markF F ((dueQ Q (now + 1)).take j)) i 2)) (c6 : Ch (One mb) W w6) : ExI w g mb n0 zs n (mm + 1) now P Q F ar cr ag cg (j + 1) w6 := by
  refine ⟨h.d.later c6 (fun k hk e => h.mo.2 (e ▸ hk)) (fun k e => e ▸ h.mo.1), Row.kept h.r c6 (fun k hk e => (h.ro k hk).2.2 e), ?_, h.gr.kept c6 (fun k hk e => h.go k hk e), h.ln, h.pe, h.qe, h.ro, h.mo, h.go, h.nd⟩
  rw [List.take_add_one, hx]
  show MapZ w6 mb (mm + 1) (markF F ((dueQ Q (now + 1)).take j ++ [x]))
  rw [← markF_more, hi, Int.toNat_natCast]
  exact hz
theorem ExI.all {ag : Option Addr} {cg : Nat} (h : ExI w g mb n0 zs n mm now P Q F ar cr ag cg (dueQ Q (now + 1)).length W) : Ex w g mb n0 zs n mm (now + 1) P (leftQ Q (now + 1)) (markF F (dueQ Q (now + 1))) ar cr W := by
  refine ⟨h.d, h.r, by have := h.z; rwa [List.take_length] at this, h.ln, h.pe, ?_, h.ro, h.mo⟩
  have hQ : ∀ x, x ∈ Q ↔ x ∈ P ∧ F x.u.toNat = 0 := fun x => by rw [h.qe]; simp
  unfold leftQ
  conv => lhs; rw [h.qe]
  rw [List.filter_filter]
  refine List.filter_congr fun y hy => ?_
  have e1 : (dueQ Q (now + 1)).any (fun x => decide (x.u.toNat = y.u.toNat)) = decide (y ∈ Q ∧ y.d = now + 1) := by
    rw [Bool.eq_iff_iff, List.any_eq_true, decide_eq_true_iff]
    constructor
    · rintro ⟨x, hx, e⟩
      have hxP := ((hQ x).1 (due_mem x hx)).1
      obtain rfl := h.inj hxP hy (by simpa using e)
      exact ⟨due_mem x hx, due_at x hx⟩
    · rintro ⟨h1, h2⟩
      exact ⟨y, List.mem_filter.2 ⟨h1, by simpa using h2⟩, by simp⟩
  unfold markF
  rw [e1]
  have := hQ y
  by_cases hq : y ∈ Q
  · have hF := (this.1 hq).2
    by_cases hd : y.d = now + 1 <;> simp [hq, hd, hF]
  · have hF : F y.u.toNat ≠ 0 := fun e => hq (this.2 ⟨hy, e⟩)
    by_cases hd : y.d = now + 1 <;> simp [hq, hd, hF]
/-- how many of the first k are there -/
def cntE (F : Nat → Int) (P : List Ent) (k : Nat) : Nat := ((P.take k).filter fun x => decide (F x.u.toNat = 0)).length
theorem Ex.cnt {k : Nat} (h : Ex w g mb n0 zs n mm now P Q F ar cr W) (hk : k < n) : ∃ x, P[k]? = some x ∧ x.d = n0 + 1 + dzE zs k ∧ (F k = 0 → x ∈ Q) ∧ cntE F P (k + 1) = cntE F P k + (if F k = 0 then 1 else 0) ∧ cntE F P k ≤ k := by
  obtain ⟨x, hx⟩ : ∃ x, P[k]? = some x := ⟨_, List.getElem?_eq_getElem (by rw [h.ln]; exact hk)⟩
  have hp := h.pe k x hx
  have hu : x.u.toNat = k := by omega
  refine ⟨x, hx, hp.1, fun e => h.mem.2 ⟨List.mem_of_getElem? hx, by rw [hu]; exact e⟩, ?_, ?_⟩
  · unfold cntE
    rw [List.take_add_one, hx, List.filter_append, List.length_append]
    simp only [Option.toList, List.filter_cons, List.filter_nil, hu]
    by_cases e : F k = 0 <;> simp [e]
  · exact Nat.le_trans (List.length_filter_le _ _) (by rw [List.length_take]; omega)
theorem Ex.cnt_all (h : Ex w g mb n0 zs n mm now P Q F ar cr W) : cntE F P n = Q.length := by
  unfold cntE; rw [← h.ln, List.take_length, ← h.qe]
end
end Go.Proofs.YtkdkkgbjfabifaaDoor
