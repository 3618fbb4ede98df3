/-
  Contract of the document's Ids.
-/
import Derived.Test.YtpihlchocjdpmaaFirIds
namespace Verge
/-- is x above all of Q? -/
def upOf (Q : List Nat) (x : Nat) : Prop := ∀ y, y ∈ Q → y < x
/-- of the first i firings: is there a timer above all of Q, and which is the least one? -/
structure BestIn (L : List Fr) (Q : List Nat) (i best : Nat) (some_ : Bool) : Prop where
  yes : some_ = true → upOf Q best ∧ (∃ f, f ∈ L.take i ∧ f.i = best) ∧ ∀ f, f ∈ L.take i → upOf Q f.i → best ≤ f.i
  no : some_ = false → ∀ f, f ∈ L.take i → ¬ upOf Q f.i
theorem BestIn.zero (L : List Fr) (Q : List Nat) : BestIn L Q 0 0 false := ⟨fun h => (by cases h), fun _ f hf => by simp at hf⟩
theorem mem_take_succ {L : List Fr} {i : Nat} {f g : Fr} (h : L[i]? = some f) : g ∈ L.take (i + 1) ↔ g ∈ L.take i ∨ g = f := by
  rw [List.take_add_one, h]; simp
theorem BestIn.low {L : List Fr} {Q : List Nat} {i best : Nat} {s : Bool} {f : Fr} (h : BestIn L Q i best s) (hf : L[i]? = some f) (hu : ¬ upOf Q f.i) : BestIn L Q (i + 1) best s := by
  refine ⟨fun e => ?_, fun e g hg => ?_⟩
  · obtain ⟨a, ⟨g, b, c⟩, d⟩ := h.yes e
    refine ⟨a, ⟨g, (mem_take_succ hf).2 (.inl b), c⟩, fun x hx hux => ?_⟩
    rcases (mem_take_succ hf).1 hx with hx | rfl
    · exact d x hx hux
    · exact absurd hux hu
  · rcases (mem_take_succ hf).1 hg with hg | rfl
    · exact h.no e g hg
    · exact hu
theorem BestIn.high {L : List Fr} {Q : List Nat} {i best : Nat} {f : Fr} (h : BestIn L Q i best true) (hf : L[i]? = some f) (hb : best ≤ f.i) : BestIn L Q (i + 1) best true := by
  refine ⟨fun e => ?_, fun e => (by cases e)⟩
  obtain ⟨a, ⟨g, b, c⟩, d⟩ := h.yes rfl
  refine ⟨a, ⟨g, (mem_take_succ hf).2 (.inl b), c⟩, fun x hx hux => ?_⟩
  rcases (mem_take_succ hf).1 hx with hx | rfl
  · exact d x hx hux
  · exact hb
theorem BestIn.take {L : List Fr} {Q : List Nat} {i best : Nat} {s : Bool} {f : Fr} (h : BestIn L Q i best s) (hf : L[i]? = some f) (hu : upOf Q f.i) (hb : s = true → f.i < best) : BestIn L Q (i + 1) f.i true := by
  refine ⟨fun _ => ⟨hu, ⟨f, (mem_take_succ hf).2 (.inr rfl), rfl⟩, fun x hx hux => ?_⟩, fun e => (by cases e)⟩
  rcases (mem_take_succ hf).1 hx with hx | rfl
  · cases s with
    | false => exact absurd hux (h.no rfl x hx)
    | true => have := (h.yes rfl).2.2 x hx hux; have := hb rfl; omega
  · exact Nat.le_refl _
/-- the timers that were found so far: all up to the greatest one -/
structure IdsTo (L : List Fr) (Q : List Nat) : Prop where
  up : Q.Pairwise (· < ·)
  mem : ∀ x, x ∈ Q → ∃ f, f ∈ L ∧ f.i = x
  all : ∀ f, f ∈ L → f.i ∈ Q ∨ upOf Q f.i
theorem IdsTo.nil (L : List Fr) : IdsTo L [] := ⟨List.Pairwise.nil, fun x hx => by simp at hx, fun f _ => .inr (fun y hy => by simp at hy)⟩
theorem IdsTo.more {L : List Fr} {Q : List Nat} {best : Nat} (h : IdsTo L Q) (b : BestIn L Q L.length best true) : IdsTo L (Q ++ [best]) := by
  obtain ⟨a, ⟨g, hg, e⟩, d⟩ := b.yes rfl
  rw [List.take_length] at hg d
  refine ⟨List.pairwise_append.2 ⟨h.up, by simp, fun x hx y hy => by simp at hy; subst hy; exact a x hx⟩, fun x hx => ?_, fun f hf => ?_⟩
  · rcases List.mem_append.1 hx with hx | hx
    · exact h.mem x hx
    · simp at hx; subst hx; exact ⟨g, hg, e⟩
  · rcases h.all f hf with hm | hu
    · exact .inl (List.mem_append.2 (.inl hm))
    · have hle := d f hf hu
      rcases Nat.eq_or_lt_of_le hle with he | hlt
      · left; rw [← he]; simp
      · right
        intro y hy
        rcases List.mem_append.1 hy with hy | hy
        · exact hu y hy
        · simp at hy; subst hy; exact hlt
theorem IdsTo.done {L : List Fr} {Q : List Nat} {best : Nat} (h : IdsTo L Q) (b : BestIn L Q L.length best false) : IsIds L Q := by
  refine ⟨h.up, fun x => ⟨h.mem x, fun ⟨f, hf, e⟩ => ?_⟩⟩
  rcases h.all f hf with hm | hu
  · rw [← e]; exact hm
  · exact absurd hu (b.no rfl f (by rw [List.take_length]; exact hf))
theorem IdsTo.len {L : List Fr} {Q : List Nat} (h : IdsTo L Q) : Q.length ≤ L.length := by
  have := rising_len Q (L.map Fr.i) h.up fun x hx => by
    obtain ⟨f, hf, e⟩ := h.mem x hx
    exact List.mem_map.2 ⟨f, hf, e⟩
  simpa using this
/-- above all of a rising list: above its last one -/
theorem upOf_last {Q : List Nat} {m : Nat} (h : Q.Pairwise (· < ·)) (hm : Q.length = m + 1) (x : Nat) : upOf Q x ↔ Q.getD m 0 < x := by
  have hlast : Q.getD m 0 ∈ Q := by
    rw [List.getD_eq_getElem?_getD, List.getElem?_eq_getElem (by omega)]
    exact List.getElem_mem _
  refine ⟨fun hu => hu _ hlast, fun hlt y hy => ?_⟩
  obtain ⟨i, hi, e⟩ := List.getElem_of_mem hy
  rw [List.getD_eq_getElem?_getD, List.getElem?_eq_getElem (by omega : m < Q.length)] at hlt
  simp only [Option.getD_some] at hlt
  by_cases him : i = m
  · subst him; rw [← e]; exact hlt
  · have := List.pairwise_iff_getElem.1 h i m hi (by omega) (by omega)
    rw [e] at this
    omega
theorem upOf_nil (x : Nat) : upOf [] x := fun y hy => by simp at hy
end Verge
namespace Go.Proofs.Ytpihlchocjdpmaa
open Go.RowKit Verge
set_option linter.unusedVariables false
set_option linter.unusedSimpArgs false
/-- how many a slice has -/
def slen : Value → Nat | .slice _ n _ => n | _ => 0
/-- at the head of the outer loop -/
structure RiIn (w : World) (L : List Fr) (Q : List Nat) (m : Nat) (a : Option Addr) (cap : Nat) (wr : World) : Prop where
  m : m = Q.length
  ids : IdsTo L Q
  row : URw wr a cap Q
  own : ∀ g, OwnS a g → w.heap.size ≤ g
  c : Ch Nil w wr
theorem RiIn.nil {w wr W : World} {L : List Fr} {Q : List Nat} {m : Nat} {a : Option Addr} {cap : Nat} (h : RiIn w L Q m a cap wr) (c : Ch Nil wr W) : RiIn w L Q m a cap W :=
  ⟨h.m, h.ids, Row.kept h.row c (fun _ _ e => e), h.own, h.c.trans c⟩

set_option maxRecDepth 100000 in
set_option maxHeartbeats 8000000 in
theorem refIds_of {w : World} {a : Option Addr} {c1 : Nat} {L : List Fr} (h1 : Src w a L) (hl : L.length ≤ 100000) :
    Calls Try.prog 19 #[.slice a L.length c1] w fun e w' => IdsOut w L e w' := by
  obtain ⟨n, hn⟩ : ∃ n, n = L.length := ⟨_, rfl⟩
  have HN := Lib.hid hn
  have S1 := Lib.hid h1
  rw [← hn] at hl ⊢
  clear hn h1
  go_enter Try.func19, Try.ntmps19
  go_wp2
  go_loopw [3] (fun v wr => ∃ (Q : List Nat) (m : Nat) (a' : Option Addr) (cap' : Nat), v = .slice a' m cap' ∧ m ≤ n ∧ Hid (RiIn w L Q m a' cap' wr)) (fun v _ => n + 1 - slen v)
  case atStart => exact ⟨[], 0, none, 0, rfl, by omega, Lib.hid ⟨rfl, IdsTo.nil L, Row.nil _ _ _ _, fun g hg => by simp [OwnS] at hg, Ch.refl _ _⟩⟩
  case round =>
    obtain ⟨Q, m, a', cap', rfl, hmn, HR⟩ := hrel
    go_wp2
    go_loopw [6, 4, 5] (fun i b s wr => ∃ (k best : Nat) (sm : Bool), k ≤ n ∧ i = .int .i64 (k : Nat) ∧ b = .int .u64 (best : Nat) ∧ s = .bool sm ∧ Hid (RiIn w L Q m a' cap' wr ∧ BestIn L Q k best sm)) (fun i _ _ _ => n - (intOf i).toNat)
    case atStart => exact ⟨0, 0, false, by omega, rfl, rfl, rfl, Lib.hid ⟨HR.out, BestIn.zero L Q⟩⟩
    case round =>
      obtain ⟨k, best, sm, hk, rfl, rfl, rfl, HB⟩ := hrel
      by_cases hlt : k < n
      · obtain ⟨b1, o1, rfl, -, k1⟩ := (S1.out.kept HB.out.1.c (fun _ _ e => e)).form (by rw [← HN.out]; omega)
        obtain ⟨f, hf⟩ : ∃ f, L[k]? = some f := ⟨_, List.getElem?_eq_getElem (by rw [← HN.out]; exact hlt)⟩
        obtain ⟨f0, f1, f2, f3⟩ := src_cells k1 hf
        have hkz : (k : Int) < (n : Int) := by omega
        have hkz0 : (0 : Int) ≤ (k : Int) := by omega
        have HF := Lib.hid hf
        clear k1 hf
        rcases Nat.eq_zero_or_pos m with rfl | hmp
        · have hQ : Q = [] := List.length_eq_zero_iff.1 HB.out.1.m.symm
          have HU := Lib.hid (show upOf Q f.i by rw [hQ]; exact upOf_nil _)
          clear hQ
          cases sm with
          | false =>
            have TK := Lib.hid (HB.out.2.take HF.out HU.out (fun e => by cases e))
            go_wp2
            go_roundw
            case rel => exact ⟨k + 1, f.i, true, by omega, by go_num, rfl, rfl, Lib.hid ⟨HB.out.1, TK.out⟩⟩
            case measure => simp [intOf]; omega
          | true =>
            by_cases hbx : f.i < best
            · have hbz : (f.i : Int) < (best : Int) := by omega
              have TK := Lib.hid (HB.out.2.take HF.out HU.out (fun _ => hbx))
              go_wp2
              go_roundw
              case rel => exact ⟨k + 1, f.i, true, by omega, by go_num, rfl, rfl, Lib.hid ⟨HB.out.1, TK.out⟩⟩
              case measure => simp [intOf]; omega
            · have hbz : ¬ (f.i : Int) < (best : Int) := by omega
              have HI := Lib.hid (HB.out.2.high HF.out (by omega))
              go_wp2
              go_roundw
              case rel => exact ⟨k + 1, best, true, by omega, by go_num, rfl, rfl, Lib.hid ⟨HB.out.1, HI.out⟩⟩
              case measure => simp [intOf]; omega
        · obtain ⟨t, rfl⟩ : ∃ t, m = t + 1 := ⟨m - 1, by omega⟩
          obtain ⟨g, rfl, -⟩ := HB.out.1.row.form (by have := HB.out.1.m; omega)
          obtain ⟨y, hy⟩ : ∃ y, y = Q.getD t 0 := ⟨_, rfl⟩
          have cy : wr.cell? ⟨g, t, none⟩ = some (.int .u64 (y : Nat)) := by
            have := Row.cell HB.out.1.row t (by have := HB.out.1.m; omega)
            rw [this, hy]; rfl
          have UP := Lib.hid (upOf_last HB.out.1.ids.up HB.out.1.m.symm f.i)
          rw [← hy] at UP
          have htz : (t : Int) + 1 - 1 = (t : Int) := by omega
          have htz0 : (0 : Int) ≤ (t : Int) := by omega
          have htn : (t : Int) < (t : Int) + 1 := by omega
          have ht1 : ((t : Int) + 1 == 0) = false := beq_eq_false_iff_ne.2 (by omega)
          have ht2 : (t : Int) + 1 ≠ 0 := by omega
          have lt1 := IntWalk.i64_in (t : Int) (by omega)
          clear hy
          by_cases hyx : y < f.i
          · have hyz : (y : Int) < (f.i : Int) := by omega
            have HU := Lib.hid (UP.out.2 hyx)
            cases sm with
            | false =>
              have TK := Lib.hid (HB.out.2.take HF.out HU.out (fun e => by cases e))
              go_wp2
              go_roundw
              case rel => exact ⟨k + 1, f.i, true, by omega, by go_num, rfl, rfl, Lib.hid ⟨HB.out.1, TK.out⟩⟩
              case measure => simp [intOf]; omega
            | true =>
              by_cases hbx : f.i < best
              · have hbz : (f.i : Int) < (best : Int) := by omega
                have TK := Lib.hid (HB.out.2.take HF.out HU.out (fun _ => hbx))
                go_wp2
                go_roundw
                case rel => exact ⟨k + 1, f.i, true, by omega, by go_num, rfl, rfl, Lib.hid ⟨HB.out.1, TK.out⟩⟩
                case measure => simp [intOf]; omega
              · have hbz : ¬ (f.i : Int) < (best : Int) := by omega
                have HI := Lib.hid (HB.out.2.high HF.out (by omega))
                go_wp2
                go_roundw
                case rel => exact ⟨k + 1, best, true, by omega, by go_num, rfl, rfl, Lib.hid ⟨HB.out.1, HI.out⟩⟩
                case measure => simp [intOf]; omega
          · have hyz : ¬ (y : Int) < (f.i : Int) := by omega
            have LOW := Lib.hid (HB.out.2.low HF.out (fun h => hyx (UP.out.1 h)))
            go_wp2
            go_roundw
            case rel => exact ⟨k + 1, best, sm, by omega, by go_num, rfl, rfl, Lib.hid ⟨HB.out.1, LOW.out⟩⟩
            case measure => simp [intOf]; omega
      · obtain rfl : k = n := by omega
        cases sm with
        | false =>
          have DONE := Lib.hid (HB.out.1.ids.done (L := L) (best := best) (by have := HN.out; rw [← this]; exact HB.out.2))
          have OUT := Lib.hid (show IdsOut w L (.returned (.slice a' m cap')) wr from ⟨Q, a', cap', by rw [HB.out.1.m], DONE.out, Row.srcC HB.out.1.row, HB.out.1.c⟩)
          go_wp2
          go_ret
          exact OUT.out
        | true =>
          have MORE := Lib.hid (HB.out.1.ids.more (L := L) (best := best) (by have := HN.out; rw [← this]; exact HB.out.2))
          have hml := HB.out.1.m
          have hQl := MORE.out.len
          rw [List.length_append] at hQl
          have hmk : m + 1 ≤ k := by have := HN.out; simp at hQl; omega
          have R2 : Hid (URw (wr.alloc (.cells #[.int .u64 (best : Nat)] 23)) a' cap' Q) := Lib.hid (Row.kept HB.out.1.row (S := Nil) ((Ch.refl _ _).alloc _) (fun _ _ e => e))
          have HML := Lib.hid hml
          have HQN : Hid (Q.length ≤ 1000000) := Lib.hid (by omega)
          clear hml hQl
          go_wp2_with (at_builtin; refine append_u64 _ rfl _ _ _ rfl Try.underlying33 (by kernel_rfl) rfl HML.out R2.out HQN.out wr.heap.size 1 best 23 rfl (heap_alloc_new wr _) _ rfl ?_)
          intro g2 cap2 w2 row ch at_ lt
          have NXT : Hid (RiIn w L (Q ++ [best]) (m + 1) (some ⟨g2, 0, none⟩) cap2 w2) := Lib.hid ⟨by rw [List.length_append, ← HML.out]; rfl, MORE.out, row, fun g' hg' => by
            cases hg'
            rcases at_ with h | h
            · exact HB.out.1.own g2 h
            · have := HB.out.1.c.size
              show w.heap.size ≤ g2
              omega, (HB.out.1.c.alloc _).then ch fun i hi e => by have := HB.out.1.own i e; omega⟩
          clear row ch at_
          go_wp2
          go_roundw
          case rel => exact ⟨_, m + 1, _, cap2, rfl, hmk, NXT⟩
          case measure => simp [slen]; omega
end Go.Proofs.Ytpihlchocjdpmaa
