/-
  The document's wheel in memory (package vergeref08): a row of entries, each with its number, its deadline, its place; its At, Remove, Next, Out.
  The document's wheel: its Out, Remove, Next.
  The document's wheel: Place.
  The document's wheel: Advance; how its row stands to the entries' row.
-/
import Derived.Test.YtkfknafgknppdaaDoorWheelNextD
import Derived.Test.YtkfknafgknppdaaDoorWheelNums
import Derived.Test.YtkfknafgknppdaaDoorListRound
namespace Verge
/-- an entry of the document's: its number, its deadline, its place (64 times the level, and the slot; 256: beyond) -/
structure Dn where
  u : Int
  d : Nat
  p : Nat
  deriving DecidableEq
/-- the least of their deadlines -/
def MinD (l : List Dn) (m : Nat) : Prop := (∃ x, x ∈ l ∧ x.d = m) ∧ ∀ x, x ∈ l → m ≤ x.d
end Verge
namespace Go.Proofs.YtkfknafgknppdaaDoor
open Go.RowKit Verge LP
attribute [local go_sem] Oper.semAt_some
set_option linter.unusedVariables false
set_option linter.unusedSimpArgs false
def dcell (x : Dn) (j : Nat) : Value := if j = 0 then .int .i64 x.u else if j = 1 then .int .u64 (x.d : Nat) else if j = 2 then .int .i64 ((x.p / 64 : Nat) : Int) else .int .i64 ((x.p % 64 : Nat) : Int)
def dval (l : List Dn) (i : Nat) : Value := dcell (l.getD (i / 4) ⟨0, 0, 0⟩) (i % 4)
/-- a row of the document's entries -/
abbrev RowD (w : World) (a : Option Addr) (n cap : Nat) (l : List Dn) : Prop := Row w 49 4 a n cap (dval l)
/-- the document's wheel -/
structure RefW (w : World) (rb now : Nat) (l : List Dn) (ar : Option Addr) (cr : Nat) : Prop where
  t : w.cell? ⟨rb, 0, none⟩ = some (.int .u64 (now : Nat))
  s : w.cell? ⟨rb, 1, none⟩ = some (.slice ar l.length cr)
  k : Blk w rb
  r : RowD w ar l.length cr l
  nb : ¬ OwnS ar rb
def RS (rb : Nat) (ar : Option Addr) : Nat → Prop := fun k => k = rb ∨ OwnS ar k
section
variable {S : Nat → Prop} {w w' : World} {rb now : Nat} {l : List Dn} {ar : Option Addr} {cr : Nat} {x : Dn}
theorem RefW.kept (h : RefW w rb now l ar cr) (c : Ch S w w') (hn : ∀ k, RS rb ar k → ¬ S k) : RefW w' rb now l ar cr :=
  ⟨c.keeps h.t (hn _ (.inl rfl)), c.keeps h.s (hn _ (.inl rfl)), h.k.kept c (hn _ (.inl rfl)), Row.kept h.r c (fun k hk => hn k (.inr hk)), h.nb⟩
theorem RefW.lt (h : RefW w rb now l ar cr) {k : Nat} (hk : RS rb ar k) : k < w.heap.size := by
  rcases hk with rfl | hk
  · exact h.k.lt
  · exact Row.lt h.r k hk
theorem dval_at {k : Nat} (hx : l[k]? = some x) : dval l (k * 4) = .int .i64 x.u ∧ dval l (k * 4 + 1) = .int .u64 (x.d : Nat) ∧ dval l (k * 4 + 2) = .int .i64 ((x.p / 64 : Nat) : Int) ∧ dval l (k * 4 + 3) = .int .i64 ((x.p % 64 : Nat) : Int) := by
  have e : l.getD k ⟨0, 0, 0⟩ = x := by rw [List.getD_eq_getElem?_getD, hx]; rfl
  refine ⟨?_, ?_, ?_, ?_⟩ <;> unfold dval
  · rw [show k * 4 / 4 = k by omega, show k * 4 % 4 = 0 by omega, e]; rfl
  · rw [show (k * 4 + 1) / 4 = k by omega, show (k * 4 + 1) % 4 = 1 by omega, e]; rfl
  · rw [show (k * 4 + 2) / 4 = k by omega, show (k * 4 + 2) % 4 = 2 by omega, e]; rfl
  · rw [show (k * 4 + 3) / 4 = k by omega, show (k * 4 + 3) % 4 = 3 by omega, e]; rfl
theorem RowD.cells {b n cap k : Nat} (h : RowD w (some ⟨b, 0, none⟩) n cap l) (hk : k < n) (hx : l[k]? = some x) :
    w.cell? ⟨b, k * 4, none⟩ = some (.int .i64 x.u) ∧ w.cell? ⟨b, k * 4 + 1, none⟩ = some (.int .u64 (x.d : Nat)) ∧ w.cell? ⟨b, k * 4 + 2, none⟩ = some (.int .i64 ((x.p / 64 : Nat) : Int)) ∧ w.cell? ⟨b, k * 4 + 3, none⟩ = some (.int .i64 ((x.p % 64 : Nat) : Int)) := by
  obtain ⟨e0, e1, e2, e3⟩ := dval_at hx
  have h0 := Row.cell h (k * 4) (by omega)
  have h1 := Row.cell h (k * 4 + 1) (by omega)
  have h2 := Row.cell h (k * 4 + 2) (by omega)
  have h3 := Row.cell h (k * 4 + 3) (by omega)
  rw [e0] at h0; rw [e1] at h1; rw [e2] at h2; rw [e3] at h3
  exact ⟨h0, h1, h2, h3⟩
/-- one more in a row: its cells -/
theorem dval_old {i : Nat} (hi : i < l.length * 4) : dval (l ++ [x]) i = dval l i := by
  unfold dval
  rw [List.getD_eq_getElem?_getD, List.getD_eq_getElem?_getD, List.getElem?_append_left (by omega)]
theorem dval_new : ∀ (j : Nat) (v : Value), ([.int .i64 x.u, .int .u64 (x.d : Nat), .int .i64 ((x.p / 64 : Nat) : Int), .int .i64 ((x.p % 64 : Nat) : Int)] : List Value)[j]? = some v → dval (l ++ [x]) (l.length * 4 + j) = v := by
  intro j v hv
  obtain ⟨e0, e1, e2, e3⟩ := dval_at (l := l ++ [x]) (k := l.length) (x := x) (by simp)
  match j, hv with
  | 0, hv => simp at hv; subst hv; exact e0
  | 1, hv => simp at hv; subst hv; exact e1
  | 2, hv => simp at hv; subst hv; rw [e2]; simp
  | 3, hv => simp at hv; subst hv; rw [e3]; simp
  | n + 4, hv => simp at hv

set_option maxHeartbeats 1000000 in
theorem refAt_of (H : RefW w rb now l ar cr) (p : Nat) (hp : ∀ x, x ∈ l → x.p ≤ 256) (hpp : p ≤ 256) (hl : l.length ≤ 100000) :
    Calls Tryd.prog 36 #[.pointer (some ⟨rb, 0, none⟩), .int .i64 ((p / 64 : Nat) : Int), .int .i64 ((p % 64 : Nat) : Int)] w fun e w' => ∃ a cap, e = .returned (.slice a (l.filter fun x => decide (x.p = p)).length cap) ∧ RowI w' a (l.filter fun x => decide (x.p = p)).length cap (fun i => ((l.filter fun x => decide (x.p = p)).getD i ⟨0, 0, 0⟩).u) ∧ (∀ k, OwnS a k → w.heap.size ≤ k) ∧ Ch Nil w w' := by
  have c1 := H.s
  have H0 := Lib.hid H
  have HP := Lib.hid hp
  obtain ⟨n, hn⟩ : ∃ n, n = l.length := ⟨_, rfl⟩
  have LEN := Lib.hid hn
  rw [← hn] at c1 hl
  obtain ⟨lv, hlv⟩ : ∃ lv, lv = p / 64 := ⟨_, rfl⟩
  obtain ⟨sl, hsl⟩ : ∃ sl, sl = p % 64 := ⟨_, rfl⟩
  rw [← hlv, ← hsl]
  have HL := Lib.hid hlv
  have HS := Lib.hid hsl
  clear H hn hp hlv hsl
  go_enter Tryd.func36, Tryd.ntmps36
  go_wp2
  go_loopw [8, 7] (fun i s wr => ∃ (k : Nat) (b : Option Addr) (cp : Nat), k ≤ n ∧ i = .int .i64 k ∧ s = .slice b ((l.take k).filter fun x => decide (x.p = p)).length cp ∧ RowI wr b ((l.take k).filter fun x => decide (x.p = p)).length cp (fun i => (((l.take k).filter fun x => decide (x.p = p)).getD i ⟨0, 0, 0⟩).u) ∧ (∀ j, OwnS b j → w.heap.size ≤ j) ∧ Ch Nil w wr) (fun i _ _ => n - (intOf i).toNat)
  case atStart => exact ⟨0, none, 0, by omega, rfl, rfl, Row.nil _ _ _ _, fun j e => (by cases e), Ch.refl _ _⟩
  case round =>
    obtain ⟨k, b, cp, hk, rfl, rfl, r7, g7, c7⟩ := hrel
    have R7 := Lib.hid r7
    have G7 := Lib.hid g7
    have C7 := Lib.hid c7
    have d1 := c7.keeps c1 (fun e => e)
    have hq : ((l.take k).filter fun x => decide (x.p = p)).length ≤ 100000 := Nat.le_trans (List.length_filter_le _ _) (by rw [List.length_take]; omega)
    clear r7 g7 c7
    by_cases hlt : k < n
    · obtain ⟨x, hx⟩ : ∃ x, l[k]? = some x := ⟨_, List.getElem?_eq_getElem (by rw [← LEN.out]; exact hlt)⟩
      have hr := H0.out.r
      rw [← LEN.out] at hr
      obtain ⟨ga, rfl, -⟩ := hr.form (by omega)
      obtain ⟨q0, q1, q2, q3⟩ := RowD.cells hr hlt hx
      have q0 := C7.out.keeps q0 (fun e => e)
      have q2 := C7.out.keeps q2 (fun e => e)
      have q3 := C7.out.keeps q3 (fun e => e)
      have lc := hr.len_cap
      have hxp := HP.out x (List.mem_of_getElem? hx)
      have TK : Hid (l.take (k + 1) = l.take k ++ [x]) := Lib.hid (by rw [List.take_add_one, hx]; rfl)
      have hkz : (k : Int) < (n : Int) := by omega
      have hkz0 : (0 : Int) ≤ (k : Int) := by omega
      clear q1 hr
      by_cases he : x.p = p
      · have e1 : x.p / 64 = lv := by rw [he]; exact HL.out.symm
        have e2 : x.p % 64 = sl := by rw [he]; exact HS.out.symm
        rw [e1] at q2
        rw [e2] at q3
        obtain ⟨u, hu⟩ : ∃ u, u = x.u := ⟨_, rfl⟩
        rw [← hu] at q0
        obtain ⟨F, hF⟩ : ∃ F, F = (l.take k).filter fun x => decide (x.p = p) := ⟨_, rfl⟩
        have NXL : Hid ((l.take (k + 1)).filter (fun x => decide (x.p = p)) = F ++ [x]) := Lib.hid (by rw [TK.out, List.filter_append, hF]; simp [he])
        rw [← hF] at R7 hq ⊢
        have R8 := Lib.hid (RowI.kept (S := Nil) R7.out ((Ch.refl Nil wr).alloc (Obj.cells #[.int .i64 u] 3)) (fun _ _ e => e))
        have HU := Lib.hid hu
        clear hF e1 e2 hu
        obtain ⟨fn, hfn⟩ : ∃ fn, fn = F.length := ⟨_, rfl⟩
        have V1 : Hid (∀ i, i < fn * 1 → (fun i => Value.int .i64 ((F ++ [x]).getD i ⟨0, 0, 0⟩).u) i = (fun i => Value.int .i64 (F.getD i ⟨0, 0, 0⟩).u) i) := Lib.hid fun i hi => by
          simp only [List.getD_eq_getElem?_getD]; rw [List.getElem?_append_left (by omega)]
        have V2 : Hid (∀ (j : Nat) (v : Value), ([.int .i64 u] : List Value)[j]? = some v → (fun i => Value.int .i64 ((F ++ [x]).getD i ⟨0, 0, 0⟩).u) (fn * 1 + j) = v) := Lib.hid (by
          intro j v hv
          obtain rfl : j = 0 := (by cases j; rfl; simp at hv)
          simp at hv; subst hv
          simp only [List.getD_eq_getElem?_getD, hfn]
          rw [List.getElem?_append_right (by omega)]
          simp [HU.out])
        have HFN := Lib.hid hfn
        rw [← hfn] at R8 hq ⊢
        clear hfn
        go_wp2_with (at_builtin; refine append_row _ rfl _ _ _ rfl 3 (.int .i64 0) 1 8 Tryd.underlying47 (by kernel_rfl) rfl (by omega) (by omega) rfl R8.out (by omega) wr.heap.size 1 [.int .i64 u] 3 rfl rfl (heap_alloc_new wr _) (by simp [Value.oneCell']) _ V1.out V2.out _ rfl ?_)
        intro gb cp6 w8 row8 ch8 at8 lt8
        have ROW := Lib.hid row8
        have CH := Lib.hid ((((Ch.refl Nil wr).alloc _).mono (fun _ _ e => e.elim)).trans ch8)
        have AT := Lib.hid at8
        clear row8 ch8 at8 lt8 R8
        go_wp2
        go_roundw
        case rel =>
          refine ⟨k + 1, _, cp6, by omega, by go_num, by rw [NXL.out, List.length_append, ← HFN.out]; rfl, ?_, ?_, C7.out.up CH.out G7.out⟩
          · rw [NXL.out, List.length_append, ← HFN.out]; exact ROW.out
          · intro j e
            cases e
            have := C7.out.size
            rcases AT.out with h' | h'
            · exact G7.out _ h'
            · (try simp at h'); (try simp only); omega
        case measure => simp [intOf]; omega
      · have NXL : Hid ((l.take (k + 1)).filter (fun x => decide (x.p = p)) = (l.take k).filter (fun x => decide (x.p = p))) := Lib.hid (by rw [TK.out, List.filter_append]; simp [he])
        by_cases e1 : x.p / 64 = lv
        · have e2 : x.p % 64 ≠ sl := fun e2 => he (by have h1 := HL.out; have h2 := HS.out; omega)
          rw [e1] at q2
          obtain ⟨xs, hxs⟩ : ∃ xs, xs = x.p % 64 := ⟨_, rfl⟩
          rw [← hxs] at q3 e2
          have hb : (((xs : Nat) : Int) == ((sl : Nat) : Int)) = false := by rw [beq_eq_false_iff_ne]; omega
          have hb2 : ¬ ((xs : Nat) : Int) = ((sl : Nat) : Int) := by omega
          clear hxs
          go_wp2
          go_roundw
          case rel => exact ⟨k + 1, b, cp, by omega, by go_num, by rw [NXL.out], by rw [NXL.out]; exact R7.out, G7.out, C7.out⟩
          case measure => simp [intOf]; omega
        · obtain ⟨xl, hxl⟩ : ∃ xl, xl = x.p / 64 := ⟨_, rfl⟩
          rw [← hxl] at q2 e1
          have hb : (((xl : Nat) : Int) == ((lv : Nat) : Int)) = false := by rw [beq_eq_false_iff_ne]; omega
          have hb2 : ¬ ((xl : Nat) : Int) = ((lv : Nat) : Int) := by omega
          clear hxl
          go_wp2
          go_roundw
          case rel => exact ⟨k + 1, b, cp, by omega, by go_num, by rw [NXL.out], by rw [NXL.out]; exact R7.out, G7.out, C7.out⟩
          case measure => simp [intOf]; omega
    · obtain rfl : k = n := by omega
      have e : l.take k = l := by rw [LEN.out, List.take_length]
      rw [e] at R7 ⊢
      go_wp2
      go_ret
      exact ⟨b, cp, rfl, R7.out, G7.out, C7.out⟩
end
end Go.Proofs.YtkfknafgknppdaaDoor

namespace Go.Proofs.YtkfknafgknppdaaDoor
open Go.RowKit Verge LP
attribute [local go_sem] Oper.semAt_some
set_option linter.unusedVariables false
set_option linter.unusedSimpArgs false
section
variable {S : Nat → Prop} {w w' : World} {rb now : Nat} {l : List Dn} {ar : Option Addr} {cr : Nat} {x : Dn}
set_option maxHeartbeats 1000000 in
theorem refOut_of (H : RefW w rb now l ar cr) (p : Nat) (hl : l.length ≤ 100000) :
    Calls Tryd.prog 31 #[.pointer (some ⟨rb, 0, none⟩), .int .i64 ((p / 64 : Nat) : Int), .int .i64 ((p % 64 : Nat) : Int)] w fun e w' => ∃ ao co ar' cr', e = .returned (.slice ao ((l).filter fun x => decide (x.p = p)).length co) ∧ RowD w' ao ((l).filter fun x => decide (x.p = p)).length co ((l).filter fun x => decide (x.p = p)) ∧ (∀ k, OwnS ao k → w.heap.size ≤ k) ∧ RefW w' rb now ((l).filter fun x => !decide (x.p = p)) ar' cr' ∧ (∀ k, OwnS ar' k → w.heap.size ≤ k) ∧ (∀ k, OwnS ao k → ¬ OwnS ar' k) ∧ Ch (One rb) w w' := by
  have c1 := H.s
  have f1 := H.k.fz 1
  have H0 := Lib.hid H
  have rlt := H.k.lt
  obtain ⟨n, hn⟩ : ∃ n, n = l.length := ⟨_, rfl⟩
  have LEN := Lib.hid hn
  rw [← hn] at c1 hl
  obtain ⟨lv, hlv⟩ : ∃ lv, lv = p / 64 := ⟨_, rfl⟩
  obtain ⟨sl, hsl⟩ : ∃ sl, sl = p % 64 := ⟨_, rfl⟩
  rw [← hlv, ← hsl]
  have HL := Lib.hid hlv
  have HS := Lib.hid hsl
  clear H hn hlv hsl
  go_enter Tryd.func31, Tryd.ntmps31
  go_wp2
  go_loopw [9, 7, 8] (fun i s s2 wr => ∃ (k : Nat) (b : Option Addr) (cp : Nat) (b2 : Option Addr) (cp2 : Nat), k ≤ n ∧ i = .int .i64 k ∧ s = .slice b ((l.take k).filter fun x => decide (x.p = p)).length cp ∧ s2 = .slice b2 ((l.take k).filter fun x => !decide (x.p = p)).length cp2 ∧ RowD wr b ((l.take k).filter fun x => decide (x.p = p)).length cp ((l.take k).filter fun x => decide (x.p = p)) ∧ RowD wr b2 ((l.take k).filter fun x => !decide (x.p = p)).length cp2 ((l.take k).filter fun x => !decide (x.p = p)) ∧ (∀ j, OwnS b j → w.heap.size ≤ j) ∧ (∀ j, OwnS b2 j → w.heap.size ≤ j) ∧ (∀ j, OwnS b j → ¬ OwnS b2 j) ∧ Ch Nil w wr) (fun i _ _ _ => n - (intOf i).toNat)
  case atStart => exact ⟨0, none, 0, none, 0, by omega, rfl, rfl, rfl, Row.nil _ _ _ _, Row.nil _ _ _ _, fun j e => (by cases e), fun j e => (by cases e), fun j e => (by cases e), Ch.refl _ _⟩
  case round =>
    obtain ⟨k, b, cp, b2, cp2, hk, rfl, rfl, rfl, r7, r7b, g7, g7b, dj, c7⟩ := hrel
    have R7 := Lib.hid r7
    have R7b := Lib.hid r7b
    have G7 := Lib.hid g7
    have G7b := Lib.hid g7b
    have DJ := Lib.hid dj
    have C7 := Lib.hid c7
    have d1 := c7.keeps c1 (fun e => e)
    have fd : wr.frozen? ⟨rb, 1, none⟩ = false := (H0.out.k.kept c7 (fun e => e)).fz 1
    clear r7 r7b g7 g7b dj c7
    by_cases hlt : k < n
    · obtain ⟨x, hx⟩ : ∃ x, l[k]? = some x := ⟨_, List.getElem?_eq_getElem (by rw [← LEN.out]; exact hlt)⟩
      have hr := H0.out.r
      rw [← LEN.out] at hr
      obtain ⟨ga, rfl, -⟩ := hr.form (by omega)
      obtain ⟨p0, p1, p2, p3⟩ := RowD.cells hr hlt hx
      have q0 := C7.out.keeps p0 (fun e => e)
      have q1 := C7.out.keeps p1 (fun e => e)
      have q2 := C7.out.keeps p2 (fun e => e)
      have q3 := C7.out.keeps p3 (fun e => e)
      clear p0 p1 p2 p3
      have lc := hr.len_cap
      have TK : Hid (l.take (k + 1) = l.take k ++ [x]) := Lib.hid (by rw [List.take_add_one, hx]; rfl)
      have hkz : (k : Int) < (n : Int) := by omega
      have hkz0 : (0 : Int) ≤ (k : Int) := by omega
      obtain ⟨xu, hxu⟩ : ∃ xu, xu = x.u := ⟨_, rfl⟩
      obtain ⟨xd, hxd⟩ : ∃ xd, xd = x.d := ⟨_, rfl⟩
      obtain ⟨xl, hxl⟩ : ∃ xl, xl = x.p / 64 := ⟨_, rfl⟩
      obtain ⟨xs, hxs⟩ : ∃ xs, xs = x.p % 64 := ⟨_, rfl⟩
      rw [← hxu] at q0
      rw [← hxd] at q1
      rw [← hxl] at q2
      rw [← hxs] at q3
      have HXU := Lib.hid hxu
      have HXD := Lib.hid hxd
      have HXL := Lib.hid hxl
      have HXS := Lib.hid hxs
      have HX := Lib.hid hx
      clear hr hx hxu hxd hxl hxs

      by_cases he : x.p = p
      · have e1 : xl = lv := by rw [HXL.out, he]; exact HL.out.symm
        have e2 : xs = sl := by rw [HXS.out, he]; exact HS.out.symm
        subst e1
        subst e2
        obtain ⟨F, hF⟩ : ∃ F, F = ((l.take k).filter fun x => decide (x.p = p)) := ⟨_, rfl⟩
        have NXL : Hid (((l.take (k + 1)).filter fun x => decide (x.p = p)) = F ++ [x]) := Lib.hid (by rw [TK.out, List.filter_append, hF]; simp [he])
        rw [← hF] at R7 ⊢
        have hfl : F.length ≤ 100000 := by rw [hF]; exact Nat.le_trans (List.length_filter_le _ _) (by rw [List.length_take]; omega)
        obtain ⟨fn, hfn⟩ : ∃ fn, fn = F.length := ⟨_, rfl⟩
        have R8 := Lib.hid (Row.kept (S := Nil) R7.out ((Ch.refl Nil wr).alloc (Obj.cells #[.int .i64 xu, .int .u64 (xd : Nat), .int .i64 ((xl : Nat) : Int), .int .i64 ((xs : Nat) : Int)] 49)) (fun _ _ e => e))
        have V1 : Hid (∀ i, i < fn * 4 → dval (F ++ [x]) i = dval F i) := Lib.hid fun i hi => dval_old (by rw [← hfn]; exact hi)
        have V2 : Hid (∀ (j : Nat) (v : Value), ([.int .i64 xu, .int .u64 (xd : Nat), .int .i64 ((xl : Nat) : Int), .int .i64 ((xs : Nat) : Int)] : List Value)[j]? = some v → dval (F ++ [x]) (fn * 4 + j) = v) := Lib.hid (by
          intro j v hv
          rw [hfn]
          exact dval_new j v (by rw [← HXU.out, ← HXD.out, ← HXL.out, ← HXS.out]; exact hv))
        have HFN := Lib.hid hfn
        rw [← hfn] at R8 hfl ⊢
        clear hF hfn
        go_wp2_with (at_builtin; refine append_row _ rfl _ _ _ rfl 49 (.agg #[.int .i64 0, .int .u64 0, .int .i64 0, .int .i64 0]) 4 32 Tryd.underlying28 (by kernel_rfl) rfl (by omega) (by omega) rfl R8.out (by omega) wr.heap.size 1 [.int .i64 xu, .int .u64 (xd : Nat), .int .i64 ((xl : Nat) : Int), .int .i64 ((xs : Nat) : Int)] 49 rfl rfl (heap_alloc_new wr _) (by simp [Value.oneCell']) _ V1.out V2.out _ rfl ?_)
        intro gb cp6 w8 row8 ch8 at8 lt8
        have ROW := Lib.hid row8
        have CH := Lib.hid ((((Ch.refl Nil wr).alloc _).mono (fun _ _ e => e.elim)).trans ch8)
        have AT : Hid (OwnS b gb ∨ wr.heap.size ≤ gb) := Lib.hid (by rcases at8 with h | h; exact .inl h; exact .inr (by (try simp at h); omega))
        clear row8 ch8 at8 lt8 R8
        have NXG : Hid (((l.take (k + 1)).filter fun x => !decide (x.p = p)) = ((l.take k).filter fun x => !decide (x.p = p))) := Lib.hid (by rw [TK.out, List.filter_append]; simp [he])
        have RB := Lib.hid (Row.kept R7b.out CH.out (fun j hj e => DJ.out j e hj))
        have dlt := Row.lt R7b.out
        go_wp2
        go_roundw
        case rel =>
          refine ⟨k + 1, _, cp6, b2, cp2, by omega, by go_num, by rw [NXL.out, List.length_append, ← HFN.out]; rfl, by rw [NXG.out], by rw [NXL.out, List.length_append, ← HFN.out]; exact ROW.out, by rw [NXG.out]; exact RB.out, ?_, G7b.out, ?_, C7.out.up CH.out G7.out⟩
          · intro j e
            cases e
            have := C7.out.size
            rcases AT.out with h' | h'
            · exact G7.out _ h'
            · (try simp only); omega
          · intro j e
            cases e
            rcases AT.out with h' | h'
            · exact DJ.out _ h'
            · exact fun e' => by have := dlt _ e'; simp only at this; omega
        case measure => simp [intOf]; omega
      · by_cases e1 : xl = lv
        · have e2 : xs ≠ sl := fun e2 => he (by have h1 := HL.out; have h2 := HS.out; have h3 := HXL.out; have h4 := HXS.out; omega)
          subst e1
          have hb : (((xs : Nat) : Int) == ((sl : Nat) : Int)) = false := by rw [beq_eq_false_iff_ne]; omega
          have hb2 : ¬ ((xs : Nat) : Int) = ((sl : Nat) : Int) := by omega
          obtain ⟨F, hF⟩ : ∃ F, F = ((l.take k).filter fun x => !decide (x.p = p)) := ⟨_, rfl⟩
          have NXL : Hid (((l.take (k + 1)).filter fun x => !decide (x.p = p)) = F ++ [x]) := Lib.hid (by rw [TK.out, List.filter_append, hF]; simp [he])
          rw [← hF] at R7b ⊢
          have hfl : F.length ≤ 100000 := by rw [hF]; exact Nat.le_trans (List.length_filter_le _ _) (by rw [List.length_take]; omega)
          obtain ⟨fn, hfn⟩ : ∃ fn, fn = F.length := ⟨_, rfl⟩
          have R8 := Lib.hid (Row.kept (S := Nil) R7b.out ((Ch.refl Nil wr).alloc (Obj.cells #[.int .i64 xu, .int .u64 (xd : Nat), .int .i64 ((xl : Nat) : Int), .int .i64 ((xs : Nat) : Int)] 49)) (fun _ _ e => e))
          have V1 : Hid (∀ i, i < fn * 4 → dval (F ++ [x]) i = dval F i) := Lib.hid fun i hi => dval_old (by rw [← hfn]; exact hi)
          have V2 : Hid (∀ (j : Nat) (v : Value), ([.int .i64 xu, .int .u64 (xd : Nat), .int .i64 ((xl : Nat) : Int), .int .i64 ((xs : Nat) : Int)] : List Value)[j]? = some v → dval (F ++ [x]) (fn * 4 + j) = v) := Lib.hid (by
            intro j v hv
            rw [hfn]
            exact dval_new j v (by rw [← HXU.out, ← HXD.out, ← HXL.out, ← HXS.out]; exact hv))
          have HFN := Lib.hid hfn
          rw [← hfn] at R8 hfl ⊢
          clear hF hfn
          go_wp2_with (at_builtin; refine append_row _ rfl _ _ _ rfl 49 (.agg #[.int .i64 0, .int .u64 0, .int .i64 0, .int .i64 0]) 4 32 Tryd.underlying28 (by kernel_rfl) rfl (by omega) (by omega) rfl R8.out (by omega) wr.heap.size 1 [.int .i64 xu, .int .u64 (xd : Nat), .int .i64 ((xl : Nat) : Int), .int .i64 ((xs : Nat) : Int)] 49 rfl rfl (heap_alloc_new wr _) (by simp [Value.oneCell']) _ V1.out V2.out _ rfl ?_)
          intro gb cp6 w8 row8 ch8 at8 lt8
          have ROW := Lib.hid row8
          have CH := Lib.hid ((((Ch.refl Nil wr).alloc _).mono (fun _ _ e => e.elim)).trans ch8)
          have AT : Hid (OwnS b2 gb ∨ wr.heap.size ≤ gb) := Lib.hid (by rcases at8 with h | h; exact .inl h; exact .inr (by (try simp at h); omega))
          clear row8 ch8 at8 lt8 R8
          have NXG : Hid (((l.take (k + 1)).filter fun x => decide (x.p = p)) = ((l.take k).filter fun x => decide (x.p = p))) := Lib.hid (by rw [TK.out, List.filter_append]; simp [he])
          have RB := Lib.hid (Row.kept R7.out CH.out (fun j hj e => DJ.out j hj e))
          have dlt := Row.lt R7.out
          go_wp2
          go_roundw
          case rel =>
            refine ⟨k + 1, b, cp, _, cp6, by omega, by go_num, by rw [NXG.out], by rw [NXL.out, List.length_append, ← HFN.out]; rfl, by rw [NXG.out]; exact RB.out, by rw [NXL.out, List.length_append, ← HFN.out]; exact ROW.out, G7.out, ?_, ?_, C7.out.up CH.out G7b.out⟩
            · intro j e
              cases e
              have := C7.out.size
              rcases AT.out with h' | h'
              · exact G7b.out _ h'
              · (try simp only); omega
            · intro j hj e
              cases e
              rcases AT.out with h' | h'
              · exact DJ.out _ hj h'
              · have := dlt _ hj; simp only at this; omega
          case measure => simp [intOf]; omega
        · have hb : (((xl : Nat) : Int) == ((lv : Nat) : Int)) = false := by rw [beq_eq_false_iff_ne]; omega
          have hb2 : ¬ ((xl : Nat) : Int) = ((lv : Nat) : Int) := by omega
          obtain ⟨F, hF⟩ : ∃ F, F = ((l.take k).filter fun x => !decide (x.p = p)) := ⟨_, rfl⟩
          have NXL : Hid (((l.take (k + 1)).filter fun x => !decide (x.p = p)) = F ++ [x]) := Lib.hid (by rw [TK.out, List.filter_append, hF]; simp [he])
          rw [← hF] at R7b ⊢
          have hfl : F.length ≤ 100000 := by rw [hF]; exact Nat.le_trans (List.length_filter_le _ _) (by rw [List.length_take]; omega)
          obtain ⟨fn, hfn⟩ : ∃ fn, fn = F.length := ⟨_, rfl⟩
          have R8 := Lib.hid (Row.kept (S := Nil) R7b.out ((Ch.refl Nil wr).alloc (Obj.cells #[.int .i64 xu, .int .u64 (xd : Nat), .int .i64 ((xl : Nat) : Int), .int .i64 ((xs : Nat) : Int)] 49)) (fun _ _ e => e))
          have V1 : Hid (∀ i, i < fn * 4 → dval (F ++ [x]) i = dval F i) := Lib.hid fun i hi => dval_old (by rw [← hfn]; exact hi)
          have V2 : Hid (∀ (j : Nat) (v : Value), ([.int .i64 xu, .int .u64 (xd : Nat), .int .i64 ((xl : Nat) : Int), .int .i64 ((xs : Nat) : Int)] : List Value)[j]? = some v → dval (F ++ [x]) (fn * 4 + j) = v) := Lib.hid (by
            intro j v hv
            rw [hfn]
            exact dval_new j v (by rw [← HXU.out, ← HXD.out, ← HXL.out, ← HXS.out]; exact hv))
          have HFN := Lib.hid hfn
          rw [← hfn] at R8 hfl ⊢
          clear hF hfn
          go_wp2_with (at_builtin; refine append_row _ rfl _ _ _ rfl 49 (.agg #[.int .i64 0, .int .u64 0, .int .i64 0, .int .i64 0]) 4 32 Tryd.underlying28 (by kernel_rfl) rfl (by omega) (by omega) rfl R8.out (by omega) wr.heap.size 1 [.int .i64 xu, .int .u64 (xd : Nat), .int .i64 ((xl : Nat) : Int), .int .i64 ((xs : Nat) : Int)] 49 rfl rfl (heap_alloc_new wr _) (by simp [Value.oneCell']) _ V1.out V2.out _ rfl ?_)
          intro gb cp6 w8 row8 ch8 at8 lt8
          have ROW := Lib.hid row8
          have CH := Lib.hid ((((Ch.refl Nil wr).alloc _).mono (fun _ _ e => e.elim)).trans ch8)
          have AT : Hid (OwnS b2 gb ∨ wr.heap.size ≤ gb) := Lib.hid (by rcases at8 with h | h; exact .inl h; exact .inr (by (try simp at h); omega))
          clear row8 ch8 at8 lt8 R8
          have NXG : Hid (((l.take (k + 1)).filter fun x => decide (x.p = p)) = ((l.take k).filter fun x => decide (x.p = p))) := Lib.hid (by rw [TK.out, List.filter_append]; simp [he])
          have RB := Lib.hid (Row.kept R7.out CH.out (fun j hj e => DJ.out j hj e))
          have dlt := Row.lt R7.out
          go_wp2
          go_roundw
          case rel =>
            refine ⟨k + 1, b, cp, _, cp6, by omega, by go_num, by rw [NXG.out], by rw [NXL.out, List.length_append, ← HFN.out]; rfl, by rw [NXG.out]; exact RB.out, by rw [NXL.out, List.length_append, ← HFN.out]; exact ROW.out, G7.out, ?_, ?_, C7.out.up CH.out G7b.out⟩
            · intro j e
              cases e
              have := C7.out.size
              rcases AT.out with h' | h'
              · exact G7b.out _ h'
              · (try simp only); omega
            · intro j hj e
              cases e
              rcases AT.out with h' | h'
              · exact DJ.out _ hj h'
              · have := dlt _ hj; simp only at this; omega
          case measure => simp [intOf]; omega
    · obtain rfl : k = n := by omega
      have e : l.take k = l := by rw [LEN.out, List.take_length]
      rw [e] at R7 R7b ⊢
      go_wp2
      go_ret
      have ch : Ch (One rb) wr (wr.setCell ⟨rb, 1, none⟩ (.slice b2 ((l).filter fun x => !decide (x.p = p)).length cp2)) := (Ch.refl _ _).setB 1 _
      have nrb : ∀ a : Option Addr, (∀ j, OwnS a j → w.heap.size ≤ j) → ¬ OwnS a rb := fun a h e => by have := h rb e; omega
      refine ⟨b, cp, b2, cp2, rfl, Row.kept R7.out ch (fun j hj e => by have e' : j = rb := e; subst e'; exact nrb b G7.out hj), G7.out, ⟨?_, World.cell?_setCell_same _ _ _ d1, ?_, Row.kept R7b.out ch (fun j hj e => by have e' : j = rb := e; subst e'; exact nrb b2 G7b.out hj), nrb b2 G7b.out⟩, G7b.out, DJ.out, (C7.out.mono fun _ _ e => e.elim).trans ch⟩
      · exact (cell_ne (by omega) _).trans (C7.out.keeps H0.out.t (fun e => e))
      · exact (H0.out.k.kept C7.out (fun e => e)).set _ _
set_option maxHeartbeats 1000000 in
theorem refRemove_of (H : RefW w rb now l ar cr) (u : Int) (hl : l.length ≤ 100000) :
    Calls Tryd.prog 9 #[.pointer (some ⟨rb, 0, none⟩), .int .i64 u] w fun e w' => ∃ ar' cr', e = .returned (.bool (decide (((l).filter fun x => !decide (x.u = u)).length < l.length))) ∧ RefW w' rb now ((l).filter fun x => !decide (x.u = u)) ar' cr' ∧ (∀ k, OwnS ar' k → w.heap.size ≤ k) ∧ Ch (One rb) w w' := by
  have c1 := H.s
  have H0 := Lib.hid H
  have rlt := H.k.lt
  obtain ⟨n, hn⟩ : ∃ n, n = l.length := ⟨_, rfl⟩
  have LEN := Lib.hid hn
  rw [← hn] at c1 hl ⊢
  clear H hn
  go_enter Tryd.func9, Tryd.ntmps9
  go_wp2
  go_loopw [6, 5] (fun i s wr => ∃ (k : Nat) (b : Option Addr) (cp : Nat), k ≤ n ∧ i = .int .i64 k ∧ s = .slice b ((l.take k).filter fun x => !decide (x.u = u)).length cp ∧ RowD wr b ((l.take k).filter fun x => !decide (x.u = u)).length cp ((l.take k).filter fun x => !decide (x.u = u)) ∧ (∀ j, OwnS b j → w.heap.size ≤ j) ∧ Ch Nil w wr) (fun i _ _ => n - (intOf i).toNat)
  case atStart => exact ⟨0, none, 0, by omega, rfl, rfl, Row.nil _ _ _ _, fun j e => (by cases e), Ch.refl _ _⟩
  case round =>
    obtain ⟨k, b, cp, hk, rfl, rfl, r7, g7, c7⟩ := hrel
    have R7 := Lib.hid r7
    have G7 := Lib.hid g7
    have C7 := Lib.hid c7
    have d1 := c7.keeps c1 (fun e => e)
    have fd : wr.frozen? ⟨rb, 1, none⟩ = false := (H0.out.k.kept c7 (fun e => e)).fz 1
    clear r7 g7 c7
    by_cases hlt : k < n
    · obtain ⟨x, hx⟩ : ∃ x, l[k]? = some x := ⟨_, List.getElem?_eq_getElem (by rw [← LEN.out]; exact hlt)⟩
      have hr := H0.out.r
      rw [← LEN.out] at hr
      obtain ⟨ga, rfl, -⟩ := hr.form (by omega)
      obtain ⟨p0, p1, p2, p3⟩ := RowD.cells hr hlt hx
      have q0 := C7.out.keeps p0 (fun e => e)
      have q1 := C7.out.keeps p1 (fun e => e)
      have q2 := C7.out.keeps p2 (fun e => e)
      have q3 := C7.out.keeps p3 (fun e => e)
      clear p0 p1 p2 p3
      have lc := hr.len_cap
      have TK : Hid (l.take (k + 1) = l.take k ++ [x]) := Lib.hid (by rw [List.take_add_one, hx]; rfl)
      have hkz : (k : Int) < (n : Int) := by omega
      have hkz0 : (0 : Int) ≤ (k : Int) := by omega
      obtain ⟨xu, hxu⟩ : ∃ xu, xu = x.u := ⟨_, rfl⟩
      obtain ⟨xd, hxd⟩ : ∃ xd, xd = x.d := ⟨_, rfl⟩
      obtain ⟨xl, hxl⟩ : ∃ xl, xl = x.p / 64 := ⟨_, rfl⟩
      obtain ⟨xs, hxs⟩ : ∃ xs, xs = x.p % 64 := ⟨_, rfl⟩
      rw [← hxu] at q0
      rw [← hxd] at q1
      rw [← hxl] at q2
      rw [← hxs] at q3
      have HXU := Lib.hid hxu
      have HXD := Lib.hid hxd
      have HXL := Lib.hid hxl
      have HXS := Lib.hid hxs
      have HX := Lib.hid hx
      clear hr hx hxu hxd hxl hxs

      by_cases he : x.u = u
      · have NXL : Hid (((l.take (k + 1)).filter fun x => !decide (x.u = u)) = ((l.take k).filter fun x => !decide (x.u = u))) := Lib.hid (by rw [TK.out, List.filter_append]; simp [he])
        have e1 : xu = u := by rw [HXU.out, he]
        subst e1
        go_wp2
        go_roundw
        case rel => exact ⟨k + 1, b, cp, by omega, by go_num, by rw [NXL.out], by rw [NXL.out]; exact R7.out, G7.out, C7.out⟩
        case measure => simp [intOf]; omega
      · have e1 : xu ≠ u := by rw [HXU.out]; exact he
        have hb : (xu != u) = true := by rw [bne_iff_ne]; exact e1
        obtain ⟨F, hF⟩ : ∃ F, F = ((l.take k).filter fun x => !decide (x.u = u)) := ⟨_, rfl⟩
        have NXL : Hid (((l.take (k + 1)).filter fun x => !decide (x.u = u)) = F ++ [x]) := Lib.hid (by rw [TK.out, List.filter_append, hF]; simp [he])
        rw [← hF] at R7 ⊢
        have hfl : F.length ≤ 100000 := by rw [hF]; exact Nat.le_trans (List.length_filter_le _ _) (by rw [List.length_take]; omega)
        obtain ⟨fn, hfn⟩ : ∃ fn, fn = F.length := ⟨_, rfl⟩
        have R8 := Lib.hid (Row.kept (S := Nil) R7.out ((Ch.refl Nil wr).alloc (Obj.cells #[.int .i64 xu, .int .u64 (xd : Nat), .int .i64 ((xl : Nat) : Int), .int .i64 ((xs : Nat) : Int)] 49)) (fun _ _ e => e))
        have V1 : Hid (∀ i, i < fn * 4 → dval (F ++ [x]) i = dval F i) := Lib.hid fun i hi => dval_old (by rw [← hfn]; exact hi)
        have V2 : Hid (∀ (j : Nat) (v : Value), ([.int .i64 xu, .int .u64 (xd : Nat), .int .i64 ((xl : Nat) : Int), .int .i64 ((xs : Nat) : Int)] : List Value)[j]? = some v → dval (F ++ [x]) (fn * 4 + j) = v) := Lib.hid (by
          intro j v hv
          rw [hfn]
          exact dval_new j v (by rw [← HXU.out, ← HXD.out, ← HXL.out, ← HXS.out]; exact hv))
        have HFN := Lib.hid hfn
        rw [← hfn] at R8 hfl ⊢
        clear hF hfn
        go_wp2_with (at_builtin; refine append_row _ rfl _ _ _ rfl 49 (.agg #[.int .i64 0, .int .u64 0, .int .i64 0, .int .i64 0]) 4 32 Tryd.underlying28 (by kernel_rfl) rfl (by omega) (by omega) rfl R8.out (by omega) wr.heap.size 1 [.int .i64 xu, .int .u64 (xd : Nat), .int .i64 ((xl : Nat) : Int), .int .i64 ((xs : Nat) : Int)] 49 rfl rfl (heap_alloc_new wr _) (by simp [Value.oneCell']) _ V1.out V2.out _ rfl ?_)
        intro gb cp6 w8 row8 ch8 at8 lt8
        have ROW := Lib.hid row8
        have CH := Lib.hid ((((Ch.refl Nil wr).alloc _).mono (fun _ _ e => e.elim)).trans ch8)
        have AT : Hid (OwnS b gb ∨ wr.heap.size ≤ gb) := Lib.hid (by rcases at8 with h | h; exact .inl h; exact .inr (by (try simp at h); omega))
        clear row8 ch8 at8 lt8 R8
        go_wp2
        go_roundw
        case rel =>
          refine ⟨k + 1, _, cp6, by omega, by go_num, by rw [NXL.out, List.length_append, ← HFN.out]; rfl, by rw [NXL.out, List.length_append, ← HFN.out]; exact ROW.out, ?_, C7.out.up CH.out G7.out⟩
          intro j e
          cases e
          have := C7.out.size
          rcases AT.out with h' | h'
          · exact G7.out _ h'
          · (try simp only); omega
        case measure => simp [intOf]; omega
    · obtain rfl : k = n := by omega
      have e : l.take k = l := by rw [LEN.out, List.take_length]
      rw [e] at R7 ⊢
      go_wp2
      go_ret
      have ch : Ch (One rb) wr (wr.setCell ⟨rb, 1, none⟩ (.slice b ((l).filter fun x => !decide (x.u = u)).length cp)) := (Ch.refl _ _).setB 1 _
      have nrb : ¬ OwnS b rb := fun e => by have := G7.out rb e; omega
      refine ⟨b, cp, by simp, ⟨(cell_ne (by omega) _).trans (C7.out.keeps H0.out.t (fun e => e)), World.cell?_setCell_same _ _ _ d1, (H0.out.k.kept C7.out (fun e => e)).set _ _, Row.kept R7.out ch (fun j hj e => by have e' : j = rb := e; subst e'; exact nrb hj), nrb⟩, G7.out, (C7.out.mono fun _ _ e => e.elim).trans ch⟩
set_option maxHeartbeats 1000000 in
theorem refNext_of (H : RefW w rb now l ar cr) (hl : l.length ≤ 100000) :
    Calls Tryd.prog 33 #[.pointer (some ⟨rb, 0, none⟩)] w fun e w' => ((l = [] ∧ e = .returned (.tuple #[.int .u64 0, .bool false])) ∨ ∃ m : Nat, MinD l m ∧ e = .returned (.tuple #[.int .u64 (m : Nat), .bool true])) ∧ w = w' := by
  have c1 := H.s
  have H0 := Lib.hid H
  obtain ⟨n, hn⟩ : ∃ n, n = l.length := ⟨_, rfl⟩
  have LEN := Lib.hid hn
  rw [← hn] at c1 hl
  clear H hn
  go_enter Tryd.func33, Tryd.ntmps33
  go_wp2
  go_loopw [6, 4, 5] (fun i v s wr => ∃ (k m : Nat), k ≤ n ∧ i = .int .i64 k ∧ v = .int .u64 (m : Nat) ∧ wr = w ∧ ((k = 0 ∧ m = 0 ∧ s = .bool false) ∨ (s = .bool true ∧ (∃ x, x ∈ l ∧ x.d = m) ∧ ∀ j x, j < k → l[j]? = some x → m ≤ x.d))) (fun i _ _ _ => n - (intOf i).toNat)
  case atStart => exact ⟨0, 0, by omega, rfl, rfl, rfl, .inl ⟨rfl, rfl, rfl⟩⟩
  case round =>
    obtain ⟨k, m, hk, rfl, rfl, rfl, hc⟩ := hrel
    by_cases hlt : k < n
    · have C7 : Hid (Ch Nil wr wr) := Lib.hid (Ch.refl _ _)
      obtain ⟨x, hx⟩ : ∃ x, l[k]? = some x := ⟨_, List.getElem?_eq_getElem (by rw [← LEN.out]; exact hlt)⟩
      have hr := H0.out.r
      rw [← LEN.out] at hr
      obtain ⟨ga, rfl, -⟩ := hr.form (by omega)
      obtain ⟨p0, p1, p2, p3⟩ := RowD.cells hr hlt hx
      have q0 := C7.out.keeps p0 (fun e => e)
      have q1 := C7.out.keeps p1 (fun e => e)
      have q2 := C7.out.keeps p2 (fun e => e)
      have q3 := C7.out.keeps p3 (fun e => e)
      clear p0 p1 p2 p3
      have lc := hr.len_cap
      have TK : Hid (l.take (k + 1) = l.take k ++ [x]) := Lib.hid (by rw [List.take_add_one, hx]; rfl)
      have hkz : (k : Int) < (n : Int) := by omega
      have hkz0 : (0 : Int) ≤ (k : Int) := by omega
      obtain ⟨xu, hxu⟩ : ∃ xu, xu = x.u := ⟨_, rfl⟩
      obtain ⟨xd, hxd⟩ : ∃ xd, xd = x.d := ⟨_, rfl⟩
      obtain ⟨xl, hxl⟩ : ∃ xl, xl = x.p / 64 := ⟨_, rfl⟩
      obtain ⟨xs, hxs⟩ : ∃ xs, xs = x.p % 64 := ⟨_, rfl⟩
      rw [← hxu] at q0
      rw [← hxd] at q1
      rw [← hxl] at q2
      rw [← hxs] at q3
      have HXU := Lib.hid hxu
      have HXD := Lib.hid hxd
      have HXL := Lib.hid hxl
      have HXS := Lib.hid hxs
      have HX := Lib.hid hx
      clear hr hx hxu hxd hxl hxs

      rcases hc with ⟨rfl, rfl, rfl⟩ | ⟨rfl, hm, hle⟩
      · go_wp2
        go_roundw
        case rel =>
          refine ⟨1, xd, by omega, by go_num, rfl, by first | rfl | trivial, .inr ⟨rfl, ⟨x, List.mem_of_getElem? HX.out, HXD.out.symm⟩, fun j y hj hy => ?_⟩⟩
          obtain rfl : j = 0 := by omega
          rw [HX.out] at hy; cases hy; rw [HXD.out]; exact Nat.le_refl _
        case measure => simp [intOf]; omega
      · have HM := Lib.hid hm
        have HLE := Lib.hid hle
        clear hm hle
        by_cases hd : xd < m
        · have hz : (xd : Int) < (m : Int) := by omega
          go_wp2
          go_roundw
          case rel =>
            refine ⟨k + 1, xd, by omega, by go_num, rfl, by first | rfl | trivial, .inr ⟨rfl, ⟨x, List.mem_of_getElem? HX.out, HXD.out.symm⟩, fun j y hj hy => ?_⟩⟩
            by_cases e : j = k
            · subst e; rw [HX.out] at hy; cases hy; rw [HXD.out]; exact Nat.le_refl _
            · have := HLE.out j y (by omega) hy; omega
          case measure => simp [intOf]; omega
        · have hz : (m : Int) ≤ (xd : Int) := by omega
          go_wp2
          go_roundw
          case rel =>
            refine ⟨k + 1, m, by omega, by go_num, rfl, by first | rfl | trivial, .inr ⟨rfl, HM.out, fun j y hj hy => ?_⟩⟩
            by_cases e : j = k
            · subst e; rw [HX.out] at hy; cases hy; rw [← HXD.out]; omega
            · exact HLE.out j y (by omega) hy
          case measure => simp [intOf]; omega
    · obtain rfl : k = n := by omega
      rcases hc with ⟨rfl, rfl, rfl⟩ | ⟨rfl, hm, hle⟩
      · have hl0 : l = [] := List.eq_nil_of_length_eq_zero LEN.out.symm
        have HL0 := Lib.hid hl0
        clear hl0
        go_wp2
        go_ret2
        exact ⟨.inl ⟨HL0.out, rfl⟩, rfl⟩
      · have HM := Lib.hid hm
        have HLE := Lib.hid hle
        clear hm hle
        go_wp2
        go_ret2
        refine ⟨.inr ⟨m, ⟨HM.out, fun y hy => ?_⟩, rfl⟩, rfl⟩
        obtain ⟨j, hj⟩ := List.mem_iff_getElem?.1 hy
        exact HLE.out j y (by rw [LEN.out]; exact (List.getElem?_eq_some_iff.1 hj).1) hj
end
end Go.Proofs.YtkfknafgknppdaaDoor

namespace Go.Proofs.YtkfknafgknppdaaDoor
open Go.RowKit Verge LP
attribute [local go_sem] Oper.semAt_some
set_option linter.unusedVariables false
set_option linter.unusedSimpArgs false
section
variable {S : Nat → Prop} {w w' : World} {rb now : Nat} {l : List Dn} {ar : Option Addr} {cr : Nat} {x : Dn}
set_option maxHeartbeats 4000000 in
set_option maxRecDepth 100000 in
theorem refPlace_of (H : RefW w rb now l ar cr) (u : Int) (d : Nat) (hd : d < 18446744073709551616) (hn : now < 18446744073709551616) (hl : l.length ≤ 100000) :
    Calls Tryd.prog 7 #[.pointer (some ⟨rb, 0, none⟩), .int .i64 u, .int .u64 (d : Nat)] w fun e w' => (∃ r, e = .returned r) ∧ ∃ ar' cr', RefW w' rb now (l ++ [⟨u, d, spotN d now⟩]) ar' cr' ∧ (∀ k, OwnS ar' k → OwnS ar k ∨ w.heap.size ≤ k) ∧ Ch (RS rb ar) w w' := by
  have c0 := H.t
  have H0 := Lib.hid H
  have RLT := Lib.hid H.k.lt
  have ALT := Lib.hid (Row.lt H.r)
  obtain ⟨n, hln⟩ : ∃ n, n = l.length := ⟨_, rfl⟩
  have LEN := Lib.hid hln
  rw [← hln] at hl
  have AP := Lib.hid (refApart_any d now hd hn w)
  have DIG := Lib.hid (refDigits_any d hd)
  obtain ⟨s1, s2, s3⟩ := spot_hgt d now hd hn
  have hlt := ap_lt d now 11
  have hg : (hgt d now : Int) = max 0 (ap d now 11) := Int.toNat_of_nonneg (by omega)
  have V1 : Hid (∀ i, i < n * 4 → dval (l ++ [⟨u, d, spotN d now⟩]) i = dval l i) := Lib.hid fun i hi => dval_old (by rw [← LEN.out]; exact hi)
  have V0 := Lib.hid (dval_new (l := l) (x := ⟨u, d, spotN d now⟩))
  have DGL := Lib.hid (dg_lt d (hgt d now))
  generalize ap d now 11 = aa at *
  generalize hgt d now = h at *
  clear H hln
  go_enter Tryd.func7, Tryd.ntmps7
  go_wp2_with fail
  refine AP.out.mono ?_
  rintro e w1 ⟨rfl, b1⟩
  have C1 : Hid (Ch Nil w w1) := Lib.hid (Ch.of_below b1)
  have sz1 := b1.size
  clear b1 AP
  obtain ⟨bb, hbb⟩ : ∃ bb, bb = w1.heap.size := ⟨_, rfl⟩
  have NB : Hid (¬ OwnS ar bb) := Lib.hid fun e => by have := ALT.out bb e; omega
  have NRB : Hid (¬ bb = rb) := Lib.hid fun e => by have := RLT.out; omega
  have HBB := Lib.hid hbb
  have HBS : Hid (w.heap.size ≤ bb) := Lib.hid (by omega)
  by_cases h4 : 4 ≤ h
  · have ha : (4 : Int) ≤ aa := by omega
    have ha0 : ¬ aa < 0 := by omega
    have ha4 : ¬ aa < 4 := by omega
    have hs := s2 h4
    obtain ⟨lv, hlv⟩ : ∃ lv : Nat, lv = 4 := ⟨_, rfl⟩
    obtain ⟨sl, hsl⟩ : ∃ sl : Nat, sl = 0 := ⟨_, rfl⟩
    have V2 : Hid (∀ (j : Nat) (v : Value), ([.int .i64 u, .int .u64 (d : Nat), .int .i64 ((lv : Nat) : Int), .int .i64 ((sl : Nat) : Int)] : List Value)[j]? = some v → dval (l ++ [⟨u, d, spotN d now⟩]) (n * 4 + j) = v) := Lib.hid fun j v hv => by rw [LEN.out]; refine V0.out j v ?_; rw [hs, ← hv, hlv, hsl]
    obtain ⟨w5, hw5⟩ : ∃ w5, w5 = w1.alloc (.cells #[.int .i64 u, .int .u64 (d : Nat), .int .i64 4, .int .i64 0] 49) := ⟨_, rfl⟩
    have C5 : Hid (Ch Nil w w5) := Lib.hid (hw5 ▸ C1.out.alloc _)
    have H5 := Lib.hid (H0.out.kept C5.out (fun _ _ e => e))
    have BX : Hid ((w5.cell? ⟨bb, 0, none⟩ = some (.int .i64 u) ∧ w5.cell? ⟨bb, 1, none⟩ = some (.int .u64 (d : Nat))) ∧ w5.cell? ⟨bb, 2, none⟩ = some (.int .i64 ((lv : Nat) : Int)) ∧ w5.cell? ⟨bb, 3, none⟩ = some (.int .i64 ((sl : Nat) : Int))) := Lib.hid (by rw [hw5, hbb, hlv, hsl]; refine ⟨⟨?_, ?_⟩, ?_, ?_⟩ <;> (rw [cell_fresh]; rfl))
    have HW5 := Lib.hid hw5
    clear hw5 hbb hlv hsl hs s1 s2 c0
    go_upto_if 20 with (fail)
    rw [← HW5.out, ← HBB.out]
    clear HW5 HBB
    go_upto_region 7 with (fail)
    refine wp_region_held_drew (S := fun w' => (w'.cell? ⟨bb, 0, none⟩ = some (.int .i64 u) ∧ w'.cell? ⟨bb, 1, none⟩ = some (.int .u64 (d : Nat))) ∧ w'.cell? ⟨bb, 2, none⟩ = some (.int .i64 ((lv : Nat) : Int)) ∧ w'.cell? ⟨bb, 3, none⟩ = some (.int .i64 ((sl : Nat) : Int))) (by kernel_rfl) BX.out (fun hHeld => ?_)
    have HD := Lib.hid (H5.out.kept (S := Nil) (Ch.refl _ _).drew (fun _ _ e => e))
    have CD : Hid (Ch Nil w w5.drew) := Lib.hid C5.out.drew
    clear H5 C5 BX
    generalize w5.drew = X at hHeld HD CD ⊢
    have cX : Ch Nil X (X.alloc (.cells #[.int .i64 u, .int .u64 (d : Nat), .int .i64 ((lv : Nat) : Int), .int .i64 ((sl : Nat) : Int)] 49)) := (Ch.refl _ _).alloc _
    have c1 := HD.out.s
    rw [← LEN.out] at c1
    have c2 := cX.keeps c1 (fun e => e)
    have S2 : ((X.alloc (.cells #[.int .i64 u, .int .u64 (d : Nat), .int .i64 ((lv : Nat) : Int), .int .i64 ((sl : Nat) : Int)] 49)).cell? ⟨bb, 0, none⟩ = some (.int .i64 u) ∧ (X.alloc (.cells #[.int .i64 u, .int .u64 (d : Nat), .int .i64 ((lv : Nat) : Int), .int .i64 ((sl : Nat) : Int)] 49)).cell? ⟨bb, 1, none⟩ = some (.int .u64 (d : Nat))) ∧ (X.alloc (.cells #[.int .i64 u, .int .u64 (d : Nat), .int .i64 ((lv : Nat) : Int), .int .i64 ((sl : Nat) : Int)] 49)).cell? ⟨bb, 2, none⟩ = some (.int .i64 ((lv : Nat) : Int)) ∧ (X.alloc (.cells #[.int .i64 u, .int .u64 (d : Nat), .int .i64 ((lv : Nat) : Int), .int .i64 ((sl : Nat) : Int)] 49)).cell? ⟨bb, 3, none⟩ = some (.int .i64 ((sl : Nat) : Int)) := ⟨⟨cX.keeps hHeld.1.1 (fun e => e), cX.keeps hHeld.1.2 (fun e => e)⟩, cX.keeps hHeld.2.1 (fun e => e), cX.keeps hHeld.2.2 (fun e => e)⟩
    refine take_at (v := ?_) 0 (some 29) rfl (by kernel_rfl) (by kernel_rfl) (by kernel_rfl) (by kernel_rfl) (fun _ _ _ h => h) (Or.inl ⟨by rfl, ?_⟩) (by assumption) ?_
    rotate_left
    · intro w hSw; (try dsimp only at hSw); go_simp; try (with_reducible rfl)
    (try simp only [Act.put, List.setIfInBounds_toArray, List.set_cons_zero, List.set_cons_succ])
    refine take_at (v := ?_) 1 (some 30) rfl (by kernel_rfl) (by kernel_rfl) (by kernel_rfl) (by kernel_rfl) (fun _ _ _ h => h) (Or.inl ⟨by rfl, ?_⟩) (by assumption) ?_
    rotate_left
    · intro w hSw; (try dsimp only at hSw); go_simp; try (with_reducible rfl)
    (try simp only [Act.put, List.setIfInBounds_toArray, List.set_cons_zero, List.set_cons_succ])
    refine take_at (v := ?_) 2 (some 31) rfl (by kernel_rfl) (by kernel_rfl) (by kernel_rfl) (by kernel_rfl) (fun _ _ _ h => h) (Or.inl ⟨by rfl, ?_⟩) (by assumption) ?_
    rotate_left
    · intro w hSw; (try dsimp only at hSw); go_simp; try (with_reducible rfl)
    (try simp only [Act.put, List.setIfInBounds_toArray, List.set_cons_zero, List.set_cons_succ])
    refine take_at (v := ?_) 3 (some 32) rfl (by kernel_rfl) (by kernel_rfl) (by kernel_rfl) (by kernel_rfl) (fun _ _ _ h => h) (Or.inl ⟨by rfl, ?_⟩) (by assumption) ?_
    rotate_left
    · intro w hSw; (try dsimp only at hSw); go_simp; try (with_reducible rfl)
    (try simp only [Act.put, List.setIfInBounds_toArray, List.set_cons_zero, List.set_cons_succ])
    refine take_at (v := ?_) 5 (some 34) rfl (by kernel_rfl) (by kernel_rfl) (by kernel_rfl) (by kernel_rfl) (fun _ _ _ h => h) (Or.inl ⟨by rfl, ?_⟩) (by assumption) ?_
    rotate_left
    · intro w hSw; (try dsimp only at hSw); go_simp; try (with_reducible rfl)
    (try simp only [Act.put, List.setIfInBounds_toArray, List.set_cons_zero, List.set_cons_succ])
    refine wpAnyH_ready (rs := [4, 6]) (by kernel_rfl) (by simp) ?_
    refine AllReadyH.cons rfl (fun K hK => ?_) ?_
    go_simp
    refine hK.out _ _ hHeld (fun hh => ?_)
    clear hK K hh
    (try simp only [Act.put, List.setIfInBounds_toArray, List.set_cons_zero, List.set_cons_succ])
    refine wpAnyH_ready (rs := [6]) (by kernel_rfl) (by simp) ?_
    refine AllReadyH.cons rfl (fun K hK => ?_) AllReadyH.nil
    go_simp
    refine hK.out _ _ S2 (fun hh => ?_)
    clear hK K hh
    (try simp only [Act.put, List.setIfInBounds_toArray, List.set_cons_zero, List.set_cons_succ])
    refine ?tail1
    rotate_left
    refine AllReadyH.cons rfl (fun K hK => ?_) AllReadyH.nil
    go_simp
    refine hK.out _ _ S2 (fun hh => ?_)
    clear hK K hh
    (try simp only [Act.put, List.setIfInBounds_toArray, List.set_cons_zero, List.set_cons_succ])
    refine wpAnyH_ready (rs := [4]) (by kernel_rfl) (by simp) ?_
    refine AllReadyH.cons rfl (fun K hK => ?_) AllReadyH.nil
    go_simp
    refine hK.out _ _ S2 (fun hh => ?_)
    clear hK K hh
    (try simp only [Act.put, List.setIfInBounds_toArray, List.set_cons_zero, List.set_cons_succ])
    exact ?tail1
    have R5 : Hid (RowD (X.alloc (.cells #[.int .i64 u, .int .u64 (d : Nat), .int .i64 ((lv : Nat) : Int), .int .i64 ((sl : Nat) : Int)] 49)) ar n cr l) := Lib.hid (by have := Row.kept HD.out.r cX (fun _ _ e => e); rw [← LEN.out] at this; exact this)
    refine wpAnyH_ready (rs := [7]) (by kernel_rfl) (by simp) ?_
    refine AllReadyH.cons rfl (fun K hK => ?_) AllReadyH.nil
    refine step_row rfl _ _ _ rfl 49 (.agg #[.int .i64 0, .int .u64 0, .int .i64 0, .int .i64 0]) 4 32 Tryd.underlying28 (by kernel_rfl) rfl (by omega) (by omega) rfl R5.out (by omega) X.heap.size 1 [.int .i64 u, .int .u64 (d : Nat), .int .i64 ((lv : Nat) : Int), .int .i64 ((sl : Nat) : Int)] 49 rfl rfl (heap_alloc_new X _) (by simp [Value.oneCell']) (dval (l ++ [⟨u, d, spotN d now⟩])) V1.out V2.out _ rfl ?_
    intro g6 cap6 w6 row6 ch6 at6 lt6
    have nbb : ¬ OwnS ar bb := NB.out
    have nrb : ¬ OwnS ar rb := HD.out.nb
    have S3 : (w6.cell? ⟨bb, 0, none⟩ = some (.int .i64 u) ∧ w6.cell? ⟨bb, 1, none⟩ = some (.int .u64 (d : Nat))) ∧ w6.cell? ⟨bb, 2, none⟩ = some (.int .i64 ((lv : Nat) : Int)) ∧ w6.cell? ⟨bb, 3, none⟩ = some (.int .i64 ((sl : Nat) : Int)) := ⟨⟨ch6.keeps S2.1.1 nbb, ch6.keeps S2.1.2 nbb⟩, ch6.keeps S2.2.1 nbb, ch6.keeps S2.2.2 nbb⟩
    have c3 := ch6.keeps c2 nrb
    have k6 : Blk w6 rb := (HD.out.k.kept cX (fun e => e)).kept ch6 nrb
    have z3 := k6.fz 1
    have t6 := ch6.keeps (cX.keeps HD.out.t (fun e => e)) nrb
    have CH : Hid (Ch (OwnS ar) w w6) := Lib.hid (((CD.out.trans cX).mono fun _ _ e => e.elim).trans ch6)
    have hXs := CD.out.size
    have AT : Hid (OwnS ar g6 ∨ w.heap.size ≤ g6) := Lib.hid (by rcases at6 with h | h; exact .inl h; exact .inr (by (try simp at h); omega))
    have ROW := Lib.hid row6
    have K6 := Lib.hid k6
    have T6 := Lib.hid t6
    refine hK.out _ _ S3 (fun hh => ?_)
    clear hK K hh ch6 row6 at6 lt6 R5 S2 c2 c1 hHeld cX k6 t6
    (try simp only [Act.put, List.setIfInBounds_toArray, List.set_cons_zero, List.set_cons_succ])
    refine take_at (v := ?_) 8 (some 37) rfl (by kernel_rfl) (by kernel_rfl) (by kernel_rfl) (by kernel_rfl) (fun _ _ _ h => h) (Or.inl ⟨by rfl, ?_⟩) (by assumption) ?_
    rotate_left
    · intro w hSw; (try dsimp only at hSw); go_simp; try (with_reducible rfl)
    (try simp only [Act.put, List.setIfInBounds_toArray, List.set_cons_zero, List.set_cons_succ])
    refine take_at (v := ?_) 9 (some 38) rfl (by kernel_rfl) (by kernel_rfl) (by kernel_rfl) (by kernel_rfl) (fun _ _ _ h => h) (Or.inl ⟨by rfl, ?_⟩) (by assumption) ?_
    rotate_left
    · intro w hSw; (try dsimp only at hSw); go_simp; try (with_reducible rfl)
    (try simp only [Act.put, List.setIfInBounds_toArray, List.set_cons_zero, List.set_cons_succ])
    refine wpAnyH_ready (rs := [10]) (by kernel_rfl) (by simp) ?_
    refine AllReadyH.cons rfl (fun K hK => ?_) AllReadyH.nil
    go_simp
    refine hK.out _ _ ⟨⟨by rw [cell_set, if_neg (by rintro ⟨e, -⟩; exact NRB.out e)]; exact S3.1.1, by rw [cell_set, if_neg (by rintro ⟨e, -⟩; exact NRB.out e)]; exact S3.1.2⟩, by rw [cell_set, if_neg (by rintro ⟨e, -⟩; exact NRB.out e)]; exact S3.2.1, by rw [cell_set, if_neg (by rintro ⟨e, -⟩; exact NRB.out e)]; exact S3.2.2⟩ (fun hh => ?_)
    clear hK K hh
    (try simp only [Act.put, List.setIfInBounds_toArray, List.set_cons_zero, List.set_cons_succ])
    refine wpAnyH_done (by kernel_rfl) ?_ _
    have C3 := Lib.hid c3
    clear S3 c3 z3
    go_wp2
    go_end0
    have ch : Ch (One rb) w6 (w6.setCell ⟨rb, 1, none⟩ (.slice (some ⟨g6, 0, none⟩) (n + 1) cap6)) := (Ch.refl _ _).setB 1 _
    have ngr : g6 ≠ rb := fun e => by
      subst e
      rcases AT.out with h | h
      · exact nrb h
      · have := RLT.out; omega
    refine ⟨⟨_, rfl⟩, some ⟨g6, 0, none⟩, cap6, ⟨(cell_ne (by omega) _).trans T6.out, ?_, K6.out.set _ _, ?_, fun e => by cases e; exact ngr rfl⟩, fun k hk => by cases hk; exact AT.out, (CH.out.mono fun k _ hk => .inr hk).then ch (fun k _ e => .inl e)⟩
    · rw [List.length_append, ← LEN.out]; exact World.cell?_setCell_same _ _ _ C3.out
    · rw [List.length_append, ← LEN.out]; exact Row.kept ROW.out ch (fun k hk e => by cases hk; exact ngr e)
  · by_cases hneg : aa < 0
    · obtain rfl : h = 0 := by omega
      have ha4 : aa < 4 := by omega
      clear hg hlt
      have hs := s1 (by omega)
      obtain ⟨lv, hlv⟩ : ∃ lv : Nat, lv = 0 := ⟨_, rfl⟩
      obtain ⟨sl, hsl⟩ : ∃ sl : Nat, sl = dg d 0 := ⟨_, rfl⟩
      have hsl64 : sl < 64 := by rw [hsl]; exact DGL.out
      have V2 : Hid (∀ (j : Nat) (v : Value), ([.int .i64 u, .int .u64 (d : Nat), .int .i64 ((lv : Nat) : Int), .int .i64 ((sl : Nat) : Int)] : List Value)[j]? = some v → dval (l ++ [⟨u, d, spotN d now⟩]) (n * 4 + j) = v) := Lib.hid fun j v hv => by rw [LEN.out]; refine V0.out j v ?_; rw [hs, ← hv, ← hsl]; rw [show (64 * 0 + sl) / 64 = lv by omega, show (64 * 0 + sl) % 64 = sl by omega]
      obtain ⟨w3, hw3⟩ : ∃ w3, w3 = w1.alloc (.cells #[.int .i64 u, .int .u64 (d : Nat), .int .i64 0, .int .i64 0] 49) := ⟨_, rfl⟩
      have C3 : Hid (Ch Nil w w3) := Lib.hid (hw3 ▸ C1.out.alloc _)
      have x0 : w3.cell? ⟨bb, 0, none⟩ = some (.int .i64 u) := by rw [hw3, hbb, cell_fresh]; rfl
      have x1 : w3.cell? ⟨bb, 1, none⟩ = some (.int .u64 (d : Nat)) := by rw [hw3, hbb, cell_fresh]; rfl
      have x2 : w3.cell? ⟨bb, 2, none⟩ = some (.int .i64 ((lv : Nat) : Int)) := by rw [hw3, hbb, hlv, cell_fresh]; rfl
      have x3 : w3.cell? ⟨bb, 3, none⟩ = some (.int .i64 0) := by rw [hw3, hbb, cell_fresh]; rfl
      have xk : Blk w3 bb := by rw [hw3, hbb]; exact Blk.new _ _ _
      have X0 := Lib.hid x0
      have X1 := Lib.hid x1
      have X2 := Lib.hid x2
      have X3 := Lib.hid x3
      have XK := Lib.hid xk
      have HW3 := Lib.hid hw3
      have HSL := Lib.hid hsl
      clear x0 x1 x2 x3 xk hw3 hbb hlv hsl hs s1 s2 c0
      go_wp2_with fail
      rw [← HW3.out, ← HBB.out]
      clear HW3 HBB
      refine (DIG.out _).mono ?_
      rintro e w4 ⟨gd, cpd, rfl, hg1, hg2, hcap, dc, bel⟩
      have c4 : Ch Nil w3 w4 := Ch.of_below bel
      have y3 := c4.keeps X3.out (fun e => e)
      have yf := (XK.out.kept c4 (fun e => e)).fz 3
      have yd := dc 0 (by omega)
      rw [← HSL.out] at yd
      have C4 := Lib.hid c4
      have hbl := XK.out.lt
      have hgb : gd ≠ bb := by omega
      clear dc bel c4 hg1 hg2
      obtain ⟨w5, hw5⟩ : ∃ w5, w5 = w4.setCell ⟨bb, 3, none⟩ (.int .i64 ((sl : Nat) : Int)) := ⟨_, rfl⟩
      have cs : Ch (One bb) w4 w5 := hw5 ▸ (Ch.refl _ _).setB 3 _
      have C5 : Hid (Ch Nil w w5) := Lib.hid ((C3.out.trans C4.out).up cs (fun i e => by have e' : i = bb := e; have := HBS.out; omega))
      have H5 := Lib.hid (H0.out.kept C5.out (fun _ _ e => e))
      have BX : Hid ((w5.cell? ⟨bb, 0, none⟩ = some (.int .i64 u) ∧ w5.cell? ⟨bb, 1, none⟩ = some (.int .u64 (d : Nat))) ∧ w5.cell? ⟨bb, 2, none⟩ = some (.int .i64 ((lv : Nat) : Int)) ∧ w5.cell? ⟨bb, 3, none⟩ = some (.int .i64 ((sl : Nat) : Int))) := Lib.hid (by
        rw [hw5]
        exact ⟨⟨(cell_ne (by omega) _).trans (C4.out.keeps X0.out (fun e => e)), (cell_ne (by omega) _).trans (C4.out.keeps X1.out (fun e => e))⟩, (cell_ne (by omega) _).trans (C4.out.keeps X2.out (fun e => e)), World.cell?_setCell_same _ _ _ y3⟩)
      have HW5 := Lib.hid hw5
      clear hw5 cs C3 C4 X0 X1 X2 X3 XK HSL
      go_upto_region 7 with (fail)
      rw [← HW5.out]
      clear HW5 y3 yf yd
      refine wp_region_held_drew (S := fun w' => (w'.cell? ⟨bb, 0, none⟩ = some (.int .i64 u) ∧ w'.cell? ⟨bb, 1, none⟩ = some (.int .u64 (d : Nat))) ∧ w'.cell? ⟨bb, 2, none⟩ = some (.int .i64 ((lv : Nat) : Int)) ∧ w'.cell? ⟨bb, 3, none⟩ = some (.int .i64 ((sl : Nat) : Int))) (by kernel_rfl) BX.out (fun hHeld => ?_)
      have HD := Lib.hid (H5.out.kept (S := Nil) (Ch.refl _ _).drew (fun _ _ e => e))
      have CD : Hid (Ch Nil w w5.drew) := Lib.hid C5.out.drew
      clear H5 C5 BX
      generalize w5.drew = X at hHeld HD CD ⊢
      have cX : Ch Nil X (X.alloc (.cells #[.int .i64 u, .int .u64 (d : Nat), .int .i64 ((lv : Nat) : Int), .int .i64 ((sl : Nat) : Int)] 49)) := (Ch.refl _ _).alloc _
      have c1 := HD.out.s
      rw [← LEN.out] at c1
      have c2 := cX.keeps c1 (fun e => e)
      have S2 : ((X.alloc (.cells #[.int .i64 u, .int .u64 (d : Nat), .int .i64 ((lv : Nat) : Int), .int .i64 ((sl : Nat) : Int)] 49)).cell? ⟨bb, 0, none⟩ = some (.int .i64 u) ∧ (X.alloc (.cells #[.int .i64 u, .int .u64 (d : Nat), .int .i64 ((lv : Nat) : Int), .int .i64 ((sl : Nat) : Int)] 49)).cell? ⟨bb, 1, none⟩ = some (.int .u64 (d : Nat))) ∧ (X.alloc (.cells #[.int .i64 u, .int .u64 (d : Nat), .int .i64 ((lv : Nat) : Int), .int .i64 ((sl : Nat) : Int)] 49)).cell? ⟨bb, 2, none⟩ = some (.int .i64 ((lv : Nat) : Int)) ∧ (X.alloc (.cells #[.int .i64 u, .int .u64 (d : Nat), .int .i64 ((lv : Nat) : Int), .int .i64 ((sl : Nat) : Int)] 49)).cell? ⟨bb, 3, none⟩ = some (.int .i64 ((sl : Nat) : Int)) := ⟨⟨cX.keeps hHeld.1.1 (fun e => e), cX.keeps hHeld.1.2 (fun e => e)⟩, cX.keeps hHeld.2.1 (fun e => e), cX.keeps hHeld.2.2 (fun e => e)⟩
      refine take_at (v := ?_) 0 (some 29) rfl (by kernel_rfl) (by kernel_rfl) (by kernel_rfl) (by kernel_rfl) (fun _ _ _ h => h) (Or.inl ⟨by rfl, ?_⟩) (by assumption) ?_
      rotate_left
      · intro w hSw; (try dsimp only at hSw); go_simp; try (with_reducible rfl)
      (try simp only [Act.put, List.setIfInBounds_toArray, List.set_cons_zero, List.set_cons_succ])
      refine take_at (v := ?_) 1 (some 30) rfl (by kernel_rfl) (by kernel_rfl) (by kernel_rfl) (by kernel_rfl) (fun _ _ _ h => h) (Or.inl ⟨by rfl, ?_⟩) (by assumption) ?_
      rotate_left
      · intro w hSw; (try dsimp only at hSw); go_simp; try (with_reducible rfl)
      (try simp only [Act.put, List.setIfInBounds_toArray, List.set_cons_zero, List.set_cons_succ])
      refine take_at (v := ?_) 2 (some 31) rfl (by kernel_rfl) (by kernel_rfl) (by kernel_rfl) (by kernel_rfl) (fun _ _ _ h => h) (Or.inl ⟨by rfl, ?_⟩) (by assumption) ?_
      rotate_left
      · intro w hSw; (try dsimp only at hSw); go_simp; try (with_reducible rfl)
      (try simp only [Act.put, List.setIfInBounds_toArray, List.set_cons_zero, List.set_cons_succ])
      refine take_at (v := ?_) 3 (some 32) rfl (by kernel_rfl) (by kernel_rfl) (by kernel_rfl) (by kernel_rfl) (fun _ _ _ h => h) (Or.inl ⟨by rfl, ?_⟩) (by assumption) ?_
      rotate_left
      · intro w hSw; (try dsimp only at hSw); go_simp; try (with_reducible rfl)
      (try simp only [Act.put, List.setIfInBounds_toArray, List.set_cons_zero, List.set_cons_succ])
      refine take_at (v := ?_) 5 (some 34) rfl (by kernel_rfl) (by kernel_rfl) (by kernel_rfl) (by kernel_rfl) (fun _ _ _ h => h) (Or.inl ⟨by rfl, ?_⟩) (by assumption) ?_
      rotate_left
      · intro w hSw; (try dsimp only at hSw); go_simp; try (with_reducible rfl)
      (try simp only [Act.put, List.setIfInBounds_toArray, List.set_cons_zero, List.set_cons_succ])
      refine wpAnyH_ready (rs := [4, 6]) (by kernel_rfl) (by simp) ?_
      refine AllReadyH.cons rfl (fun K hK => ?_) ?_
      go_simp
      refine hK.out _ _ hHeld (fun hh => ?_)
      clear hK K hh
      (try simp only [Act.put, List.setIfInBounds_toArray, List.set_cons_zero, List.set_cons_succ])
      refine wpAnyH_ready (rs := [6]) (by kernel_rfl) (by simp) ?_
      refine AllReadyH.cons rfl (fun K hK => ?_) AllReadyH.nil
      go_simp
      refine hK.out _ _ S2 (fun hh => ?_)
      clear hK K hh
      (try simp only [Act.put, List.setIfInBounds_toArray, List.set_cons_zero, List.set_cons_succ])
      refine ?tail2
      rotate_left
      refine AllReadyH.cons rfl (fun K hK => ?_) AllReadyH.nil
      go_simp
      refine hK.out _ _ S2 (fun hh => ?_)
      clear hK K hh
      (try simp only [Act.put, List.setIfInBounds_toArray, List.set_cons_zero, List.set_cons_succ])
      refine wpAnyH_ready (rs := [4]) (by kernel_rfl) (by simp) ?_
      refine AllReadyH.cons rfl (fun K hK => ?_) AllReadyH.nil
      go_simp
      refine hK.out _ _ S2 (fun hh => ?_)
      clear hK K hh
      (try simp only [Act.put, List.setIfInBounds_toArray, List.set_cons_zero, List.set_cons_succ])
      exact ?tail2
      have R5 : Hid (RowD (X.alloc (.cells #[.int .i64 u, .int .u64 (d : Nat), .int .i64 ((lv : Nat) : Int), .int .i64 ((sl : Nat) : Int)] 49)) ar n cr l) := Lib.hid (by have := Row.kept HD.out.r cX (fun _ _ e => e); rw [← LEN.out] at this; exact this)
      refine wpAnyH_ready (rs := [7]) (by kernel_rfl) (by simp) ?_
      refine AllReadyH.cons rfl (fun K hK => ?_) AllReadyH.nil
      refine step_row rfl _ _ _ rfl 49 (.agg #[.int .i64 0, .int .u64 0, .int .i64 0, .int .i64 0]) 4 32 Tryd.underlying28 (by kernel_rfl) rfl (by omega) (by omega) rfl R5.out (by omega) X.heap.size 1 [.int .i64 u, .int .u64 (d : Nat), .int .i64 ((lv : Nat) : Int), .int .i64 ((sl : Nat) : Int)] 49 rfl rfl (heap_alloc_new X _) (by simp [Value.oneCell']) (dval (l ++ [⟨u, d, spotN d now⟩])) V1.out V2.out _ rfl ?_
      intro g6 cap6 w6 row6 ch6 at6 lt6
      have nbb : ¬ OwnS ar bb := NB.out
      have nrb : ¬ OwnS ar rb := HD.out.nb
      have S3 : (w6.cell? ⟨bb, 0, none⟩ = some (.int .i64 u) ∧ w6.cell? ⟨bb, 1, none⟩ = some (.int .u64 (d : Nat))) ∧ w6.cell? ⟨bb, 2, none⟩ = some (.int .i64 ((lv : Nat) : Int)) ∧ w6.cell? ⟨bb, 3, none⟩ = some (.int .i64 ((sl : Nat) : Int)) := ⟨⟨ch6.keeps S2.1.1 nbb, ch6.keeps S2.1.2 nbb⟩, ch6.keeps S2.2.1 nbb, ch6.keeps S2.2.2 nbb⟩
      have c3 := ch6.keeps c2 nrb
      have k6 : Blk w6 rb := (HD.out.k.kept cX (fun e => e)).kept ch6 nrb
      have z3 := k6.fz 1
      have t6 := ch6.keeps (cX.keeps HD.out.t (fun e => e)) nrb
      have CH : Hid (Ch (OwnS ar) w w6) := Lib.hid (((CD.out.trans cX).mono fun _ _ e => e.elim).trans ch6)
      have hXs := CD.out.size
      have AT : Hid (OwnS ar g6 ∨ w.heap.size ≤ g6) := Lib.hid (by rcases at6 with h | h; exact .inl h; exact .inr (by (try simp at h); omega))
      have ROW := Lib.hid row6
      have K6 := Lib.hid k6
      have T6 := Lib.hid t6
      refine hK.out _ _ S3 (fun hh => ?_)
      clear hK K hh ch6 row6 at6 lt6 R5 S2 c2 c1 hHeld cX k6 t6
      (try simp only [Act.put, List.setIfInBounds_toArray, List.set_cons_zero, List.set_cons_succ])
      refine take_at (v := ?_) 8 (some 37) rfl (by kernel_rfl) (by kernel_rfl) (by kernel_rfl) (by kernel_rfl) (fun _ _ _ h => h) (Or.inl ⟨by rfl, ?_⟩) (by assumption) ?_
      rotate_left
      · intro w hSw; (try dsimp only at hSw); go_simp; try (with_reducible rfl)
      (try simp only [Act.put, List.setIfInBounds_toArray, List.set_cons_zero, List.set_cons_succ])
      refine take_at (v := ?_) 9 (some 38) rfl (by kernel_rfl) (by kernel_rfl) (by kernel_rfl) (by kernel_rfl) (fun _ _ _ h => h) (Or.inl ⟨by rfl, ?_⟩) (by assumption) ?_
      rotate_left
      · intro w hSw; (try dsimp only at hSw); go_simp; try (with_reducible rfl)
      (try simp only [Act.put, List.setIfInBounds_toArray, List.set_cons_zero, List.set_cons_succ])
      refine wpAnyH_ready (rs := [10]) (by kernel_rfl) (by simp) ?_
      refine AllReadyH.cons rfl (fun K hK => ?_) AllReadyH.nil
      go_simp
      refine hK.out _ _ ⟨⟨by rw [cell_set, if_neg (by rintro ⟨e, -⟩; exact NRB.out e)]; exact S3.1.1, by rw [cell_set, if_neg (by rintro ⟨e, -⟩; exact NRB.out e)]; exact S3.1.2⟩, by rw [cell_set, if_neg (by rintro ⟨e, -⟩; exact NRB.out e)]; exact S3.2.1, by rw [cell_set, if_neg (by rintro ⟨e, -⟩; exact NRB.out e)]; exact S3.2.2⟩ (fun hh => ?_)
      clear hK K hh
      (try simp only [Act.put, List.setIfInBounds_toArray, List.set_cons_zero, List.set_cons_succ])
      refine wpAnyH_done (by kernel_rfl) ?_ _
      have C3 := Lib.hid c3
      clear S3 c3 z3
      go_wp2
      go_end0
      have ch : Ch (One rb) w6 (w6.setCell ⟨rb, 1, none⟩ (.slice (some ⟨g6, 0, none⟩) (n + 1) cap6)) := (Ch.refl _ _).setB 1 _
      have ngr : g6 ≠ rb := fun e => by
        subst e
        rcases AT.out with h | h
        · exact nrb h
        · have := RLT.out; omega
      refine ⟨⟨_, rfl⟩, some ⟨g6, 0, none⟩, cap6, ⟨(cell_ne (by omega) _).trans T6.out, ?_, K6.out.set _ _, ?_, fun e => by cases e; exact ngr rfl⟩, fun k hk => by cases hk; exact AT.out, (CH.out.mono fun k _ hk => .inr hk).then ch (fun k _ e => .inl e)⟩
      · rw [List.length_append, ← LEN.out]; exact World.cell?_setCell_same _ _ _ C3.out
      · rw [List.length_append, ← LEN.out]; exact Row.kept ROW.out ch (fun k hk e => by cases hk; exact ngr e)
    · obtain rfl : aa = (h : Int) := by omega
      have hz0 : (0 : Int) ≤ (h : Int) := by omega
      have hz4 : (h : Int) < 4 := by omega
      clear hg hlt
      have hs := s1 (by omega)
      obtain ⟨lv, hlv⟩ : ∃ lv : Nat, lv = h := ⟨_, rfl⟩
      obtain ⟨sl, hsl⟩ : ∃ sl : Nat, sl = dg d h := ⟨_, rfl⟩
      have hsl64 : sl < 64 := by rw [hsl]; exact DGL.out
      have V2 : Hid (∀ (j : Nat) (v : Value), ([.int .i64 u, .int .u64 (d : Nat), .int .i64 ((lv : Nat) : Int), .int .i64 ((sl : Nat) : Int)] : List Value)[j]? = some v → dval (l ++ [⟨u, d, spotN d now⟩]) (n * 4 + j) = v) := Lib.hid fun j v hv => by rw [LEN.out]; refine V0.out j v ?_; rw [hs, ← hv, ← hsl]; rw [show (64 * h + sl) / 64 = lv by omega, show (64 * h + sl) % 64 = sl by omega]
      obtain ⟨w3, hw3⟩ : ∃ w3, w3 = w1.alloc (.cells #[.int .i64 u, .int .u64 (d : Nat), .int .i64 (h : Nat), .int .i64 0] 49) := ⟨_, rfl⟩
      have C3 : Hid (Ch Nil w w3) := Lib.hid (hw3 ▸ C1.out.alloc _)
      have x0 : w3.cell? ⟨bb, 0, none⟩ = some (.int .i64 u) := by rw [hw3, hbb, cell_fresh]; rfl
      have x1 : w3.cell? ⟨bb, 1, none⟩ = some (.int .u64 (d : Nat)) := by rw [hw3, hbb, cell_fresh]; rfl
      have x2 : w3.cell? ⟨bb, 2, none⟩ = some (.int .i64 ((lv : Nat) : Int)) := by rw [hw3, hbb, hlv, cell_fresh]; rfl
      have x3 : w3.cell? ⟨bb, 3, none⟩ = some (.int .i64 0) := by rw [hw3, hbb, cell_fresh]; rfl
      have xk : Blk w3 bb := by rw [hw3, hbb]; exact Blk.new _ _ _
      have X0 := Lib.hid x0
      have X1 := Lib.hid x1
      have X2 := Lib.hid x2
      have X3 := Lib.hid x3
      have XK := Lib.hid xk
      have HW3 := Lib.hid hw3
      have HSL := Lib.hid hsl
      clear x0 x1 x2 x3 xk hw3 hbb hlv hsl hs s1 s2 c0
      go_wp2_with fail
      rw [← HW3.out, ← HBB.out]
      clear HW3 HBB
      refine (DIG.out _).mono ?_
      rintro e w4 ⟨gd, cpd, rfl, hg1, hg2, hcap, dc, bel⟩
      have c4 : Ch Nil w3 w4 := Ch.of_below bel
      have y3 := c4.keeps X3.out (fun e => e)
      have yf := (XK.out.kept c4 (fun e => e)).fz 3
      have yd := dc h (by omega)
      rw [← HSL.out] at yd
      have C4 := Lib.hid c4
      have hbl := XK.out.lt
      have hgb : gd ≠ bb := by omega
      clear dc bel c4 hg1 hg2
      obtain ⟨w5, hw5⟩ : ∃ w5, w5 = w4.setCell ⟨bb, 3, none⟩ (.int .i64 ((sl : Nat) : Int)) := ⟨_, rfl⟩
      have cs : Ch (One bb) w4 w5 := hw5 ▸ (Ch.refl _ _).setB 3 _
      have C5 : Hid (Ch Nil w w5) := Lib.hid ((C3.out.trans C4.out).up cs (fun i e => by have e' : i = bb := e; have := HBS.out; omega))
      have H5 := Lib.hid (H0.out.kept C5.out (fun _ _ e => e))
      have BX : Hid ((w5.cell? ⟨bb, 0, none⟩ = some (.int .i64 u) ∧ w5.cell? ⟨bb, 1, none⟩ = some (.int .u64 (d : Nat))) ∧ w5.cell? ⟨bb, 2, none⟩ = some (.int .i64 ((lv : Nat) : Int)) ∧ w5.cell? ⟨bb, 3, none⟩ = some (.int .i64 ((sl : Nat) : Int))) := Lib.hid (by
        rw [hw5]
        exact ⟨⟨(cell_ne (by omega) _).trans (C4.out.keeps X0.out (fun e => e)), (cell_ne (by omega) _).trans (C4.out.keeps X1.out (fun e => e))⟩, (cell_ne (by omega) _).trans (C4.out.keeps X2.out (fun e => e)), World.cell?_setCell_same _ _ _ y3⟩)
      have HW5 := Lib.hid hw5
      clear hw5 cs C3 C4 X0 X1 X2 X3 XK HSL
      go_upto_region 7 with (fail)
      rw [← HW5.out]
      clear HW5 y3 yf yd
      refine wp_region_held_drew (S := fun w' => (w'.cell? ⟨bb, 0, none⟩ = some (.int .i64 u) ∧ w'.cell? ⟨bb, 1, none⟩ = some (.int .u64 (d : Nat))) ∧ w'.cell? ⟨bb, 2, none⟩ = some (.int .i64 ((lv : Nat) : Int)) ∧ w'.cell? ⟨bb, 3, none⟩ = some (.int .i64 ((sl : Nat) : Int))) (by kernel_rfl) BX.out (fun hHeld => ?_)
      have HD := Lib.hid (H5.out.kept (S := Nil) (Ch.refl _ _).drew (fun _ _ e => e))
      have CD : Hid (Ch Nil w w5.drew) := Lib.hid C5.out.drew
      clear H5 C5 BX
      generalize w5.drew = X at hHeld HD CD ⊢
      have cX : Ch Nil X (X.alloc (.cells #[.int .i64 u, .int .u64 (d : Nat), .int .i64 ((lv : Nat) : Int), .int .i64 ((sl : Nat) : Int)] 49)) := (Ch.refl _ _).alloc _
      have c1 := HD.out.s
      rw [← LEN.out] at c1
      have c2 := cX.keeps c1 (fun e => e)
      have S2 : ((X.alloc (.cells #[.int .i64 u, .int .u64 (d : Nat), .int .i64 ((lv : Nat) : Int), .int .i64 ((sl : Nat) : Int)] 49)).cell? ⟨bb, 0, none⟩ = some (.int .i64 u) ∧ (X.alloc (.cells #[.int .i64 u, .int .u64 (d : Nat), .int .i64 ((lv : Nat) : Int), .int .i64 ((sl : Nat) : Int)] 49)).cell? ⟨bb, 1, none⟩ = some (.int .u64 (d : Nat))) ∧ (X.alloc (.cells #[.int .i64 u, .int .u64 (d : Nat), .int .i64 ((lv : Nat) : Int), .int .i64 ((sl : Nat) : Int)] 49)).cell? ⟨bb, 2, none⟩ = some (.int .i64 ((lv : Nat) : Int)) ∧ (X.alloc (.cells #[.int .i64 u, .int .u64 (d : Nat), .int .i64 ((lv : Nat) : Int), .int .i64 ((sl : Nat) : Int)] 49)).cell? ⟨bb, 3, none⟩ = some (.int .i64 ((sl : Nat) : Int)) := ⟨⟨cX.keeps hHeld.1.1 (fun e => e), cX.keeps hHeld.1.2 (fun e => e)⟩, cX.keeps hHeld.2.1 (fun e => e), cX.keeps hHeld.2.2 (fun e => e)⟩
      refine take_at (v := ?_) 0 (some 29) rfl (by kernel_rfl) (by kernel_rfl) (by kernel_rfl) (by kernel_rfl) (fun _ _ _ h => h) (Or.inl ⟨by rfl, ?_⟩) (by assumption) ?_
      rotate_left
      · intro w hSw; (try dsimp only at hSw); go_simp; try (with_reducible rfl)
      (try simp only [Act.put, List.setIfInBounds_toArray, List.set_cons_zero, List.set_cons_succ])
      refine take_at (v := ?_) 1 (some 30) rfl (by kernel_rfl) (by kernel_rfl) (by kernel_rfl) (by kernel_rfl) (fun _ _ _ h => h) (Or.inl ⟨by rfl, ?_⟩) (by assumption) ?_
      rotate_left
      · intro w hSw; (try dsimp only at hSw); go_simp; try (with_reducible rfl)
      (try simp only [Act.put, List.setIfInBounds_toArray, List.set_cons_zero, List.set_cons_succ])
      refine take_at (v := ?_) 2 (some 31) rfl (by kernel_rfl) (by kernel_rfl) (by kernel_rfl) (by kernel_rfl) (fun _ _ _ h => h) (Or.inl ⟨by rfl, ?_⟩) (by assumption) ?_
      rotate_left
      · intro w hSw; (try dsimp only at hSw); go_simp; try (with_reducible rfl)
      (try simp only [Act.put, List.setIfInBounds_toArray, List.set_cons_zero, List.set_cons_succ])
      refine take_at (v := ?_) 3 (some 32) rfl (by kernel_rfl) (by kernel_rfl) (by kernel_rfl) (by kernel_rfl) (fun _ _ _ h => h) (Or.inl ⟨by rfl, ?_⟩) (by assumption) ?_
      rotate_left
      · intro w hSw; (try dsimp only at hSw); go_simp; try (with_reducible rfl)
      (try simp only [Act.put, List.setIfInBounds_toArray, List.set_cons_zero, List.set_cons_succ])
      refine take_at (v := ?_) 5 (some 34) rfl (by kernel_rfl) (by kernel_rfl) (by kernel_rfl) (by kernel_rfl) (fun _ _ _ h => h) (Or.inl ⟨by rfl, ?_⟩) (by assumption) ?_
      rotate_left
      · intro w hSw; (try dsimp only at hSw); go_simp; try (with_reducible rfl)
      (try simp only [Act.put, List.setIfInBounds_toArray, List.set_cons_zero, List.set_cons_succ])
      refine wpAnyH_ready (rs := [4, 6]) (by kernel_rfl) (by simp) ?_
      refine AllReadyH.cons rfl (fun K hK => ?_) ?_
      go_simp
      refine hK.out _ _ hHeld (fun hh => ?_)
      clear hK K hh
      (try simp only [Act.put, List.setIfInBounds_toArray, List.set_cons_zero, List.set_cons_succ])
      refine wpAnyH_ready (rs := [6]) (by kernel_rfl) (by simp) ?_
      refine AllReadyH.cons rfl (fun K hK => ?_) AllReadyH.nil
      go_simp
      refine hK.out _ _ S2 (fun hh => ?_)
      clear hK K hh
      (try simp only [Act.put, List.setIfInBounds_toArray, List.set_cons_zero, List.set_cons_succ])
      refine ?tail3
      rotate_left
      refine AllReadyH.cons rfl (fun K hK => ?_) AllReadyH.nil
      go_simp
      refine hK.out _ _ S2 (fun hh => ?_)
      clear hK K hh
      (try simp only [Act.put, List.setIfInBounds_toArray, List.set_cons_zero, List.set_cons_succ])
      refine wpAnyH_ready (rs := [4]) (by kernel_rfl) (by simp) ?_
      refine AllReadyH.cons rfl (fun K hK => ?_) AllReadyH.nil
      go_simp
      refine hK.out _ _ S2 (fun hh => ?_)
      clear hK K hh
      (try simp only [Act.put, List.setIfInBounds_toArray, List.set_cons_zero, List.set_cons_succ])
      exact ?tail3
      have R5 : Hid (RowD (X.alloc (.cells #[.int .i64 u, .int .u64 (d : Nat), .int .i64 ((lv : Nat) : Int), .int .i64 ((sl : Nat) : Int)] 49)) ar n cr l) := Lib.hid (by have := Row.kept HD.out.r cX (fun _ _ e => e); rw [← LEN.out] at this; exact this)
      refine wpAnyH_ready (rs := [7]) (by kernel_rfl) (by simp) ?_
      refine AllReadyH.cons rfl (fun K hK => ?_) AllReadyH.nil
      refine step_row rfl _ _ _ rfl 49 (.agg #[.int .i64 0, .int .u64 0, .int .i64 0, .int .i64 0]) 4 32 Tryd.underlying28 (by kernel_rfl) rfl (by omega) (by omega) rfl R5.out (by omega) X.heap.size 1 [.int .i64 u, .int .u64 (d : Nat), .int .i64 ((lv : Nat) : Int), .int .i64 ((sl : Nat) : Int)] 49 rfl rfl (heap_alloc_new X _) (by simp [Value.oneCell']) (dval (l ++ [⟨u, d, spotN d now⟩])) V1.out V2.out _ rfl ?_
      intro g6 cap6 w6 row6 ch6 at6 lt6
      have nbb : ¬ OwnS ar bb := NB.out
      have nrb : ¬ OwnS ar rb := HD.out.nb
      have S3 : (w6.cell? ⟨bb, 0, none⟩ = some (.int .i64 u) ∧ w6.cell? ⟨bb, 1, none⟩ = some (.int .u64 (d : Nat))) ∧ w6.cell? ⟨bb, 2, none⟩ = some (.int .i64 ((lv : Nat) : Int)) ∧ w6.cell? ⟨bb, 3, none⟩ = some (.int .i64 ((sl : Nat) : Int)) := ⟨⟨ch6.keeps S2.1.1 nbb, ch6.keeps S2.1.2 nbb⟩, ch6.keeps S2.2.1 nbb, ch6.keeps S2.2.2 nbb⟩
      have c3 := ch6.keeps c2 nrb
      have k6 : Blk w6 rb := (HD.out.k.kept cX (fun e => e)).kept ch6 nrb
      have z3 := k6.fz 1
      have t6 := ch6.keeps (cX.keeps HD.out.t (fun e => e)) nrb
      have CH : Hid (Ch (OwnS ar) w w6) := Lib.hid (((CD.out.trans cX).mono fun _ _ e => e.elim).trans ch6)
      have hXs := CD.out.size
      have AT : Hid (OwnS ar g6 ∨ w.heap.size ≤ g6) := Lib.hid (by rcases at6 with h | h; exact .inl h; exact .inr (by (try simp at h); omega))
      have ROW := Lib.hid row6
      have K6 := Lib.hid k6
      have T6 := Lib.hid t6
      refine hK.out _ _ S3 (fun hh => ?_)
      clear hK K hh ch6 row6 at6 lt6 R5 S2 c2 c1 hHeld cX k6 t6
      (try simp only [Act.put, List.setIfInBounds_toArray, List.set_cons_zero, List.set_cons_succ])
      refine take_at (v := ?_) 8 (some 37) rfl (by kernel_rfl) (by kernel_rfl) (by kernel_rfl) (by kernel_rfl) (fun _ _ _ h => h) (Or.inl ⟨by rfl, ?_⟩) (by assumption) ?_
      rotate_left
      · intro w hSw; (try dsimp only at hSw); go_simp; try (with_reducible rfl)
      (try simp only [Act.put, List.setIfInBounds_toArray, List.set_cons_zero, List.set_cons_succ])
      refine take_at (v := ?_) 9 (some 38) rfl (by kernel_rfl) (by kernel_rfl) (by kernel_rfl) (by kernel_rfl) (fun _ _ _ h => h) (Or.inl ⟨by rfl, ?_⟩) (by assumption) ?_
      rotate_left
      · intro w hSw; (try dsimp only at hSw); go_simp; try (with_reducible rfl)
      (try simp only [Act.put, List.setIfInBounds_toArray, List.set_cons_zero, List.set_cons_succ])
      refine wpAnyH_ready (rs := [10]) (by kernel_rfl) (by simp) ?_
      refine AllReadyH.cons rfl (fun K hK => ?_) AllReadyH.nil
      go_simp
      refine hK.out _ _ ⟨⟨by rw [cell_set, if_neg (by rintro ⟨e, -⟩; exact NRB.out e)]; exact S3.1.1, by rw [cell_set, if_neg (by rintro ⟨e, -⟩; exact NRB.out e)]; exact S3.1.2⟩, by rw [cell_set, if_neg (by rintro ⟨e, -⟩; exact NRB.out e)]; exact S3.2.1, by rw [cell_set, if_neg (by rintro ⟨e, -⟩; exact NRB.out e)]; exact S3.2.2⟩ (fun hh => ?_)
      clear hK K hh
      (try simp only [Act.put, List.setIfInBounds_toArray, List.set_cons_zero, List.set_cons_succ])
      refine wpAnyH_done (by kernel_rfl) ?_ _
      have C3 := Lib.hid c3
      clear S3 c3 z3
      go_wp2
      go_end0
      have ch : Ch (One rb) w6 (w6.setCell ⟨rb, 1, none⟩ (.slice (some ⟨g6, 0, none⟩) (n + 1) cap6)) := (Ch.refl _ _).setB 1 _
      have ngr : g6 ≠ rb := fun e => by
        subst e
        rcases AT.out with h | h
        · exact nrb h
        · have := RLT.out; omega
      refine ⟨⟨_, rfl⟩, some ⟨g6, 0, none⟩, cap6, ⟨(cell_ne (by omega) _).trans T6.out, ?_, K6.out.set _ _, ?_, fun e => by cases e; exact ngr rfl⟩, fun k hk => by cases hk; exact AT.out, (CH.out.mono fun k _ hk => .inr hk).then ch (fun k _ e => .inl e)⟩
      · rw [List.length_append, ← LEN.out]; exact World.cell?_setCell_same _ _ _ C3.out
      · rw [List.length_append, ← LEN.out]; exact Row.kept ROW.out ch (fun k hk e => by cases hk; exact ngr e)
end
end Go.Proofs.YtkfknafgknppdaaDoor

namespace Verge
set_option linter.unusedVariables false
def kD (x : Dn) : Int × Nat := (x.u, x.d)
def kE (x : Ent) : Int × Nat := (x.u, x.d)
/-- each place has the same entries, in the same order -/
structure RQ (l : List Dn) (Q : List Ent) (s : Nat) : Prop where
  p : ∀ x, x ∈ l → x.p ≤ 256
  r : ∀ q, (l.filter fun x => decide (x.p = q)).map kD = (rowsOf Q s q).map kE
def repl (t : Nat) (x : Dn) : Dn := ⟨x.u, x.d, spotN x.d t⟩
section
variable {l : List Dn} {Q : List Ent} {s t p : Nat}
theorem filt_not (l : List Dn) (p q : Nat) : ((l.filter fun x => !decide (x.p = p)).filter fun x => decide (x.p = q)) = if q = p then [] else l.filter fun x => decide (x.p = q) := by
  rw [List.filter_filter]
  split
  · rename_i e; subst e
    rw [List.filter_eq_nil_iff]; intro x _ h; simp at h
  · rename_i e
    refine List.filter_congr fun x _ => ?_
    by_cases h : x.p = q
    · have : x.p ≠ p := fun e' => e (h.symm.trans e')
      simp [h]; exact fun e' => e e'
    · simp [h]
theorem RQ.step (h : RQ l Q s) (e : stepR (rowsOf Q s) p t = rowsOf Q t) : RQ ((l.filter fun x => !decide (x.p = p)) ++ ((l.filter fun x => decide (x.p = p)).map (repl t))) Q t := by
  refine ⟨fun x hx => ?_, fun q => ?_⟩
  · rcases List.mem_append.1 hx with hx | hx
    · exact h.p x (List.mem_filter.1 hx).1
    · obtain ⟨y, -, rfl⟩ := List.mem_map.1 hx; exact spotN_le _ _
  · rw [List.filter_append, List.map_append, filt_not, ← e]
    unfold stepR
    rw [List.map_append]
    congr 1
    · split
      · rfl
      · exact h.r q
    · have h1 : (((l.filter fun x => decide (x.p = p)).map (repl t)).filter fun x => decide (x.p = q)).map kD = ((l.filter fun x => decide (x.p = p)).map kD).filter fun y => decide (spotN y.2 t = q) := by
        rw [List.filter_map, List.filter_map, List.map_map]; rfl
      have h2 : ((rowsOf Q s p).filter fun x => decide (spotN x.d t = q)).map kE = ((rowsOf Q s p).map kE).filter fun y => decide (spotN y.2 t = q) := by
        rw [List.filter_map]; rfl
      rw [h1, h2, h.r p]
theorem RQ.same {s' : Nat} (h : RQ l Q s) (e : rowsOf Q s = rowsOf Q s') : RQ l Q s' := ⟨h.p, fun q => by rw [h.r q, e]⟩
theorem RQ.take (h : RQ l Q t) (hQ : ∀ x, x ∈ Q → t ≤ x.d) : RQ (l.filter fun x => !decide (x.p = hand t 0)) (leftQ Q t) t ∧ (l.filter fun x => decide (x.p = hand t 0)).map kD = (dueQ Q t).map kE := by
  refine ⟨⟨fun x hx => h.p x (List.mem_filter.1 hx).1, fun q => ?_⟩, by rw [h.r, rows_due hQ]⟩
  rw [filt_not, ← rows_left hQ]
  by_cases e : q = hand t 0
  · subst e; rw [if_pos rfl, upd_same]; rfl
  · rw [if_neg e, upd_other _ _ _ _ e]; exact h.r q
theorem filt_len (f : Dn → Bool) : ∀ l : List Dn, (l.filter fun x => !f x).length + (l.filter f).length = l.length
  | [] => rfl
  | x :: t => by
    have := filt_len f t
    rw [List.filter_cons, List.filter_cons]
    cases f x <;> simp <;> omega
theorem RQ.mem {x : Dn} (h : RQ l Q s) (hx : x ∈ l) : ∃ y, y ∈ Q ∧ y.u = x.u ∧ y.d = x.d := by
  have h1 : kD x ∈ (rowsOf Q s x.p).map kE := by rw [← h.r]; exact List.mem_map_of_mem (List.mem_filter.2 ⟨hx, by simp⟩)
  obtain ⟨y, hy, e⟩ := List.mem_map.1 h1
  unfold kD kE at e
  simp only [Prod.mk.injEq] at e
  exact ⟨y, (mem_rowsOf.1 hy).1, e.1, e.2⟩
/-- a step that finds nothing -/
theorem RQ.idle (h : RQ l Q t) (hr : rowsOf Q t p = []) : stepR (rowsOf Q t) p t = rowsOf Q t := stepR_empty hr
end
end Verge
namespace Go.Proofs.YtkfknafgknppdaaDoor
open Go.RowKit Verge LP
attribute [local go_sem] Oper.semAt_some
set_option linter.unusedVariables false
set_option linter.unusedSimpArgs false
section
variable {S : Nat → Prop} {w w' : World} {rb now : Nat} {l : List Dn} {Q : List Ent} {ar : Option Addr} {cr : Nat} {x : Dn}
theorem RefW.setNow (h : RefW w rb now l ar cr) (t : Nat) : RefW (w.setCell ⟨rb, 0, none⟩ (.int .u64 (t : Nat))) rb t l ar cr :=
  ⟨World.cell?_setCell_same _ _ _ h.t, (cell_ne (by omega) _).trans h.s, h.k.set _ _, Row.kept (S := One rb) h.r ((Ch.refl _ _).setB 0 _) (fun k hk e => by have e' : k = rb := e; subst e'; exact h.nb hk), h.nb⟩
/-- between two levels of Advance -/
structure AdvR (w : World) (rb now t zz : Nat) (Q : List Ent) (ar : Option Addr) (gd lv : Nat) (l' : List Dn) (ar' : Option Addr) (cr' : Nat) (W : World) : Prop where
  r : RefW W rb t l' ar' cr'
  q : RQ l' Q (if zz ≤ lv then now else t)
  o : ∀ k, OwnS ar' k → OwnS ar k ∨ w.heap.size ≤ k
  n : l'.length ≤ 50000
  c : Ch (RS rb ar) w W
  d : DigCells W gd t
  g : gd ≠ rb ∧ ¬ OwnS ar' gd ∧ w.heap.size ≤ gd ∧ gd < W.heap.size

set_option maxHeartbeats 4000000 in
set_option maxRecDepth 100000 in
theorem refAdvance_of (H : RefW w rb now l ar cr) (hq : RQ l Q now) (hQ : ∀ x, x ∈ Q → now < x.d) (hQ2 : ∀ x, x ∈ Q → x.d < 18446744073709551616) (hn : now + 1 < 18446744073709551616) (hl : l.length ≤ 50000) :
    Calls Tryd.prog 11 #[.pointer (some ⟨rb, 0, none⟩)] w fun e w' => ∃ ao co F l' ar' cr', e = .returned (.slice ao F.length co) ∧ RowD w' ao F.length co F ∧ F.map kD = (dueQ Q (now + 1)).map kE ∧ RefW w' rb (now + 1) l' ar' cr' ∧ RQ l' (leftQ Q (now + 1)) (now + 1) ∧ l'.length ≤ 50000 ∧ (∀ k, OwnS ar' k → OwnS ar k ∨ w.heap.size ≤ k) ∧ (∀ k, OwnS ao k → w.heap.size ≤ k) ∧ Ch (RS rb ar) w w' := by
  have c0 := H.t
  have f0 := H.k.fz 0
  have RLT := Lib.hid H.k.lt
  have RN := Lib.hid (H.setNow (now + 1))
  have CS : Hid (Ch (RS rb ar) w (w.setCell ⟨rb, 0, none⟩ (.int .u64 ((now + 1 : Nat) : Int)))) := Lib.hid ((Ch.refl _ _).set (p := ⟨rb, 0, none⟩) (fun _ => .inl rfl) _)
  have HQR := Lib.hid hq
  have HQA := Lib.hid hQ
  have HQ2 := Lib.hid hQ2
  have hadd : (now : Int) + 1 ≤ 18446744073709551615 := by omega
  obtain ⟨t, ht⟩ : ∃ t, t = now + 1 := ⟨_, rfl⟩
  have hti : ((now : Int) + 1) = (t : Int) := by omega
  have TN := Lib.hid ht
  have HTI := Lib.hid hti
  rw [← ht] at RN CS hn ⊢
  clear H hq hQ hQ2 ht hti
  go_enter Tryd.func11, Tryd.ntmps11
  go_upto_region 2 with (fail)
  rw [HTI.out]
  have c1 := RN.out.t
  generalize w.setCell ⟨rb, 0, none⟩ (.int .u64 (t : Int)) = w1 at *
  clear c0 f0
  go_wp2_with fail
  refine (refZeros_any t hn _).mono ?_
  rintro e w2 ⟨z, hz, rfl, b2⟩
  have c2 : Ch Nil w1 w2 := Ch.of_below b2
  have R2 := Lib.hid (RN.out.kept c2 (fun _ _ e => e))
  have C2 := Lib.hid (CS.out.then c2 (fun _ _ e => e.elim))
  have HZ := Lib.hid hz
  have hz11 := hz.1
  have c1 := R2.out.t
  have sz2 := C2.out.size
  clear b2 c2 hz RN CS
  go_wp2_with fail
  refine (refDigits_any t hn _).mono ?_
  rintro e w3 ⟨gd, cpd, rfl, hg1, hg2, hcap, dc, bel⟩
  have c3 : Ch Nil w2 w3 := Ch.of_below bel
  have R3 := Lib.hid (R2.out.kept c3 (fun _ _ e => e))
  have C3 := Lib.hid (C2.out.then c3 (fun _ _ e => e.elim))
  obtain ⟨zz, hzz⟩ : ∃ zz, zz = min z 4 := ⟨_, rfl⟩
  have ST : Hid (AdvR w rb now t zz Q ar gd 4 l ar cr w3) := Lib.hid ⟨R3.out, by rw [if_pos (by omega)]; exact HQR.out, fun k hk => .inl hk, hl, C3.out, dc, by have := RLT.out; omega, fun e => by have := Row.lt R2.out.r gd e; omega, by omega, by omega⟩
  clear bel c3 R2 R3 C2 C3 dc c1 hg1 hg2
  go_wp2
  go_loopw [5] (fun i wr => ∃ (lv : Nat) (l' : List Dn) (ar' : Option Addr) (cr' : Nat), lv ≤ 4 ∧ i = .int .i64 lv ∧ AdvR w rb now t zz Q ar gd lv l' ar' cr' wr) (fun i _ => (intOf i).toNat)
  case atStart => exact ⟨4, l, ar, cr, by omega, rfl, ST.out⟩
  case round =>
    obtain ⟨lv, l', ar', cr', hlv, rfl, hr⟩ := hrel
    have AR := Lib.hid hr
    clear hr
    by_cases hpos : 0 < lv
    · have hp0 : (0 : Int) < (lv : Int) := by omega
      by_cases hzl : z < lv
      · have hzi : (z : Int) < (lv : Int) := by omega
        go_wp2
        go_roundw
        case rel =>
          refine ⟨lv - 1, l', ar', cr', by omega, by go_num, AR.out.r, ?_, AR.out.o, AR.out.n, AR.out.c, AR.out.d, AR.out.g⟩
          have := AR.out.q
          rw [if_pos (by omega)] at this ⊢
          exact this
        case measure => simp [intOf]; omega
      · have hzi : (lv : Int) ≤ (z : Int) := by omega
        obtain ⟨sl, hsl⟩ : ∃ sl : Nat, sl = if lv < 4 then dg t lv else 0 := ⟨_, rfl⟩
        have hsl64 : sl < 64 := by rw [hsl]; split; exact dg_lt _ _; omega
        obtain ⟨p, hp⟩ : ∃ p, p = 64 * lv + sl := ⟨_, rfl⟩
        have NXQ : Hid (RQ ((l'.filter fun x => !decide (x.p = p)) ++ ((l'.filter fun x => decide (x.p = p)).map (repl t))) Q (if zz ≤ lv - 1 then now else t)) := Lib.hid (by
          have hQ := AR.out.q
          rw [if_neg (by omega)]
          by_cases e4 : lv = 4
          · have hz4 : 4 ≤ z := by omega
            rw [if_pos (by omega)] at hQ
            have : p = 256 := by rw [hp, hsl, if_neg (by omega), e4]
            rw [this]
            refine hQ.step ?_
            rw [TN.out]
            exact step_beyond HQA.out (by rw [← TN.out]; exact HZ.out) hz4
          · have hph : p = hand t lv := by rw [hp, hsl, if_pos (by omega)]; rfl
            rw [hph]
            by_cases ez : zz ≤ lv
            · rw [if_pos ez] at hQ
              have hzlv : z = lv := by omega
              refine hQ.step ?_
              rw [TN.out, ← hzlv]
              exact step_level HQA.out (by rw [← TN.out]; exact HZ.out) (by omega) (by omega)
            · rw [if_neg ez] at hQ
              exact hQ.step (stepR_empty (rows_hand (fun x hx => by have := HQA.out x hx; have := TN.out; omega) (by omega) (by omega))))
        have OUTC := refOut_of AR.out.r p (by have := AR.out.n; omega)
        rw [show p / 64 = lv by omega, show p % 64 = sl by omega] at OUTC
        have OC := Lib.hid OUTC
        have hfl := filt_len (fun x => decide (x.p = p)) l'
        have MEM : Hid (∀ x, x ∈ l' → x.d < 18446744073709551616) := Lib.hid fun x hx => by
          obtain ⟨y, hy, -, e⟩ := AR.out.q.mem hx
          rw [← e]; exact HQ2.out y hy
        clear OUTC hp
        generalize hF : (l'.filter fun x => decide (x.p = p)) = F at *
        generalize hG : (l'.filter fun x => !decide (x.p = p)) = G at *
        have FM : Hid (∀ x, x ∈ F → x.d < 18446744073709551616) := Lib.hid fun x hx => MEM.out x (by rw [← hF] at hx; exact (List.mem_filter.1 hx).1)
        have ln' := AR.out.n
        clear hF hG MEM
        obtain ⟨wo, hwo⟩ : ∃ wo, wo = wr := ⟨_, rfl⟩
        subst hwo
        by_cases hl4 : lv < 4
        · have hl4z : (lv : Int) < 4 := by omega
          have hlz0 : (0 : Int) ≤ (lv : Int) := by omega
          have qd := AR.out.d lv (by omega)
          rw [show dg t lv = sl by rw [hsl, if_pos hl4]] at qd
          clear hsl
          go_wp2_with fail
          refine OC.out.mono ?_
          rintro e w5 ⟨ao, co, ar5, cr5, rfl, r5, g5, h5, g5b, dj, c5⟩
          have D5 : Hid (DigCells w5 gd t) := Lib.hid fun i hi => c5.keeps (AR.out.d i hi) (fun e => AR.out.g.1 e)
          have R5 := Lib.hid r5
          have H5 := Lib.hid h5
          have G5 := Lib.hid g5
          have G5b := Lib.hid g5b
          have DJ := Lib.hid dj
          have C5 := Lib.hid c5
          have rlt5 := AR.out.r.k.lt
          clear r5 h5 g5 g5b dj c5 OC
          obtain ⟨fn, hfn⟩ : ∃ fn, fn = F.length := ⟨_, rfl⟩
          have FN := Lib.hid hfn
          rw [← hfn] at R5 hfl ⊢
          clear hfn
          go_wp2
          go_loopw [8] (fun i wr => ∃ (k : Nat) (ar6 : Option Addr) (cr6 : Nat), k ≤ fn ∧ i = .int .i64 k ∧ RefW wr rb t (G ++ (F.take k).map (repl t)) ar6 cr6 ∧ RowD wr ao fn co F ∧ (∀ j, OwnS ao j → ¬ OwnS ar6 j) ∧ (∀ j, OwnS ar6 j → wo.heap.size ≤ j) ∧ DigCells wr gd t ∧ Ch (One rb) wo wr) (fun i _ => fn - (intOf i).toNat)
          case atStart => exact ⟨0, ar5, cr5, by omega, rfl, by simpa using H5.out, R5.out, DJ.out, G5b.out, D5.out, C5.out⟩
          case round =>
            obtain ⟨k, ar6, cr6, hk, rfl, h6, r6, dj6, g6, d6, c6⟩ := hrel
            have H6 := Lib.hid h6
            have R6 := Lib.hid r6
            have DJ6 := Lib.hid dj6
            have G6 := Lib.hid g6
            have D6 := Lib.hid d6
            have C6 := Lib.hid c6
            clear h6 r6 dj6 g6 d6 c6
            by_cases hlt : k < fn
            · obtain ⟨x, hx⟩ : ∃ x, F[k]? = some x := ⟨_, List.getElem?_eq_getElem (by rw [← FN.out]; exact hlt)⟩
              have hxd := FM.out x (List.mem_of_getElem? hx)
              obtain ⟨ga, rfl, -⟩ := R6.out.form (by omega)
              have lc6 := R6.out.len_cap
              have HX := Lib.hid hx
              have TK : Hid (F.take (k + 1) = F.take k ++ [x]) := Lib.hid (by rw [List.take_add_one, hx]; rfl)
              have hkz : (k : Int) < (fn : Int) := by omega
              have hkz0 : (0 : Int) ≤ (k : Int) := by omega
              clear hx
              go_upto_region 15 with (fail)
              have HD := Lib.hid (H6.out.kept (S := Nil) (Ch.refl _ wr).drew (fun _ _ e => e))
              have RD : Hid (RowD wr.drew (some ⟨ga, 0, none⟩) fn co F) := Lib.hid (Row.kept (S := Nil) R6.out (Ch.refl _ wr).drew (fun _ _ e => e))
              have DD : Hid (DigCells wr.drew gd t) := Lib.hid D6.out
              have CD : Hid (Ch (One rb) wo wr.drew) := Lib.hid C6.out.drew
              have qs := RowD.cells RD.out hlt HX.out
              refine wp_region_held_drew (S := fun w' => w'.cell? ⟨ga, k * 4, none⟩ = some (.int .i64 x.u) ∧ w'.cell? ⟨ga, k * 4 + 1, none⟩ = some (.int .u64 (x.d : Nat))) (by kernel_rfl) ⟨qs.1, qs.2.1⟩ (fun hHeld => ?_)
              clear H6 R6 D6 C6 qs
              generalize wr.drew = X at hHeld HD RD DD CD ⊢
              refine take_at (v := ?_) 0 (some 49) rfl (by kernel_rfl) (by kernel_rfl) (by kernel_rfl) (by kernel_rfl) (fun _ _ _ h => h) (Or.inl ⟨by rfl, ?_⟩) (by assumption) ?_
              rotate_left
              · intro w hSw; (try dsimp only at hSw); go_simp; try (with_reducible rfl)
              (try simp only [Act.put, List.setIfInBounds_toArray, List.set_cons_zero, List.set_cons_succ])
              refine take_at (v := ?_) 1 (some 50) rfl (by kernel_rfl) (by kernel_rfl) (by kernel_rfl) (by kernel_rfl) (fun _ _ _ h => h) (Or.inl ⟨by rfl, ?_⟩) (by assumption) ?_
              rotate_left
              · intro w hSw; (try dsimp only at hSw); go_simp; try (with_reducible rfl)
              (try simp only [Act.put, List.setIfInBounds_toArray, List.set_cons_zero, List.set_cons_succ])
              refine take_at (v := ?_) 2 (some 51) rfl (by kernel_rfl) (by kernel_rfl) (by kernel_rfl) (by kernel_rfl) (fun _ _ _ h => h) (Or.inl ⟨by rfl, ?_⟩) (by assumption) ?_
              rotate_left
              · intro w hSw; (try dsimp only at hSw); go_simp; try (with_reducible rfl)
              (try simp only [Act.put, List.setIfInBounds_toArray, List.set_cons_zero, List.set_cons_succ])
              refine take_at (v := ?_) 3 (some 52) rfl (by kernel_rfl) (by kernel_rfl) (by kernel_rfl) (by kernel_rfl) (fun _ _ _ h => h) (Or.inl ⟨by rfl, ?_⟩) (by assumption) ?_
              rotate_left
              · intro w hSw; (try dsimp only at hSw); go_simp; try (with_reducible rfl)
              (try simp only [Act.put, List.setIfInBounds_toArray, List.set_cons_zero, List.set_cons_succ])
              refine take_at (v := ?_) 4 (some 53) rfl (by kernel_rfl) (by kernel_rfl) (by kernel_rfl) (by kernel_rfl) (fun _ _ _ h => h) (Or.inl ⟨by rfl, ?_⟩) (by assumption) ?_
              rotate_left
              · intro w hSw; (try dsimp only at hSw); go_simp; try (with_reducible rfl)
              (try simp only [Act.put, List.setIfInBounds_toArray, List.set_cons_zero, List.set_cons_succ])
              refine take_at (v := ?_) 5 (some 54) rfl (by kernel_rfl) (by kernel_rfl) (by kernel_rfl) (by kernel_rfl) (fun _ _ _ h => h) (Or.inl ⟨by rfl, ?_⟩) (by assumption) ?_
              rotate_left
              · intro w hSw; (try dsimp only at hSw); go_simp; try (with_reducible rfl)
              (try simp only [Act.put, List.setIfInBounds_toArray, List.set_cons_zero, List.set_cons_succ])
              refine take_at (v := ?_) 6 (some 55) rfl (by kernel_rfl) (by kernel_rfl) (by kernel_rfl) (by kernel_rfl) (fun _ _ _ h => h) (Or.inl ⟨by rfl, ?_⟩) (by assumption) ?_
              rotate_left
              · intro w hSw; (try dsimp only at hSw); go_simp; try (with_reducible rfl)
              (try simp only [Act.put, List.setIfInBounds_toArray, List.set_cons_zero, List.set_cons_succ])
              refine take_at (v := ?_) 7 (some 56) rfl (by kernel_rfl) (by kernel_rfl) (by kernel_rfl) (by kernel_rfl) (fun _ _ _ h => h) (Or.inl ⟨by rfl, ?_⟩) (by assumption) ?_
              rotate_left
              · intro w hSw; (try dsimp only at hSw); go_simp; try (with_reducible rfl)
              (try simp only [Act.put, List.setIfInBounds_toArray, List.set_cons_zero, List.set_cons_succ])
              refine take_at (v := ?_) 8 (some 57) rfl (by kernel_rfl) (by kernel_rfl) (by kernel_rfl) (by kernel_rfl) (fun _ _ _ h => h) (Or.inl ⟨by rfl, ?_⟩) (by assumption) ?_
              rotate_left
              · intro w hSw; (try dsimp only at hSw); go_simp; try (with_reducible rfl)
              (try simp only [Act.put, List.setIfInBounds_toArray, List.set_cons_zero, List.set_cons_succ])
              refine take_at (v := ?_) 9 (some 58) rfl (by kernel_rfl) (by kernel_rfl) (by kernel_rfl) (by kernel_rfl) (fun _ _ _ h => h) (Or.inl ⟨by rfl, ?_⟩) (by assumption) ?_
              rotate_left
              · intro w hSw; (try dsimp only at hSw); go_simp; try (with_reducible rfl)
              (try simp only [Act.put, List.setIfInBounds_toArray, List.set_cons_zero, List.set_cons_succ])
              refine take_at (v := ?_) 10 (some 59) rfl (by kernel_rfl) (by kernel_rfl) (by kernel_rfl) (by kernel_rfl) (fun _ _ _ h => h) (Or.inl ⟨by rfl, ?_⟩) (by assumption) ?_
              rotate_left
              · intro w hSw; (try dsimp only at hSw); go_simp; try (with_reducible rfl)
              (try simp only [Act.put, List.setIfInBounds_toArray, List.set_cons_zero, List.set_cons_succ])
              refine wpAnyH_ready (rs := [11]) (by kernel_rfl) (by simp) ?_
              refine AllReadyH.cons rfl (fun K hK => ?_) AllReadyH.nil
              go_simp
              refine (refPlace_of HD.out x.u x.d hxd hn (by rw [List.length_append, List.length_map, List.length_take]; omega)).mono ?_
              rintro e w7 ⟨⟨r, rfl⟩, ar7, cr7, h7, g7, c7⟩
              have nga : ¬ RS rb ar6 ga := by
                rintro (e | e)
                · have := G5.out ga rfl; omega
                · exact DJ6.out ga rfl e
              have r7 := Row.kept RD.out c7 (fun j hj => by cases hj; exact nga)
              have qs := RowD.cells r7 hlt HX.out
              have rl7 := Row.lt RD.out
              have szX := CD.out.size
              have NX : Hid (RefW w7 rb t (G ++ (F.take (k + 1)).map (repl t)) ar7 cr7 ∧ RowD w7 (some ⟨ga, 0, none⟩) fn co F ∧ (∀ j, OwnS (some ⟨ga, 0, none⟩) j → ¬ OwnS ar7 j) ∧ (∀ j, OwnS ar7 j → wo.heap.size ≤ j) ∧ DigCells w7 gd t ∧ Ch (One rb) wo w7) := Lib.hid ⟨by
                  rw [TK.out, List.map_append, ← List.append_assoc]; exact h7, r7, fun j hj e => by
                  rcases g7 j e with h | h
                  · exact DJ6.out j hj h
                  · have := rl7 j hj; omega, fun j hj => by
                  rcases g7 j hj with h | h
                  · exact G6.out j h
                  · omega, fun i hi => c7.keeps (DD.out i hi) (by
                  rintro (e | e)
                  · exact AR.out.g.1 e
                  · have := G6.out gd e; have := AR.out.g.2.2.2; omega), CD.out.then c7 (fun j hj e => by
                  rcases e with e | e
                  · exact e
                  · have := G6.out j e; omega)⟩
              clear h7 g7 c7 r7 rl7
              refine hK.out _ _ ⟨qs.1, qs.2.1⟩ (fun hHeld => ?_)
              clear hK K qs hHeld HD RD DD CD
              (try simp only [Act.put, List.setIfInBounds_toArray, List.set_cons_zero, List.set_cons_succ])
              refine wpAnyH_done (by kernel_rfl) ?_ _
              go_wp2
              go_roundw
              case rel => exact ⟨k + 1, ar7, cr7, by omega, by go_num, NX.out⟩
              case measure => simp [intOf]; omega
            · obtain rfl : k = fn := by omega
              go_wp2
              go_roundw
              case rel =>
                have h6 := H6.out
                rw [FN.out, List.take_length] at h6
                refine ⟨lv - 1, _, ar6, cr6, by omega, by go_num, h6, NXQ.out, fun j hj => .inr (by have := G6.out j hj; have := AR.out.c.size; omega), by rw [List.length_append, List.length_map, ← FN.out]; omega, AR.out.c.then C6.out (fun j _ e => .inl e), D6.out, AR.out.g.1, fun e => by have := G6.out gd e; have := AR.out.g.2.2.2; omega, AR.out.g.2.2.1, by have := C6.out.size; have := AR.out.g.2.2.2; omega⟩
              case measure => simp [intOf]; omega
        · have hl4z : ¬ (lv : Int) < 4 := by omega
          have hl4d : decide ((lv : Int) < 4) = false := decide_eq_false hl4z
          have hs0 : sl = 0 := by rw [hsl, if_neg hl4]
          rw [hs0] at OC
          clear hsl hs0 hl4
          go_upto_region 9 with (fail)
          go_upto_region 11 with (fail)
          go_wp2_with fail
          refine OC.out.mono ?_
          rintro e w5 ⟨ao, co, ar5, cr5, rfl, r5, g5, h5, g5b, dj, c5⟩
          have D5 : Hid (DigCells w5 gd t) := Lib.hid fun i hi => c5.keeps (AR.out.d i hi) (fun e => AR.out.g.1 e)
          have R5 := Lib.hid r5
          have H5 := Lib.hid h5
          have G5 := Lib.hid g5
          have G5b := Lib.hid g5b
          have DJ := Lib.hid dj
          have C5 := Lib.hid c5
          have rlt5 := AR.out.r.k.lt
          clear r5 h5 g5 g5b dj c5 OC
          obtain ⟨fn, hfn⟩ : ∃ fn, fn = F.length := ⟨_, rfl⟩
          have FN := Lib.hid hfn
          rw [← hfn] at R5 hfl ⊢
          clear hfn
          go_wp2
          go_loopw [8] (fun i wr => ∃ (k : Nat) (ar6 : Option Addr) (cr6 : Nat), k ≤ fn ∧ i = .int .i64 k ∧ RefW wr rb t (G ++ (F.take k).map (repl t)) ar6 cr6 ∧ RowD wr ao fn co F ∧ (∀ j, OwnS ao j → ¬ OwnS ar6 j) ∧ (∀ j, OwnS ar6 j → wo.heap.size ≤ j) ∧ DigCells wr gd t ∧ Ch (One rb) wo wr) (fun i _ => fn - (intOf i).toNat)
          case atStart => exact ⟨0, ar5, cr5, by omega, rfl, by simpa using H5.out, R5.out, DJ.out, G5b.out, D5.out, C5.out⟩
          case round =>
            obtain ⟨k, ar6, cr6, hk, rfl, h6, r6, dj6, g6, d6, c6⟩ := hrel
            have H6 := Lib.hid h6
            have R6 := Lib.hid r6
            have DJ6 := Lib.hid dj6
            have G6 := Lib.hid g6
            have D6 := Lib.hid d6
            have C6 := Lib.hid c6
            clear h6 r6 dj6 g6 d6 c6
            by_cases hlt : k < fn
            · obtain ⟨x, hx⟩ : ∃ x, F[k]? = some x := ⟨_, List.getElem?_eq_getElem (by rw [← FN.out]; exact hlt)⟩
              have hxd := FM.out x (List.mem_of_getElem? hx)
              obtain ⟨ga, rfl, -⟩ := R6.out.form (by omega)
              have lc6 := R6.out.len_cap
              have HX := Lib.hid hx
              have TK : Hid (F.take (k + 1) = F.take k ++ [x]) := Lib.hid (by rw [List.take_add_one, hx]; rfl)
              have hkz : (k : Int) < (fn : Int) := by omega
              have hkz0 : (0 : Int) ≤ (k : Int) := by omega
              clear hx
              go_upto_region 15 with (fail)
              have HD := Lib.hid (H6.out.kept (S := Nil) (Ch.refl _ wr).drew (fun _ _ e => e))
              have RD : Hid (RowD wr.drew (some ⟨ga, 0, none⟩) fn co F) := Lib.hid (Row.kept (S := Nil) R6.out (Ch.refl _ wr).drew (fun _ _ e => e))
              have DD : Hid (DigCells wr.drew gd t) := Lib.hid D6.out
              have CD : Hid (Ch (One rb) wo wr.drew) := Lib.hid C6.out.drew
              have qs := RowD.cells RD.out hlt HX.out
              refine wp_region_held_drew (S := fun w' => w'.cell? ⟨ga, k * 4, none⟩ = some (.int .i64 x.u) ∧ w'.cell? ⟨ga, k * 4 + 1, none⟩ = some (.int .u64 (x.d : Nat))) (by kernel_rfl) ⟨qs.1, qs.2.1⟩ (fun hHeld => ?_)
              clear H6 R6 D6 C6 qs
              generalize wr.drew = X at hHeld HD RD DD CD ⊢
              refine take_at (v := ?_) 0 (some 49) rfl (by kernel_rfl) (by kernel_rfl) (by kernel_rfl) (by kernel_rfl) (fun _ _ _ h => h) (Or.inl ⟨by rfl, ?_⟩) (by assumption) ?_
              rotate_left
              · intro w hSw; (try dsimp only at hSw); go_simp; try (with_reducible rfl)
              (try simp only [Act.put, List.setIfInBounds_toArray, List.set_cons_zero, List.set_cons_succ])
              refine take_at (v := ?_) 1 (some 50) rfl (by kernel_rfl) (by kernel_rfl) (by kernel_rfl) (by kernel_rfl) (fun _ _ _ h => h) (Or.inl ⟨by rfl, ?_⟩) (by assumption) ?_
              rotate_left
              · intro w hSw; (try dsimp only at hSw); go_simp; try (with_reducible rfl)
              (try simp only [Act.put, List.setIfInBounds_toArray, List.set_cons_zero, List.set_cons_succ])
              refine take_at (v := ?_) 2 (some 51) rfl (by kernel_rfl) (by kernel_rfl) (by kernel_rfl) (by kernel_rfl) (fun _ _ _ h => h) (Or.inl ⟨by rfl, ?_⟩) (by assumption) ?_
              rotate_left
              · intro w hSw; (try dsimp only at hSw); go_simp; try (with_reducible rfl)
              (try simp only [Act.put, List.setIfInBounds_toArray, List.set_cons_zero, List.set_cons_succ])
              refine take_at (v := ?_) 3 (some 52) rfl (by kernel_rfl) (by kernel_rfl) (by kernel_rfl) (by kernel_rfl) (fun _ _ _ h => h) (Or.inl ⟨by rfl, ?_⟩) (by assumption) ?_
              rotate_left
              · intro w hSw; (try dsimp only at hSw); go_simp; try (with_reducible rfl)
              (try simp only [Act.put, List.setIfInBounds_toArray, List.set_cons_zero, List.set_cons_succ])
              refine take_at (v := ?_) 4 (some 53) rfl (by kernel_rfl) (by kernel_rfl) (by kernel_rfl) (by kernel_rfl) (fun _ _ _ h => h) (Or.inl ⟨by rfl, ?_⟩) (by assumption) ?_
              rotate_left
              · intro w hSw; (try dsimp only at hSw); go_simp; try (with_reducible rfl)
              (try simp only [Act.put, List.setIfInBounds_toArray, List.set_cons_zero, List.set_cons_succ])
              refine take_at (v := ?_) 5 (some 54) rfl (by kernel_rfl) (by kernel_rfl) (by kernel_rfl) (by kernel_rfl) (fun _ _ _ h => h) (Or.inl ⟨by rfl, ?_⟩) (by assumption) ?_
              rotate_left
              · intro w hSw; (try dsimp only at hSw); go_simp; try (with_reducible rfl)
              (try simp only [Act.put, List.setIfInBounds_toArray, List.set_cons_zero, List.set_cons_succ])
              refine take_at (v := ?_) 6 (some 55) rfl (by kernel_rfl) (by kernel_rfl) (by kernel_rfl) (by kernel_rfl) (fun _ _ _ h => h) (Or.inl ⟨by rfl, ?_⟩) (by assumption) ?_
              rotate_left
              · intro w hSw; (try dsimp only at hSw); go_simp; try (with_reducible rfl)
              (try simp only [Act.put, List.setIfInBounds_toArray, List.set_cons_zero, List.set_cons_succ])
              refine take_at (v := ?_) 7 (some 56) rfl (by kernel_rfl) (by kernel_rfl) (by kernel_rfl) (by kernel_rfl) (fun _ _ _ h => h) (Or.inl ⟨by rfl, ?_⟩) (by assumption) ?_
              rotate_left
              · intro w hSw; (try dsimp only at hSw); go_simp; try (with_reducible rfl)
              (try simp only [Act.put, List.setIfInBounds_toArray, List.set_cons_zero, List.set_cons_succ])
              refine take_at (v := ?_) 8 (some 57) rfl (by kernel_rfl) (by kernel_rfl) (by kernel_rfl) (by kernel_rfl) (fun _ _ _ h => h) (Or.inl ⟨by rfl, ?_⟩) (by assumption) ?_
              rotate_left
              · intro w hSw; (try dsimp only at hSw); go_simp; try (with_reducible rfl)
              (try simp only [Act.put, List.setIfInBounds_toArray, List.set_cons_zero, List.set_cons_succ])
              refine take_at (v := ?_) 9 (some 58) rfl (by kernel_rfl) (by kernel_rfl) (by kernel_rfl) (by kernel_rfl) (fun _ _ _ h => h) (Or.inl ⟨by rfl, ?_⟩) (by assumption) ?_
              rotate_left
              · intro w hSw; (try dsimp only at hSw); go_simp; try (with_reducible rfl)
              (try simp only [Act.put, List.setIfInBounds_toArray, List.set_cons_zero, List.set_cons_succ])
              refine take_at (v := ?_) 10 (some 59) rfl (by kernel_rfl) (by kernel_rfl) (by kernel_rfl) (by kernel_rfl) (fun _ _ _ h => h) (Or.inl ⟨by rfl, ?_⟩) (by assumption) ?_
              rotate_left
              · intro w hSw; (try dsimp only at hSw); go_simp; try (with_reducible rfl)
              (try simp only [Act.put, List.setIfInBounds_toArray, List.set_cons_zero, List.set_cons_succ])
              refine wpAnyH_ready (rs := [11]) (by kernel_rfl) (by simp) ?_
              refine AllReadyH.cons rfl (fun K hK => ?_) AllReadyH.nil
              go_simp
              refine (refPlace_of HD.out x.u x.d hxd hn (by rw [List.length_append, List.length_map, List.length_take]; omega)).mono ?_
              rintro e w7 ⟨⟨r, rfl⟩, ar7, cr7, h7, g7, c7⟩
              have nga : ¬ RS rb ar6 ga := by
                rintro (e | e)
                · have := G5.out ga rfl; omega
                · exact DJ6.out ga rfl e
              have r7 := Row.kept RD.out c7 (fun j hj => by cases hj; exact nga)
              have qs := RowD.cells r7 hlt HX.out
              have rl7 := Row.lt RD.out
              have szX := CD.out.size
              have NX : Hid (RefW w7 rb t (G ++ (F.take (k + 1)).map (repl t)) ar7 cr7 ∧ RowD w7 (some ⟨ga, 0, none⟩) fn co F ∧ (∀ j, OwnS (some ⟨ga, 0, none⟩) j → ¬ OwnS ar7 j) ∧ (∀ j, OwnS ar7 j → wo.heap.size ≤ j) ∧ DigCells w7 gd t ∧ Ch (One rb) wo w7) := Lib.hid ⟨by
                  rw [TK.out, List.map_append, ← List.append_assoc]; exact h7, r7, fun j hj e => by
                  rcases g7 j e with h | h
                  · exact DJ6.out j hj h
                  · have := rl7 j hj; omega, fun j hj => by
                  rcases g7 j hj with h | h
                  · exact G6.out j h
                  · omega, fun i hi => c7.keeps (DD.out i hi) (by
                  rintro (e | e)
                  · exact AR.out.g.1 e
                  · have := G6.out gd e; have := AR.out.g.2.2.2; omega), CD.out.then c7 (fun j hj e => by
                  rcases e with e | e
                  · exact e
                  · have := G6.out j e; omega)⟩
              clear h7 g7 c7 r7 rl7
              refine hK.out _ _ ⟨qs.1, qs.2.1⟩ (fun hHeld => ?_)
              clear hK K qs hHeld HD RD DD CD
              (try simp only [Act.put, List.setIfInBounds_toArray, List.set_cons_zero, List.set_cons_succ])
              refine wpAnyH_done (by kernel_rfl) ?_ _
              go_wp2
              go_roundw
              case rel => exact ⟨k + 1, ar7, cr7, by omega, by go_num, NX.out⟩
              case measure => simp [intOf]; omega
            · obtain rfl : k = fn := by omega
              go_wp2
              go_roundw
              case rel =>
                have h6 := H6.out
                rw [FN.out, List.take_length] at h6
                refine ⟨lv - 1, _, ar6, cr6, by omega, by go_num, h6, NXQ.out, fun j hj => .inr (by have := G6.out j hj; have := AR.out.c.size; omega), by rw [List.length_append, List.length_map, ← FN.out]; omega, AR.out.c.then C6.out (fun j _ e => .inl e), D6.out, AR.out.g.1, fun e => by have := G6.out gd e; have := AR.out.g.2.2.2; omega, AR.out.g.2.2.1, by have := C6.out.size; have := AR.out.g.2.2.2; omega⟩
              case measure => simp [intOf]; omega
    · obtain rfl : lv = 0 := by omega
      have hQt : RQ l' Q t := by
        have h := AR.out.q
        by_cases e : zz ≤ 0
        · rw [if_pos e] at h
          refine h.same ?_
          rw [TN.out]
          exact step_none HQA.out (by have hz := HZ.out; rw [show z = 0 by omega, TN.out] at hz; exact hz)
        · rw [if_neg e] at h; exact h
      obtain ⟨q1, q2⟩ := hQt.take (fun x hx => by have := HQA.out x hx; have := TN.out; omega)
      rw [show hand t 0 = dg t 0 by unfold hand; omega] at q1 q2
      have OUTC := refOut_of AR.out.r (dg t 0) (by have := AR.out.n; omega)
      have hdl := dg_lt t 0
      rw [show dg t 0 / 64 = 0 by omega, show dg t 0 % 64 = dg t 0 by omega] at OUTC
      have OC := Lib.hid OUTC
      have Q1 := Lib.hid q1
      have Q2 := Lib.hid q2
      have qd := AR.out.d 0 (by omega)
      have ln' := AR.out.n
      clear OUTC q1 q2 hQt
      generalize dg t 0 = sl at *
      go_wp2_with fail
      refine OC.out.mono ?_
      rintro e w5 ⟨ao, co, ar5, cr5, rfl, r5, g5, h5, g5b, dj, c5⟩
      have R5 := Lib.hid r5
      have H5 := Lib.hid h5
      have G5 := Lib.hid g5
      have G5b := Lib.hid g5b
      have C5 := Lib.hid c5
      have szr := AR.out.c.size
      clear r5 h5 g5 g5b dj c5 OC
      go_wp2
      go_ret
      exact ⟨ao, co, _, _, ar5, cr5, rfl, R5.out, Q2.out, H5.out, Q1.out, Nat.le_trans (List.length_filter_le _ _) ln', fun k hk => .inr (by have := G5b.out k hk; omega), fun k hk => by have := G5.out k hk; omega, AR.out.c.then C5.out (fun k _ e => .inl e)⟩
end
end Go.Proofs.YtkfknafgknppdaaDoor
