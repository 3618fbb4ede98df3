/-
  The statements' numbers of due entries: all have the deadline that is asked for, and their values are told in order.
-/
import Derived.Test.YtkfknafgknppdaaDoorWheelAlive
namespace Go.Proofs.YtkfknafgknppdaaDoor
open Go.RowKit Verge LP
attribute [local go_sem] Oper.semAt_some
set_option linter.unusedVariables false
set_option linter.unusedSimpArgs false
section
variable {w0 w w' : World} {g : Wh} {now : Nat} {P Q ys zs : List Ent} {x : Ent} {a : Option Addr} {cap : Nat}
theorem uAt_congr (h : ys.map (·.u) = zs.map (·.u)) (i : Nat) : uAt ys i = uAt zs i := by
  have e : ∀ l : List Ent, uAt l i = (l.map (·.u)).getD i 0 := fun l => by
    unfold uAt; rw [List.getD_eq_getElem?_getD, List.getD_eq_getElem?_getD, List.getElem?_map]; cases l[i]? <;> rfl
  rw [e, e, h]

set_option maxHeartbeats 1000000 in
theorem numbers_of (ys : List Ent) (t : Nat) (hg : Given w a ys Nil) (he : ∀ x, x ∈ ys → w.cell? ⟨x.e, 1, none⟩ = some (.int .i64 x.u)) (hd : ∀ x, x ∈ ys → w.cell? ⟨x.e, 0, none⟩ = some (.int .u64 (t : Nat))) (hn : ys.length ≤ 100000) :
    Calls Tryd.prog 12 #[.slice a ys.length cap, .int .u64 (t : Nat)] w fun e w' => ∃ a' cap', e = .returned (.tuple #[.slice a' ys.length cap', .bool true]) ∧ RowI w' a' ys.length cap' (uAt ys) ∧ (∀ k, OwnS a' k → w.heap.size ≤ k) ∧ Ch Nil w w' := by
  have HG := Lib.hid hg
  have HE := Lib.hid he
  have HD := Lib.hid hd
  obtain ⟨n, hln⟩ : ∃ n, n = ys.length := ⟨_, rfl⟩
  have LEN := Lib.hid hln
  rw [← hln] at hn ⊢
  clear hg he hd hln
  go_enter Tryd.func12, Tryd.ntmps12
  go_wp2
  go_loopw [7, 6] (fun i s wr => ∃ (k : Nat) (b : Option Addr) (cp : Nat), k ≤ n ∧ i = .int .i64 k ∧ s = .slice b k cp ∧ RowU wr b k cp ys ∧ (∀ j, OwnS b j → w.heap.size ≤ j) ∧ Ch Nil w wr) (fun i _ _ => n - (intOf i).toNat)
  case atStart => exact ⟨0, none, 0, by omega, rfl, rfl, Row.nil _ _ _ _, fun j e => (by cases e), Ch.refl _ _⟩
  case round =>
    obtain ⟨k, b, cp, hk, rfl, rfl, r7, g7, c7⟩ := hrel
    have R7 := Lib.hid r7
    have G7 := Lib.hid g7
    have C7 := Lib.hid c7
    clear r7 g7 c7
    by_cases hlt : k < n
    · have hkl : k < ys.length := by rw [← LEN.out]; exact hlt
      obtain ⟨x, hx⟩ : ∃ x, ys[k]? = some x := ⟨_, List.getElem?_eq_getElem hkl⟩
      obtain ⟨ga, rfl, -, hcell⟩ : ∃ b, a = some ⟨b, 0, none⟩ ∧ ¬ Nil b ∧ ∀ i x, ys[i]? = some x → w.cell? ⟨b, i, none⟩ = some (.pointer (some ⟨x.e, 0, none⟩)) := by
        rcases HG.out with h | h
        · rw [h] at hkl; simp at hkl
        · exact h
      have q1 := C7.out.keeps (hcell k x hx) (fun e => e)
      have q2 := C7.out.keeps (HE.out x (List.mem_of_getElem? hx)) (fun e => e)
      have q3 := C7.out.keeps (HD.out x (List.mem_of_getElem? hx)) (fun e => e)
      have HX := Lib.hid hx
      obtain ⟨u, hu⟩ : ∃ u, u = x.u := ⟨_, rfl⟩
      rw [← hu] at q2
      have HU := Lib.hid hu
      have R8 := Lib.hid (Row.kept (S := Nil) R7.out ((Ch.refl Nil wr).alloc (Obj.cells #[.int .i64 u] 3)) (fun _ _ e => e))
      have hkz : (k : Int) < (n : Int) := by omega
      have hkz0 : (0 : Int) ≤ (k : Int) := by omega
      clear hcell hx hu
      go_wp2_with (at_builtin; refine append_row _ rfl _ _ _ rfl 3 (.int .i64 0) 1 8 Tryd.underlying47 (by kernel_rfl) rfl (by omega) (by omega) rfl R8.out (by omega) wr.heap.size 1 [.int .i64 u] 3 rfl rfl (heap_alloc_new wr _) (by simp [Value.oneCell']) (valU ys) (fun i hi => rfl) (by intro j v hv; obtain rfl : j = 0 := (by cases j; rfl; simp at hv); simp at hv; subst hv; rw [HU.out]; simpa using valU_get HX.out) _ rfl ?_)
      intro gb cp6 w8 row8 ch8 at8 lt8
      have ROW := Lib.hid row8
      have CH := Lib.hid ((((Ch.refl Nil wr).alloc _).mono (fun _ _ e => e.elim)).trans ch8)
      have AT := Lib.hid at8
      clear row8 ch8 at8 lt8 R8
      go_wp2
      go_roundw
      case rel =>
        refine ⟨k + 1, _, cp6, by omega, by go_num, rfl, ROW.out, ?_, C7.out.up CH.out G7.out⟩
        intro j e
        cases e
        have := C7.out.size
        rcases AT.out with h' | h'
        · exact G7.out _ h'
        · (try simp at h'); (try simp only); omega
      case measure => simp [intOf]; omega
    · obtain rfl : k = n := by omega
      go_wp2
      go_ret2
      exact ⟨b, cp, rfl, R7.out, G7.out, C7.out⟩
/-- of what an advance told -/
theorem Drv.numbers {t n : Nat} (D : Drv w0 w g now Q P) (r : RowX w a n cap ys) (hn : n = ys.length) (hP : ∀ x, x ∈ ys → x ∈ P) (ht : ∀ x, x ∈ ys → x.d = t) (hl : ys.length ≤ 100000) :
    Calls Tryd.prog 12 #[.slice a n cap, .int .u64 (t : Nat)] w fun e w' => ∃ a' cap', e = .returned (.tuple #[.slice a' n cap', .bool true]) ∧ RowI w' a' n cap' (uAt ys) ∧ (∀ k, OwnS a' k → w.heap.size ≤ k) ∧ Ch Nil w w' := by
  subst hn
  exact numbers_of ys t (RowX.given r (fun _ _ e => e)) (fun x hx => (D.q.w.e x (hP x hx)).u) (fun x hx => ht x hx ▸ (D.q.w.e x (hP x hx)).d) hl
theorem due_at {t : Nat} : ∀ x, x ∈ dueQ Q t → x.d = t := fun x hx => by simpa using (List.mem_filter.1 hx).2
theorem due_mem {t : Nat} : ∀ x, x ∈ dueQ Q t → x ∈ Q := fun x hx => (List.mem_filter.1 hx).1
theorem due_len {t : Nat} : (dueQ Q t).length ≤ Q.length := List.length_filter_le _ _
theorem left_len {t : Nat} : (leftQ Q t).length ≤ Q.length := List.length_filter_le _ _
end
end Go.Proofs.YtkfknafgknppdaaDoor
