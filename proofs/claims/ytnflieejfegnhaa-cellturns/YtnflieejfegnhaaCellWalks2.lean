/-
  Contracts over memory's states: what the calls of a cell of integers make of it, and of nothing else; a turn by whatever function; what the statements do with a cell, and what the document's does.
-/
import Derived.Test.YtnflieejfegnhaaCellWalks1
import Derived.Test.YtnflieejfegnhaaCellPlain
namespace Go.Proofs.Ytnflieejfegnhaa
open Go.RowKit Verge
attribute [local go_sem] Oper.semAt_some
set_option linter.unusedVariables false

theorem ch_set (w : World) (b o : Nat) (v : Value) : Ch (One b) w (w.setCell ⟨b, o, none⟩ v) := (Ch.refl (One b) w).set (p := ⟨b, o, none⟩) (fun _ => rfl) v

theorem load_i (b : Nat) (s : CSt) (w : World) (h : IsI w b s) :
    Calls Try.prog 12 #[.pointer (some ⟨b, 0, none⟩)] w fun e w' => e = .returned (.int .i64 s.v) ∧ IsI w' b ⟨s.v, wrap64 (s.l + 1), s.t, s.u⟩ ∧ Ch (One b) w w' :=
  (load_at b 0 s.v s.l s.t s.u w h).mono fun e w' ⟨he, hw⟩ => by subst hw; exact ⟨he, h.setL _, ch_set _ _ _ _⟩
theorem store_i (b : Nat) (s : CSt) (x : Int) (w : World) (h : IsI w b s) :
    Calls Try.prog 25 #[.pointer (some ⟨b, 0, none⟩), .int .i64 x] w fun e w' => e = .returned (.tuple #[]) ∧ IsI w' b ⟨x, s.l, s.t, s.u⟩ ∧ Ch (One b) w w' :=
  (store_at b 0 _ x s.l s.t s.u w h).mono fun e w' ⟨he, hw⟩ => by subst hw; exact ⟨he, h.setV _, ch_set _ _ _ _⟩
theorem swap_yes_i (b : Nat) (s : CSt) (x : Int) (w : World) (h : IsI w b s) :
    Calls Try.prog 13 #[.pointer (some ⟨b, 0, none⟩), .int .i64 s.v, .int .i64 x] w fun e w' => e = .returned (.bool true) ∧ IsI w' b ⟨x, s.l, wrap64 (s.t + 1), wrap64 (s.u + 1)⟩ ∧ Ch (One b) w w' :=
  (swap_yes b 0 s.v x s.l s.t s.u w h).mono fun e w' ⟨he, hw⟩ => by subst hw; exact ⟨he, ((h.setT _).setV _).setU _, ((ch_set _ _ _ _).trans (ch_set _ _ _ _)).trans (ch_set _ _ _ _)⟩
theorem swap_no_i (b : Nat) (s : CSt) (old x : Int) (w : World) (h : IsI w b s) (hne : (s.v == old) = false) :
    Calls Try.prog 13 #[.pointer (some ⟨b, 0, none⟩), .int .i64 old, .int .i64 x] w fun e w' => e = .returned (.bool false) ∧ IsI w' b ⟨s.v, s.l, wrap64 (s.t + 1), s.u⟩ ∧ Ch (One b) w w' :=
  (swap_no b 0 s.v old x s.l s.t s.u w h hne).mono fun e w' ⟨he, hw⟩ => by subst hw; exact ⟨he, h.setT _, ch_set _ _ _ _⟩
theorem change_yes_i (b : Nat) (s : CSt) (x : Int) (w : World) (h : IsI w b s) :
    Calls Try.prog 27 #[.pointer (some ⟨b, 0, none⟩), .int .i64 x, .bool true] w fun e w' => e = .returned (.bool true) ∧ IsI w' b ⟨x, s.l, wrap64 (s.t + 1), wrap64 (s.u + 1)⟩ ∧ Ch (One b) w w' :=
  (change_yes b 0 _ x s.l s.t s.u w h).mono fun e w' ⟨he, hw⟩ => by subst hw; exact ⟨he, ((h.setT _).setV _).setU _, ((ch_set _ _ _ _).trans (ch_set _ _ _ _)).trans (ch_set _ _ _ _)⟩
theorem counts_i (b : Nat) (s : CSt) (w : World) (h : IsI w b s) :
    Calls Try.prog 11 #[.pointer (some ⟨b, 0, none⟩)] w fun e w' => e = .returned (.tuple #[.int .i64 s.l, .int .i64 s.t, .int .i64 s.u]) ∧ IsI w' b s ∧ Ch Nil w w' :=
  (counts_at b 0 _ s.l s.t s.u w h).mono fun e w' ⟨he, n, hw⟩ => by subst hw; exact ⟨he, h.drewN n, (Ch.refl _ _).drewN n⟩
theorem isI_new (w : World) (v : Int) (T : TypeId) : IsI (w.alloc (.cells #[.int .i64 v, .int .i64 0, .int .i64 0, .int .i64 0] T)) w.heap.size ⟨v, 0, 0, 0⟩ := by
  constructor <;> simp [go_sem]
theorem of_i (v : Int) (w : World) :
    Calls Try.prog 8 #[.int .i64 v] w fun e w' => e = .returned (.pointer (some ⟨w.heap.size, 0, none⟩)) ∧ IsI w' w.heap.size ⟨v, 0, 0, 0⟩ ∧ Ch Nil w w' :=
  (of_any v w).mono fun e w' ⟨he, hw⟩ => by subst hw; exact ⟨he, isI_new _ _ _, (Ch.refl _ _).alloc _⟩

set_option maxHeartbeats 4000000 in
theorem alive_any (w : World) :
    Calls Try.prog 7 #[] w fun e w' => e = .returned (.bool true) ∧ Ch Nil w w' := by
  go_enter Try.func7, Try.ntmps7
  go_wp2_with fail
  refine (of_i 3 _).mono ?_
  rintro e w1 ⟨rfl, hi, c1⟩
  have H1 := Lib.hid hi
  clear hi
  go_wp2_with fail
  refine (swap_yes_i _ ⟨3, 0, 0, 0⟩ 4 _ H1.out).mono ?_
  rintro e w2 ⟨rfl, hi, c2⟩
  dsimp only at hi
  rw [show wrap64 (0 + 1) = 1 by unfold wrap64; omega] at hi
  have H2 := Lib.hid hi
  clear hi H1
  go_wp2_with fail
  refine (swap_no_i _ ⟨4, 0, 1, 1⟩ 3 5 _ H2.out rfl).mono ?_
  rintro e w3 ⟨rfl, hi, c3⟩
  dsimp only at hi
  rw [show wrap64 (1 + 1) = 2 by unfold wrap64; omega] at hi
  have H3 := Lib.hid hi
  clear hi H2
  go_wp2_with fail
  refine (load_i _ ⟨4, 0, 2, 1⟩ _ H3.out).mono ?_
  rintro e w4 ⟨rfl, hi, c4⟩
  dsimp only at hi
  rw [show wrap64 (0 + 1) = 1 by unfold wrap64; omega] at hi
  have H4 := Lib.hid hi
  clear hi H3
  go_wp2_with fail
  refine (counts_i _ ⟨4, 1, 2, 1⟩ _ H4.out).mono ?_
  rintro e w5 ⟨rfl, hi, c5⟩
  clear hi H4
  go_wp2
  go_ret
  refine ⟨rfl, ?_⟩
  have no : ∀ i, i < w.heap.size → One w.heap.size i → Nil i := fun i hi e => by change i = _ at e; omega
  exact (((c1.then c2 no).then c3 no).then c4 no).trans c5

/-- the statement's function: what it is asked of is above the act's old value -/
theorem act1_any (B : Nat) (old x v : Int) (w : World) (h0 : w.cell? ⟨B, 1, none⟩ = some (.int .i64 old)) (h1 : w.cell? ⟨B, 2, none⟩ = some (.int .i64 x)) :
    Calls Try.prog 26 #[.int .i64 v, .pointer (some ⟨B, 0, none⟩)] w fun e w' => e = .returned (.tuple #[.int .i64 x, .bool (decide (old < v))]) ∧ ∃ n, w' = w.drewN n := by
  go_enter Try.func26, Try.ntmps26
  go_wp2
  go_quiet (fail)
  go_wp2
  go_ret2
  exact ⟨rfl, _, rfl⟩

theorem fn_nil (f : Fn) (a c : Array Value) (w : World) : (binOp .eql 56 (.func f a c) .nilFunc).run Try.prog w = .ok (.bool false) w := run_eql_fn _ w _ f a c _ Try.underlying56 rfl
/-- what a call answers, and the cell behind it; nothing else has turned -/
def ActOk (r : Int × Bool × CSt) (b : Nat) (w : World) (e : Ending) (w' : World) : Prop :=
  e = .returned (.tuple #[.int .i64 r.1, .bool r.2.1]) ∧ IsI w' b r.2.2 ∧ Ch (One b) w w'

theorem turn_act_no (b B : Nat) (s : CSt) (old x : Int) (w : World) (hb : ¬ B = b) (h : IsI w b s) (h0 : w.cell? ⟨B, 1, none⟩ = some (.int .i64 old)) (h1 : w.cell? ⟨B, 2, none⟩ = some (.int .i64 x)) (hlt : decide (old < s.v) = false) :
    Calls Try.prog 23 #[.pointer (some ⟨b, 0, none⟩), .func (.func 26) #[] #[.pointer (some ⟨B, 0, none⟩)]] w (ActOk (s.v, false, ⟨s.v, wrap64 (s.l + 1), s.t, s.u⟩) b w) := by
  have H := Lib.hid h
  have K0 := Lib.hid h0
  have K1 := Lib.hid h1
  have L := Lib.hid hlt
  clear h h0 h1 hlt
  have hfn := fn_nil
  go_enter Try.func23, Try.ntmps23
  go_wp2_with fail
  refine (load_i b s _ H.out).mono ?_
  rintro e w1 ⟨rfl, hi, c1⟩
  have H1 := Lib.hid hi
  clear hi
  go_wp2_with fail
  refine (act1_any B old x s.v _ (c1.keeps K0.out hb) (c1.keeps K1.out hb)).mono ?_
  rintro e w2 ⟨rfl, n, rfl⟩
  rw [L.out]
  go_wp2
  go_ret2
  exact ⟨rfl, H1.out.drewN n, c1.drewN n⟩

theorem turn_act_yes (b B : Nat) (s : CSt) (old x : Int) (w : World) (hb : ¬ B = b) (h : IsI w b s) (h0 : w.cell? ⟨B, 1, none⟩ = some (.int .i64 old)) (h1 : w.cell? ⟨B, 2, none⟩ = some (.int .i64 x)) (hlt : decide (old < s.v) = true) :
    Calls Try.prog 23 #[.pointer (some ⟨b, 0, none⟩), .func (.func 26) #[] #[.pointer (some ⟨B, 0, none⟩)]] w (ActOk (s.v, true, ⟨x, wrap64 (s.l + 1), wrap64 (s.t + 1), wrap64 (s.u + 1)⟩) b w) := by
  have H := Lib.hid h
  have K0 := Lib.hid h0
  have K1 := Lib.hid h1
  have L := Lib.hid hlt
  clear h h0 h1 hlt
  have hfn := fn_nil
  go_enter Try.func23, Try.ntmps23
  go_wp2_with fail
  refine (load_i b s _ H.out).mono ?_
  rintro e w1 ⟨rfl, hi, c1⟩
  have H1 := Lib.hid hi
  clear hi
  go_wp2_with fail
  refine (act1_any B old x s.v _ (c1.keeps K0.out hb) (c1.keeps K1.out hb)).mono ?_
  rintro e w2 ⟨rfl, n, rfl⟩
  rw [L.out]
  go_wp2_with fail
  refine (change_yes_i b _ x _ (H1.out.drewN n)).mono ?_
  rintro e w3 ⟨rfl, hi, c3⟩
  have H3 := Lib.hid hi
  clear hi
  go_wp2
  go_ret2
  exact ⟨rfl, H3.out, (c1.drewN n).trans c3⟩

abbrev actV (k old x : Int) : Value := .agg #[.int .i64 k, .int .i64 old, .int .i64 x]
theorem box_cells (w : World) (k old x : Int) (T : TypeId) (w1 : World) (h : w1 = w.alloc (.cells #[.int .i64 k, .int .i64 old, .int .i64 x] T)) :
    w1.cell? ⟨w.heap.size, 1, none⟩ = some (.int .i64 old) ∧ w1.cell? ⟨w.heap.size, 2, none⟩ = some (.int .i64 x) := by
  subst h
  constructor <;> simp [go_sem]
set_option maxHeartbeats 4000000 in
theorem act_any (b : Nat) (k old x : Int) (s : CSt) (w : World) (h : IsI w b s) :
    Calls Try.prog 9 #[.pointer (some ⟨b, 0, none⟩), actV k old x] w (ActOk (doC k old x s) b w) := by
  have hmf : ∀ (fn : Fn) (first cap : Array Value) (w : World), (Instr.makeFunc fn first cap).run Try.prog w = .ok (.func fn first cap) w := fun _ _ _ _ => rfl
  have c0 : Ch (One b) w (w.alloc (.cells #[.int .i64 k, .int .i64 old, .int .i64 x] 31)) := (Ch.refl _ _).alloc _
  have hbl := h.lt
  have h' : IsI (w.alloc (.cells #[.int .i64 k, .int .i64 old, .int .i64 x] 31)) b s := h.keeps (S := Nil) ((Ch.refl _ _).alloc _) (fun e => e)
  obtain ⟨b1, b2⟩ := box_cells w k old x 31 _ rfl
  have C0 := Lib.hid c0
  have H := Lib.hid h'
  have B1 := Lib.hid b1
  have B2 := Lib.hid b2
  have hbw : ¬ w.heap.size = b := by omega
  clear c0 h h' hbl b1 b2
  by_cases k0 : k = 0
  · subst k0
    go_enter Try.func9, Try.ntmps9
    go_wp2_with fail
    refine (load_i b s _ H.out).mono ?_
    rintro e w1 ⟨rfl, hi, c1⟩
    have H1 := Lib.hid hi
    clear hi
    go_wp2
    go_ret2
    exact ⟨rfl, H1.out, C0.out.trans c1⟩
  · by_cases k1 : k = 1
    · subst k1
      clear k0
      go_enter Try.func9, Try.ntmps9
      go_wp2_with fail
      refine (store_i b s x _ H.out).mono ?_
      rintro e w1 ⟨rfl, hi, c1⟩
      have H1 := Lib.hid hi
      clear hi
      go_wp2
      go_ret2
      exact ⟨rfl, H1.out, C0.out.trans c1⟩
    · by_cases k2 : k = 2
      · subst k2
        clear k0 k1
        by_cases hv : s.v = old
        · have e1 : doC 2 old x s = (0, true, ⟨x, s.l, wrap64 (s.t + 1), wrap64 (s.u + 1)⟩) := by simp [doC, hv]
          rw [e1]
          subst hv
          clear e1
          go_enter Try.func9, Try.ntmps9
          go_wp2_with fail
          refine (swap_yes_i b s x _ H.out).mono ?_
          rintro e w1 ⟨rfl, hi, c1⟩
          have H1 := Lib.hid hi
          clear hi
          go_wp2
          go_ret2
          exact ⟨rfl, H1.out, C0.out.trans c1⟩
        · have e1 : doC 2 old x s = (0, false, ⟨s.v, s.l, wrap64 (s.t + 1), s.u⟩) := by simp [doC, hv]
          rw [e1]
          have hv' : Hid ((s.v == old) = false) := by show _; rw [beq_eq_false_iff_ne]; exact hv
          clear e1 hv
          go_enter Try.func9, Try.ntmps9
          go_wp2_with fail
          refine (swap_no_i b s old x _ H.out hv'.out).mono ?_
          rintro e w1 ⟨rfl, hi, c1⟩
          have H1 := Lib.hid hi
          clear hi
          go_wp2
          go_ret2
          exact ⟨rfl, H1.out, C0.out.trans c1⟩
      · by_cases k3 : k = 3
        · subst k3
          clear k0 k1 k2
          by_cases hv : old < s.v
          · have e1 : doC 3 old x s = (s.v, true, ⟨x, wrap64 (s.l + 1), wrap64 (s.t + 1), wrap64 (s.u + 1)⟩) := by simp [doC, hv]
            rw [e1]
            have hv' := Lib.hid (show decide (old < s.v) = true by simpa using hv)
            clear e1 hv
            go_enter Try.func9, Try.ntmps9
            go_wp2_with fail
            refine (turn_act_yes b w.heap.size s old x _ hbw H.out B1.out B2.out hv'.out).mono ?_
            rintro e w1 ⟨rfl, hi, c1⟩
            have H1 := Lib.hid hi
            clear hi
            go_wp2
            go_ret2
            exact ⟨rfl, H1.out, C0.out.trans c1⟩
          · have e1 : doC 3 old x s = (s.v, false, ⟨s.v, wrap64 (s.l + 1), s.t, s.u⟩) := by simp [doC, hv]
            rw [e1]
            have hv' := Lib.hid (show decide (old < s.v) = false by simpa using hv)
            clear e1 hv
            go_enter Try.func9, Try.ntmps9
            go_wp2_with fail
            refine (turn_act_no b w.heap.size s old x _ hbw H.out B1.out B2.out hv'.out).mono ?_
            rintro e w1 ⟨rfl, hi, c1⟩
            have H1 := Lib.hid hi
            clear hi
            go_wp2
            go_ret2
            exact ⟨rfl, H1.out, C0.out.trans c1⟩
        · have e1 : doC k old x s = (0, false, s) := by simp [doC, k0, k1, k2, k3]
          rw [e1]
          have q0 : (k == 0) = false := by rw [beq_eq_false_iff_ne]; exact k0
          have q1 : (k == 1) = false := by rw [beq_eq_false_iff_ne]; exact k1
          have q2 : (k == 2) = false := by rw [beq_eq_false_iff_ne]; exact k2
          have q3 : (k == 3) = false := by rw [beq_eq_false_iff_ne]; exact k3
          clear e1 k0 k1 k2 k3
          go_enter Try.func9, Try.ntmps9
          go_wp2
          go_ret2
          exact ⟨rfl, H.out, C0.out⟩
end Go.Proofs.Ytnflieejfegnhaa
