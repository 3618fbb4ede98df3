/-
  Events in memory: rows of them; a floor's Note and Trace; the document's Events.
-/
import Derived.Test.YtkialefhjfoniaaGreatFlAlive
import Derived.Test.YtkialefhjfoniaaGreatFlEv
import Derived.Test.YtkialefhjfoniaaGreatHeld
import Derived.Test.YtkialefhjfoniaaGreatListRound
import Derived.BigQuiet
import Derived.Deep.QuietTactic
namespace Go.Proofs.YtkialefhjfoniaaGreat
open Go.RowKit Verge
attribute [local go_sem] Oper.semAt_some
set_option linter.unusedVariables false
set_option linter.unusedSimpArgs false

def evV (u : Ev) : List Value := [.int .i64 u.k, .int .i64 u.t, .int .i64 u.c, .int .i64 u.h, .int .u64 u.i, .int .u64 u.g, .int .u64 u.d, .int .u64 u.p, .int .u64 u.q, .int .i64 u.e]
def evc (u : Ev) (j : Nat) : Value := (evV u).getD j (.bool false)
theorem lt10 {j : Nat} (h : j < 10) : j = 0 ∨ j = 1 ∨ j = 2 ∨ j = 3 ∨ j = 4 ∨ j = 5 ∨ j = 6 ∨ j = 7 ∨ j = 8 ∨ j = 9 := by omega
theorem evV_get {u : Ev} {j : Nat} {v : Value} (h : (evV u)[j]? = some v) : j < 10 ∧ v = evc u j := by
  have hj : j < 10 := (List.getElem?_eq_some_iff.1 h).1
  exact ⟨hj, by unfold evc; rw [List.getD_eq_getElem?_getD, h]; rfl⟩
/-- the cells of a row of events -/
def ec (L : List Ev) (k : Nat) : Value := match L[k / 10]? with | some f => evc f (k % 10) | none => .bool false
theorem ec_at {L : List Ev} {i : Nat} {f : Ev} (h : L[i]? = some f) {j : Nat} (hj : j < 10) : ec L (i * 10 + j) = evc f j := by
  unfold ec
  rw [show (i * 10 + j) / 10 = i by omega, show (i * 10 + j) % 10 = j by omega, h]
theorem ec_left {L : List Ev} (M : List Ev) {k : Nat} (hk : k < L.length * 10) : ec (L ++ M) k = ec L k := by
  unfold ec
  rw [List.getElem?_append_left (by omega)]
theorem ec_snoc {L : List Ev} (f : Ev) {j : Nat} (hj : j < 10) : ec (L ++ [f]) (L.length * 10 + j) = evc f j := ec_at (by simp) hj
/-- where an event's ten cells lie -/
def IsEv (w : World) (b o : Nat) (u : Ev) : Prop := ∀ j, j < 10 → w.cell? ⟨b, o + j, none⟩ = some (evc u j)
/-- a slice that leads to a row of events -/
def ESrc (w : World) (a : Option Addr) (L : List Ev) : Prop := L = [] ∨ ∃ b o, a = some ⟨b, o, none⟩ ∧ ∀ i f, L[i]? = some f → IsEv w b (o + i * 10) f
/-- a row of events that the call owns -/
abbrev ERow (w : World) (a : Option Addr) (cap : Nat) (L : List Ev) : Prop := Row w 33 10 a L.length cap (ec L)
section
variable {w w' : World} {a : Option Addr} {L M : List Ev} {S : Nat → Prop} {cap b o : Nat} {u : Ev}
theorem IsEv.lt (h : IsEv w b o u) : b < w.heap.size := lt_of_cell (h 0 (by omega))
theorem IsEv.kept (h : IsEv w b o u) (c : Ch S w w') (hn : ¬ S b) : IsEv w' b o u := fun j hj => c.keeps (h j hj) hn
theorem IsEv.cells (h : IsEv w b o u) : w.cell? ⟨b, o, none⟩ = some (.int .i64 u.k) ∧ w.cell? ⟨b, o + 1, none⟩ = some (.int .i64 u.t) ∧ w.cell? ⟨b, o + 2, none⟩ = some (.int .i64 u.c) ∧ w.cell? ⟨b, o + 3, none⟩ = some (.int .i64 u.h) ∧ w.cell? ⟨b, o + 4, none⟩ = some (.int .u64 u.i) ∧ w.cell? ⟨b, o + 5, none⟩ = some (.int .u64 u.g) ∧ w.cell? ⟨b, o + 6, none⟩ = some (.int .u64 u.d) ∧ w.cell? ⟨b, o + 7, none⟩ = some (.int .u64 u.p) ∧ w.cell? ⟨b, o + 8, none⟩ = some (.int .u64 u.q) ∧ w.cell? ⟨b, o + 9, none⟩ = some (.int .i64 u.e) :=
  ⟨h 0 (by omega), h 1 (by omega), h 2 (by omega), h 3 (by omega), h 4 (by omega), h 5 (by omega), h 6 (by omega), h 7 (by omega), h 8 (by omega), h 9 (by omega)⟩
theorem ESrc.kept (h : ESrc w a L) (c : Ch S w w') (hn : ∀ k, OwnS a k → ¬ S k) : ESrc w' a L := by
  rcases h with h | ⟨b, o, rfl, h⟩
  · exact .inl h
  · exact .inr ⟨b, o, rfl, fun i f hf => (h i f hf).kept c (hn b rfl)⟩
theorem ESrc.form (h : ESrc w a L) (hp : 0 < L.length) : ∃ b o, a = some ⟨b, o, none⟩ ∧ b < w.heap.size ∧ ∀ i f, L[i]? = some f → IsEv w b (o + i * 10) f := by
  rcases h with h | ⟨b, o, e, h⟩
  · rw [h] at hp; simp at hp
  · obtain ⟨f, hf⟩ : ∃ f, L[0]? = some f := ⟨_, List.getElem?_eq_getElem hp⟩
    exact ⟨b, o, e, (h 0 f hf).lt, h⟩
theorem ERow.src (h : ERow w a cap L) : ESrc w a L := by
  by_cases hl : L = []
  · exact .inl hl
  · obtain ⟨g, rfl, -⟩ := h.form (List.length_pos_iff.2 hl)
    refine .inr ⟨g, 0, rfl, fun i f hf j hj => ?_⟩
    have hi := (List.getElem?_eq_some_iff.1 hf).1
    have := h.cell (i * 10 + j) (by omega)
    rw [ec_at hf hj] at this
    simpa using this
end
/-- a row of events made anew, as long as it is -/
theorem clone_of {w : World} {a : Addr} {n c : Nat} {L : List Ev} (h : ESrc w (some a) L) (hn : n = L.length) (hl : n ≤ 1000000) (hp : 0 < n) :
    Calls Tryz.prog 65 #[.slice (some a) n c] w fun e w' => ∃ a' c', e = .returned (.slice a' n c') ∧ ESrc w' a' L ∧ Ch Nil w w' := by
  have hE := eqlG
  obtain ⟨b, o, hab, hlt, hcell⟩ := h.form (by omega)
  cases hab
  have cA : Ch Nil w (w.alloc (Obj.cells #[] 33)) := (Ch.refl _ _).alloc _
  have r0 : Row (w.alloc (Obj.cells #[] 33)) 33 10 (some ⟨w.heap.size, 0, none⟩) 0 0 (ec []) := ⟨by simp, .inr ⟨w.heap.size, 0, #[], rfl, Nat.zero_le _, heap_alloc_new w _, Nat.le_refl _, Nat.zero_le _, rfl, rfl⟩⟩
  have R0 := Lib.hid r0
  have CA := Lib.hid cA
  have HN := Lib.hid hn
  have hi : (Tryz.prog.info? 33).map (fun i => (i.zero, i.size, decide (i.bytes ≤ 1000))) = some (some (.agg #[.int .i64 0, .int .i64 0, .int .i64 0, .int .i64 0, .int .u64 0, .int .u64 0, .int .u64 0, .int .u64 0, .int .u64 0, .int .i64 0]), 10, true) := by kernel_rfl
  obtain ⟨i, hi', he⟩ := Option.map_eq_some_iff.1 hi
  simp only [Prod.mk.injEq, decide_eq_true_eq] at he
  obtain ⟨hz, hsize, hby⟩ := he
  have HI := Lib.hid (And.intro hi' (And.intro hz (And.intro hsize hby)))
  have HCL := Lib.hid hcell
  have hpz : (0 : Int) < (n : Int) := by omega
  have hn0 : ¬ n = 0 := by omega
  clear h r0 cA hn hi hi' hz hsize hby hcell hlt
  go_enter Tryz.func65, Tryz.ntmps65
  go_wp2_with (at_builtin; refine wpList_append_lies _ rfl _ _ _ rfl 0 33 i _ 10 i.bytes Tryz.underlying64 HI.out.1 HI.out.2.1 HI.out.2.2.1 rfl rfl (by omega) _ 0 _ rfl R0.out ⟨b, o, none⟩ n c ((List.range (n * 10)).map (ec L)) rfl (by simp) ?_ ?_ (by omega) (by simp only [maxLen]; omega) (by have h1 := HI.out.2.2.2; have h2 : (0 + n) * i.bytes ≤ 1000000 * 1000 := Nat.mul_le_mul (by omega) h1; omega) (Nat.zero_le _) _ rfl ?_)
  · intro j u hu
    rw [List.getElem?_map] at hu
    by_cases hj : j < n * 10
    · rw [List.getElem?_range hj] at hu
      simp only [Option.map_some, Option.some.injEq] at hu
      subst hu
      obtain ⟨f, hf⟩ : ∃ f, L[j / 10]? = some f := ⟨_, List.getElem?_eq_getElem (by have := HN.out; omega)⟩
      have h1 := CA.out.keeps (HCL.out (j / 10) f hf (j % 10) (by omega)) (fun e => e)
      rw [show o + j / 10 * 10 + j % 10 = o + j by omega] at h1
      have hadd : (⟨b, o, none⟩ : Addr).add j = ⟨b, o + j, none⟩ := by unfold Addr.add; split <;> simp_all
      rw [hadd, h1]
      unfold ec
      rw [hf]
    · rw [List.getElem?_eq_none (by simp; omega)] at hu; simp at hu
  · intro u hu
    simp only [List.mem_map, List.mem_range] at hu
    obtain ⟨j, hj, rfl⟩ := hu
    obtain ⟨f, hf⟩ : ∃ f, L[j / 10]? = some f := ⟨_, List.getElem?_eq_getElem (by have := HN.out; omega)⟩
    unfold ec
    rw [hf]
    rcases lt10 (show j % 10 < 10 by omega) with e | e | e | e | e | e | e | e | e | e <;> simp [e, evc, evV, Value.oneCell']
  · intro g cap' w1 hown hgrow hat hlt2
    have row : Row w1 33 10 (some ⟨g, 0, none⟩) L.length cap' (ec L) := by
      have e0 := HN.out
      subst e0
      have := hown
      first | exact this | (simp only [Nat.zero_add, List.nil_append, List.range_zero, List.map_nil, Nat.zero_mul] at this; exact this)
    have NX := Lib.hid (And.intro (ERow.src row) (CA.out.then (Ch.of_grown hgrow) (fun k hk e => by
      have e' : some w.heap.size = some k := e
      cases e'; omega)))
    clear hown hgrow hat hlt2 row
    go_wp2
    go_ret
    exact ⟨some ⟨g, 0, none⟩, cap', by simp, NX.out.1, NX.out.2⟩
section
variable {w : World} {F : Fb} {a : Option Addr} {tc : Nat} {L : List Ev}
theorem trace_of (h : IsF w F a L.length tc) (r : ERow w a tc L) (ha : L = [] → a = none ∧ tc = 0) (n : Nat) (hn : n = L.length) (hl : n ≤ 1000000) :
    Calls Tryz.prog 26 #[.pointer (some ⟨F.f, 0, none⟩)] w fun e w' => ∃ a' c', e = .returned (.slice a' n c') ∧ ESrc w' a' L ∧ Ch Nil w w' := by
  by_cases h0 : L = []
  · obtain ⟨rfl, rfl⟩ := ha h0
    subst h0
    simp only [List.length_nil] at h hn
    subst hn
    exact (trace_new h).mono fun e w' ⟨he, c⟩ => ⟨none, 0, he, .inl rfl, c⟩
  · have hp : 0 < n := by rw [hn]; exact List.length_pos_iff.2 h0
    obtain ⟨g, rfl, -⟩ := r.form (by omega)
    rw [← hn] at h
    have hfld := fld9
    have H := Lib.hid h
    have SR := Lib.hid (ERow.src r)
    have HN := Lib.hid hn
    clear h r ha h0 hn
    go_enter Tryz.func26, Tryz.ntmps26
    go_wp2_with fail
    refine (whole_of H.out).mono ?_
    rintro e w1 ⟨rfl, c1⟩
    have C1 := Lib.hid c1
    clear c1
    go_wp2_with fail
    refine (clone_of (SR.out.kept C1.out (fun _ _ e => e)) HN.out hl hp).mono ?_
    rintro e w2 ⟨a', c', rfl, s2, c2⟩
    have S2 := Lib.hid s2
    have C2 := Lib.hid (C1.out.trans c2)
    clear s2 c2
    go_wp2
    go_ret
    exact ⟨a', c', rfl, S2.out, C2.out⟩
end
end Go.Proofs.YtkialefhjfoniaaGreat
