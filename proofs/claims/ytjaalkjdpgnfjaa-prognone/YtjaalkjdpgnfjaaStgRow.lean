/-
  Row: a stage that does one function behind the other.
-/
import Derived.Test.YtjaalkjdpgnfjaaStgThen
import Derived.Test.YtjaalkjdpgnfjaaFirInts
import Derived.Deep.Cut
import Derived.Deep.CutRange
import Derived.Deep.CutBlock
namespace Go.Proofs.Ytjaalkjdpgnfjaa
open Go.RowKit Verge
attribute [local go_sem] Oper.semAt_some
set_option linter.unusedVariables false
set_option linter.unusedSimpArgs false

/-- functions that lead from each state to the next one -/
def Fns (S : Nat → Prop) : List Value → List Own → Own → World → Prop
  | [], [], _, _ => True
  | f :: F, Q1 :: l, Q0, w => Leads Q0 Q1 Void S f w ∧ Fns S F l Q1 w
  | _, _, _, _ => False
/-- functions, or nil, that lead from each state to the next one -/
def Gns (S : Nat → Prop) : List Value → List Own → Own → World → Prop
  | [], [], _, _ => True
  | f :: F, l, Q0, w => (f = .nilFunc ∧ Gns S F l Q0 w) ∨ ∃ Q1 r, l = Q1 :: r ∧ Leads Q0 Q1 Void S f w ∧ Gns S F r Q1 w
  | _, _, _, _ => False
def notNil (v : Value) : Bool := !isNilF v
section
variable {S S' : Nat → Prop} {w w' : World}
theorem Fns.ag : ∀ {F : List Value} {l : List Own} {Q : Own}, Fns S F l Q w → Ag S w w' → Fns S F l Q w'
  | [], [], _, _, _ => trivial
  | _ :: F, _ :: l, _, h, a => ⟨h.1.ag a, h.2.ag a⟩
  | [], _ :: _, _, h, _ => h.elim
  | _ :: _, [], _, h, _ => h.elim
theorem Fns.wide : ∀ {F : List Value} {l : List Own} {Q : Own}, Fns S F l Q w → (∀ k, S k → S' k) → (∀ k, S' k → k < w.heap.size) → Fns S' F l Q w
  | [], [], _, _, _, _ => trivial
  | _ :: F, _ :: l, _, h, a, b => ⟨h.1.wide a b, h.2.wide a b⟩
  | [], _ :: _, _, h, _, _ => h.elim
  | _ :: _, [], _, h, _, _ => h.elim
theorem Gns.fns : ∀ {F : List Value} {l : List Own} {Q : Own}, Gns S F l Q w → Fns S (F.filter notNil) l Q w
  | [], [], _, _ => trivial
  | [], _ :: _, _, h => h.elim
  | f :: F, l, Q, h => by
    rcases h with ⟨rfl, h⟩ | ⟨Q1, r, rfl, h, h'⟩
    · simpa [notNil, isNilF] using Gns.fns h
    · obtain ⟨K, c, rfl, -⟩ := id h
      simp only [notNil, isNilF, List.filter_cons, Bool.not_false, if_true]
      exact ⟨h, Gns.fns h'⟩
theorem Gns.fn : ∀ {F : List Value} {l : List Own} {Q : Own}, Gns S F l Q w → ∀ f, f ∈ F → IsFn f
  | [], _, _, _, f, hf => by cases hf
  | g :: F, l, Q, h, f, hf => by
    rcases h with ⟨rfl, h⟩ | ⟨Q1, r, rfl, h, h'⟩
    · rcases List.mem_cons.1 hf with rfl | hf
      · exact .inl rfl
      · exact Gns.fn h f hf
    · rcases List.mem_cons.1 hf with rfl | hf
      · exact h.fn
      · exact Gns.fn h' f hf
end
/-- a slice that leads to these functions -/
def SrcF (w : World) (a : Option Addr) (F : List Value) : Prop := F = [] ∨ ∃ b o, a = some ⟨b, o, none⟩ ∧ ∀ i v, F[i]? = some v → w.cell? ⟨b, o + i, none⟩ = some v
theorem SrcF.form {w : World} {a : Option Addr} {F : List Value} (h : SrcF w a F) (hp : F ≠ []) : ∃ b o, a = some ⟨b, o, none⟩ ∧ ∀ i v, F[i]? = some v → w.cell? ⟨b, o + i, none⟩ = some v := h.elim (fun e => absurd e hp) id
theorem SrcF.ag {w w' : World} {a : Option Addr} {F : List Value} {S : Nat → Prop} (h : SrcF w a F) (c : Ag S w w') (hs : ∀ k, OwnS a k → S k) : SrcF w' a F := by
  rcases h with h | ⟨b, o, rfl, h⟩
  · exact .inl h
  · exact .inr ⟨b, o, rfl, fun i v hi => c.cell (h i v hi) (hs b rfl)⟩
theorem enters_row1 : Enters 35 := enters_of Try.func35 (by kernel_rfl) rfl

/-- what row says of these functions -/
def RowOf (l : List Own) : Prop := ∀ (F : List Value) (Q0 : Own) (S : Nat → Prop) (w : World) (a : Option Addr) (cap : Nat), Fns S F l Q0 w → SrcF w a F → (∀ k, OwnS a k → S k) → (∀ k, S k → k < w.heap.size) → F.length ≤ cap → cap ≤ maxLen →
  Calls Try.prog 34 #[.slice a F.length cap] w fun x w' => ∃ v S', x = .returned v ∧ Stg l Q0 S' v w' ∧ Ch Nil w w' ∧ (∀ k, S' k → S k ∨ w.heap.size ≤ k) ∧ (∀ k, S' k → k < w'.heap.size)

section
variable {w : World} {b1 cap : Nat} {a : Option Addr} {S M : Nat → Prop} {Q0 Q1 : Own} {r : List Own} {f : Value} {F : List Value}
set_option maxHeartbeats 4000000 in
theorem row1_of (IH : RowOf r) (hf : Leads Q0 Q1 Void S f w) (hF : Fns S F r Q1 w) (hs : SrcF w a (f :: F)) (k1 : w.cell? ⟨b1, 0, none⟩ = some (.slice a (F.length + 1) cap)) (ho : ∀ k, OwnS a k → S k) (hc : F.length + 1 ≤ cap) (hm : cap ≤ maxLen)
    (ha : ∀ k, S k → ¬ M k) (h1 : ¬ M b1) (hQ : Q0.P M w) :
    Calls Try.prog 35 #[.pointer (some ⟨b1, 0, none⟩)] w fun x w' => ∃ v' S' M', x = .returned v' ∧ Q1.P M' w' ∧ Stg r Q1 S' v' w' ∧ Ch M w w' ∧
      (∀ k, M' k → M k ∨ w.heap.size ≤ k) ∧ (∀ k, S' k → S k ∨ w.heap.size ≤ k) ∧ (∀ k, S' k → ¬ M' k) ∧ (∀ k, S' k → k < w'.heap.size) := by
  obtain ⟨K, c, rfl, en, hlt, hcall⟩ := hf
  obtain ⟨g, o, rfl, hcl⟩ := hs.form (by simp)
  have hE := en
  unfold Enters at hE
  have c0 : Ch Nil w (w.alloc (.cells #[.nilFunc, .nilFunc] 31)) := (Ch.refl _ _).alloc _
  have B0 : Hid (Blk (w.alloc (.cells #[.nilFunc, .nilFunc] 31)) w.heap.size) := Lib.hid (Blk.new _ _ _)
  have z0 : (w.alloc (.cells #[.nilFunc, .nilFunc] 31)).cell? ⟨w.heap.size, 0, none⟩ = some .nilFunc := by rw [cell_fresh]; rfl
  have z1 : (w.alloc (.cells #[.nilFunc, .nilFunc] 31)).cell? ⟨w.heap.size, 1, none⟩ = some .nilFunc := by rw [cell_fresh]; rfl
  have y1 := c0.keeps k1 (fun e => e)
  have y2 := c0.keeps (hcl 0 _ rfl) (fun e => e)
  rw [Nat.add_zero] at y2
  have lb1 : b1 < w.heap.size := lt_of_cell k1
  have HI := Lib.hid IH
  have HC := Lib.hid hcall
  have HF := Lib.hid hF
  have HA := Lib.hid ha
  have HQ := Lib.hid (Own.nil hQ c0)
  have HM := Lib.hid (Q0.lt M w hQ)
  have HL := Lib.hid hlt
  have HO := Lib.hid ho
  have HS := Lib.hid hcl
  have C0 := Lib.hid c0
  have Z0 := Lib.hid z0
  have Z1 := Lib.hid z1
  have W1 : Hid (w.heap.size < (w.alloc (.cells #[.nilFunc, .nilFunc] 31)).heap.size) := Lib.hid (by simp)
  clear IH hcall hF ha hQ hlt ho hcl c0 z0 z1 hs en k1
  go_enter Try.func35, Try.ntmps35
  go_wp2_with fail
  generalize w.alloc (.cells #[.nilFunc, .nilFunc] 31) = w1 at B0 y1 y2 HQ C0 Z0 Z1 W1 ⊢
  refine (HC.out w1 M (C0.out.ag HL.out (fun k hk e => e)) HA.out HQ.out).mono ?_
  rintro x w2 ⟨v1, S1, M1, rfl, q1, ⟨rfl, -⟩, ch1, sm1, -, -, -⟩
  have hwn : ¬ M w.heap.size := fun e => Nat.lt_irrefl _ (HM.out _ e)
  have B2 := Lib.hid (B0.out.kept ch1 hwn)
  have Y2 := Lib.hid (ch1.keeps Z0.out hwn)
  have Y3 := Lib.hid (ch1.keeps Z1.out hwn)
  have k1 := ch1.keeps y1 h1
  have C1 := Lib.hid (C0.out.ag HL.out (fun k hk e => e))
  have A1 : Hid (Ag S w w2) := Lib.hid (C1.out.trans (ch1.ag (fun k hk => by have := HL.out k hk; have := C1.out.size; omega) HA.out))
  have CA := Lib.hid ch1
  have QA := Lib.hid q1
  have SM := Lib.hid sm1
  clear ch1 q1 sm1 y1 y2 B0 Z0 Z1 HQ HC
  have ls1 := C0.out.size
  have ls2 := CA.out.size
  have hFL := HF.out
  have IH2 : Hid (∀ (o' cap' : Nat), (F = [] ∨ o' = o + 1) → F.length ≤ cap' → cap' ≤ maxLen → Calls Try.prog 34 #[.slice (some ⟨g, o', none⟩) F.length cap'] w2 fun x w' => ∃ v S', x = .returned v ∧ Stg r Q1 S' v w' ∧ Ch Nil w2 w' ∧ (∀ k, S' k → S k ∨ w2.heap.size ≤ k) ∧ (∀ k, S' k → k < w'.heap.size)) := Lib.hid (fun o' cap' h1 h2 h3 =>
    HI.out F Q1 S w2 _ cap' (HF.out.ag A1.out) (h1.elim .inl (fun e => .inr ⟨g, o + 1, by rw [e], fun i v hi => A1.out.cell (by have := HS.out (i + 1) v (by simpa using hi); rwa [show o + (i + 1) = o + 1 + i by omega] at this) (HO.out g rfl)⟩)) (fun k hk => HO.out k hk) (fun k hk => by have := HL.out k hk; omega) h2 h3)
  have lw1 := W1.out
  clear HI HF HS hFL
  go_wp2_with fail
  all_goals
    refine (IH2.out _ _ (by first | exact .inr rfl | exact .inl (List.eq_nil_of_length_eq_zero (by omega))) (by omega) (by omega)).mono ?_
    rintro x w3 ⟨v2, S2, rfl, st2, ch2, ss2, sl2⟩
    obtain ⟨m', d', rfl, fm, fd⟩ := st2.shape
    have t1 := fm.store
    have t2 := fd.store
    have y0 := ch2.keeps Y2.out (fun e => e)
    have y1 := ch2.keeps Y3.out (fun e => e)
    have bk := B2.out.kept ch2 (fun e => e)
    have hfz := bk.fz
    have ls3 := ch2.size
    have EN := Lib.hid (And.intro st2 (And.intro ch2 (And.intro ss2 sl2)))
    clear st2 ch2 ss2 sl2 bk fm fd
    go_wp2
    have cS : Ch (One w.heap.size) w3 ((w3.setCell ⟨w.heap.size, 0, none⟩ m').setCell ⟨w.heap.size, 1, none⟩ d') := ((Ch.refl _ _).setB _ _).setB _ _
    (try simp only [Exit.inBlock, Exit.then])
    refine bodyPost_ret (v := .agg #[m', d']) (by simp [results, Try.results35, go_sem, y0, y1, cell_set]) rfl ?_
    obtain ⟨g2, g3, g5, g7⟩ := EN.out
    have nS2 : ∀ k, S2 k → k ≠ w.heap.size := fun k hk e => by
      subst e
      rcases g5 _ hk with h | h
      · exact Nat.lt_irrefl _ (HL.out _ h)
      · omega
    have nM1 : ∀ k, M1 k → k ≠ w.heap.size := fun k hk e => by
      subst e
      rcases SM.out _ hk with h | h
      · exact hwn h
      · omega
    refine ⟨_, S2, M1, rfl, Own.kept (Own.nil QA.out g3) cS (fun k hk e => nM1 k hk e), g2.ag (cS.ag g7 (fun k hk e => nS2 k hk e)), (((C0.out.mono (fun _ _ e => e.elim)).trans CA.out).trans (g3.mono (fun _ _ e => e.elim))).then cS (fun i hi e => by have e' : i = w.heap.size := e; omega), fun k hk => (SM.out k hk).imp id (fun h => by omega), fun k hk => (g5 k hk).imp id (fun h => by omega), fun k hk e => ?_, fun k hk => by have := g7 k hk; have := cS.size; omega⟩
    rcases g5 k hk with h | h
    · rcases SM.out k e with h' | h'
      · exact HA.out k h h'
      · have := HL.out k h; omega
    · have := Q1.lt _ _ QA.out k e; omega
set_option maxHeartbeats 4000000 in
theorem row_nil : RowOf [] := by
  intro F Q0 S w a cap hF hs ho hl hc hm
  obtain rfl : F = [] := by cases F; rfl; exact hF.elim
  have c0 : Ch Nil w ((w.alloc (.cells #[.slice a 0 cap] 47)).alloc (.cells #[.nilFunc, .nilFunc] 31)) := ((Ch.refl _ _).alloc _).alloc _
  have HL := Lib.hid hl
  have C0 := Lib.hid c0
  have zz : (w.alloc (.cells #[.slice a 0 cap] 47)).heap.size = w.heap.size + 1 := by simp
  have z0 : ((w.alloc (.cells #[.slice a 0 cap] 47)).alloc (.cells #[.nilFunc, .nilFunc] 31)).cell? ⟨w.heap.size + 1, 0, none⟩ = some .nilFunc := by rw [← zz, cell_fresh]; rfl
  have z1 : ((w.alloc (.cells #[.slice a 0 cap] 47)).alloc (.cells #[.nilFunc, .nilFunc] 31)).cell? ⟨w.heap.size + 1, 1, none⟩ = some .nilFunc := by rw [← zz, cell_fresh]; rfl
  have bk : Blk ((w.alloc (.cells #[.slice a 0 cap] 47)).alloc (.cells #[.nilFunc, .nilFunc] 31)) (w.heap.size + 1) := by rw [← zz]; exact Blk.new _ _ _
  have hfz := bk.fz
  have k0 : ((w.alloc (.cells #[.slice a 0 cap] 47)).alloc (.cells #[.nilFunc, .nilFunc] 31)).cell? ⟨w.heap.size, 0, none⟩ = some (.slice a 0 cap) := (Ch.alloc (Ch.refl Nil _) _).keeps (by rw [cell_fresh]; rfl) (fun e => e)
  have z3 : ((w.alloc (.cells #[.slice a 0 cap] 47)).alloc (.cells #[.nilFunc, .nilFunc] 31)).heap.size = w.heap.size + 2 := by simp
  have Z3 := Lib.hid z3
  have st0 := IsFn.store (v := .nilFunc) (.inl rfl)
  clear hl c0 hs ho bk zz z3
  go_enter Try.func34, Try.ntmps34
  go_upto_region 1 with (fail)
  generalize (w.alloc (.cells #[.slice a 0 cap] 47)).alloc (.cells #[.nilFunc, .nilFunc] 31) = w1 at C0 z0 z1 hfz k0 Z3 ⊢
  go_wp2
  have cS : Ch (One (w.heap.size + 1)) w1 ((w1.setCell ⟨w.heap.size + 1, 0, none⟩ .nilFunc).setCell ⟨w.heap.size + 1, 1, none⟩ .nilFunc) := ((Ch.refl _ _).setB _ _).setB _ _
  (try simp only [Exit.inBlock, Exit.then])
  refine bodyPost_ret (v := .agg #[.nilFunc, .nilFunc]) (by simp [results, Try.results34, go_sem, z0, z1, cell_set]) rfl ?_
  exact ⟨_, S, rfl, ⟨_, .inl rfl, rfl⟩, C0.out.then cS (fun i hi e => by have e' : i = w.heap.size + 1 := e; omega), fun k hk => .inl hk, fun k hk => by have := HL.out k hk; have := cS.size; have := Z3.out; omega⟩
set_option maxHeartbeats 4000000 in
theorem row_cons {Q1 : Own} {r : List Own} (IH : RowOf r) : RowOf (Q1 :: r) := by
  intro F0 Q0 S w a cap hF hs ho hl hc hm
  obtain ⟨f, F, rfl⟩ : ∃ f F, F0 = f :: F := by cases F0 with | nil => exact hF.elim | cons f F => exact ⟨f, F, rfl⟩
  obtain ⟨hf, hF⟩ := hF
  rw [List.length_cons] at hc ⊢
  have c0 : Ch Nil w ((w.alloc (.cells #[.slice a (F.length + 1) cap] 47)).alloc (.cells #[.nilFunc, .nilFunc] 31)) := ((Ch.refl _ _).alloc _).alloc _
  have zz : (w.alloc (.cells #[.slice a (F.length + 1) cap] 47)).heap.size = w.heap.size + 1 := by simp
  have z0 : ((w.alloc (.cells #[.slice a (F.length + 1) cap] 47)).alloc (.cells #[.nilFunc, .nilFunc] 31)).cell? ⟨w.heap.size + 1, 0, none⟩ = some .nilFunc := by rw [← zz, cell_fresh]; rfl
  have z1 : ((w.alloc (.cells #[.slice a (F.length + 1) cap] 47)).alloc (.cells #[.nilFunc, .nilFunc] 31)).cell? ⟨w.heap.size + 1, 1, none⟩ = some .nilFunc := by rw [← zz, cell_fresh]; rfl
  have bk : Blk ((w.alloc (.cells #[.slice a (F.length + 1) cap] 47)).alloc (.cells #[.nilFunc, .nilFunc] 31)) (w.heap.size + 1) := by rw [← zz]; exact Blk.new _ _ _
  have hfz := bk.fz
  have k0 : ((w.alloc (.cells #[.slice a (F.length + 1) cap] 47)).alloc (.cells #[.nilFunc, .nilFunc] 31)).cell? ⟨w.heap.size, 0, none⟩ = some (.slice a (F.length + 1) cap) := (Ch.alloc (Ch.refl Nil _) _).keeps (by rw [cell_fresh]; rfl) (fun e => e)
  have z3 : ((w.alloc (.cells #[.slice a (F.length + 1) cap] 47)).alloc (.cells #[.nilFunc, .nilFunc] 31)).heap.size = w.heap.size + 2 := by simp
  have Z3 := Lib.hid z3
  have st0 := IsFn.store (v := .nilFunc) (.inl rfl)
  have st32 := run_store_fn
  have HL := Lib.hid hl
  have HF := Lib.hid hF
  have HS := Lib.hid hs
  have HO := Lib.hid ho
  have HI := Lib.hid IH
  have HD := Lib.hid hf
  have C0 := Lib.hid c0
  clear hl c0 hs ho bk zz z3 IH hF hf
  have hlen : ((F.length : Int) + 1 == 0) = false := by simp; omega
  go_enter Try.func34, Try.ntmps34
  go_upto_region 1 with (fail)
  generalize (w.alloc (.cells #[.slice a (F.length + 1) cap] 47)).alloc (.cells #[.nilFunc, .nilFunc] 31) = w1 at C0 z0 z1 hfz k0 Z3 ⊢
  go_wp2
  have cS : Ch (One (w.heap.size + 1)) w1 ((w1.setCell ⟨w.heap.size + 1, 0, none⟩ .nilFunc).setCell ⟨w.heap.size + 1, 1, none⟩ (.func (.func 35) #[] #[.pointer (some ⟨w.heap.size, 0, none⟩)])) := ((Ch.refl _ _).setB _ _).setB _ _
  (try simp only [Exit.inBlock, Exit.then])
  refine bodyPost_ret (v := .agg #[.nilFunc, .func (.func 35) #[] #[.pointer (some ⟨w.heap.size, 0, none⟩)]]) (by simp [results, Try.results34, go_sem, z0, z1, cell_set]) rfl ?_
  have cz := cS.size
  have lz := Z3.out
  have C2 : Ch Nil w ((w1.setCell ⟨w.heap.size + 1, 0, none⟩ .nilFunc).setCell ⟨w.heap.size + 1, 1, none⟩ (.func (.func 35) #[] #[.pointer (some ⟨w.heap.size, 0, none⟩)])) := C0.out.then cS (fun i hi e => by have e' : i = w.heap.size + 1 := e; omega)
  have m1 := cS.keeps k0 (fun e => by have e' : w.heap.size = w.heap.size + 1 := e; omega)
  generalize (w1.setCell ⟨w.heap.size + 1, 0, none⟩ .nilFunc).setCell ⟨w.heap.size + 1, 1, none⟩ _ = w3 at C2 m1 cz ⊢
  have hsz : ∀ k, (S k ∨ k = w.heap.size) → k < w3.heap.size := fun k hk => by
    rcases hk with hk | rfl
    · have := HL.out k hk; omega
    · omega
  refine ⟨_, fun k => S k ∨ k = w.heap.size, rfl, ⟨_, rfl, ?_⟩, C2, fun k hk => hk.imp id (fun e => by omega), hsz⟩
  refine ⟨_, _, rfl, enters_row1, hsz, fun w4 M4 a4 hM4 hQ4 => ?_⟩
  have aS : Ag S w w4 := (C2.ag HL.out (fun k hk e => e)).trans (a4.mono (fun k hk => .inl hk))
  refine (row1_of HI.out (HD.out.ag aS) (HF.out.ag aS) (HS.out.ag aS HO.out) (a4.cell m1 (.inr rfl)) HO.out (by omega) hm (fun k hk => hM4 k (.inl hk)) (hM4 _ (.inr rfl)) hQ4).mono ?_
  rintro x w5 ⟨v5, S5, M5, g1, g2, g3, g4, g5, g6, g7, g8⟩
  exact ⟨v5, S5, M5, g1, g2, g3, g4, g5, fun k hk => (g6 k hk).imp .inl id, g7, g8⟩
theorem row_of : ∀ l, RowOf l
  | [] => row_nil
  | _ :: r => row_cons (row_of r)
end
section
variable {S : Nat → Prop} {w : World} {l : List Own} {Q0 : Own} {F : List Value} {a : Option Addr} {cap : Nat}
theorem filter_take {F : List Value} {k : Nat} {v : Value} (h : F[k]? = some v) : (F.take (k + 1)).filter notNil = (F.take k).filter notNil ++ if notNil v then [v] else [] := by
  rw [List.take_add_one, h, List.filter_append]
  cases hv : notNil v <;> simp [hv]
set_option maxHeartbeats 4000000 in
theorem rowAll_of (hF : Gns S F l Q0 w) (hs : SrcF w a F) (hl : ∀ k, S k → k < w.heap.size) (hn : F.length ≤ 1000) (hc : F.length ≤ cap) (hm : cap ≤ maxLen) :
    Calls Try.prog 24 #[.slice a F.length cap] w fun x w' => ∃ v S', x = .returned v ∧ Stg l Q0 S' v w' ∧ Ch Nil w w' ∧ (∀ k, S' k → S k ∨ w.heap.size ≤ k) ∧ (∀ k, S' k → k < w'.heap.size) := by
  have c0 : Ch Nil w (w.alloc (.cells #[.nilFunc, .nilFunc] 31)) := (Ch.refl _ _).alloc _
  have bk : Blk (w.alloc (.cells #[.nilFunc, .nilFunc] 31)) w.heap.size := Blk.new _ _ _
  have z0 : (w.alloc (.cells #[.nilFunc, .nilFunc] 31)).cell? ⟨w.heap.size, 0, none⟩ = some .nilFunc := by rw [cell_fresh]; rfl
  have z1 : (w.alloc (.cells #[.nilFunc, .nilFunc] 31)).cell? ⟨w.heap.size, 1, none⟩ = some .nilFunc := by rw [cell_fresh]; rfl
  have W1 : Hid ((w.alloc (.cells #[.nilFunc, .nilFunc] 31)).heap.size = w.heap.size + 1) := Lib.hid (by simp)
  have BK := Lib.hid bk
  have Z0 := Lib.hid z0
  have Z1 := Lib.hid z1
  have C0 := Lib.hid c0
  have HF := Lib.hid hF
  have HS := Lib.hid hs
  have HL := Lib.hid hl
  obtain ⟨n, hN⟩ : ∃ n, n = F.length := ⟨_, rfl⟩
  rw [← hN] at hn hc ⊢
  have HN := Lib.hid hN
  have hq0 := neq_fn0
  have hq1 := neq_fn
  clear hF hs hl bk z0 z1 c0 hN
  go_enter Try.func24, Try.ntmps24
  go_wp2
  generalize w.alloc (.cells #[.nilFunc, .nilFunc] 31) = w0 at C0 BK Z0 Z1 W1 ⊢
  go_loopw [3, 8] (fun s i wr => ∃ k a' cap', k ≤ n ∧ i = .int .i64 (k : Nat) ∧ s = .slice a' ((F.take k).filter notNil).length cap' ∧ Row wr 1 1 a' ((F.take k).filter notNil).length cap' (fun j => ((F.take k).filter notNil).getD j .nilFunc) ∧ Ch Nil w0 wr ∧ ∀ g, OwnS a' g → w0.heap.size ≤ g) (fun _ i _ => n - (intOf i).toNat)
  case atStart => exact ⟨0, none, 0, by omega, rfl, rfl, Row.nil _ _ _ _, Ch.refl _ _, fun g h => by cases h⟩
  case round =>
    obtain ⟨k, a', cap', hk, rfl, rfl, hrow, hch, hown⟩ := hrel
    have HR := Lib.hid hrow
    have HC := Lib.hid hch
    have HO := Lib.hid hown
    clear hrow hch hown
    by_cases hlt : k < n
    · obtain ⟨v, hv⟩ : ∃ v, F[k]? = some v := ⟨_, List.getElem?_eq_getElem (by rw [← HN.out]; exact hlt)⟩
      obtain ⟨b, o, rfl, hcl⟩ := HS.out.form (by rintro rfl; simp at hv)
      have hc1 := HC.out.keeps (C0.out.keeps (hcl k v hv) (fun e => e)) (fun e => e)
      have hkz : (k : Int) < (n : Int) := by omega
      have hkz0 : (0 : Int) ≤ (k : Int) := by omega
      have FT := Lib.hid (filter_take hv)
      rcases HF.out.fn v (List.mem_of_getElem? hv) with rfl | ⟨K, c, rfl⟩
      · clear hcl hv
        go_wp2
        go_roundw
        case rel => exact ⟨k + 1, a', cap', by omega, by go_num, by rw [FT.out]; simp [notNil, isNilF], by rw [FT.out]; simpa [notNil, isNilF] using HR.out, HC.out, HO.out⟩
        case measure => simp [intOf]; omega
      · clear hcl hv
        have hfl : ((F.take k).filter notNil).length ≤ 1000 := by have := List.length_filter_le notNil (F.take k); have := List.length_take_le k F; omega
        obtain ⟨m, hm1⟩ : ∃ m, m = ((F.take k).filter notNil).length := ⟨_, rfl⟩
        have HM := Lib.hid hm1
        rw [← hm1] at hfl HR ⊢
        clear hm1
        have R5 := Lib.hid (HR.out.kept (S := Nil) ((Ch.refl Nil wr).alloc (Obj.cells #[.func (.func K) #[] c] 1)) (fun _ _ e => e))
        have hA1 : ∀ i, i < m * 1 → (fun j => ((F.take k).filter notNil ++ [Value.func (.func K) #[] c]).getD j .nilFunc) i = (fun j => ((F.take k).filter notNil).getD j .nilFunc) i := fun i hi => by
          simp only
          rw [List.getD_eq_getElem?_getD, List.getD_eq_getElem?_getD, List.getElem?_append_left (by rw [← HM.out]; omega)]
        have hA2 : ∀ j u, [Value.func (.func K) #[] c][j]? = some u → (fun j => ((F.take k).filter notNil ++ [Value.func (.func K) #[] c]).getD j .nilFunc) (m * 1 + j) = u := by
          intro j u hu
          obtain rfl : j = 0 := by cases j; rfl; simp at hu
          simp at hu
          subst hu
          simp only [Nat.mul_one, Nat.add_zero]
          rw [HM.out, List.getD_eq_getElem?_getD, List.getElem?_append_right (Nat.le_refl _)]
          simp
        have HA := Lib.hid (And.intro hA1 hA2)
        clear hA1 hA2
        go_wp2_with (at_builtin; refine append_row _ rfl _ _ _ rfl 1 .nilFunc 1 8 Try.underlying47 (by kernel_rfl) rfl (by omega) (by omega) rfl R5.out (by omega) wr.heap.size 1 [.func (.func K) #[] c] 1 rfl rfl (heap_alloc_new wr _) (by simp [Value.oneCell']) (fun j => ((F.take k).filter notNil ++ [Value.func (.func K) #[] c]).getD j Value.nilFunc) HA.out.1 HA.out.2 _ rfl ?_)
        intro g cap6 w6 row6 ch6 at6 lt6
        have FIN : Hid (Row w6 1 1 (some ⟨g, 0, none⟩) (m + 1) cap6 (fun j => ((F.take k).filter notNil ++ [Value.func (.func K) #[] c]).getD j Value.nilFunc) ∧ Ch Nil w0 w6 ∧ ∀ g', OwnS (some ⟨g, 0, none⟩) g' → w0.heap.size ≤ g') := Lib.hid ⟨row6, (HC.out.alloc _).then ch6 (fun i hi e => by have := HO.out i e; omega), fun g' hg' => by
          cases hg'
          rcases at6 with h | h
          · exact HO.out _ h
          · have := HC.out.size; simp only [go_sem] at h ⊢; omega⟩
        clear row6 ch6 at6 lt6 R5
        go_wp2
        go_roundw
        case rel => exact ⟨k + 1, some ⟨g, 0, none⟩, cap6, by omega, by go_num, by rw [FT.out]; simp [notNil, isNilF, ← HM.out], by rw [FT.out]; simpa [notNil, isNilF, ← HM.out] using FIN.out.1, FIN.out.2.1, FIN.out.2.2⟩
        case measure => simp [intOf]; omega
    · obtain rfl : k = n := by omega
      have htk : F.take k = F := List.take_of_length_le (by rw [HN.out]; exact Nat.le_refl _)
      rw [htk] at HR ⊢
      clear htk
      have hlen : (F.filter notNil).length ≤ cap' ∧ cap' ≤ maxLen := HR.out.len_cap
      have lz0 := HC.out.size
      have lzw := W1.out
      have A1 : Ag S w wr := (C0.out.trans HC.out).ag HL.out (fun k hk e => e)
      have hs2 : ∀ j, (S j ∨ OwnS a' j) → j < wr.heap.size := fun j hj => by
        rcases hj with hj | hj
        · have := HL.out j hj; omega
        · exact HR.out.lt j hj
      have R6 := Lib.hid (row_of l (F.filter notNil) Q0 (fun j => S j ∨ OwnS a' j) wr a' cap' ((HF.out.fns.ag A1).wide (fun j hj => .inl hj) hs2) (by
        by_cases hz : F.filter notNil = []
        · exact .inl hz
        · obtain ⟨g, rfl, -⟩ := HR.out.form (List.length_pos_iff.2 hz)
          refine .inr ⟨g, 0, rfl, fun i v hi => ?_⟩
          have hli := (List.getElem?_eq_some_iff.1 hi).1
          rw [Nat.zero_add, HR.out.cell i (by omega)]
          rw [List.getD_eq_getElem?_getD, hi]
          rfl) (fun j hj => .inr hj) hs2 hlen.1 hlen.2)
      have C2 := Lib.hid (C0.out.trans HC.out)
      have B2 := Lib.hid (BK.out.kept HC.out (fun e => e))
      have Y0 := Lib.hid (HC.out.keeps Z0.out (fun e => e))
      have Y1 := Lib.hid (HC.out.keeps Z1.out (fun e => e))
      clear HF HS A1 hs2 HR Z0 Z1 BK hq0 hq1
      go_wp2_with fail
      refine R6.out.mono ?_
      rintro x w3 ⟨v2, S2, rfl, st2, ch2, ss2, sl2⟩
      obtain ⟨m', d', rfl, fm, fd⟩ := st2.shape
      have t1 := fm.store
      have t2 := fd.store
      have y0 := ch2.keeps Y0.out (fun e => e)
      have y1 := ch2.keeps Y1.out (fun e => e)
      have bk := B2.out.kept ch2 (fun e => e)
      have hfz := bk.fz
      have ls3 := ch2.size
      have EN := Lib.hid (And.intro st2 (And.intro (C2.out.trans ch2) (And.intro ss2 sl2)))
      clear st2 ch2 ss2 sl2 bk fm fd R6
      go_wp2
      have cS : Ch (One w.heap.size) w3 ((w3.setCell ⟨w.heap.size, 0, none⟩ m').setCell ⟨w.heap.size, 1, none⟩ d') := ((Ch.refl _ _).setB _ _).setB _ _
      (try simp only [Exit.inBlock, Exit.then])
      refine bodyPost_ret (v := .agg #[m', d']) (by simp [results, Try.results24, go_sem, y0, y1, cell_set]) rfl ?_
      obtain ⟨g2, g3, g5, g7⟩ := EN.out
      have hown : ∀ j, S2 j → S j ∨ w0.heap.size ≤ j := fun j hj => by
        rcases g5 j hj with (h | h) | h
        · exact .inl h
        · exact .inr (HO.out j h)
        · right; omega
      refine ⟨_, S2, rfl, g2.ag (cS.ag g7 (fun j hj e => ?_)), g3.then cS (fun i hi e => by have e' : i = w.heap.size := e; omega), fun j hj => (hown j hj).imp id (fun h => by omega), fun j hj => by have := g7 j hj; have := cS.size; omega⟩
      have e' : j = w.heap.size := e
      rcases hown j hj with h | h
      · have := HL.out j h; omega
      · omega
end
end Go.Proofs.Ytjaalkjdpgnfjaa
