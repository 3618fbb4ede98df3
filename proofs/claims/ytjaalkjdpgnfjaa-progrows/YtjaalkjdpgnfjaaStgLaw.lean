/-
  The statements' own stage that puts numbers behind others: nothing for one below 0.
-/
import Derived.Test.YtjaalkjdpgnfjaaStgGot
namespace Go.Proofs.Ytjaalkjdpgnfjaa
open Go.RowKit Verge
attribute [local go_sem] Oper.semAt_some
set_option linter.unusedVariables false
set_option linter.unusedSimpArgs false

theorem enters_app : Enters 33 := enters_of Try.func33 (by kernel_rfl) rfl
/-- states that tell of a row of numbers in A, and that are kept while it grows -/
def Holds (A : Nat) (Q : List Int → Own) : Prop := ∀ g M w, (Q g).P M w → ∃ a cap, GotAt A g a cap w ∧ M A ∧ (∀ k, OwnS a k → M k) ∧
  ∀ n a' cap' w', GotAt A (g ++ [n]) a' cap' w' → Ch (fun k => k = A ∨ OwnS a k) w w' → (∀ k, OwnS a' k → OwnS a k ∨ w.heap.size ≤ k) → ∃ M', (Q (g ++ [n])).P M' w' ∧ ∀ k, M' k → M k ∨ w.heap.size ≤ k
theorem got_holds (A : Nat) : Holds A (Got A) := by
  intro g M w h
  obtain ⟨a, cap, h, hM⟩ := h
  refine ⟨a, cap, h, (hM A).2 (.inl rfl), fun k hk => (hM k).2 (.inr hk), fun n a' cap' w' h' c ho => ⟨fun k => k = A ∨ OwnS a' k, ⟨a', cap', h', fun k => Iff.rfl⟩, fun k hk => ?_⟩⟩
  rcases hk with hk | hk
  · exact .inl ((hM k).2 (.inl hk))
  · exact (ho k hk).imp (fun e => (hM k).2 (.inr e)) id
/-- a function that puts a number behind the others -/
def appF (b2 B : Nat) : Value := .func (.func 33) #[] #[.pointer (some ⟨b2, 0, none⟩), .pointer (some ⟨B, 0, none⟩)]
theorem leads_app {A b2 B : Nat} {Q : List Int → Own} (hQ : Holds A Q) {g : List Int} {n : Int} {S : Nat → Prop} {w : World} (k2 : w.cell? ⟨b2, 0, none⟩ = some (.pointer (some ⟨A, 0, none⟩))) (k7 : w.cell? ⟨B, 0, none⟩ = some (.int .i64 n))
    (s2 : S b2) (s7 : S B) (hl : ∀ k, S k → k < w.heap.size) (hn : g.length ≤ 100000) : Leads (Q g) (Q (g ++ [n])) Void S (appF b2 B) w := by
  refine ⟨_, _, rfl, enters_app, hl, fun w' M a hM h => ?_⟩
  obtain ⟨ar, cap, hg, mA, mO, hmore⟩ := hQ g M w' h
  refine (app_of hg (a.cell k2 s2) (a.cell k7 s7) ⟨fun e => hM b2 s2 (e ▸ mA), fun e => hM b2 s2 (mO _ e)⟩ ⟨fun e => hM B s7 (e ▸ mA), fun e => hM B s7 (mO _ e)⟩ hn).mono ?_
  rintro e w'' ⟨rfl, a', cap', hg', c, ho⟩
  obtain ⟨M', hq', hm'⟩ := hmore n a' cap' w'' hg' c ho
  exact ⟨_, fun _ => False, M', rfl, hq', ⟨rfl, fun _ e => e⟩, c.mono (fun k _ e => e.elim (fun e => e ▸ mA) (mO k)), hm', fun _ e => e.elim, fun _ e => e.elim, fun _ e => e.elim⟩

/-- those that are not below 0 -/
def pos (xs : List Int) : List Int := xs.filter (fun n => decide (0 ≤ n))
/-- for each number its function: nil for one below 0 -/
def Fits (lo b2 : Nat) (ow : Nat → Prop) (w : World) : List Int → List Value → Prop
  | [], [] => True
  | n :: xs, f :: fs => ((n < 0 ∧ f = .nilFunc) ∨ (0 ≤ n ∧ ∃ B, f = appF b2 B ∧ w.cell? ⟨B, 0, none⟩ = some (.int .i64 n) ∧ lo ≤ B ∧ ¬ ow B)) ∧ Fits lo b2 ow w xs fs
  | _, _ => False
section
variable {lo b2 : Nat} {ow ow' : Nat → Prop} {w w' : World}
theorem Fits.len : ∀ {xs : List Int} {fs : List Value}, Fits lo b2 ow w xs fs → xs.length = fs.length
  | [], [], _ => rfl
  | _ :: _, _ :: _, h => by simp [Fits.len h.2]
  | [], _ :: _, h => h.elim
  | _ :: _, [], h => h.elim
theorem Fits.keep : ∀ {xs : List Int} {fs : List Value}, Fits lo b2 ow w xs fs → (∀ B v, lo ≤ B → ¬ ow B → w.cell? ⟨B, 0, none⟩ = some v → w'.cell? ⟨B, 0, none⟩ = some v ∧ ¬ ow' B) → Fits lo b2 ow' w' xs fs
  | [], [], _, _ => trivial
  | _ :: _, _ :: _, h, k => ⟨h.1.imp id (fun ⟨h0, B, e, hc, hl, ho⟩ => ⟨h0, B, e, (k B _ hl ho hc).1, hl, (k B _ hl ho hc).2⟩), Fits.keep h.2 k⟩
  | [], _ :: _, h, _ => h.elim
  | _ :: _, [], h, _ => h.elim
theorem Fits.snoc {n : Int} {f : Value} (hn : (n < 0 ∧ f = .nilFunc) ∨ (0 ≤ n ∧ ∃ B, f = appF b2 B ∧ w.cell? ⟨B, 0, none⟩ = some (.int .i64 n) ∧ lo ≤ B ∧ ¬ ow B)) : ∀ {xs : List Int} {fs : List Value}, Fits lo b2 ow w xs fs → Fits lo b2 ow w (xs ++ [n]) (fs ++ [f])
  | [], [], _ => ⟨hn, trivial⟩
  | _ :: _, _ :: _, h => ⟨h.1, Fits.snoc hn h.2⟩
  | [], _ :: _, h => h.elim
  | _ :: _, [], h => h.elim
theorem Fits.gns {A : Nat} {Q : List Int → Own} (hQ : Holds A Q) {S : Nat → Prop} (k2 : w.cell? ⟨b2, 0, none⟩ = some (.pointer (some ⟨A, 0, none⟩))) (s2 : S b2) (hl : ∀ k, S k → k < w.heap.size) (hs : ∀ B, lo ≤ B → B < w.heap.size → S B) :
    ∀ {xs : List Int} {fs : List Value} {g : List Int}, Fits lo b2 ow w xs fs → g.length + xs.length ≤ 100000 → Gns S fs (sts Q g (pos xs)) (Q g) w
  | [], [], _, _, _ => trivial
  | n :: xs, f :: fs, g, h, hg => by
    obtain ⟨h1, h2⟩ := h
    simp only [List.length_cons] at hg
    rcases h1 with ⟨hn, rfl⟩ | ⟨hn, B, rfl, hc, hlo, -⟩
    · refine .inl ⟨rfl, ?_⟩
      rw [show pos (n :: xs) = pos xs by unfold pos; rw [List.filter_cons_of_neg (by simp; omega)]]
      exact Fits.gns hQ k2 s2 hl hs h2 (by omega)
    · refine .inr ⟨Q (g ++ [n]), sts Q (g ++ [n]) (pos xs), ?_, leads_app hQ k2 hc s2 (hs B hlo (lt_of_cell hc)) hl (by omega), Fits.gns hQ k2 s2 hl hs h2 (by simp; omega)⟩
      rw [show pos (n :: xs) = n :: pos xs by unfold pos; rw [List.filter_cons_of_pos (by simpa using hn)]]
      rfl
  | [], _ :: _, _, h, _ => h.elim
  | _ :: _, [], _, h, _ => h.elim
end
theorem fits_more {lo b2 H g : Nat} {a : Option Addr} {w w5 w6 : World} {xs : List Int} {fs : List Value} {v : Int} {f : Value} (h : Fits lo b2 (OwnS a) w xs fs) (c5 : Ch Nil w w5) (c6 : Ch (OwnS a) w5 w6) (at6 : OwnS a g ∨ g = H) (hH : w5.heap.size ≤ H)
    (ha : ∀ k, OwnS a k → k < w.heap.size) (hlo : lo ≤ w.heap.size) (hf : (v < 0 ∧ f = .nilFunc) ∨ (0 ≤ v ∧ f = appF b2 w.heap.size ∧ w5.cell? ⟨w.heap.size, 0, none⟩ = some (.int .i64 v))) :
    Fits lo b2 (OwnS (some ⟨g, 0, none⟩)) w6 (xs ++ [v]) (fs ++ [f]) := by
  have z5 := c5.size
  refine Fits.snoc ?_ (h.keep (fun B x hB hn hc => ⟨c6.keeps (c5.keeps hc (fun e => e)) hn, fun e => ?_⟩))
  · rcases hf with hf | ⟨hv, rfl, hc⟩
    · exact .inl hf
    · have hlt := lt_of_cell hc
      simp only at hlt
      refine .inr ⟨hv, _, rfl, c6.keeps hc (fun e => by have := ha _ e; simp only at this; omega), hlo, fun e => ?_⟩
      have e' : g = w.heap.size := Option.some.inj e
      rcases at6 with e | e
      · have := ha _ e; omega
      · omega
  · have e' : g = B := Option.some.inj e
    subst e'
    rcases at6 with e | e
    · exact hn e
    · have := lt_of_cell hc; simp only at this; omega
/-- a slice that leads to these numbers -/
def SrcA (w : World) (a : Option Addr) (xs : List Int) : Prop := xs = [] ∨ ∃ b o, a = some ⟨b, o, none⟩ ∧ ∀ i n, xs[i]? = some n → w.cell? ⟨b, o + i, none⟩ = some (.int .i64 n)
theorem SrcA.form {w : World} {a : Option Addr} {xs : List Int} (h : SrcA w a xs) (hp : xs ≠ []) : ∃ b o, a = some ⟨b, o, none⟩ ∧ ∀ i n, xs[i]? = some n → w.cell? ⟨b, o + i, none⟩ = some (.int .i64 n) := h.elim (fun e => absurd e hp) id

section
variable {A cap : Nat} {Q : List Int → Own} {g xs : List Int} {w : World} {a : Option Addr}
set_option maxHeartbeats 8000000 in
theorem lrow_of (hQ : Holds A Q) (hs : SrcA w a xs) (hn : xs.length ≤ 30) (hg : g.length + xs.length ≤ 100000) :
    Calls Try.prog 22 #[.pointer (some ⟨A, 0, none⟩), .slice a xs.length cap] w fun x w' => ∃ v S', x = .returned v ∧ Stg (sts Q g (pos xs)) (Q g) S' v w' ∧ Ch Nil w w' ∧ (∀ k, S' k → w.heap.size ≤ k) ∧ (∀ k, S' k → k < w'.heap.size) := by
  have c0 : Ch Nil w ((w.alloc (.cells #[.pointer (some ⟨A, 0, none⟩)] 33)).alloc (.cells #[.nilFunc, .nilFunc] 31)) := ((Ch.refl _ _).alloc _).alloc _
  have zz : (w.alloc (.cells #[.pointer (some ⟨A, 0, none⟩)] 33)).heap.size = w.heap.size + 1 := by simp
  have z0 : ((w.alloc (.cells #[.pointer (some ⟨A, 0, none⟩)] 33)).alloc (.cells #[.nilFunc, .nilFunc] 31)).cell? ⟨w.heap.size + 1, 0, none⟩ = some .nilFunc := by rw [← zz, cell_fresh]; rfl
  have z1 : ((w.alloc (.cells #[.pointer (some ⟨A, 0, none⟩)] 33)).alloc (.cells #[.nilFunc, .nilFunc] 31)).cell? ⟨w.heap.size + 1, 1, none⟩ = some .nilFunc := by rw [← zz, cell_fresh]; rfl
  have bk : Blk ((w.alloc (.cells #[.pointer (some ⟨A, 0, none⟩)] 33)).alloc (.cells #[.nilFunc, .nilFunc] 31)) (w.heap.size + 1) := by rw [← zz]; exact Blk.new _ _ _
  have k0 : ((w.alloc (.cells #[.pointer (some ⟨A, 0, none⟩)] 33)).alloc (.cells #[.nilFunc, .nilFunc] 31)).cell? ⟨w.heap.size, 0, none⟩ = some (.pointer (some ⟨A, 0, none⟩)) := (Ch.alloc (Ch.refl Nil _) _).keeps (by rw [cell_fresh]; rfl) (fun e => e)
  have z3 : ((w.alloc (.cells #[.pointer (some ⟨A, 0, none⟩)] 33)).alloc (.cells #[.nilFunc, .nilFunc] 31)).heap.size = w.heap.size + 2 := by simp
  have Z3 := Lib.hid z3
  have BK := Lib.hid bk
  have Z0 := Lib.hid z0
  have Z1 := Lib.hid z1
  have K0 := Lib.hid k0
  have C0 := Lib.hid c0
  have HS := Lib.hid hs
  have HG := Lib.hid hg
  obtain ⟨n, hN⟩ : ∃ n, n = xs.length := ⟨_, rfl⟩
  rw [← hN] at hn ⊢
  have HN := Lib.hid hN
  clear hs bk z0 z1 c0 hN zz k0 z3 hg
  go_enter Try.func22, Try.ntmps22
  go_wp2
  generalize (w.alloc (.cells #[.pointer (some ⟨A, 0, none⟩)] 33)).alloc (.cells #[.nilFunc, .nilFunc] 31) = w0 at C0 BK Z0 Z1 K0 Z3 ⊢
  go_loopw [5, 6] (fun s i wr => ∃ k a' cap' fs, k ≤ n ∧ i = .int .i64 (k : Nat) ∧ s = .slice a' k cap' ∧ Row wr 1 1 a' k cap' (fun j => List.getD fs j Value.nilFunc) ∧ Ch Nil w0 wr ∧ (∀ g, OwnS a' g → w0.heap.size ≤ g) ∧ Hid (Fits w0.heap.size w.heap.size (OwnS a') wr (xs.take k) fs)) (fun _ i _ => n - (intOf i).toNat)
  case atStart => exact ⟨0, none, 0, [], by omega, rfl, rfl, Row.nil _ _ _ _, Ch.refl _ _, (fun g h => (by cases h)), Lib.hid trivial⟩
  case round =>
    obtain ⟨k, a', cap', fs, hk, rfl, rfl, hrow, hch, hown, hfit⟩ := hrel
    have HR := Lib.hid hrow
    have HC := Lib.hid hch
    have HO := Lib.hid hown
    clear hrow hch hown
    by_cases hlt : k < n
    · obtain ⟨v, hv⟩ : ∃ v, xs[k]? = some v := ⟨_, List.getElem?_eq_getElem (by rw [← HN.out]; exact hlt)⟩
      obtain ⟨b, o, rfl, hcl⟩ := HS.out.form (by rintro rfl; simp at hv)
      have hc1 := HC.out.keeps (C0.out.keeps (hcl k v hv) (fun e => e)) (fun e => e)
      have hkz : (k : Int) < (n : Int) := by omega
      have hkz0 : (0 : Int) ≤ (k : Int) := by omega
      have FT := Lib.hid (show xs.take (k + 1) = xs.take k ++ [v] by rw [List.take_add_one, hv]; rfl)
      have hfl : fs.length = k := by have := hfit.out.len; rw [List.length_take, ← HN.out] at this; omega
      have HFL := Lib.hid hfl
      clear hcl hv hfl
      go_upto_region 6 with (fail)
      have c5 : Ch Nil wr (wr.alloc (.cells #[.int .i64 v] 3)) := (Ch.refl _ _).alloc _
      have k5 : (wr.alloc (.cells #[.int .i64 v] 3)).cell? ⟨wr.heap.size, 0, none⟩ = some (.int .i64 v) := by rw [cell_fresh]; rfl
      have z5 : (wr.alloc (.cells #[.int .i64 v] 3)).heap.size = wr.heap.size + 1 := by simp
      have C5 := Lib.hid c5
      have Z5 := Lib.hid z5
      clear c5 z5 hc1
      generalize wr.alloc (.cells #[.int .i64 v] 3) = w5 at C5 k5 Z5 ⊢
      have lz0 := HC.out.size
      have hfs : ∀ (f : Value), (∀ i, i < k * 1 → (fun j => List.getD (fs ++ [f]) j Value.nilFunc) i = (fun j => List.getD fs j Value.nilFunc) i) ∧ ∀ j u, [f][j]? = some u → (fun j => List.getD (fs ++ [f]) j Value.nilFunc) (k * 1 + j) = u := by
        intro f
        have e := HFL.out
        refine ⟨fun i hi => ?_, fun j u hu => ?_⟩
        · simp only
          rw [List.getD_eq_getElem?_getD, List.getD_eq_getElem?_getD, List.getElem?_append_left (by omega)]
        · obtain rfl : j = 0 := by cases j; rfl; simp at hu
          simp at hu
          subst hu
          simp only [Nat.mul_one, Nat.add_zero]
          rw [← e, List.getD_eq_getElem?_getD, List.getElem?_append_right (Nat.le_refl _)]
          simp
      have HA := Lib.hid hfs
      have K5 := Lib.hid k5
      clear hfs
      by_cases hv : v < 0
      · have hlt0 : decide (v < 0) = true := by simpa using hv
        have R5 := Lib.hid ((HR.out.kept C5.out (fun _ _ e => e)).kept (S := Nil) ((Ch.refl Nil w5).alloc (Obj.cells #[.nilFunc] 1)) (fun _ _ e => e))
        go_wp2_with (at_builtin; refine append_row _ rfl _ _ _ rfl 1 .nilFunc 1 8 Try.underlying47 (by kernel_rfl) rfl (by omega) (by omega) rfl R5.out (by omega) w5.heap.size 1 [Value.nilFunc] 1 rfl rfl (heap_alloc_new w5 _) (by simp [Value.oneCell']) (fun j => List.getD (fs ++ [Value.nilFunc]) j Value.nilFunc) (HA.out _).1 (HA.out _).2 _ rfl ?_)
        intro g6 cap6 w6 row6 ch6 at6 lt6
        have cB : Ch Nil wr (w5.alloc (Obj.cells #[.nilFunc] 1)) := C5.out.alloc _
        have zB : (w5.alloc (Obj.cells #[.nilFunc] 1)).heap.size = w5.heap.size + 1 := by simp
        have FIN : Hid (Row w6 1 1 (some ⟨g6, 0, none⟩) (k + 1) cap6 (fun j => List.getD (fs ++ [Value.nilFunc]) j Value.nilFunc) ∧ Ch Nil w0 w6 ∧ (∀ g', OwnS (some ⟨g6, 0, none⟩) g' → w0.heap.size ≤ g') ∧ Fits w0.heap.size w.heap.size (OwnS (some ⟨g6, 0, none⟩)) w6 (xs.take (k + 1)) (fs ++ [Value.nilFunc])) := Lib.hid ⟨row6, (HC.out.trans cB).then ch6 (fun i hi e => by have := HO.out i e; omega), (fun g' hg' => by
          cases hg'
          rcases at6 with h | h
          · exact HO.out _ h
          · have h' : g6 = w5.heap.size + 1 := by simpa using h
            have := C5.out.size; simp only; omega), by
          rw [FT.out]
          exact fits_more hfit.out cB ch6 at6 (by first | omega | simp) (fun j hj => HR.out.lt j hj) lz0 (.inl ⟨hv, rfl⟩)⟩
        clear row6 ch6 at6 lt6 R5 cB zB
        go_wp2
        go_roundw
        case rel => exact ⟨k + 1, some ⟨g6, 0, none⟩, cap6, _, by omega, by go_num, rfl, FIN.out.1, FIN.out.2.1, FIN.out.2.2.1, Lib.hid FIN.out.2.2.2⟩
        case measure => simp [intOf]; omega
      · have hlt0 : decide (v < 0) = false := by simpa using hv
        have R5 := Lib.hid ((HR.out.kept C5.out (fun _ _ e => e)).kept (S := Nil) ((Ch.refl Nil w5).alloc (Obj.cells #[appF w.heap.size wr.heap.size] 1)) (fun _ _ e => e))
        unfold appF at R5
        go_wp2_with (at_builtin; refine append_row _ rfl _ _ _ rfl 1 .nilFunc 1 8 Try.underlying47 (by kernel_rfl) rfl (by omega) (by omega) rfl R5.out (by omega) w5.heap.size 1 [appF w.heap.size wr.heap.size] 1 rfl rfl (heap_alloc_new w5 _) (by simp [appF, Value.oneCell']) (fun j => List.getD (fs ++ [appF w.heap.size wr.heap.size]) j Value.nilFunc) (HA.out _).1 (HA.out _).2 _ rfl ?_)
        intro g6 cap6 w6 row6 ch6 at6 lt6
        have cB : Ch Nil wr (w5.alloc (Obj.cells #[appF w.heap.size wr.heap.size] 1)) := C5.out.alloc _
        have zB : (w5.alloc (Obj.cells #[appF w.heap.size wr.heap.size] 1)).heap.size = w5.heap.size + 1 := by simp
        have kB := ((Ch.refl Nil w5).alloc (Obj.cells #[appF w.heap.size wr.heap.size] 1)).keeps K5.out (fun e => e)
        have FIN : Hid (Row w6 1 1 (some ⟨g6, 0, none⟩) (k + 1) cap6 (fun j => List.getD (fs ++ [appF w.heap.size wr.heap.size]) j Value.nilFunc) ∧ Ch Nil w0 w6 ∧ (∀ g', OwnS (some ⟨g6, 0, none⟩) g' → w0.heap.size ≤ g') ∧ Fits w0.heap.size w.heap.size (OwnS (some ⟨g6, 0, none⟩)) w6 (xs.take (k + 1)) (fs ++ [appF w.heap.size wr.heap.size])) := Lib.hid ⟨row6, (HC.out.trans cB).then ch6 (fun i hi e => by have := HO.out i e; omega), (fun g' hg' => by
          cases hg'
          rcases at6 with h | h
          · exact HO.out _ h
          · have h' : g6 = w5.heap.size + 1 := by simpa using h
            have := C5.out.size; simp only; omega), by
          rw [FT.out]
          exact fits_more hfit.out cB ch6 at6 (by first | omega | simp) (fun j hj => HR.out.lt j hj) lz0 (.inr ⟨by omega, rfl, kB⟩)⟩
        clear row6 ch6 at6 lt6 R5 cB zB kB
        go_wp2
        go_roundw
        case rel => exact ⟨k + 1, some ⟨g6, 0, none⟩, cap6, _, by omega, by go_num, rfl, FIN.out.1, FIN.out.2.1, FIN.out.2.2.1, Lib.hid FIN.out.2.2.2⟩
        case measure => simp [intOf]; omega
    · obtain rfl : k = n := by omega
      have htk : xs.take k = xs := List.take_of_length_le (by rw [HN.out]; exact Nat.le_refl _)
      rw [htk] at hfit
      clear htk
      have hlen : fs.length = k := by have := hfit.out.len; rw [← HN.out] at this; omega
      have hcp := HR.out.len_cap
      have lz0 := HC.out.size
      have lzw := Z3.out
      have hS : ∀ j, (j = w.heap.size ∨ (w0.heap.size ≤ j ∧ j < wr.heap.size)) → j < wr.heap.size := fun j hj => by rcases hj with rfl | ⟨-, h⟩ <;> omega
      have G1 := hfit.out.gns (g := g) hQ (S := fun j => j = w.heap.size ∨ (w0.heap.size ≤ j ∧ j < wr.heap.size)) (HC.out.keeps K0.out (fun e => e)) (.inl rfl) hS (fun B h1 h2 => .inr ⟨h1, h2⟩) HG.out
      have G2 : SrcF wr a' fs := by
        by_cases hz : fs = []
        · exact .inl hz
        · obtain ⟨b, rfl, -⟩ := HR.out.form (by rw [← hlen]; exact List.length_pos_iff.2 hz)
          refine .inr ⟨b, 0, rfl, fun i v hi => ?_⟩
          have hli := (List.getElem?_eq_some_iff.1 hi).1
          rw [Nat.zero_add, HR.out.cell i (by omega), List.getD_eq_getElem?_getD, hi]
          rfl
      have R6 := rowAll_of (cap := cap') G1 G2 hS (by omega) (by omega) (by omega)
      rw [hlen] at R6
      have R7 := Lib.hid R6
      have C2 := Lib.hid (C0.out.trans HC.out)
      have B2 := Lib.hid (BK.out.kept HC.out (fun e => e))
      have Y0 := Lib.hid (HC.out.keeps Z0.out (fun e => e))
      have Y1 := Lib.hid (HC.out.keeps Z1.out (fun e => e))
      clear HS hS G1 G2 R6 HR Z0 Z1 BK K0 hfit
      go_wp2_with fail
      refine R7.out.mono ?_
      rintro x w3 ⟨v2, S2, rfl, st2, ch2, ss2, sl2⟩
      obtain ⟨m', d', rfl, fm, fd⟩ := st2.shape
      have t1 := fm.store
      have t2 := fd.store
      have y0 := ch2.keeps Y0.out (fun e => e)
      have y1 := ch2.keeps Y1.out (fun e => e)
      have bk := B2.out.kept ch2 (fun e => e)
      have hfz := bk.fz
      have ls3 := ch2.size
      have EN := Lib.hid (And.intro st2 (And.intro (C2.out.trans ch2) (And.intro ss2 sl2)))
      clear st2 ch2 ss2 sl2 bk fm fd R7
      go_wp2
      have cS : Ch (One (w.heap.size + 1)) w3 ((w3.setCell ⟨w.heap.size + 1, 0, none⟩ m').setCell ⟨w.heap.size + 1, 1, none⟩ d') := ((Ch.refl _ _).setB _ _).setB _ _
      (try simp only [Exit.inBlock, Exit.then])
      refine bodyPost_ret (v := .agg #[m', d']) (by simp [results, Try.results22, go_sem, y0, y1, cell_set]) rfl ?_
      obtain ⟨g2, g3, g5, g7⟩ := EN.out
      refine ⟨_, S2, rfl, g2.ag (cS.ag g7 (fun j hj e => ?_)), g3.then cS (fun i hi e => by have e' : i = w.heap.size + 1 := e; omega), fun j hj => ?_, fun j hj => by have := g7 j hj; have := cS.size; omega⟩
      · have e' : j = w.heap.size + 1 := e
        rcases g5 j hj with (h | h) | h <;> omega
      · rcases g5 j hj with (h | h) | h <;> omega
end
end Go.Proofs.Ytjaalkjdpgnfjaa
