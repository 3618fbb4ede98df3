/-
  ProgWaits' stages: each waits for a gate, puts its number behind the others, and leads to the next one.
-/
import Derived.Test.YtjaalkjdpgnfjaaStgChain
import Derived.Test.YtjaalkjdpgnfjaaStgUntil
namespace Go.Proofs.Ytjaalkjdpgnfjaa
open Go.RowKit Verge
attribute [local go_sem] Oper.semAt_some
set_option linter.unusedVariables false
set_option linter.unusedSimpArgs false

theorem enters_w1 : Enters 17 := enters_of Try.func17 (by kernel_rfl) rfl
theorem enters_w11 : Enters 19 := enters_of Try.func19 (by kernel_rfl) rfl
theorem enters_w12 : Enters 20 := enters_of Try.func20 (by kernel_rfl) rfl
theorem ask_of {Ob : Nat} {o : Bool} {w : World} (h : w.cell? ⟨Ob, 0, none⟩ = some (.bool o)) :
    Calls Try.prog 19 #[.pointer (some ⟨Ob, 0, none⟩)] w fun e w' => e = .returned (.bool o) ∧ Ch Nil w w' := by
  go_enter Try.func19, Try.ntmps19
  go_wp2
  go_ret
  exact ⟨rfl, Ch.refl _ _⟩
/-- the function that makes the stages -/
def mkF (Lb Ob Gb Sb : Nat) : Value := .func (.func 17) #[] #[.pointer (some ⟨Lb, 0, none⟩), .pointer (some ⟨Ob, 0, none⟩), .pointer (some ⟨Gb, 0, none⟩), .pointer (some ⟨Sb, 0, none⟩)]
def askF (Ob : Nat) : Value := .func (.func 19) #[] #[.pointer (some ⟨Ob, 0, none⟩)]
def doF (Lb Gb Sb ib : Nat) : Value := .func (.func 20) #[] #[.pointer (some ⟨Gb, 0, none⟩), .pointer (some ⟨Lb, 0, none⟩), .pointer (some ⟨ib, 0, none⟩), .pointer (some ⟨Sb, 0, none⟩)]
/-- the stage of the i-th number of n, as two functions -/
def StW (Lb Ob Gb Sb n i lo : Nat) (m d : Value) (w : World) : Prop :=
  (n ≤ i ∧ m = .nilFunc ∧ d = .nilFunc) ∨ (i < n ∧ ∃ ib, m = askF Ob ∧ d = doF Lb Gb Sb ib ∧ w.cell? ⟨ib, 0, none⟩ = some (.int .i64 (i : Nat)) ∧ lo ≤ ib)
theorem StW.kept {Lb Ob Gb Sb n i lo : Nat} {m d : Value} {S : Nat → Prop} {w w' : World} (h : StW Lb Ob Gb Sb n i lo m d w) (c : Ch S w w') (hs : ∀ k, lo ≤ k → k < w.heap.size → ¬ S k) : StW Lb Ob Gb Sb n i lo m d w' := by
  rcases h with h | ⟨h, ib, e1, e2, h1, h2⟩
  · exact .inl h
  · exact .inr ⟨h, ib, e1, e2, c.keeps h1 (hs ib h2 (lt_of_cell h1)), h2⟩
theorem StW.fns {Lb Ob Gb Sb n i lo : Nat} {m d : Value} {w : World} (h : StW Lb Ob Gb Sb n i lo m d w) : IsFn m ∧ IsFn d := by
  rcases h with ⟨-, rfl, rfl⟩ | ⟨-, ib, rfl, rfl, -⟩
  · exact ⟨.inl rfl, .inl rfl⟩
  · exact ⟨.inr ⟨_, _, rfl⟩, .inr ⟨_, _, rfl⟩⟩
/-- its own two blocks -/
structure LaidW (w w0 : World) (i : Nat) : Prop where
  c : Ch Nil w w0
  i : w0.cell? ⟨w.heap.size, 0, none⟩ = some (.int .i64 (i : Nat))
  a : w0.cell? ⟨w.heap.size + 1, 0, none⟩ = some .nilFunc
  b : w0.cell? ⟨w.heap.size + 1, 1, none⟩ = some .nilFunc
  k : Blk w0 (w.heap.size + 1)
  z : w0.heap.size = w.heap.size + 2
theorem laidW (w : World) (i : Nat) : LaidW w ((w.alloc (.cells #[.int .i64 (i : Nat)] 3)).alloc (.cells #[.nilFunc, .nilFunc] 31)) i := by
  have zz : (w.alloc (.cells #[.int .i64 (i : Nat)] 3)).heap.size = w.heap.size + 1 := by simp
  have c2 : Ch Nil (w.alloc (.cells #[.int .i64 (i : Nat)] 3)) ((w.alloc (.cells #[.int .i64 (i : Nat)] 3)).alloc (.cells #[.nilFunc, .nilFunc] 31)) := (Ch.refl _ _).alloc _
  refine ⟨((Ch.refl _ _).alloc _).trans c2, c2.keeps (by rw [cell_fresh]; rfl) (fun e => e), by rw [← zz, cell_fresh]; rfl, by rw [← zz, cell_fresh]; rfl, by rw [← zz]; exact Blk.new _ _ _, by simp⟩
section
variable {Lb Ob Gb Sb n i cap : Nat} {a : Option Addr} {w : World}
set_option maxHeartbeats 4000000 in
theorem stage_of (hl : w.cell? ⟨Lb, 0, none⟩ = some (.slice a n cap)) (hn : n ≤ 30) :
    Calls Try.prog 17 #[.int .i64 (i : Nat), .pointer (some ⟨Lb, 0, none⟩), .pointer (some ⟨Ob, 0, none⟩), .pointer (some ⟨Gb, 0, none⟩), .pointer (some ⟨Sb, 0, none⟩)] w fun e w' =>
      ∃ m d, e = .returned (.agg #[m, d]) ∧ StW Lb Ob Gb Sb n i w.heap.size m d w' ∧ Ch Nil w w' := by
  have h0 := laidW w i
  have HL := Lib.hid h0
  have KL := Lib.hid hl
  clear h0 hl
  go_enter Try.func17, Try.ntmps17
  go_upto_region 1 with (fail)
  generalize (w.alloc (.cells #[.int .i64 (i : Nat)] 3)).alloc (.cells #[.nilFunc, .nilFunc] 31) = w0 at HL ⊢
  obtain ⟨c0, hi, ya, yb, bk, hz⟩ := HL.out
  have hl0 := c0.keeps KL.out (fun e => e)
  have C0 := Lib.hid c0
  have IH := Lib.hid hi
  have Y0 := Lib.hid ya
  have Y1 := Lib.hid yb
  have BK := Lib.hid bk
  have HZ := Lib.hid hz
  have hfz := bk.fz
  have st0 := IsFn.store (v := .nilFunc) (.inl rfl)
  have st32 := run_store_fn
  clear HL KL c0 bk hz
  by_cases hin : i < n
  · have hiz : ¬ (n : Int) ≤ (i : Int) := by omega
    clear hfz
    go_wp2_with fail
    refine (until_ff _ _ _ _ _).mono ?_
    rintro e w1 ⟨rfl, c1⟩
    have y0 := c1.keeps Y0.out (fun e => e)
    have y1 := c1.keeps Y1.out (fun e => e)
    have bk1 := BK.out.kept c1 (fun e => e)
    have hfz := bk1.fz
    have I1 := Lib.hid (c1.keeps IH.out (fun e => e))
    have C1 := Lib.hid (C0.out.trans c1)
    have lz := c1.size
    clear c1 bk1 ya yb hi hl0
    go_wp2
    have cS : Ch (One (w.heap.size + 1)) w1 ((w1.setCell ⟨w.heap.size + 1, 0, none⟩ (askF Ob)).setCell ⟨w.heap.size + 1, 1, none⟩ (doF Lb Gb Sb w.heap.size)) := ((Ch.refl _ _).setB _ _).setB _ _
    (try simp only [Exit.inBlock, Exit.then])
    refine bodyPost_ret (v := .agg #[askF Ob, doF Lb Gb Sb w.heap.size]) (by simp [results, Try.results17, go_sem, y0, y1, cell_set, askF, doF]) rfl ?_
    exact ⟨_, _, rfl, .inr ⟨hin, w.heap.size, rfl, rfl, cS.keeps I1.out (fun e => by have e' : w.heap.size = w.heap.size + 1 := e; omega), Nat.le_refl _⟩, C1.out.then cS (fun j hj e => by have e' : j = w.heap.size + 1 := e; omega)⟩
  · have hiz : (n : Int) ≤ (i : Int) := by omega
    go_wp2
    have cS : Ch (One (w.heap.size + 1)) w0 ((w0.setCell ⟨w.heap.size + 1, 0, none⟩ .nilFunc).setCell ⟨w.heap.size + 1, 1, none⟩ .nilFunc) := ((Ch.refl _ _).setB _ _).setB _ _
    (try simp only [Exit.inBlock, Exit.then])
    refine bodyPost_ret (v := .agg #[.nilFunc, .nilFunc]) (by simp [results, Try.results17, go_sem, ya, yb, cell_set]) rfl ?_
    exact ⟨_, _, rfl, .inl ⟨by omega, rfl, rfl⟩, C0.out.then cS (fun j hj e => by have e' : j = w.heap.size + 1 := e; omega)⟩
set_option maxHeartbeats 8000000 in
theorem doit_of {ib cg : Nat} {ag : Option Addr} {g xs : List Int} {v : Int} (hg : GotAt Gb g ag cg w) (hl : w.cell? ⟨Lb, 0, none⟩ = some (.slice a xs.length cap)) (hs : SrcA w a xs) (hi : w.cell? ⟨ib, 0, none⟩ = some (.int .i64 (i : Nat))) (hv : xs[i]? = some v)
    (hst : w.cell? ⟨Sb, 0, none⟩ = some (mkF Lb Ob Gb Sb)) (hn : xs.length ≤ 30) (hgl : g.length ≤ 1000) (n1 : Lb ≠ Gb ∧ ¬ OwnS ag Lb) (n2 : ib ≠ Gb ∧ ¬ OwnS ag ib) (n3 : Sb ≠ Gb ∧ ¬ OwnS ag Sb) (n4 : ∀ b, OwnS a b → b ≠ Gb ∧ ¬ OwnS ag b) :
    Calls Try.prog 20 #[.pointer (some ⟨Gb, 0, none⟩), .pointer (some ⟨Lb, 0, none⟩), .pointer (some ⟨ib, 0, none⟩), .pointer (some ⟨Sb, 0, none⟩)] w fun e w' =>
      ∃ m d lo, e = .returned (.agg #[m, d]) ∧ StW Lb Ob Gb Sb xs.length (i + 1) lo m d w' ∧ w.heap.size ≤ lo ∧ Ch (fun k => k = Gb ∨ OwnS ag k) w w' ∧ ∃ ag' cg', GotAt Gb (g ++ [v]) ag' cg' w' ∧ ∀ k, OwnS ag' k → (OwnS ag k ∨ w.heap.size ≤ k) ∧ k < lo := by
  obtain ⟨b, o, rfl, hcl⟩ := hs.form (by rintro rfl; simp at hv)
  obtain ⟨n5, n6⟩ := n4 b rfl
  have hx := hcl i v hv
  have hil : i < xs.length := (List.getElem?_eq_some_iff.1 hv).1
  have hiz : (i : Int) < (xs.length : Int) := by omega
  have hiz0 : (0 : Int) ≤ (i : Int) := by omega
  have c0 : Ch Nil w (w.alloc (.cells #[.nilFunc, .nilFunc] 31)) := (Ch.refl _ _).alloc _
  have bk : Blk (w.alloc (.cells #[.nilFunc, .nilFunc] 31)) w.heap.size := Blk.new _ _ _
  have z0 : (w.alloc (.cells #[.nilFunc, .nilFunc] 31)).cell? ⟨w.heap.size, 0, none⟩ = some .nilFunc := by rw [cell_fresh]; rfl
  have z1 : (w.alloc (.cells #[.nilFunc, .nilFunc] 31)).cell? ⟨w.heap.size, 1, none⟩ = some .nilFunc := by rw [cell_fresh]; rfl
  have W1 : Hid ((w.alloc (.cells #[.nilFunc, .nilFunc] 31)).heap.size = w.heap.size + 1) := Lib.hid (by simp)
  have lG : Gb < w.heap.size := lt_of_cell hg.c
  have lO := Lib.hid (show ∀ k, OwnS ag k → k < w.heap.size from hg.r.lt)
  have H := Lib.hid (hg.kept c0 (fun e => e) (fun _ _ e => e))
  have b0 := And.intro (c0.keeps hl (fun e => e)) (And.intro (c0.keeps hi (fun e => e)) (c0.keeps hx (fun e => e)))
  have ST := Lib.hid (c0.keeps hst (fun e => e))
  have Z0 := Lib.hid z0
  have Z1 := Lib.hid z1
  have BK := Lib.hid bk
  have C0 := Lib.hid c0
  clear hg hl hs hi hv hst hcl hx c0 bk z0 z1 n4
  go_enter Try.func20, Try.ntmps20
  go_wp2
  generalize w.alloc (.cells #[.nilFunc, .nilFunc] 31) = w0 at b0 H ST Z0 Z1 BK C0 W1 ⊢
  refine wp_region_held_drew (S := fun w' => w'.cell? ⟨Lb, 0, none⟩ = some (.slice (some ⟨b, o, none⟩) xs.length cap) ∧ w'.cell? ⟨ib, 0, none⟩ = some (.int .i64 (i : Nat)) ∧ w'.cell? ⟨b, o + i, none⟩ = some (.int .i64 v)) (by kernel_rfl) b0 (fun hHeld => ?_)
  have cD : Ch Nil w0 w0.drew := (Ch.refl _ _).drew
  have HD := Lib.hid (H.out.kept cD (fun e => e) (fun _ _ e => e))
  have SD := Lib.hid (cD.keeps ST.out (fun e => e))
  have D0 := Lib.hid (cD.keeps Z0.out (fun e => e))
  have D1 := Lib.hid (cD.keeps Z1.out (fun e => e))
  have DK := Lib.hid (BK.out.kept cD (fun e => e))
  have CD := Lib.hid (C0.out.trans cD)
  have WD : Hid (w0.drew.heap.size = w.heap.size + 1) := Lib.hid W1.out
  clear b0 H cD ST Z0 Z1 BK C0 W1
  generalize w0.drew = X at hHeld HD SD D0 D1 DK CD WD ⊢
  have cX : Ch Nil X (X.alloc (.cells #[.int .i64 v] 3)) := (Ch.refl _ _).alloc _
  have c1 := HD.out.c
  have c2 := cX.keeps c1 (fun e => e)
  have S2 := And.intro (cX.keeps hHeld.1 (fun e => e)) (And.intro (cX.keeps hHeld.2.1 (fun e => e)) (cX.keeps hHeld.2.2 (fun e => e)))
  refine take_at (v := ?_) 1 (some 6) rfl (by kernel_rfl) (by kernel_rfl) (by kernel_rfl) (by kernel_rfl) (fun _ _ _ h => h) (Or.inl ⟨by rfl, ?_⟩) (by assumption) ?_
  rotate_left
  · intro w hSw; (try dsimp only at hSw); go_simp; try (with_reducible rfl)
  (try simp only [Act.put, List.setIfInBounds_toArray, List.set_cons_zero, List.set_cons_succ])
  refine take_at (v := ?_) 2 (some 7) rfl (by kernel_rfl) (by kernel_rfl) (by kernel_rfl) (by kernel_rfl) (fun _ _ _ h => h) (Or.inl ⟨by rfl, ?_⟩) (by assumption) ?_
  rotate_left
  · intro w hSw; (try dsimp only at hSw); go_simp; try (with_reducible rfl)
  (try simp only [Act.put, List.setIfInBounds_toArray, List.set_cons_zero, List.set_cons_succ])
  refine take_at (v := ?_) 3 (some 8) rfl (by kernel_rfl) (by kernel_rfl) (by kernel_rfl) (by kernel_rfl) (fun _ _ _ h => h) (Or.inl ⟨by rfl, ?_⟩) (by assumption) ?_
  rotate_left
  · intro w hSw; (try dsimp only at hSw); go_simp; try (with_reducible rfl)
  (try simp only [Act.put, List.setIfInBounds_toArray, List.set_cons_zero, List.set_cons_succ])
  refine take_at (v := ?_) 4 (some 9) rfl (by kernel_rfl) (by kernel_rfl) (by kernel_rfl) (by kernel_rfl) (fun _ _ _ h => h) (Or.inl ⟨by rfl, ?_⟩) (by assumption) ?_
  rotate_left
  · intro w hSw; (try dsimp only at hSw); go_simp; try (with_reducible rfl)
  (try simp only [Act.put, List.setIfInBounds_toArray, List.set_cons_zero, List.set_cons_succ])
  refine wpAnyH_ready (rs := [0, 5]) (by kernel_rfl) (by simp) ?_
  refine AllReadyH.cons rfl (fun K hK => ?_) ?_
  go_simp
  refine hK.out _ _ hHeld (fun hh => ?_)
  clear hK K hh
  (try simp only [Act.put, List.setIfInBounds_toArray, List.set_cons_zero, List.set_cons_succ])
  refine wpAnyH_ready (rs := [5]) (by kernel_rfl) (by simp) ?_
  refine AllReadyH.cons rfl (fun K hK => ?_) AllReadyH.nil
  go_simp
  refine hK.out _ _ S2 (fun hh => ?_)
  clear hK K hh
  (try simp only [Act.put, List.setIfInBounds_toArray, List.set_cons_zero, List.set_cons_succ])
  refine ?tail
  rotate_left
  refine AllReadyH.cons rfl (fun K hK => ?_) AllReadyH.nil
  go_simp
  refine hK.out _ _ S2 (fun hh => ?_)
  clear hK K hh
  (try simp only [Act.put, List.setIfInBounds_toArray, List.set_cons_zero, List.set_cons_succ])
  refine wpAnyH_ready (rs := [0]) (by kernel_rfl) (by simp) ?_
  refine AllReadyH.cons rfl (fun K hK => ?_) AllReadyH.nil
  go_simp
  refine hK.out _ _ S2 (fun hh => ?_)
  clear hK K hh
  (try simp only [Act.put, List.setIfInBounds_toArray, List.set_cons_zero, List.set_cons_succ])
  exact ?tail
  have HX := Lib.hid (HD.out.kept cX (fun e => e) (fun _ _ e => e))
  have SX := Lib.hid (cX.keeps SD.out (fun e => e))
  have X0 := Lib.hid (cX.keeps D0.out (fun e => e))
  have X1 := Lib.hid (cX.keeps D1.out (fun e => e))
  have XK := Lib.hid (DK.out.kept cX (fun e => e))
  have CX := Lib.hid (CD.out.trans cX)
  have R5 : Hid (Row (X.alloc (.cells #[.int .i64 v] 3)) 3 1 ag g.length cg (fun i => .int .i64 (num g i))) := Lib.hid HX.out.r
  have hA1 : ∀ i, i < g.length * 1 → (fun i => Value.int .i64 (num (g ++ [v]) i)) i = (fun i => Value.int .i64 (num g i)) i := fun i hi => by
    simp only
    rw [num_left (by omega)]
  have hA2 : ∀ j u, [Value.int .i64 v][j]? = some u → (fun i => Value.int .i64 (num (g ++ [v]) i)) (g.length * 1 + j) = u := by
    intro j u hu
    obtain rfl : j = 0 := by cases j; rfl; simp at hu
    simp at hu
    subst hu
    simp only [Nat.mul_one, Nat.add_zero]
    rw [num_last]
  have HA := Lib.hid (And.intro hA1 hA2)
  have lX := WD.out
  have oh : ¬ OwnS ag w.heap.size := fun e => by have := lO.out _ e; omega
  clear c1 cX hA1 hA2
  refine wpAnyH_ready (rs := [6]) (by kernel_rfl) (by simp) ?_
  refine AllReadyH.cons rfl (fun K hK => ?_) AllReadyH.nil
  refine step_row rfl _ _ _ rfl 3 (.int .i64 0) 1 8 Try.underlying25 (by kernel_rfl) rfl (by omega) (by omega) rfl R5.out (by omega) X.heap.size 1 [.int .i64 v] 3 rfl rfl (heap_alloc_new X _) (by simp [Value.oneCell']) (fun i => Value.int .i64 (num (g ++ [v]) i)) HA.out.1 HA.out.2 _ rfl ?_
  intro g6 cap6 w6 row6 ch6 at6 lt6
  have S3 := And.intro (ch6.keeps S2.1 n1.2) (And.intro (ch6.keeps S2.2.1 n2.2) (ch6.keeps S2.2.2 n6))
  have c3 := ch6.keeps c2 HX.out.n
  have bk := HX.out.k.kept ch6 HX.out.n
  have z3 := bk.fz 0
  have g6x : OwnS ag g6 ∨ X.heap.size ≤ g6 := by
    rcases at6 with h' | h'
    · exact .inl h'
    · have h2 : g6 = X.heap.size + 1 := by simpa using h'
      right; omega
  have FIN : Hid (RowI w6 (some ⟨g6, 0, none⟩) (g ++ [v]).length cap6 (num (g ++ [v])) ∧ Blk w6 Gb ∧ ¬ OwnS (some ⟨g6, 0, none⟩) Gb ∧ Ch (OwnS ag) w w6 ∧ (∀ k, OwnS (some ⟨g6, 0, none⟩) k → OwnS ag k ∨ w.heap.size ≤ k)) := Lib.hid ⟨by rw [List.length_append]; exact row6, bk, (fun e => by
      have e' : g6 = Gb := Option.some.inj e
      rcases g6x with h' | h'
      · exact HX.out.n (e' ▸ h')
      · omega), (CX.out.mono (fun _ _ e => e.elim)).trans ch6, (fun k hk => by
      have e' : g6 = k := Option.some.inj hk
      subst e'
      rcases g6x with h' | h'
      · exact .inl h'
      · right; omega)⟩
  have NH : Hid (g6 ≠ w.heap.size) := Lib.hid (fun e => by rcases g6x with h' | h'; exact oh (e ▸ h'); omega)
  have L6 : Hid (g6 < w6.heap.size) := Lib.hid lt6
  have S6 := Lib.hid (ch6.keeps SX.out n3.2)
  have Y0 := Lib.hid (ch6.keeps X0.out oh)
  have Y1 := Lib.hid (ch6.keeps X1.out oh)
  have YK := Lib.hid (XK.out.kept ch6 oh)
  have lz6 := ch6.size
  have lzX : X.heap.size ≤ (X.alloc (.cells #[.int .i64 v] 3)).heap.size := by simp
  refine hK.out _ _ S3 (fun hh => ?_)
  clear hK K hh ch6 row6 at6 lt6 R5 HX HD S2 c2 hHeld bk HA SX SD X0 X1 XK D0 D1 DK CX CD g6x
  (try simp only [Act.put, List.setIfInBounds_toArray, List.set_cons_zero, List.set_cons_succ])
  refine wpAnyH_ready (rs := [7]) (by kernel_rfl) (by simp) ?_
  refine AllReadyH.cons rfl (fun K hK => ?_) AllReadyH.nil
  go_simp
  have cS : Ch (One Gb) w6 (w6.setCell ⟨Gb, 0, none⟩ (.slice (some ⟨g6, 0, none⟩) (g.length + 1) cap6)) := (Ch.refl _ _).setB _ _
  have k3 := And.intro (cS.keeps S3.1 n1.1) (And.intro (cS.keeps S3.2.1 n2.1) (cS.keeps S3.2.2 n5))
  have G7 : Hid (GotAt Gb (g ++ [v]) (some ⟨g6, 0, none⟩) cap6 (w6.setCell ⟨Gb, 0, none⟩ (.slice (some ⟨g6, 0, none⟩) (g.length + 1) cap6))) := Lib.hid (by
    obtain ⟨f1, f2, f3, f4, f5⟩ := FIN.out
    refine ⟨?_, f2.set _ _, f1.kept cS (fun k hk e => f3 ((show k = Gb from e) ▸ hk)), f3⟩
    rw [World.cell?_setCell_same _ _ _ c3, List.length_append]
    rfl)
  have C7 : Hid (Ch (fun k => k = Gb ∨ OwnS ag k) w (w6.setCell ⟨Gb, 0, none⟩ (.slice (some ⟨g6, 0, none⟩) (g.length + 1) cap6))) := Lib.hid ((FIN.out.2.2.2.1.mono (fun _ _ e => .inr e)).trans (cS.mono (fun _ _ e => .inl e)))
  have nhG : ¬ w.heap.size = Gb := by omega
  have S7 := Lib.hid (cS.keeps S6.out n3.1)
  have V0 := Lib.hid (cS.keeps Y0.out nhG)
  have V1 := Lib.hid (cS.keeps Y1.out nhG)
  have VK := Lib.hid (YK.out.kept cS nhG)
  have OW := Lib.hid FIN.out.2.2.2.2
  have lz7 := cS.size
  refine hK.out _ _ k3 (fun hHeld => ?_)
  clear hK K S3 k3 c3 z3 cS FIN S6 Y0 Y1 YK
  (try simp only [Act.put, List.setIfInBounds_toArray, List.set_cons_zero, List.set_cons_succ])
  refine wpAnyH_done (by kernel_rfl) ?_ _
  generalize w6.setCell ⟨Gb, 0, none⟩ (.slice (some ⟨g6, 0, none⟩) (g.length + 1) cap6) = w7 at G7 C7 S7 V0 V1 VK lz7 hHeld ⊢
  have k4 := S7.out
  unfold mkF at k4
  have k5 := hHeld.2.1
  have hw : IntKind.i64.wrap ((i : Int) + 1) = ((i + 1 : Nat) : Int) := by rw [show ((i + 1 : Nat) : Int) = (i : Int) + 1 by omega]; exact IntWalk.i64_in _ (by omega)
  have STG := Lib.hid (stage_of (Ob := Ob) (Gb := Gb) (Sb := Sb) (i := i + 1) hHeld.1 hn)
  clear hHeld
  go_wp2_with fail
  rw [show ((i + 1 : Nat) : Int) = (i : Int) + 1 by omega] at STG
  refine STG.out.mono ?_
  rintro e w8 ⟨m, d, rfl, st8, c8⟩
  have hfn := st8.fns
  have t1 := hfn.1.store
  have t2 := hfn.2.store
  have y0 := c8.keeps V0.out (fun e => e)
  have y1 := c8.keeps V1.out (fun e => e)
  have bk := VK.out.kept c8 (fun e => e)
  have hfz := bk.fz
  have lz8 := c8.size
  have ST8 := Lib.hid st8
  have G8 := Lib.hid (G7.out.kept c8 (fun e => e) (fun _ _ e => e))
  have C8 := Lib.hid (C7.out.trans (c8.mono (fun _ _ e => e.elim)))
  have lz67 : w.heap.size + 1 ≤ w7.heap.size := by omega
  clear st8 c8 bk hfn G7 C7 STG k4 k5 S7 V0 V1 VK
  go_wp2
  have cS : Ch (One w.heap.size) w8 ((w8.setCell ⟨w.heap.size, 0, none⟩ m).setCell ⟨w.heap.size, 1, none⟩ d) := ((Ch.refl _ _).setB _ _).setB _ _
  (try simp only [Exit.inBlock, Exit.then])
  refine bodyPost_ret (v := .agg #[m, d]) (by simp [results, Try.results20, go_sem, y0, y1, cell_set]) rfl ?_
  refine ⟨_, _, w7.heap.size, rfl, ?_, by omega, C8.out.then cS (fun j hj e => by have e' : j = w.heap.size := e; omega), some ⟨g6, 0, none⟩, cap6, G8.out.kept cS (fun e => by have e' : Gb = w.heap.size := e; omega) (fun k hk e => NH.out (by have e1 : g6 = k := Option.some.inj hk; have e2 : k = w.heap.size := e; omega)), fun k hk => ⟨OW.out k hk, by have e1 : g6 = k := Option.some.inj hk; have := L6.out; omega⟩⟩
  have h8 := ST8.out
  rcases h8 with h | ⟨h, ib', e1, e2, h1, h2⟩
  · exact .inl h
  · exact .inr ⟨h, ib', e1, e2, cS.keeps h1 (fun e => by have e' : ib' = w.heap.size := e; omega), h2⟩
end
end Go.Proofs.Ytjaalkjdpgnfjaa
