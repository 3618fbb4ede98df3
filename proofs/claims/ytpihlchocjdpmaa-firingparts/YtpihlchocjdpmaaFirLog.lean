/-
  Contracts of package firing's Log: New, Put, All, Of, At, Len.
-/
import Derived.Test.YtpihlchocjdpmaaFirIter
import Derived.Test.YtpihlchocjdpmaaRangeKit
import Derived.RangeFuncNested
import Derived.RangeFuncBound
namespace Go.Proofs.Ytpihlchocjdpmaa
open Go.RowKit Go.Shelf Verge
attribute [local go_sem] Oper.semAt_some
set_option linter.unusedVariables false
set_option linter.unusedSimpArgs false

section
variable {w w' W : World} {a : Option Addr} {L M : List Fr} {cap b : Nat}
theorem new_of (w : World) : Calls Try.prog 9 #[] w fun e w' => e = .returned (.pointer (some ⟨w.heap.size, 0, none⟩)) ∧ IsLog w' w.heap.size none 0 [] ∧ Ch Nil w w' := by
  go_enter Try.func9, Try.ntmps9
  go_wp2
  go_ret
  exact ⟨rfl, ⟨by simp [cell_fresh], by simp [go_sem], Row.nil _ _ _ _, by simp [OwnS]⟩, (Ch.refl _ _).alloc _⟩
theorem put_nil {a2 : Option Addr} {n c : Nat} (w : World) : Calls Try.prog 10 #[.pointer none, .slice a2 n c] w fun e w' => e = .returned (.tuple #[]) ∧ w' = w := by
  go_enter Try.func10, Try.ntmps10
  go_wp2
  refine bodyPost_ret (results_none rfl _ _ _) rfl ?_
  exact ⟨rfl, rfl⟩
theorem put_of {a2 : Option Addr} {c : Nat} (h : IsLog w b a cap L) (hs : Src w a2 M) (hc0 : a2 = none → c = 0) (hl : L.length ≤ 1000000) (hm : M.length ≤ 1000000) :
    Calls Try.prog 10 #[.pointer (some ⟨b, 0, none⟩), .slice a2 M.length c] w fun e w' => ∃ a' cap', e = .returned (.tuple #[]) ∧ IsLog w' b a' cap' (L ++ M) ∧ Ch (LgS b a) w w' ∧ ∀ g, OwnS a' g → OwnS a g ∨ w.heap.size ≤ g := by
  have HH := Lib.hid h
  have HS := Lib.hid hs
  have HC0 := Lib.hid hc0
  have c1 := h.c
  have f1 := h.f
  have hlt := lt_of_cell h.c
  obtain ⟨m, hm'⟩ : ∃ m, m = M.length := ⟨_, rfl⟩
  obtain ⟨n, hn'⟩ : ∃ m, m = L.length := ⟨_, rfl⟩
  rw [← hm'] at hm ⊢
  rw [← hn'] at c1 hl
  have HM := Lib.hid hm'
  have HN := Lib.hid hn'
  have HL2 := Lib.hid hl
  have HM2 := Lib.hid hm
  clear h hs hm' hn' hc0
  go_enter Try.func10, Try.ntmps10
  go_wp2_with (at_builtin; refine append_frs w rfl _ _ _ rfl Try.underlying22 (by kernel_rfl) rfl HN.out HH.out.row (by rw [← HN.out]; exact HL2.out) (by rw [← HM.out]; exact HM2.out) m c rfl HM.out HS.out HC0.out _ rfl ?_)
  intro a' cap' w2 row ch at_
  have ROW := Lib.hid row
  have CH := Lib.hid ch
  have AT := Lib.hid at_
  have d1 := ch.keeps c1 HH.out.ap
  have g1 := (ch.frozen (p := ⟨b, 0, none⟩) hlt HH.out.ap).trans f1
  clear row ch at_
  go_wp2
  go_end0
  have nb : ¬ OwnS a' b := fun e => by
    rcases AT.out b e with h | h
    · exact HH.out.ap h
    · omega
  refine ⟨a', cap', rfl, ⟨?_, ?_, ROW.out.kept (S := One b) ((Ch.refl _ _).setB 0 _) (fun k hk e => by cases e; exact nb hk), nb⟩, ?_, fun g hg => (AT.out g hg).imp (fun h => h) (fun h => Nat.le_of_eq h.symm)⟩
  · rw [List.length_append, ← HN.out, ← HM.out]; exact World.cell?_setCell_same _ _ _ d1
  · exact (World.frozen?_setCell _ _ _ _).trans g1
  · exact (CH.out.mono (fun _ _ e => .inr e)).set (p := ⟨b, 0, none⟩) (fun _ => .inl rfl) _
theorem len_nil (w : World) : Calls Try.prog 20 #[.pointer none] w fun e w' => e = .returned (.int .i64 0) ∧ w' = w := by
  go_enter Try.func20, Try.ntmps20
  go_wp2
  go_ret
  exact ⟨rfl, rfl⟩
theorem len_of (h : IsLog w b a cap L) : Calls Try.prog 20 #[.pointer (some ⟨b, 0, none⟩)] w fun e w' => e = .returned (.int .i64 (L.length : Nat)) ∧ w' = w := by
  have c1 := h.c
  clear h
  generalize L.length = n at *
  go_enter Try.func20, Try.ntmps20
  go_wp2
  go_ret
  exact ⟨rfl, rfl⟩
theorem those_any (q : Option Addr) (g : Nat) (lb : Array Value) (w : World) : Calls Try.prog 30 #[.pointer q, .func (.func g) #[] lb] w fun e w' => e = .returned (.func (.func 34) #[] #[.pointer (some ⟨w.heap.size, 0, none⟩), .pointer (some ⟨w.heap.size + 1, 0, none⟩)]) ∧ w'.cell? ⟨w.heap.size, 0, none⟩ = some (.pointer q) ∧ w'.cell? ⟨w.heap.size + 1, 0, none⟩ = some (.func (.func g) #[] lb) ∧ Ch Nil w w' ∧ w'.heap.size = w.heap.size + 2 := by
  go_enter Try.func30, Try.ntmps30
  go_wp2
  go_ret
  have hs : (w.alloc (Obj.cells #[.pointer q] 25)).heap.size = w.heap.size + 1 := by simp
  refine ⟨rfl, ((Ch.refl Nil _).alloc _).keeps (by simp [cell_fresh]) (fun e => e), ?_, ((Ch.refl _ _).alloc _).alloc _, by simp⟩
  rw [← hs]
  simp [cell_fresh]

/-- between two rounds: the box of the list, those of the iterator -/
structure CopIn (w : World) (lp fv : Value) (Q : List Fr) (k : Nat) (W : World) : Prop where
  c : Ch Nil w W
  b1 : W.cell? ⟨w.heap.size + 1, 0, none⟩ = some lp
  b2 : W.cell? ⟨w.heap.size + 2, 0, none⟩ = some fv
  row : ∃ a cap, W.cell? ⟨w.heap.size, 0, none⟩ = some (.slice a (Q.take k).length cap) ∧ FRow W a cap (Q.take k) ∧ ∀ g, OwnS a g → w.heap.size + 2 < g
  b : Blk W w.heap.size
theorem CopIn.steady {lp fv : Value} {Q : List Fr} {B : Nat} (hB : w.heap.size ≤ B) : Steady B (CopIn w lp fv Q) := fun k W W' r h c hr nc => by
  obtain ⟨a, cap, h1, h2, h3⟩ := h.row
  exact ⟨h.c.later c (by omega), c.keeps h.b1 (fun e => nc.cell h.b1 e), c.keeps h.b2 (fun e => nc.cell h.b2 e), ⟨a, cap, c.keeps h1 (fun e => nc.cell h1 e), Row.steady h2 c nc, h3⟩, h.b.kept c (NoCells.blk nc h.b)⟩
theorem CopIn.quiet {lp fv : Value} {Q : List Fr} {k : Nat} (h : CopIn w lp fv Q k W) (c : Ch Nil W w') : CopIn w lp fv Q k w' := by
  obtain ⟨a, cap, h1, h2, h3⟩ := h.row
  exact ⟨h.c.trans c, c.keeps h.b1 (fun e => e), c.keeps h.b2 (fun e => e), ⟨a, cap, c.keeps h1 (fun e => e), h2.kept c (fun _ _ e => e), h3⟩, h.b.kept c (fun e => e)⟩
theorem LogAt.kept {lp : Value} {S : Nat → Prop} (h : LogAt w lp a cap L) (c : Ch S w w') (hn : ∀ k, k < w.heap.size → ¬ S k) (hl : ∀ k, OwnS a k → k < w.heap.size) : LogAt w' lp a cap L := by
  rcases h with h | ⟨b, e, h1, h2⟩
  · exact .inl h
  · exact .inr ⟨b, e, c.keeps h1 (hn _ (lt_of_cell h1)), h2.kept c (fun k hk => hn k (hl k hk))⟩

set_option maxRecDepth 100000 in
set_option maxHeartbeats 2000000 in
theorem copied_of {q : Option Addr} {g : Nat} {lb : Array Value} {p : Fr → Bool} (hlog : LogAt w (.pointer q) a cap L) (ho : ∀ k, OwnS a k → k < w.heap.size) (hask : ∀ W, Ch Nil w W → Asks W g lb p) (hl : L.length ≤ 1000000) (eg : ∀ args w, (callFunc g args).run Try.prog w = .ok (.enter g args) w) :
    Calls Try.prog 26 #[.pointer q, .func (.func g) #[] lb] w fun e w' => ∃ a' cap', e = .returned (.slice a' (L.filter p).length cap') ∧ FRow w' a' cap' (L.filter p) ∧ (∀ g, OwnS a' g → w.heap.size ≤ g) ∧ Ch Nil w w' := by
  have HLG := Lib.hid hlog
  have HO := Lib.hid ho
  have HAS := Lib.hid hask
  have HL := Lib.hid hl
  have HEG := Lib.hid eg
  have hfl : (L.filter p).length ≤ 1000000 := Nat.le_trans (List.length_filter_le _ _) hl
  have hTh := those_any q g lb (w.alloc (.cells #[.slice none 0 0] 22))
  have hTH := Lib.hid hTh
  clear hlog ho hask hl eg hTh
  refine (callsIn_wide (n := 5)).1 ?_
  refine callsIn_of_wp_marks Try.func26 rfl trivial ?_ rfl
  simp only [Try.ntmps26, List.size_toArray, List.length_cons, List.length_nil, Nat.reduceAdd, Nat.reduceSub, Array.replicate_succ, Array.replicate_zero, List.push_toArray, List.append_toArray, List.nil_append, List.cons_append]
  gi_wp2_with fail
  refine ⟨trivial, ?_⟩
  refine (callsIn_wide.2 hTH.out).mono ?_
  rintro e W0 ⟨rfl, q1, q2, c0, z0⟩
  have hI0 : CopIn w (.pointer q) (.func (.func g) #[] lb) (L.filter p) 0 W0 := by
    have c2 : Ch Nil w (w.alloc (.cells #[.slice none 0 0] 22)) := (Ch.refl _ _).alloc _
    simp only [World.size_alloc] at q1 q2
    exact ⟨c2.trans c0, q1, q2, ⟨none, 0, c0.keeps (by simp [cell_fresh]) (fun e => e), Row.nil _ _ _ _, fun g hg => by simp [OwnS] at hg⟩, (Blk.new _ _ _).kept c0 (fun e => e)⟩
  have HI0 := Lib.hid hI0
  have hz : W0.heap.size = w.heap.size + 3 := by rw [z0, World.size_alloc]
  clear hI0 q1 q2 c0 z0 hTH
  gi_wp2_with fail
  refine range_box (n := 5) (gf := 34) (cp := #[.pointer (some ⟨w.heap.size + 1, 0, none⟩), .pointer (some ⟨w.heap.size + 2, 0, none⟩)]) (by simp [go_sem]) (enters_of Try.func34 (by kernel_rfl) rfl) (L.filter p).length (FrT (L.filter p)) rfl
    (CopIn w (.pointer q) (.func (.func g) #[] lb) (L.filter p)) (fun c k W => False) (CopIn.steady (by omega)) (fun k W W' h c => h.quiet c) (fun v => FrT.steady) (fun k v W W' h c => h) ?hIx HI0.out
    (those_tells 4 (by omega) _ _ g (.pointer q) lb a cap L p HL.out HEG.out _ (fun k W h => ⟨h.b1, h.b2, HLG.out.kept h.c (fun _ _ e => e) HO.out, fun W' c => HAS.out W' (h.c.trans c)⟩)) (fun v => .cells v.cells 43) (fun v B => { tmps := #[.pointer q, .func (.func g) #[] lb, undef, undef, .slice none 0 0, .pointer (some ⟨w.heap.size, 0, none⟩), .pointer (some ⟨B, 0, none⟩), .pointer q, .func (.func g) #[] lb, .func (.func 34) #[] #[.pointer (some ⟨w.heap.size + 1, 0, none⟩), .pointer (some ⟨w.heap.size + 2, 0, none⟩)], v, undef, undef, undef, undef, undef], defers := [] }) ?assign ?body ?done ?stop
  case hIx => exact fun c k W W' r h ch hr nc => h
  case assign =>
    intro l k v W K hT hK
    obtain ⟨f, hf, rfl⟩ := hT
    unfold frv at hK ⊢
    clear hf
    gi_wp2
    exact hK
  case body =>
    intro l k v B W hW hT hB hb hk
    obtain ⟨f, hf, rfl⟩ := hT
    obtain ⟨a1, cap1, c1, r1, g1⟩ := hW.row
    have f1 := hW.b.fz 0
    have hWc := hW.c.size
    have hWb := hW.b.lt
    have HW := Lib.hid hW
    have G1 := Lib.hid g1
    have B1 := Lib.hid r1
    have hkl : ((L.filter p).take k).length ≤ 1000000 := by rw [List.length_take]; omega
    have HKL := Lib.hid hkl
    have HX := Lib.hid (show (L.filter p).take (k + 1) = (L.filter p).take k ++ [f] by rw [List.take_add_one, hf]; rfl)
    have q0 : W.cell? ⟨B, 0, none⟩ = some (.int .u64 (f.i : Nat)) := by simp [World.cell?, hb, frv, Value.cells]
    have q1 : W.cell? ⟨B, 1, none⟩ = some (.int .u64 (f.g : Nat)) := by simp [World.cell?, hb, frv, Value.cells]
    have q2 : W.cell? ⟨B, 2, none⟩ = some (.int .u64 (f.d : Nat)) := by simp [World.cell?, hb, frv, Value.cells]
    have q3 : W.cell? ⟨B, 3, none⟩ = some (.int .u64 (f.t : Nat)) := by simp [World.cell?, hb, frv, Value.cells]
    have hXc : Ch Nil W (W.alloc (.cells #[.int .u64 (f.i : Nat), .int .u64 (f.g : Nat), .int .u64 (f.d : Nat), .int .u64 (f.t : Nat)] 43)) := (Ch.refl _ _).alloc _
    have HR2 := Lib.hid (show FRow (W.alloc (.cells #[.int .u64 (f.i : Nat), .int .u64 (f.g : Nat), .int .u64 (f.d : Nat), .int .u64 (f.t : Nat)] 43)) a1 cap1 ((L.filter p).take k) from r1.kept hXc (fun _ _ e => e))
    have d1 := hXc.keeps c1 (fun e => e)
    have e1 := (hXc.frozen (p := ⟨w.heap.size, 0, none⟩) hWb (fun e => e)).trans f1
    have HX2 := Lib.hid hXc
    obtain ⟨m, hm⟩ : ∃ m, m = ((L.filter p).take k).length := ⟨_, rfl⟩
    rw [← hm] at c1 d1
    have HM := Lib.hid hm
    unfold frv
    clear hW r1 g1 hf hb hkl hXc hm
    refine wpIn_block ?_
    refine wpIn_region_lit (list_round (by rintro ⟨a, w, h⟩; exact h) _ (noDefer_list (by kernel_rfl)) _ _ ?_)
    go_wp2_with (at_builtin; refine append_fr _ rfl _ _ _ rfl Try.underlying22 (by kernel_rfl) rfl HM.out HR2.out HKL.out W.heap.size 1 f 43 rfl (heap_alloc_new W _) _ rfl ?_)
    intro g2 cap2 w2 row ch at_ lt
    have ROW := Lib.hid row
    have CH := Lib.hid ch
    have AT := Lib.hid at_
    have hbox : ¬ OwnS a1 w.heap.size := fun e => by have := G1.out _ e; omega
    have d2 := ch.keeps d1 hbox
    have e2 := (ch.frozen (p := ⟨w.heap.size, 0, none⟩) (by simp; omega) hbox).trans e1
    clear row ch at_
    go_wp2
    have T0 : Ch (OwnS a1) W w2 := (HX2.out.mono (fun _ _ e => e.elim)).trans CH.out
    have T : Ch (fun k => OwnS a1 k ∨ k = w.heap.size) W (w2.setCell ⟨w.heap.size, 0, none⟩ (.slice (some ⟨g2, 0, none⟩) (m + 1) cap2)) :=
      Ch.set (p := ⟨w.heap.size, 0, none⟩) (T0.mono fun _ _ e => .inl e) (fun _ => .inr rfl) _
    have gt : w.heap.size + 2 < g2 := by
      rcases AT.out with h | h
      · exact G1.out g2 h
      · rw [h]; have := lt_of_cell HW.out.b2; simp at this ⊢; omega
    have nS : ∀ i, i < w.heap.size + 3 → i ≠ w.heap.size → ¬ (OwnS a1 i ∨ i = w.heap.size) := fun i hi hne e => by
      rcases e with e | e
      · have := G1.out i e; omega
      · exact hne e
    refine ⟨Keeps.of_ch' T fun j hj => ?_, HW.out.c.up T ?_, T.keeps HW.out.b1 (nS _ (by simp) (by simp)), T.keeps HW.out.b2 (nS _ (by simp) (by simp)), ⟨some ⟨g2, 0, none⟩, cap2, ?_, ?_, ?_⟩, (HW.out.b.kept T0 hbox).set _ _⟩
    · rcases hj with hj | rfl
      · exact .inr (Row.blk B1.out hj)
      · exact .inl (by omega)
    · rintro i (e | e)
      · have := G1.out i e; omega
      · omega
    · rw [HX.out, List.length_append, ← HM.out]; exact World.cell?_setCell_same _ _ _ d2
    · rw [HX.out]; exact ROW.out.kept (S := One w.heap.size) ((Ch.refl _ _).setB 0 _) (fun k e h => by cases e; simp at h; omega)
    · intro g' e; cases e; exact gt
  case done =>
    intro D W hD hW hK
    have hput := (CopIn.steady (lp := .pointer q) (fv := .func (.func g) #[] lb) (Q := L.filter p) (B := w.heap.size) (Nat.le_refl _)).put (.deferred none) hW (by omega) hK rfl
    obtain ⟨a1, cap1, c1, r1, g1⟩ := hW.row
    rw [List.take_of_length_le (Nat.le_refl _)] at c1 r1
    have R1 := Lib.hid (Row.steady r1 (Ch.put D (.deferred none)) (.of_loop hK rfl))
    have G1 := Lib.hid g1
    have HP := Lib.hid hput
    clear hW hput r1 g1
    gi_wp2
    refine ⟨by simp, .inl ⟨_, _, rfl, run_takeDeferred hK, ?_⟩⟩
    exact ⟨_, results_tmp rfl _ _ _, a1, cap1, rfl, R1.out, fun g hg => by have := G1.out g hg; omega, HP.out.c⟩
  case stop => intro D c k W hD hk hW hK; exact hW.elim

theorem asks_every (W : World) : Asks W 27 #[] (fun _ => true) := by
  intro f
  show Calls _ _ #[_] _ _
  go_enter Try.func27, Try.ntmps27
  go_wp2
  go_ret
  exact ⟨rfl, (Ch.refl _ _).alloc _⟩
theorem filter_true (L : List Fr) : (L.filter fun _ => true) = L := by simp
theorem all_of {q : Option Addr} (hlog : LogAt w (.pointer q) a cap L) (ho : ∀ k, OwnS a k → k < w.heap.size) (hl : L.length ≤ 1000000) :
    Calls Try.prog 12 #[.pointer q] w fun e w' => ∃ a' cap', e = .returned (.slice a' L.length cap') ∧ FRow w' a' cap' L ∧ (∀ g, OwnS a' g → w.heap.size ≤ g) ∧ Ch Nil w w' := by
  have cp := copied_of (p := fun _ => true) hlog ho (fun W _ => asks_every W) hl (enters_of Try.func27 (by kernel_rfl) rfl)
  rw [filter_true] at cp
  have CP := Lib.hid cp
  clear hlog ho hl cp
  go_enter Try.func12, Try.ntmps12
  go_wp2_with fail
  refine CP.out.mono ?_
  rintro e w2 ⟨a2, cap2, rfl, r2, g2, c3⟩
  have R2 := Lib.hid r2
  have G2 := Lib.hid g2
  have C3 := Lib.hid c3
  clear r2 g2 c3
  go_wp2
  go_ret
  exact ⟨a2, cap2, rfl, R2.out, G2.out, C3.out⟩
theorem IsLog.at_ (h : IsLog w b a cap L) : LogAt w (.pointer (some ⟨b, 0, none⟩)) a cap L := .inr ⟨b, rfl, h.c, h.row.src⟩
theorem LogAt.nil (w : World) : LogAt w (.pointer none) none 0 [] := .inl ⟨rfl, rfl⟩

theorem asks_i (x : Nat) (ib : Nat) (h : w.cell? ⟨ib, 0, none⟩ = some (.int .u64 (x : Nat))) : ∀ W, Ch Nil w W → Asks W 28 #[.pointer (some ⟨ib, 0, none⟩)] (fun f => f.i == x) := by
  intro W c f
  have h1 := c.keeps h (fun e => e)
  have hlt := lt_of_cell h1
  have c2 : Ch Nil W (W.alloc (.cells #[.int .u64 (f.i : Nat), .int .u64 (f.g : Nat), .int .u64 (f.d : Nat), .int .u64 (f.t : Nat)] 43)) := (Ch.refl _ _).alloc _
  have h2 := c2.keeps h1 (fun e => e)
  have HC2 := Lib.hid c2
  have he : (((f.i : Nat) : Int) == ((x : Nat) : Int)) = (f.i == x) := by rw [Bool.eq_iff_iff, beq_iff_eq, beq_iff_eq]; omega
  clear h c c2
  show Calls _ _ #[_, _] _ _
  go_enter Try.func28, Try.ntmps28
  go_wp2
  go_ret
  exact ⟨by rw [← he]; rfl, HC2.out⟩
theorem of_of {q : Option Addr} (x : Nat) (hlog : LogAt w (.pointer q) a cap L) (ho : ∀ k, OwnS a k → k < w.heap.size) (hl : L.length ≤ 1000000) :
    Calls Try.prog 13 #[.pointer q, .int .u64 (x : Nat)] w fun e w' => ∃ a' cap', e = .returned (.slice a' (L.filter fun f => f.i == x).length cap') ∧ FRow w' a' cap' (L.filter fun f => f.i == x) ∧ (∀ g, OwnS a' g → w.heap.size ≤ g) ∧ Ch Nil w w' := by
  have c2 : Ch Nil w (w.alloc (.cells #[.int .u64 (x : Nat)] 23)) := (Ch.refl _ _).alloc _
  have CP := Lib.hid (copied_of (hlog.kept c2 (fun _ _ e => e) ho) (fun k hk => Nat.lt_of_lt_of_le (ho k hk) c2.size) (asks_i x w.heap.size (by simp [cell_fresh])) hl (enters_of Try.func28 (by kernel_rfl) rfl))
  have C2 := Lib.hid c2
  clear hlog ho hl c2
  go_enter Try.func13, Try.ntmps13
  go_wp2_with fail
  refine CP.out.mono ?_
  rintro e w2 ⟨a2, cap2, rfl, r2, g2, c3⟩
  have R2 := Lib.hid r2
  have G2 := Lib.hid g2
  have C3 := Lib.hid c3
  clear r2 g2 c3
  go_wp2
  go_ret
  exact ⟨a2, cap2, rfl, R2.out, fun g hg => by have := G2.out g hg; simp at this; omega, C2.out.trans C3.out⟩

theorem asks_t (x : Nat) (ib : Nat) (h : w.cell? ⟨ib, 0, none⟩ = some (.int .u64 (x : Nat))) : ∀ W, Ch Nil w W → Asks W 29 #[.pointer (some ⟨ib, 0, none⟩)] (fun f => f.t == x) := by
  intro W c f
  have h1 := c.keeps h (fun e => e)
  have hlt := lt_of_cell h1
  have c2 : Ch Nil W (W.alloc (.cells #[.int .u64 (f.i : Nat), .int .u64 (f.g : Nat), .int .u64 (f.d : Nat), .int .u64 (f.t : Nat)] 43)) := (Ch.refl _ _).alloc _
  have h2 := c2.keeps h1 (fun e => e)
  have HC2 := Lib.hid c2
  have he : (((f.t : Nat) : Int) == ((x : Nat) : Int)) = (f.t == x) := by rw [Bool.eq_iff_iff, beq_iff_eq, beq_iff_eq]; omega
  clear h c c2
  show Calls _ _ #[_, _] _ _
  go_enter Try.func29, Try.ntmps29
  go_wp2
  go_ret
  exact ⟨by rw [← he]; rfl, HC2.out⟩
theorem at_of {q : Option Addr} (x : Nat) (hlog : LogAt w (.pointer q) a cap L) (ho : ∀ k, OwnS a k → k < w.heap.size) (hl : L.length ≤ 1000000) :
    Calls Try.prog 15 #[.pointer q, .int .u64 (x : Nat)] w fun e w' => ∃ a' cap', e = .returned (.slice a' (L.filter fun f => f.t == x).length cap') ∧ FRow w' a' cap' (L.filter fun f => f.t == x) ∧ (∀ g, OwnS a' g → w.heap.size ≤ g) ∧ Ch Nil w w' := by
  have c2 : Ch Nil w (w.alloc (.cells #[.int .u64 (x : Nat)] 23)) := (Ch.refl _ _).alloc _
  have CP := Lib.hid (copied_of (hlog.kept c2 (fun _ _ e => e) ho) (fun k hk => Nat.lt_of_lt_of_le (ho k hk) c2.size) (asks_t x w.heap.size (by simp [cell_fresh])) hl (enters_of Try.func29 (by kernel_rfl) rfl))
  have C2 := Lib.hid c2
  clear hlog ho hl c2
  go_enter Try.func15, Try.ntmps15
  go_wp2_with fail
  refine CP.out.mono ?_
  rintro e w2 ⟨a2, cap2, rfl, r2, g2, c3⟩
  have R2 := Lib.hid r2
  have G2 := Lib.hid g2
  have C3 := Lib.hid c3
  clear r2 g2 c3
  go_wp2
  go_ret
  exact ⟨a2, cap2, rfl, R2.out, fun g hg => by have := G2.out g hg; simp at this; omega, C2.out.trans C3.out⟩
end
end Go.Proofs.Ytpihlchocjdpmaa
