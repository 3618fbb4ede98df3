/-
  Contract of package firing's Ids.
-/
import Derived.Test.YtpihlchocjdpmaaFirLog
import Derived.Test.YtpihlchocjdpmaaFirIdsP
import Derived.Test.YtpihlchocjdpmaaSortTop
namespace Go.Proofs.Ytpihlchocjdpmaa
open Go.RowKit Go.Shelf Go.Sort Verge
attribute [local go_sem] Oper.semAt_some
set_option linter.unusedVariables false
set_option linter.unusedSimpArgs false

/-- the numbers of a list, as a row of uint64s holds them -/
def fu (Q : List Nat) (i : Nat) : Value := .int .u64 ((Q.getD i 0 : Nat) : Int)
/-- a row of uint64s that the call owns -/
def URw (w : World) (a : Option Addr) (cap : Nat) (Q : List Nat) : Prop := Row w 23 1 a Q.length cap (fu Q)
theorem append_u64 {P : Program} (w : World) {ops : Array Oper} {rest : List Oper} {o : Oper} {act : Act} {Q : Exit → Act → World → Prop} (hgd : o.guard = none) (s x : Operand) (t : TypeId)
    (ho : o.op = .call { callee := .builtin .append, args := #[s, x], argTypes := #[t, t] })
    (ht : P.underlying t = some (.slice 23)) (hi : (P.info? 23).map (fun i => (i.zero, i.size, i.bytes)) = some (some (.int .u64 0), 1, 8))
    {a : Option Addr} {cap n : Nat} {L : List Nat} (hs : act.eval s = .slice a n cap) (hn' : n = L.length) (hrow : URw w a cap L) (hn : L.length ≤ 1000000)
    (B c : Nat) (y : Nat) (T : TypeId) (hx : act.eval x = .slice (some ⟨B, 0, none⟩) 1 c) (hb : w.heap[B]? = some (.cells #[.int .u64 (y : Nat)] T (0, 0))) (H : Nat) (hH : w.heap.size = H)
    (h : ∀ g cap' w', URw w' (some ⟨g, 0, none⟩) cap' (L ++ [y]) → Ch (OwnS a) w w' → (OwnS a g ∨ g = H) → g < w'.heap.size → wpList P ops Q rest (act.put o.dst (.slice (some ⟨g, 0, none⟩) (n + 1) cap')) w') : wpList P ops Q (o :: rest) act w := by
  subst hn'
  refine append_row w hgd s x t ho 23 (.int .u64 0) 1 8 ht hi rfl (by omega) (by omega) hs hrow hn B c [.int .u64 (y : Nat)] T hx rfl hb (by simp [Value.oneCell']) (fu (L ++ [y])) (fun i hi => ?_) (fun j u hu => ?_) H hH ?_
  · simp only [fu, List.getD_eq_getElem?_getD]
    rw [List.getElem?_append_left (by omega)]
  · obtain rfl : j = 0 := by cases j; rfl; simp at hu
    simp at hu
    subst hu
    simp [fu, List.getD_eq_getElem?_getD]
  · intro g cap' w' h1 h2 h3 h4
    refine h g cap' w' ?_ h2 h3 h4
    unfold URw
    rw [List.length_append]
    exact h1
section
variable {w w' W : World} {a : Option Addr} {L M : List Fr} {cap b : Nat}
theorem URw.ur {g : Nat} {Q : List Nat} (h : URw w (some ⟨g, 0, none⟩) cap Q) : UR w g cap Q.length Q.toArray w := by
  refine ⟨Row.congr h _ fun i hi => ?_, by simp, Ch.refl _ _⟩
  unfold uf fu
  have hi' : i < Q.length := by omega
  rw [getElem!_pos _ i (by simpa using hi')]
  simp [List.getD_eq_getElem?_getD, List.getElem?_eq_getElem hi']

/-- between two rounds: the box of the list, those of the iterator -/
structure IdIn (w : World) (lp fv : Value) (Q : List Fr) (k : Nat) (W : World) : Prop where
  c : Ch Nil w W
  b1 : W.cell? ⟨w.heap.size + 1, 0, none⟩ = some lp
  b2 : W.cell? ⟨w.heap.size + 2, 0, none⟩ = some fv
  row : ∃ a cap, W.cell? ⟨w.heap.size, 0, none⟩ = some (.slice a ((Q.take k).map Fr.i).length cap) ∧ URw W a cap ((Q.take k).map Fr.i) ∧ (∀ g, OwnS a g → w.heap.size + 2 < g) ∧ (k = 0 → a = none ∧ cap = 0)
  b : Blk W w.heap.size
theorem IdIn.steady {lp fv : Value} {Q : List Fr} {B : Nat} (hB : w.heap.size ≤ B) : Steady B (IdIn w lp fv Q) := fun k W W' r h c hr nc => by
  obtain ⟨a, cap, h1, h2, h3, h4⟩ := h.row
  exact ⟨h.c.later c (by omega), c.keeps h.b1 (fun e => nc.cell h.b1 e), c.keeps h.b2 (fun e => nc.cell h.b2 e), ⟨a, cap, c.keeps h1 (fun e => nc.cell h1 e), Row.steady h2 c nc, h3, h4⟩, h.b.kept c (NoCells.blk nc h.b)⟩
theorem IdIn.quiet {lp fv : Value} {Q : List Fr} {k : Nat} (h : IdIn w lp fv Q k W) (c : Ch Nil W w') : IdIn w lp fv Q k w' := by
  obtain ⟨a, cap, h1, h2, h3, h4⟩ := h.row
  exact ⟨h.c.trans c, c.keeps h.b1 (fun e => e), c.keeps h.b2 (fun e => e), ⟨a, cap, c.keeps h1 (fun e => e), Row.kept h2 c (fun _ _ e => e), h3, h4⟩, h.b.kept c (fun e => e)⟩
theorem SrcC.steady {r n : Nat} {V : Nat → Value} (h : SrcC w a n V) (c : Ch (One r) w w') (nc : NoCells w r) : SrcC w' a n V := by
  rcases h with h | ⟨b, o, rfl, h⟩
  · exact .inl h
  · by_cases hn : n = 0
    · exact .inl hn
    · exact .inr ⟨b, o, rfl, fun i hi => c.keeps (h i hi) (fun e => nc.cell (h i hi) e)⟩
/-- what Ids answers -/
def IdsOut (w : World) (L : List Fr) (e : Ending) (w' : World) : Prop := ∃ (Q : List Nat) (a' : Option Addr) (cap' : Nat), e = .returned (.slice a' Q.length cap') ∧ IsIds L Q ∧ SrcC w' a' Q.length (fu Q) ∧ Ch Nil w w'

set_option maxRecDepth 100000 in
set_option maxHeartbeats 4000000 in
theorem ids_of {q : Option Addr} (hlog : LogAt w (.pointer q) a cap L) (ho : ∀ k, OwnS a k → k < w.heap.size) (hl : L.length < 256) :
    Calls Try.prog 18 #[.pointer q] w fun e w' => IdsOut w L e w' := by
  have HLG := Lib.hid hlog
  have HO := Lib.hid ho
  have HL := Lib.hid hl
  obtain ⟨Q, hQ⟩ : ∃ Q, Q = L.filter (fun _ => true) := ⟨_, rfl⟩
  have hQL : Q = L := by rw [hQ]; exact filter_true L
  have HQL := Lib.hid hQL
  have HEG := Lib.hid (enters_of Try.func27 (by kernel_rfl) rfl : ∀ args w, (callFunc 27 args).run Try.prog w = .ok (.enter 27 args) w)
  have hTh := those_any q 27 #[] (w.alloc (.cells #[.slice none 0 0] 33))
  have hTH := Lib.hid hTh
  have TT := Lib.hid (fun (I : Nat → World → Prop) (B1 B2 : Nat) (hI) => those_tells 4 (by omega) B1 B2 27 (.pointer q) #[] a cap L (fun _ => true) (by omega) HEG.out I hI)
  rw [← hQ] at TT
  clear hlog ho hl hTh hQ hQL
  refine (callsIn_wide (n := 5)).1 ?_
  refine callsIn_of_wp_marks Try.func18 rfl trivial ?_ rfl
  simp only [Try.ntmps18, List.size_toArray, List.length_cons, List.length_nil, Nat.reduceAdd, Nat.reduceSub, Array.replicate_succ, Array.replicate_zero, List.push_toArray, List.append_toArray, List.nil_append, List.cons_append]
  gi_wp2_with fail
  refine ⟨trivial, ?_⟩
  refine (callsIn_wide.2 hTH.out).mono ?_
  rintro e W0 ⟨rfl, q1, q2, c0, z0⟩
  have hI0 : IdIn w (.pointer q) (.func (.func 27) #[] #[]) Q 0 W0 := by
    have c2 : Ch Nil w (w.alloc (.cells #[.slice none 0 0] 33)) := (Ch.refl _ _).alloc _
    simp only [World.size_alloc] at q1 q2
    exact ⟨c2.trans c0, q1, q2, ⟨none, 0, c0.keeps (by simp [cell_fresh]) (fun e => e), Row.nil _ _ _ _, fun g hg => by simp [OwnS] at hg, fun _ => ⟨rfl, rfl⟩⟩, (Blk.new _ _ _).kept c0 (fun e => e)⟩
  have HI0 := Lib.hid hI0
  have hz : W0.heap.size = w.heap.size + 3 := by rw [z0, World.size_alloc]
  clear hI0 q1 q2 c0 z0 hTH
  gi_wp2_with fail
  refine range_box (n := 5) (gf := 34) (cp := #[.pointer (some ⟨w.heap.size + 1, 0, none⟩), .pointer (some ⟨w.heap.size + 2, 0, none⟩)]) (by simp [go_sem]) (enters_of Try.func34 (by kernel_rfl) rfl) Q.length (FrT Q) rfl
    (IdIn w (.pointer q) (.func (.func 27) #[] #[]) Q) (fun c k W => False) (IdIn.steady (by omega)) (fun k W W' h c => h.quiet c) (fun v => FrT.steady) (fun k v W W' h c => h) ?hIx HI0.out
    (TT.out _ _ _ (fun k W h => ⟨h.b1, h.b2, HLG.out.kept h.c (fun _ _ e => e) HO.out, fun W' c => asks_every W'⟩)) (fun v => .cells v.cells 43) (fun v B => { tmps := #[.pointer q, undef, .slice none 0 0, .pointer (some ⟨w.heap.size, 0, none⟩), .pointer (some ⟨B, 0, none⟩), .pointer q, .func (.func 34) #[] #[.pointer (some ⟨w.heap.size + 1, 0, none⟩), .pointer (some ⟨w.heap.size + 2, 0, none⟩)], v, undef, undef, undef, undef, undef, undef, undef, undef, undef], defers := [] }) ?assign ?body ?done ?stop
  case hIx => exact fun c k W W' r h ch hr nc => h
  case assign =>
    intro l k v W K hT hK
    obtain ⟨f, hf, rfl⟩ := hT
    unfold frv at hK ⊢
    clear hf
    gi_wp2
    exact hK
  case body =>
    intro l k v B W hW hT hB hb hk
    obtain ⟨f, hf, rfl⟩ := hT
    obtain ⟨a1, cap1, c1, r1, g1, -⟩ := hW.row
    have f1 := hW.b.fz 0
    have hWc := hW.c.size
    have hWb := hW.b.lt
    have HW := Lib.hid hW
    have G1 := Lib.hid g1
    have B1 := Lib.hid r1
    have hkl : ((Q.take k).map Fr.i).length ≤ 1000000 := by rw [List.length_map, List.length_take, HQL.out]; have := HL.out; omega
    have HKL := Lib.hid hkl
    have HX := Lib.hid (show (Q.take (k + 1)).map Fr.i = (Q.take k).map Fr.i ++ [f.i] by rw [List.take_add_one, hf]; simp)
    have q0 : W.cell? ⟨B, 0, none⟩ = some (.int .u64 (f.i : Nat)) := by simp [World.cell?, hb, frv, Value.cells]
    have hXc : Ch Nil W (W.alloc (.cells #[.int .u64 (f.i : Nat)] 23)) := (Ch.refl _ _).alloc _
    have HR2 := Lib.hid (show URw (W.alloc (.cells #[.int .u64 (f.i : Nat)] 23)) a1 cap1 ((Q.take k).map Fr.i) from Row.kept r1 hXc (fun _ _ e => e))
    have d1 := hXc.keeps c1 (fun e => e)
    have e1 := (hXc.frozen (p := ⟨w.heap.size, 0, none⟩) hWb (fun e => e)).trans f1
    have HX2 := Lib.hid hXc
    obtain ⟨m, hm⟩ : ∃ m, m = ((Q.take k).map Fr.i).length := ⟨_, rfl⟩
    rw [← hm] at c1 d1
    have HM := Lib.hid hm
    unfold frv
    clear hW r1 g1 hf hb hkl hXc hm
    refine wpIn_block ?_
    refine wpIn_region_lit (list_round (by rintro ⟨a, w, h⟩; exact h) _ (noDefer_list (by kernel_rfl)) _ _ ?_)
    go_wp2_with (at_builtin; refine append_u64 _ rfl _ _ _ rfl Try.underlying33 (by kernel_rfl) rfl HM.out HR2.out HKL.out W.heap.size 1 f.i 23 rfl (heap_alloc_new W _) _ rfl ?_)
    intro g2 cap2 w2 row ch at_ lt
    have ROW := Lib.hid row
    have CH := Lib.hid ch
    have AT := Lib.hid at_
    have hbox : ¬ OwnS a1 w.heap.size := fun e => by have := G1.out _ e; omega
    have d2 := ch.keeps d1 hbox
    have e2 := (ch.frozen (p := ⟨w.heap.size, 0, none⟩) (by simp; omega) hbox).trans e1
    have ROW2 : Hid (URw w2 (some ⟨g2, 0, none⟩) cap2 ((Q.take k).map Fr.i ++ [f.i])) := Lib.hid (by rw [List.map_take]; exact row)
    clear row ch at_
    go_wp2
    have T0 : Ch (OwnS a1) W w2 := (HX2.out.mono (fun _ _ e => e.elim)).trans CH.out
    have T : Ch (fun k => OwnS a1 k ∨ k = w.heap.size) W (w2.setCell ⟨w.heap.size, 0, none⟩ (.slice (some ⟨g2, 0, none⟩) (m + 1) cap2)) :=
      Ch.set (p := ⟨w.heap.size, 0, none⟩) (T0.mono fun _ _ e => .inl e) (fun _ => .inr rfl) _
    have gt : w.heap.size + 2 < g2 := by
      rcases AT.out with h | h
      · exact G1.out g2 h
      · rw [h]; have := lt_of_cell HW.out.b2; simp at this ⊢; omega
    have nS : ∀ i, i < w.heap.size + 3 → i ≠ w.heap.size → ¬ (OwnS a1 i ∨ i = w.heap.size) := fun i hi hne e => by
      rcases e with e | e
      · have := G1.out i e; omega
      · exact hne e
    refine ⟨Keeps.of_ch' T fun j hj => ?_, HW.out.c.up T ?_, T.keeps HW.out.b1 (nS _ (by simp) (by simp)), T.keeps HW.out.b2 (nS _ (by simp) (by simp)), ⟨some ⟨g2, 0, none⟩, cap2, ?_, ?_, ?_, fun h => by omega⟩, (HW.out.b.kept T0 hbox).set _ _⟩
    · rcases hj with hj | rfl
      · exact .inr (Row.blk B1.out hj)
      · exact .inl (by omega)
    · rintro i (e | e)
      · have := G1.out i e; omega
      · omega
    · rw [HX.out, List.length_append, ← HM.out]; exact World.cell?_setCell_same _ _ _ d2
    · rw [HX.out]; exact Row.kept ROW2.out (S := One w.heap.size) ((Ch.refl _ _).setB 0 _) (fun k e h => by cases e; simp at h; omega)
    · intro g' e; cases e; exact gt
  case done =>
    intro D W hD hW hK
    obtain ⟨a1, cap1, c1, r1, g1, z1⟩ := hW.row
    rw [List.take_of_length_le (Nat.le_refl _)] at c1 r1
    have NC : NoCells W D := .of_loop hK rfl
    have R1 := Lib.hid r1
    have G1 := Lib.hid g1
    have CW := Lib.hid hW.c
    have BX := Lib.hid hW.b
    rcases Nat.eq_zero_or_pos Q.length with hz0 | hpos
    · obtain ⟨rfl, rfl⟩ := z1 hz0
      have hQ0 : Q = [] := List.length_eq_zero_iff.1 hz0
      have hml : (Q.map Fr.i).length = 0 := by rw [hQ0]; rfl
      rw [hml] at c1
      have FIN := Lib.hid (show IdsOut w L (.returned (.slice none 0 0)) (W.putObj D (.deferred none)) from ⟨[], none, 0, rfl, by rw [← HQL.out, hQ0]; exact IsIds.nil, .inl rfl, CW.out.later (Ch.put D (.deferred none)) (by omega)⟩)
      clear hW r1 g1 z1 hz0 hQ0 hml
      gi_wp2_with fail
      refine ⟨trivial, ?_⟩
      refine (callsIn_wide.2 (sort_nil _)).mono ?_
      rintro e w1 ⟨rfl, rfl⟩
      gi_wp2_with fail
      refine ⟨trivial, ?_⟩
      refine (callsIn_wide.2 (cmp_nil _)).mono ?_
      rintro e w2 ⟨rfl, rfl⟩
      gi_wp2
      refine ⟨by simp, .inl ⟨_, _, rfl, run_takeDeferred hK, ?_⟩⟩
      refine ⟨_, results_tmp rfl _ _ _, ?_⟩
      exact FIN.out
    · obtain ⟨g, rfl, hgl⟩ := Row.form r1 (by simpa using hpos)
      obtain ⟨n, hn⟩ : ∃ n, n = (Q.map Fr.i).length := ⟨_, rfl⟩
      have U1 := Lib.hid (URw.ur r1)
      obtain ⟨d, hd⟩ : ∃ d, d = (Q.map Fr.i).toArray := ⟨_, rfl⟩
      rw [← hn] at c1
      rw [← hn, ← hd] at U1
      have hn2 : n < 256 := by rw [hn, List.length_map, HQL.out]; exact HL.out
      have hgb : w.heap.size + 2 < g := G1.out g rfl
      have HD := Lib.hid hd
      have HN := Lib.hid hn
      have hDg : D ≠ g := fun e => by
        subst e
        obtain ⟨cs, t, z, hb⟩ := Row.blk r1 (g := D) rfl
        exact NC.row hb rfl
      clear hW r1 g1 z1 hd hn hpos
      gi_wp2_with fail
      refine ⟨trivial, ?_⟩
      refine (callsIn_wide.2 (sort_of U1.out hn2)).mono ?_
      rintro e W2 ⟨rfl, d', p1, p2, u2⟩
      have c2 := u2.c.keeps c1 (fun e => by have : w.heap.size = g := e; omega)
      have hK2 := (u2.c.block D (Array.getElem?_eq_some_iff.1 hK).1 hDg).trans hK
      have C2 := Lib.hid u2.c
      have CM := Lib.hid (cmp_of u2.start (by omega))
      have hdn := u2.n
      have IDS := Lib.hid (show IsIds L (cz d' d'.size) by
        have h1 : L.length = n := by rw [HN.out, List.length_map, HQL.out]
        rw [hdn, ← h1]
        rw [← h1] at p1 p2
        exact ids_of_sort (by rw [HD.out, HQL.out]) p1 p2)
      clear c1 u2 p1 p2 hK hdn
      gi_wp2_with fail
      refine ⟨trivial, ?_⟩
      refine (callsIn_wide.2 CM.out).mono ?_
      rintro e W3 ⟨rfl, s3, c3⟩
      have hK3 := (c3.block D (Array.getElem?_eq_some_iff.1 hK2).1 hDg).trans hK2
      have NC3 : NoCells W3 D := .of_loop hK3 rfl
      have FIN := Lib.hid (show IdsOut w L (.returned (.slice (some ⟨g, 0, none⟩) (cz d' d'.size).length cap1)) (W3.putObj D (.deferred none)) from
        ⟨_, _, _, rfl, IDS.out, SrcC.steady s3 (Ch.put D (.deferred none)) NC3, (((CW.out.then C2.out (fun i hi e => by have : i = g := e; omega)).then c3 (fun i hi e => by have : i = g := e; omega)).later (Ch.put D (.deferred none)) (by omega))⟩)
      clear s3 c3 c2 hK2 NC3
      generalize (cz d' d'.size).length = cl at FIN ⊢
      gi_wp2
      refine ⟨by simp, .inl ⟨_, _, rfl, run_takeDeferred hK3, ?_⟩⟩
      refine ⟨_, results_tmp rfl _ _ _, ?_⟩
      exact FIN.out
  case stop => intro D c k W hD hk hW hK; exact hW.elim
end
end Go.Proofs.Ytpihlchocjdpmaa
