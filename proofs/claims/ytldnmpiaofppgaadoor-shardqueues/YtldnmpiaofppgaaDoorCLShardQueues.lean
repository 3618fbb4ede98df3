import Derived.Test.YtldnmpiaofppgaaDoorK15
import Derived.Test.YtldnmpiaofppgaaDoorCTaskTab
import Derived.Test.YtldnmpiaofppgaaDoorK02
import Derived.Test.YtldnmpiaofppgaaDoorTie
import Derived.Test.YtldnmpiaofppgaaDoorCards
import Derived.SevenTiedAt
import Derived.ChangeOld
import Derived.Below
/-
  ShardQueues: for every room, every list of tasks and every number the statement 'tasks go through a shard's ring as through any ring, its lock is one, and both have nothing to do with its wheel' returns true, and its arguments read as before. (The table of math/bits reads as the program's text lays it: tied by the card.)
-/
namespace Go.Proofs.YtldnmpiaofppgaaDoor
open Go.ChangeShapes Go.WideShapes Go.ChangeAt Go.RowKit Verge Go.Proofs.YtldnmpiaofppgaaDoor.LT
set_option linter.unusedVariables false
set_option linter.unusedSimpArgs false
attribute [local go_sem] Oper.semAt_some

/-- what the loops keep -/
structure QuIn (w W : World) (s r rs lk : Nat) (g : Wh) (m nx fi : Nat) (Pb : Nat → Bool) (V : Nat → Tk) : Prop where
  sh : IsSh W s r lk g.wb
  ri : RT.IsRing W r rs m nx fi Pb V
  k : IsLk W lk ⟨0, false, 0⟩
  d : Drv w W g 0 [] []
  hi : w.heap.size ≤ r ∧ w.heap.size ≤ rs ∧ w.heap.size ≤ lk
  a : r ≠ lk ∧ rs ≠ lk ∧ r ≠ s ∧ rs ≠ s ∧ lk ≠ s
  v : ∀ k, WS g [] k → k ≠ r ∧ k ≠ rs ∧ k ≠ lk
section
variable {S : Nat → Prop} {w W W' : World} {s r rs lk : Nat} {g : Wh} {m nx fi nx' fi' t : Nat} {Pb Pb' : Nat → Bool} {V V' : Nat → Tk}
theorem QuIn.new {w0 : World} {l : Nat} (c : Ch Nil w w0) (h : NewSh w0 W m s r rs l g) : QuIn w W s r rs l g m 0 0 (fun _ => false) (fun _ => tk0) := by
  have h1 := h.b1
  have h2 := h.b2
  have h3 := h.b3 g.wb (.inl rfl)
  have sz := c.size
  exact ⟨h.sh, h.ri, h.lk, h.d.base c, ⟨by omega, by omega, by omega⟩, ⟨by omega, by omega, by omega, by omega, by omega⟩, fun k hk => by have := h.b3 k hk; omega⟩
theorem QuIn.quiet (h : QuIn w W s r rs lk g m nx fi Pb V) (c : Ch Nil W W') : QuIn w W' s r rs lk g m nx fi Pb V :=
  ⟨h.sh.kept c (fun e => e), h.ri.kept c (fun e => e) (fun e => e), h.k.kept c (fun e => e), h.d.quiet c, h.hi, h.a, h.v⟩
theorem QuIn.ring (h : QuIn w W s r rs lk g m nx fi Pb V) (k : RT.IsRing W' r rs m nx' fi' Pb' V') (c : Ch S W W') (hS : ∀ k, S k → k = r ∨ k = rs ∨ W.heap.size ≤ k ∨ (w.heap.size ≤ k ∧ k ≠ s ∧ k ≠ lk ∧ ¬ WS g [] k)) : QuIn w W' s r rs lk g m nx' fi' Pb' V' := by
  have hi := h.hi
  have a := h.a
  have hs := h.sh.lt
  have hk := h.k.lt
  have sz := h.d.c.size
  have nS : ¬ S s := fun e => by rcases hS s e with e | e | e | e <;> omega
  have nL : ¬ S lk := fun e => by rcases hS lk e with e | e | e | e <;> omega
  refine ⟨h.sh.kept c nS, k, h.k.kept c nL, h.d.later c (fun k hk e => ?_) (fun k e => ?_), hi, a, h.v⟩
  · have := h.v k hk
    have := h.d.lt hk
    rcases hS k e with e | e | e | e
    · omega
    · omega
    · omega
    · exact e.2.2.2 hk
  · rcases hS k e with e | e | e | e <;> omega
theorem QuIn.two (h : QuIn w W s r rs lk g m nx fi Pb V) (k : RT.IsRing W' r rs m nx' fi' Pb' V') (c : Ch (RT.Two r rs) W W') : QuIn w W' s r rs lk g m nx' fi' Pb' V' :=
  h.ring k c fun k hk => by rcases hk with e | e; exact .inl e; exact .inr (.inl e)
/-- a ticket's block -/
def Tick (w W : World) (s lk : Nat) (g : Wh) (t : Nat) : Prop := w.heap.size ≤ t ∧ t ≠ s ∧ t ≠ lk ∧ ¬ WS g [] t
theorem QuIn.tri (h : QuIn w W s r rs lk g m nx fi Pb V) (k : RT.IsRing W' r rs m nx' fi' Pb' V') (c : Ch (RT.Tri t r rs) W W') (ht : Tick w W s lk g t) : QuIn w W' s r rs lk g m nx' fi' Pb' V' :=
  h.ring k c fun k hk => by
    rcases hk with e | e | e
    · exact .inr (.inr (.inr (e ▸ ht)))
    · exact .inl e
    · exact .inr (.inl e)
theorem QuIn.tick (h : QuIn w W s r rs lk g m nx fi Pb V) (ht : W.heap.size ≤ t) : Tick w W s lk g t := by
  have := h.sh.lt; have := h.k.lt; have := h.d.c.size
  exact ⟨by omega, by omega, by omega, fun e => by have := h.d.lt e; omega⟩
theorem QuIn.lock (h : QuIn w W s r rs lk g m nx fi Pb V) (c : Ch (One lk) W W') : RT.IsRing W' r rs m nx fi Pb V ∧ IsSh W' s r lk g.wb ∧ Drv w W' g 0 [] [] ∧ Ch Nil w W' := by
  have a := h.a
  have d := h.d.later c (fun k hk e => by have := (h.v k hk).2.2; exact this e) (fun k e => by have e' : k = lk := e; have := h.hi; omega)
  exact ⟨h.ri.kept c (fun e => a.1 e) (fun e => a.2.1 e), h.sh.kept c (fun e => a.2.2.2.2 e.symm), d, d.c⟩
end
theorem RT_pub : pubTo 0 = fun _ => false := pubTo_zero
/-- what was put: the first p tasks -/
def Puts (L : List Tk) (p : Nat) (V : Nat → Tk) : Prop := ∀ j, j < p → L[j]? = some (V j)
theorem Puts.more {L : List Tk} {p : Nat} {V : Nat → Tk} {u : Tk} (h : Puts L p V) (hu : L[p]? = some u) : Puts L (p + 1) (upd V p u) := fun j hj => by
  by_cases e : j = p
  · subst e; rw [upd_same]; exact hu
  · rw [upd_other _ _ _ _ e]; exact h j (by omega)

set_option maxHeartbeats 16000000 in
set_option maxRecDepth 100000 in
theorem ShardQueues_go (n who : Int) (a : Option Addr) (len cap m : Nat) (L : List Tk) (hm : 1 + n % 64 = (m : Int)) (hn : 0 ≤ n ∧ n ≤ 255) (hw : 0 ≤ who ∧ who ≤ 255) (w : World) (hL : L.length = len) (hs : TSrc w a L) (hsm : len ≤ cap ∧ cap ≤ maxLen) (T : Tab w) :
    Calls Tryd.prog 5 #[.int .u8 n, .slice a len cap, .int .u8 who] w fun e w' => e = .returned (.bool true) ∧ Below w.heap.size w w' := by
  obtain ⟨hn0, hn1⟩ := hn
  obtain ⟨hw0, hw1⟩ := hw
  have m0 : 0 < m := by omega
  have m1 : m ≤ 64 := by omega
  have HM := Lib.hid hm
  have HL := Lib.hid hL
  have HS := Lib.hid hs
  have HT := Lib.hid T
  have hcap : (len : Int) ≤ 9223372036854775807 := by have := hsm.1; have := hsm.2; simp only [maxLen] at this; omega
  clear hm hL hs T hsm
  by_cases h2 : 100 < len
  · have h2z : 100 < (len : Int) := by omega
    go_enter Tryd.func5, Tryd.ntmps5
    go_wp2_with fail
    refine (alive_any _).mono ?_
    rintro e w1 ⟨rfl, c1⟩
    go_wp2
    go_ret
    exact ⟨rfl, c1.below (Nat.le_refl _) (fun _ _ h => h.elim)⟩
  · have h2z : (len : Int) ≤ 100 := by omega
    go_enter Tryd.func5, Tryd.ntmps5
    go_wp2_with fail
    refine (alive_any _).mono ?_
    rintro e w1 ⟨rfl, c1⟩
    have C1 := Lib.hid c1
    clear c1
    go_wp2_with fail
    rw [HM.out]
    refine (sNew_ok m _ m0 m1).mono ?_
    rintro e w2 ⟨s, r, rs, lk, g, rfl, h2'⟩
    have Q2 := Lib.hid (QuIn.new C1.out h2')
    clear h2' C1
    go_wp2_with fail
    refine (sLock_of Q2.out.sh).mono ?_
    rintro e w3 ⟨rfl, c3⟩
    have Q3 := Lib.hid (Q2.out.quiet c3)
    rw [← RT_pub] at Q3
    clear c3 Q2
    go_wp2
    go_loopw [10, 11] (fun put i wr => ∃ (k p : Nat) (V : Nat → Tk), k ≤ len ∧ put = .int .i64 p ∧ i = .int .i64 k ∧ Hid (p = min k m) ∧ Puts L p V ∧ QuIn w wr s r rs lk g m p 0 (pubTo p) V) (fun _ i _ => len - (intOf i).toNat)
    case atStart => exact ⟨0, 0, _, Nat.zero_le _, rfl, rfl, Lib.hid (by omega), fun j hj => by omega, Q3.out⟩
    case round =>
      obtain ⟨k, p, V, hk, rfl, rfl, HP, hV, hQ⟩ := hrel
      have Q := Lib.hid hQ
      have HV := Lib.hid hV
      clear hQ hV Q3
      have hpm : p ≤ m := by have := HP.out; omega
      have hpk : p ≤ k := by have := HP.out; omega
      by_cases hlt : k < len
      · have hkz : (k : Int) < (len : Int) := by omega
        go_wp2_with fail
        refine (sBegin_of Q.out.sh Q.out.ri).mono ?_
        rintro e w5 ⟨t, rfl, ht, ht1, ht2, t5, r5, c5⟩
        have K5 := Lib.hid (Q.out.tick ht)
        have Q5 := Lib.hid (Q.out.quiet c5)
        have T5 := Lib.hid t5
        clear t5 r5 c5 ht Q
        go_wp2_with fail
        refine (RT.step_to ⟨0, 0, 0, false⟩ ⟨1, 0, p, false⟩ p Q5.out.ri T5.out ht1 ht2 (by simp) (by simp) (tick_choose _ _ _ _ _)).mono ?_
        rintro e w6 ⟨rfl, r6, t6, c6⟩
        have Q6 := Lib.hid (Q5.out.tri r6 c6 K5.out)
        have K6 : Hid (Tick w w6 s lk g t) := K5
        have T6 := Lib.hid t6
        clear r6 t6 c6 Q5 K5 T5
        by_cases hfull : p = m
        · have hz : ((p : Int) == (m : Int)) = true := by rw [beq_iff_eq]; omega
          have hmp : m ≤ p := by omega
          clear hfull
          go_wp2_with fail
          refine (RT.step_to ⟨1, 0, p, false⟩ ⟨1, 1, p, false⟩ p Q6.out.ri T6.out ht1 ht2 (by simp; omega) (by simp) (tick_full _ _ _ _ (by omega))).mono ?_
          rintro e w7 ⟨rfl, r7, t7, c7⟩
          have Q7 := Lib.hid (Q6.out.tri r7 c7 K6.out)
          clear r7 t7 c7 Q6 T6
          go_wp2
          go_roundw
          case rel => exact ⟨k + 1, p, V, by omega, rfl, by go_num, Lib.hid (by have := HP.out; omega), HV.out, Q7.out⟩
          case measure => simp [intOf]; omega
        · have hpk2 : p = k := by have := HP.out; omega
          have HPK := Lib.hid hpk2
          clear hpk2
          have hz : ((p : Int) == (m : Int)) = false := by rw [beq_eq_false_iff_ne]; omega
          go_wp2_with fail
          refine (RT.step_to ⟨1, 0, p, false⟩ ⟨2, 0, p, false⟩ p Q6.out.ri T6.out ht1 ht2 (by simp; omega) (by simp) (tick_go _ _ _ _ (by omega) (by omega) (pubTo_no (Nat.le_refl _)))).mono ?_
          rintro e w7 ⟨rfl, r7, t7, c7⟩
          have Q7 := Lib.hid (Q6.out.tri r7 c7 K6.out)
          have T7 := Lib.hid t7
          clear r7 t7 c7 Q6 T6
          go_wp2_with fail
          refine (RT.step_to ⟨2, 0, p, false⟩ ⟨2, 2, p, false⟩ (p + 1) Q7.out.ri T7.out ht1 ht2 (by simp; omega) (by simp) (tick_take _ _ _ _)).mono ?_
          rintro e w8 ⟨rfl, r8, t8, c8⟩
          have Q8 := Lib.hid (Q7.out.tri r8 c8 K6.out)
          have T8 := Lib.hid t8
          clear r8 t8 c8 Q7 T7
          obtain ⟨b0, hb0⟩ : ∃ b0, b0 = decide ((0 : Int) < (p : Int)) := ⟨_, rfl⟩
          have BP : Hid (pubTo p 0 = b0) := Lib.hid (by rw [hb0]; unfold pubTo; simp)
          have d1 : decide ((0 : Int) < (p : Int)) = b0 := hb0.symm
          have d2 : decide (0 < p) = b0 := by rw [hb0]; simp
          have d3 : (b0 != b0) = false := by simp
          clear hb0
          go_wp2_with fail
          refine (sReady_of Q8.out.sh Q8.out.ri (by omega) b0 BP).mono ?_
          rintro e w9 ⟨rfl, r9, c9⟩
          have Q9 := Lib.hid (Q8.out.two r9 c9)
          have T9 := Lib.hid (T8.out.kept c9 (fun e => by rcases e with e | e <;> contradiction))
          clear r9 c9 Q8 T8
          obtain ⟨u, hu⟩ : ∃ u, L[p]? = some u := ⟨_, List.getElem?_eq_getElem (by rw [HL.out]; omega)⟩
          obtain ⟨b, o, rfl, -, kc⟩ := (HS.out.kept Q9.out.d.c (fun _ _ e => e)).form (by rw [HL.out]; omega)
          obtain ⟨x0, x1, x2, x3, x4⟩ := (kc p u hu).cells
          have HU := Lib.hid hu
          have hplz : (p : Int) < (len : Int) := by omega
          have hpz0 : (0 : Int) ≤ (p : Int) := by omega
          clear kc hu
          go_wp2_with fail
          refine (RT.fill_ok t r rs m (p + 1) 0 _ V 2 p u _ Q9.out.ri T9.out ht1 ht2 (by omega) (by omega)).mono ?_
          rw [pubTo_fill]
          rintro e w10 ⟨rfl, r10, t10, c10⟩
          have Q10 := Lib.hid (Q9.out.tri r10 c10 K6.out)
          have V10 := Lib.hid (HV.out.more HU.out)
          clear r10 t10 c10 Q9 T9 x0 x1 x2 x3 x4
          go_wp2
          go_roundw
          case rel => exact ⟨k + 1, p + 1, _, by omega, by go_num, by go_num, Lib.hid (by have := HPK.out; omega), V10.out, Q10.out⟩
          case measure => simp [intOf]; omega
      · obtain rfl : k = len := by omega
        clear hlt
        go_wp2_with fail
        refine (sWaiting_of Q.out.sh Q.out.ri (by omega) (by omega) p (Lib.hid (by omega))).mono ?_
        rintro e w5 ⟨rfl, r5, c5⟩
        have Q5 := Lib.hid (Q.out.two r5 c5)
        clear r5 c5 Q
        go_wp2_with fail
        refine (sArmed_of Q5.out.sh Q5.out.d.q (HT.out.keeps Q5.out.d.c (fun e => e)) (by simp)).mono ?_
        rintro e w6 ⟨rfl, c6⟩
        have Q6 := Lib.hid (Q5.out.quiet c6)
        clear c6 Q5
        go_wp2_with fail
        refine (sNow_of Q6.out.sh 0 Q6.out.d.q.w.t).mono ?_
        rintro e w7 ⟨rfl, c7⟩
        have Q7 := Lib.hid (Q6.out.quiet c7)
        clear c7 Q6
        have hpl : p ≤ k := by omega
        go_wp2
        go_loopw [15] (fun i wr => ∃ j : Nat, j ≤ p ∧ i = .int .i64 j ∧ QuIn w wr s r rs lk g m p j (pubTo p) V) (fun i _ => p - (intOf i).toNat)
        case atStart => exact ⟨0, Nat.zero_le _, rfl, Q7.out⟩
        case round =>
          obtain ⟨j, hj, rfl, hQ⟩ := hrel
          have Q := Lib.hid hQ
          clear hQ Q7
          by_cases hlt : j < p
          · have hjz : (j : Int) < (p : Int) := by omega
            obtain ⟨u, hu⟩ : ∃ u, u = V j := ⟨_, rfl⟩
            go_wp2_with fail
            refine (sPop_ok Q.out.sh Q.out.ri (by omega) (Lib.hid (pubTo_yes hlt)) (Lib.hid (pubTo_no (by omega))) u (Lib.hid hu.symm)).mono ?_
            unfold tkA
            rintro e w5 ⟨rfl, r5, c5⟩
            have cX : Ch Nil w5 (w5.alloc (Obj.cells #[.int .u64 (u.i : Nat), .int .i64 u.s, .int .u64 (u.g : Nat), .int .u64 (u.d : Nat), .int .u64 (u.p : Nat)] 37)) := (Ch.refl _ _).alloc _
            have X5 : IsTk (w5.alloc (Obj.cells #[.int .u64 (u.i : Nat), .int .i64 u.s, .int .u64 (u.g : Nat), .int .u64 (u.d : Nat), .int .u64 (u.p : Nat)] 37)) w5.heap.size 0 u := IsTk.new w5 37 u
            have Q5 := Lib.hid ((Q.out.two r5 c5).quiet cX)
            have HU := Lib.hid (show L[j]? = some u by rw [hu]; exact HV.out j hlt)
            clear r5 c5 cX Q hu
            go_upto_region 27 with (fail)
            generalize w5.alloc (Obj.cells #[.int .u64 (u.i : Nat), .int .i64 u.s, .int .u64 (u.g : Nat), .int .u64 (u.d : Nat), .int .u64 (u.p : Nat)] 37) = w6 at X5 Q5 ⊢
            generalize w5.heap.size = BX at X5 ⊢
            obtain ⟨b, o, rfl, -, kc⟩ := (HS.out.kept Q5.out.d.c (fun _ _ e => e)).form (by rw [HL.out]; omega)
            obtain ⟨x0, x1, x2, x3, x4⟩ := (kc j u HU.out).cells
            obtain ⟨y0, y1, y2, y3, y4⟩ := X5.cells0
            have hE := eqT u u
            rw [decide_eq_true rfl] at hE
            unfold tkA at hE
            have hjl : (j : Int) < (k : Int) := by omega
            have hj0 : (0 : Int) ≤ (j : Int) := by omega
            clear kc X5
            go_quiet (fail)
            go_wp2
            go_roundw
            case rel => exact ⟨j + 1, by omega, by go_num, Q5.out.quiet ((Ch.refl _ _).drewN _)⟩
            case measure => simp [intOf]; omega
          · obtain rfl : j = p := by omega
            clear hlt
            go_wp2_with fail
            refine (sPop_none Q.out.sh Q.out.ri (by omega) (Lib.hid (pubTo_no (Nat.le_refl _)))).mono ?_
            unfold tkA tk0
            rintro e w5 ⟨rfl, r5, c5⟩
            have cX : Ch Nil w5 (w5.alloc (Obj.cells #[.int .u64 ((0 : Nat) : Int), .int .i64 0, .int .u64 ((0 : Nat) : Int), .int .u64 ((0 : Nat) : Int), .int .u64 ((0 : Nat) : Int)] 37)) := (Ch.refl _ _).alloc _
            have Q5 := Lib.hid ((Q.out.two r5 c5).quiet cX)
            clear r5 c5 cX Q
            go_upto_region 30 with (fail)
            generalize w5.alloc (Obj.cells #[.int .u64 ((0 : Nat) : Int), .int .i64 0, .int .u64 ((0 : Nat) : Int), .int .u64 ((0 : Nat) : Int), .int .u64 ((0 : Nat) : Int)] 37) = w6 at Q5 ⊢
            go_wp2_with fail
            refine (sReady_of Q5.out.sh Q5.out.ri (by omega) false (Lib.hid (pubTo_no (Nat.le_refl _)))).mono ?_
            rintro e w7 ⟨rfl, r7, c7⟩
            have Q7 := Lib.hid (Q5.out.two r7 c7)
            clear r7 c7 Q5
            go_wp2_with fail
            refine (sLock_of Q7.out.sh).mono ?_
            rintro e w8 ⟨rfl, c8⟩
            have Q8 := Lib.hid (Q7.out.quiet c8)
            clear c8 Q7
            go_wp2_with fail
            refine (tr_yes _ _ _ Q8.out.k hw0 (by omega)).mono ?_
            rintro e w9 ⟨rfl, k9, c9⟩
            obtain ⟨-, h9, d9, z9⟩ := Q8.out.lock c9
            have H9 := Lib.hid h9
            have Z9 := Lib.hid z9
            have K9 := Lib.hid k9
            have hlw : w.heap.size ≤ lk := Q8.out.hi.2.2
            have hsl : lk ≠ s := Q8.out.a.2.2.2.2
            clear k9 c9 h9 d9 z9 Q8
            go_wp2_with fail
            refine (sLock_of H9.out).mono ?_
            rintro e w10 ⟨rfl, c10⟩
            have H10 := Lib.hid (H9.out.kept c10 (fun e => e))
            have Z10 := Lib.hid (Z9.out.trans c10)
            have K10 := Lib.hid (K9.out.kept c10 (fun e => e))
            clear c10 H9 Z9 K9
            go_wp2_with fail
            refine (tr_no _ _ _ K10.out (by omega)).mono ?_
            rintro e w11 ⟨rfl, k11, c11⟩
            have H11 := Lib.hid (H10.out.kept c11 (fun e => hsl e.symm))
            have Z11 := Lib.hid (Z10.out.up c11 (fun i e => by have e' : i = lk := e; omega))
            have K11 := Lib.hid k11
            clear k11 c11 H10 Z10 K10
            go_wp2_with fail
            refine (sLock_of H11.out).mono ?_
            rintro e w12 ⟨rfl, c12⟩
            have Z12 := Lib.hid (Z11.out.trans c12)
            have K12 := Lib.hid (K11.out.kept c12 (fun e => e))
            clear c12 H11 Z11 K11
            go_wp2_with fail
            refine (lv_yes _ _ K12.out hw0).mono ?_
            rintro e w13 ⟨rfl, k13, c13⟩
            have Z13 := Lib.hid (Z12.out.up c13 (fun i e => by have e' : i = lk := e; omega))
            clear k13 c13 Z12 K12
            go_wp2
            go_ret
            exact ⟨rfl, Z13.out.below (Nat.le_refl _) (fun _ _ e => e.elim)⟩

theorem ShardQueues_walk (n : Int) (a : Option Addr) (len cap : Nat) (who : Int) (wn : (Lit.int .u8 n).wf = true) (ww : (Lit.int .u8 who).wf = true) (w : World) (ht : IsTab [.i .u64, .i .i64, .i .u64, .i .u64, .i .u64] w a len cap) (T : Tab w) :
    Calls Tryd.prog 5 #[.int .u8 n, .slice a len cap, .int .u8 who] w fun e w' => e = .returned (.bool true) ∧ Below w.heap.size w w' := by
  obtain ⟨h0, h1⟩ := bounds_u8 wn
  obtain ⟨k0, k1⟩ := bounds_u8 ww
  obtain ⟨L, hl, hs, h2, h3⟩ := TSrc.of_tab ht
  obtain ⟨m, hm⟩ : ∃ m : Nat, 1 + n % 64 = (m : Int) := ⟨(1 + n % 64).toNat, by omega⟩
  exact ShardQueues_go n who a len cap m L hm ⟨h0, h1⟩ ⟨k0, k1⟩ w hl hs ⟨h2, h3⟩ T

theorem ShardQueues_own : ownKnob Tryd.prog.godebug = none := by kernel_rfl
theorem ShardQueues_laidOut : laidOutB Tryd.prog = true := by kernel_rfl

set_option maxRecDepth 100000 in
theorem ShardQueues_lifted (os : Os) (started : os.Started) (H : Type) (enc : TypeId × Value → H) :
    ReturnsInHanded {} Tryd.checked os 5 .any (fun w args => (Rows.shardQueuesSpec.pre enc Tryd.prog Tryd.f5 [] false w args ∧ laidMetH Tryd.prog laidTab w) ∧ sizedMet enc Tryd.prog Tryd.f5 (OpenSpec.ofChange Rows.shardQueuesSpec) false w args) (Rows.shardQueuesSpec.post enc Tryd.prog Tryd.f5 false true false false) := by
  refine returnsInHanded_of_change_and (C := Tryd.checked) (X := fun w _ => laidMetH Tryd.prog laidTab w) (fun _ _ _ hh h => h.of_heap hh) ShardQueues_own started (by kernel_rfl) Tryd.func5
    (ChangeSpec.witness_shaped (enc := enc) (C := Tryd.checked) (os := os) (X := fun w _ => laidMetH Tryd.prog laidTab w) false (World.doorLaid Tryd.prog doorSteps os) #[.int .u8 0, .slice none 0 0, .int .u8 0] 8 rfl (World.shaped_of_RefB (by kernel_rfl) (by kernel_rfl)) (by kernel_rfl) (by kernel_rfl) (by kernel_rfl) (door_met os _)) ?_
  intro W base args ds gs before hval0 hW _ _ hL _
  have TB := tab_of_laid hL
  have hval : ∀ (j : Nat) t v, Tryd.f5.params[j]? = some t → args[j]? = some v → Value.okWide Tryd.prog W .any base t v := hval0
  have hW' := hW
  obtain ⟨p, q, hA0, hV, rfl, hfz, hnd⟩ := hW
  have hA : DataW.TrodAll enc Tryd.prog W 0 (fun _ => true) true Tryd.f5.params.toList args.toList ds p := hA0
  rw [Tryd.params5] at hA hval
  obtain ⟨v0, vs0, d0, ds0, p0, q0, hargs, rfl, rfl, h0, r0⟩ := trodAll_cons hA
  obtain ⟨v1, vs1, d1, ds1, p1, q1, rfl, rfl, rfl, h1, r1⟩ := trodAll_cons r0
  obtain ⟨v2, vs2, d2, ds2, p2, q2, rfl, rfl, rfl, h2, r2⟩ := trodAll_cons r1
  obtain ⟨rfl, rfl, rfl⟩ := trodAll_nil r2
  obtain rfl : args = #[v0, v1, v2] := by cases args; simp_all
  obtain ⟨rfl, rfl⟩ := trodVars_none hV
  obtain ⟨a0, rfl, rfl, rfl, w0⟩ := open_int Tryd.underlying5 (hval 0 5 v0 rfl rfl) h0
  obtain ⟨a1, len1, cap1, rfl⟩ := okWide_slice Tryd.underlying33 (hval 1 33 v1 rfl rfl)
  have k1 := h1
  have lt1 : ∀ x ∈ p1, x.block < W.heap.size := by obtain ⟨m, hm⟩ := k1; exact DataW.trod_lt m _ _ _ hm
  have w1 : IsTab [.i .u64, .i .i64, .i .u64, .i .u64, .i .u64] W a1 len1 cap1 := by
    obtain ⟨fuel, hf⟩ := h1
    exact open_tab _ Tryd.underlying33 Tryd.underlying37 (by kernel_rfl) (by kernel_rfl) hf
  obtain ⟨a2, rfl, rfl, rfl, w2⟩ := open_int Tryd.underlying5 (hval 2 5 v2 rfl rfl) h2
  clear hA0 hval0
  refine (ShardQueues_walk a0 a1 len1 cap1 a2 w0 w2 W w1 TB).mono fun e W' ⟨he, bel⟩ => ?_
  subst he
  exact ⟨_, rfl, _, _, _, [], _, [], hW', trodAll_mk1 (shut_bool Tryd.underlying4 _), (trodAll_cons_mk (shut_int Tryd.underlying5 w0) (trodAll_cons_mk (Below.trod ShardQueues_laidOut (by kernel_rfl) (of_decide_eq_true (by kernel_rfl)) k1 bel lt1) (trodAll_cons_mk (shut_int Tryd.underlying5 w2) trodAll_mk0))), rfl, bel.frame _, fun h => by cases h⟩

theorem shardQueues_holds : Rows.ShardQueuesSaid :=
  OpenClaim.holds_of_wide 5 Tryd.f5 rfl rfl rfl rfl rfl rfl rfl ⟨rfl, rfl, rfl, rfl, rfl⟩ rfl rfl rfl rfl rfl (by kernel_rfl) Tryd.func5 (by kernel_rfl)
    (of_decide_eq_true (by kernel_rfl)) (by unfold Func.isWrapper; rw [if_neg (of_decide_eq_false (by kernel_rfl))]; exact ⟨rfl, rfl⟩)
    (fun os started H enc _ => ShardQueues_lifted os started H enc)

theorem shardQueues_card_holds : Rows.ShardQueuesCardSaid :=
  Claim7.holds_tied_plain_at .later [] [.data] true (true, "9500c4eaca1413c0429e1361efcb95e9e0e1828844ee51861c2cff77d4b9e238") false
    shardQueues_holds (fun _ h => by cases h) (by kernel_rfl) (fun _ h => by cases h) shardQueues_row_tie rfl ⟨rfl, rfl⟩ (by kernel_rfl) rfl
    (fun f fn hf hfn => by
      obtain rfl : f = 5 := Option.some.inj ((show Tryd.prog.funcNamed Rows.shardQueuesRow.func = some 5 by kernel_rfl).symm.trans hf) |>.symm
      obtain rfl : fn = Tryd.f5 := (Option.some.inj (Tryd.func5.symm.trans hfn)).symm
      exact ⟨by kernel_rfl, fun j t ht => by
        rw [Tryd.params5] at ht
        have hm : t ∈ [5, 33] := by have := Array.mem_of_getElem? ht; simp at this; first | (simp [this]; done) | (rcases this with h | h | h <;> simp [h])
        have hall : ([5, 33].all fun u => !Tryd.prog.wantsStandIn u) = true := by kernel_rfl
        exact (show Tryd.prog.wantsStandIn t = false by simpa using List.all_eq_true.1 hall t hm)⟩)
    (by kernel_rfl)
end Go.Proofs.YtldnmpiaofppgaaDoor
