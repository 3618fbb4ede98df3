import Derived.Test.YtnbdafmjcmmfpaaGreatK03
import Derived.Test.YtnbdafmjcmmfpaaGreatK18
import Derived.Test.YtnbdafmjcmmfpaaGreatK21
import Derived.Test.YtnbdafmjcmmfpaaGreatK22
/-
  A work's step, whatever its stage; May, Done, Step, Answer, Call of a work.
-/
namespace Go.Proofs.YtnbdafmjcmmfpaaGreat
open Go.RowKit Verge
attribute [local go_sem] Oper.semAt_some
set_option linter.unusedVariables false
set_option linter.unusedSimpArgs false
section
variable {E : Ee} {S S0 : Nat → Prop} {w0 W W' : World} {σ σ' : Wd} {n n' : Nat} {X X' : Mx} {k k' : Wk} {B : Nat} {r : List (Nat × List Value)}
theorem DoV.fn {sg : Sg} {d : Value} (h : DoV sg X d) : IsFn d := by
  unfold DoV at h
  cases sg <;> simp only at h
  case over => exact .inl h
  case aFill => obtain ⟨b1, b2, e, -⟩ := h; exact .inr ⟨_, _, _, e⟩
  case rChange => obtain ⟨b1, b2, e, -⟩ := h; exact .inr ⟨_, _, _, e⟩
  case rFill => obtain ⟨b1, b2, b3, e, -⟩ := h; exact .inr ⟨_, _, _, e⟩
  case eStrike => obtain ⟨b1, b2, e, -⟩ := h; exact .inr ⟨_, _, _, e⟩
  case eRelease => obtain ⟨b1, b2, e, -⟩ := h; exact .inr ⟨_, _, _, e⟩
  all_goals first | exact .inr ⟨_, _, _, h⟩ | exact .inr ⟨_, _, _, h.1⟩
theorem DoV.nil {sg : Sg} {d : Value} (h : DoV sg X d) : isNilF d = decide (sg = .over) := by
  unfold DoV at h
  cases sg <;> simp only at h
  case over => subst h; rfl
  case aFill => obtain ⟨b1, b2, e, -⟩ := h; subst e; rfl
  case rChange => obtain ⟨b1, b2, e, -⟩ := h; subst e; rfl
  case rFill => obtain ⟨b1, b2, b3, e, -⟩ := h; subst e; rfl
  case eStrike => obtain ⟨b1, b2, e, -⟩ := h; subst e; rfl
  case eRelease => obtain ⟨b1, b2, e, -⟩ := h; subst e; rfl
  all_goals first | (subst h; rfl) | (obtain ⟨e, -⟩ := h; subst e; rfl)
theorem Res.up {m : Nat} {p : Wd × Wk} {e : Ending} {W : World} (h : Res E S0 w0 X n p e W) (hn : n ≤ m) : Res E S0 w0 X m p e W := by
  obtain ⟨d, X', h1, h2, h3, h4⟩ := h
  exact ⟨d, X', h1, h2.up hn, h3, h4⟩
theorem to_res {K : Nat} {args : Array Value} {p p' : Wd × Wk} {m m' : Nat} (h : Calls Tryz.prog K args W (Res E S0 w0 X m p)) (hp : p' = p) (hm : m ≤ m') : Calls Tryz.prog K args W (Res E S0 w0 X m' p') := by
  subst hp
  exact h.mono fun e w' hr => hr.up hm
/-- the look of a Cancel or a Stop, of a Reset that looks again, of one that looks first -/
theorem st_eFind (h : Bo E S0 w0 W σ n X k) (hn : n ≤ 80000) (hk : 4 ≤ k.kd) (hid : k.id < 18446744073709551616) :
    Calls Tryz.prog 85 #[ptr X.ab] W (Res E S0 w0 X (n + 1) (σ, lookW E.N σ k k.ev .fin { k with sg := .eStrike (k.id % 64) (σ.R (k.id % 64)).wd })) := by
  unfold lookW
  by_cases h1 : wasW E.N σ.R k.id = false
  · rw [if_pos h1]; exact st_eFindInv h hn hk hid h1
  · rw [if_neg h1]
    have h1' : wasW E.N σ.R k.id = true := by simpa using h1
    have hs := (was_lt h1').1
    by_cases hx : (nxZ (σ.R (k.id % 64)).wd k.ev ((σ.R (k.id % 64)).pd != 0)).2 = 0
    · by_cases hm : k.id / 64 = (σ.R (k.id % 64)).gv
      · rw [if_neg (by unfold mayW; simp [hx, hm])]
        exact to_res (st_eFindOn h hn hk hid h1' (Lib.hid rfl) hs hx hm (Lib.hid rfl)) rfl (Nat.le_succ _)
      · rw [if_pos (by unfold mayW; rw [decide_eq_false_iff_not]; exact fun e => hm e.2)]
        exact st_eFindOld h hn hk hid h1' (Lib.hid rfl) hs hx hm
    · rw [if_pos (by unfold mayW; rw [decide_eq_false_iff_not]; exact fun e => hx e.1)]
      exact st_eFindRef h hn hk hid h1' (Lib.hid rfl) hs hx
theorem st_rFind (h : Bo E S0 w0 W σ n X k) (hn : n ≤ 80000) (hk : k.kd = 3) (hid : k.id < 18446744073709551616) :
    Calls Tryz.prog 92 #[ptr X.ab] W (Res E S0 w0 X (n + 1) (σ, lookW E.N σ k 8 .leave { k with asl := k.id % 64, t := t0, sg := .rWait })) := by
  unfold lookW
  by_cases h1 : wasW E.N σ.R k.id = false
  · rw [if_pos h1]; exact st_rFindInv h hn (Lib.hid hk) hid h1
  · rw [if_neg h1]
    have h1' : wasW E.N σ.R k.id = true := by simpa using h1
    have hs := (was_lt h1').1
    by_cases hx : (nxZ (σ.R (k.id % 64)).wd 8 ((σ.R (k.id % 64)).pd != 0)).2 = 0
    · by_cases hm : k.id / 64 = (σ.R (k.id % 64)).gv
      · rw [if_neg (by unfold mayW; simp [hx, hm])]
        exact to_res (st_rFindOn h hn (Lib.hid hk) hid h1' (Lib.hid rfl) hs hx hm (Lib.hid rfl)) rfl (Nat.le_succ _)
      · rw [if_pos (by unfold mayW; rw [decide_eq_false_iff_not]; exact fun e => hm e.2)]
        exact st_rFindOld h hn (Lib.hid hk) hid h1' (Lib.hid rfl) hs hx hm
    · rw [if_pos (by unfold mayW; rw [decide_eq_false_iff_not]; exact fun e => hx e.1)]
      exact st_rFindRef h hn (Lib.hid hk) hid h1' (Lib.hid rfl) hs hx
theorem st_rAgain (h : Bo E S0 w0 W σ n X k) (hn : n ≤ 80000) (hk : k.kd = 3) (hid : k.id < 18446744073709551616) {t : Nat} (ht : X.t = some t) :
    Calls Tryz.prog 119 #[ptr X.ab] W (Res E S0 w0 X (n + 1) (σ, lookW E.N σ k 8 .rNone { k with sg := .rChange (k.id % 64) (σ.R (k.id % 64)).wd })) := by
  unfold lookW
  by_cases h1 : wasW E.N σ.R k.id = false
  · rw [if_pos h1]; exact st_rAgainInv h hn (Lib.hid hk) hid ht h1
  · rw [if_neg h1]
    have h1' : wasW E.N σ.R k.id = true := by simpa using h1
    have hs := (was_lt h1').1
    by_cases hx : (nxZ (σ.R (k.id % 64)).wd 8 ((σ.R (k.id % 64)).pd != 0)).2 = 0
    · by_cases hm : k.id / 64 = (σ.R (k.id % 64)).gv
      · rw [if_neg (by unfold mayW; simp [hx, hm])]
        exact to_res (st_rAgainOn h hn (Lib.hid hk) hid ht h1' (Lib.hid rfl) hs hx hm (Lib.hid rfl)) rfl (Nat.le_succ _)
      · rw [if_pos (by unfold mayW; rw [decide_eq_false_iff_not]; exact fun e => hm e.2)]
        exact st_rAgainOld h hn (Lib.hid hk) hid ht h1' (Lib.hid rfl) hs hx hm
    · rw [if_pos (by unfold mayW; rw [decide_eq_false_iff_not]; exact fun e => hx e.1)]
      exact st_rAgainRef h hn (Lib.hid hk) hid ht h1' (Lib.hid rfl) hs hx
/-- the next step, as the function that it is -/
def Goes (E : Ee) (S0 : Nat → Prop) (w0 : World) (σ : Wd) (n : Nat) (X : Mx) (k : Wk) (d : Value) (p : Wd × Wk) : Prop :=
  ∃ K fs cs, d = .func (.func K) fs cs ∧ Enters K ∧ ∀ W, Bo E S0 w0 W σ n X k → Calls Tryz.prog K (fs ++ cs) W (Res E S0 w0 X (n + 2) p)
theorem goes_m {K : Nat} {b : Value} {p p' : Wd × Wk} {m : Nat} (en : Enters K) (h : ∀ W, Bo E S0 w0 W σ n X k → Calls Tryz.prog K #[b] W (Res E S0 w0 X m p)) (hp : p' = p) (hm : m ≤ n + 2) : Goes E S0 w0 σ n X k (.func (.func K) #[b] #[]) p' :=
  ⟨K, #[b], #[], rfl, en, fun W hb => by rw [show (#[b] ++ #[] : Array Value) = #[b] from by simp]; exact to_res (h W hb) hp hm⟩
theorem goes_c {K : Nat} {cs : Array Value} {p p' : Wd × Wk} {m : Nat} (en : Enters K) (h : ∀ W, Bo E S0 w0 W σ n X k → Calls Tryz.prog K cs W (Res E S0 w0 X m p)) (hp : p' = p) (hm : m ≤ n + 2) : Goes E S0 w0 σ n X k (.func (.func K) #[] cs) p' :=
  ⟨K, #[], cs, rfl, en, fun W hb => by rw [show (#[] ++ cs : Array Value) = cs from by simp]; exact to_res (h W hb) hp hm⟩
theorem su3 {x : Int} (h : x = 0 ∨ x = 1 ∨ x = 2) (h1 : x ≠ 1) (h2 : x ≠ 2) : x = 0 := by omega
set_option maxHeartbeats 4000000 in
theorem st_any {d : Value} (dv : DoV k.sg X d) (pw : Pw E.N n k) (hn : n ≤ 80000) (hN : E.N.n ≤ 64) (hc : σ.cnt ≤ 64) (hx : (σ.g (k.h E.N)).nx ≤ n) (hgv : ∀ j, j < E.N.n → (σ.R j).gv ≤ n) (win : Win E.N σ k) (hne : k.sg ≠ .over) : Goes E S0 w0 σ n X k d (stepC E.N σ k) := by
  obtain ⟨kd, id, dl, p, sg, a, q, t, aid, asl⟩ := k
  obtain ⟨p1, p2, p3, p4, p5, p6, p7, p8, p9, p10, p11⟩ := pw
  have pp : (⟨kd, id, dl, p, sg, a, q, t, aid, asl⟩ : Wk).per < 18446744073709551616 := per_lt p3
  have pos : t.pos ≤ 90000 := by have h9 : t.pos ≤ n := p9; omega
  cases sg with
  | aBegin =>
    obtain ⟨rfl, ht⟩ := dv
    exact goes_m en_a_begin (fun W hb => st_aBegin hb hn ht) rfl (by omega)
  | aCheck =>
    obtain ⟨rfl, ht⟩ := dv
    by_cases h0 : (⟨kd, id, dl, p, .aCheck, a, q, t, aid, asl⟩ : Wk).per = 0
    · exact goes_m en_a_check (fun W hb => st_aCheck0 hb hn p10 p2 (Lib.hid h0)) (by simp only [stepC]; rw [if_pos (.inl h0)]) (by omega)
    · by_cases ho : 18446744073709551616 ≤ dl + (⟨kd, id, dl, p, .aCheck, a, q, t, aid, asl⟩ : Wk).per
      · exact goes_m en_a_check (fun W hb => st_aCheck9 hb hn p10 p2 pp h0 ho) (by simp only [stepC]; rw [if_pos (.inr (by omega))]) (by omega)
      · exact goes_m en_a_check (fun W hb => st_aCheckY hb hn p10 ht h0 (by show dl + _ < _; omega)) (by simp only [stepC]; rw [if_neg (by rintro (e | e); exact h0 e; omega)]) (by omega)
  | aEnter =>
    obtain ⟨rfl, ht⟩ := dv
    exact goes_m en_a_enter (fun W hb => st_aEnter hb hn ht) rfl (by omega)
  | aAsk =>
    obtain ⟨rfl, ht⟩ := dv
    cases hcl : σ.cl
    · exact goes_m en_a_ask (fun W hb => st_aAskY hb hn p10 ht hcl) (by simp only [stepC]; rw [if_neg (by rw [hcl]; simp)]) (by omega)
    · exact goes_m en_a_ask (fun W hb => st_aAskNo hb hn hcl) (by simp only [stepC]; rw [if_pos hcl]) (by omega)
  | aTake =>
    obtain ⟨rfl, ht, b, hq⟩ := dv
    obtain ⟨q1, q2, q3, q4⟩ := stepM_q E.N.n σ.cnt σ.R q p4 p5 p6 hc hN
    rcases q4 p11 with e | e | ⟨e, e2, e3, e4, e5, e6⟩
    · exact goes_m en_a_take (fun W hb => st_aTakeW hb hn p10 ht hq p4 p5 p6 (Lib.hid rfl) (Lib.hid e)) (by simp only [stepC]; rw [if_neg (by rw [e]; simp), if_neg (by rw [e]; simp)]) (by omega)
    · exact goes_m en_a_take (fun W hb => st_aTakeF hb hn p10 ht hq p4 p5 p6 (Lib.hid rfl) (Lib.hid e)) (by simp only [stepC]; rw [if_pos e]) (by omega)
    · have hg := hgv q.slot p6
      have h6 : q.slot < E.N.n := p6
      refine goes_m en_a_take (fun W hb => st_aTakeH hb hn p10 ht hq p4 p5 p6 (Lib.hid rfl) (Lib.hid e) (by rw [e2]; omega) ?_) (by simp only [stepC]; rw [if_neg (by rw [e]; simp), if_pos e]) (by omega)
      rw [e2, e3]
      unfold wasW
      rw [decide_eq_true_eq, show (((σ.R q.slot).gv + 1) * 64 + q.slot) % 64 = q.slot by omega, upR_same]
      exact ⟨h6, by omega, by dsimp only; omega⟩
  | aWait =>
    obtain ⟨rfl, b, ht⟩ := dv
    obtain ⟨t1, t2, t3, t4⟩ := tick_t E.N.r (σ.g (asl % E.N.m)).nx (σ.g (asl % E.N.m)).fi (σ.g (asl % E.N.m)).P t n p8 p9 hx
    rcases t4 p11.1 with e | e | e
    · exact goes_m en_a_wait (fun W hb => st_aWait0 hb hn p10 ht pos p8 (Lib.hid rfl) (Lib.hid e)) (by
        refine Prod.ext rfl ?_
        show (if (tickStep E.N.r (σ.g (asl % E.N.m)).nx (σ.g (asl % E.N.m)).fi (σ.g (asl % E.N.m)).P t).2.su = 1 then _ else if (tickStep E.N.r (σ.g (asl % E.N.m)).nx (σ.g (asl % E.N.m)).fi (σ.g (asl % E.N.m)).P t).2.su = 2 then _ else _) = _
        rw [if_neg (by rw [e]; simp), if_neg (by rw [e]; simp)]) (by omega)
    · exact goes_m en_a_wait (fun W hb => st_aWait1 hb hn p10 ht pos p8 (Lib.hid rfl) (Lib.hid e)) (by
        refine Prod.ext rfl ?_
        show (if (tickStep E.N.r (σ.g (asl % E.N.m)).nx (σ.g (asl % E.N.m)).fi (σ.g (asl % E.N.m)).P t).2.su = 1 then _ else _) = _
        rw [if_pos e]) (by omega)
    · exact goes_m en_a_wait (fun W hb => st_aWait2 hb hn p10 ht pos p8 (Lib.hid rfl) (Lib.hid e)) (by
        refine Prod.ext rfl ?_
        show (if (tickStep E.N.r (σ.g (asl % E.N.m)).nx (σ.g (asl % E.N.m)).fi (σ.g (asl % E.N.m)).P t).2.su = 1 then _ else if (tickStep E.N.r (σ.g (asl % E.N.m)).nx (σ.g (asl % E.N.m)).fi (σ.g (asl % E.N.m)).P t).2.su = 2 then _ else _) = _
        rw [if_neg (by rw [e]; simp), if_pos e]) (by omega)
  | aGive =>
    obtain rfl := dv
    exact goes_m en_a_giveBack (fun W hb => st_aGive hb hn p10 p7) rfl (by omega)
  | aDrop =>
    obtain rfl := dv
    exact goes_m en_a_drop (fun W hb => st_aDrop hb hn) rfl (by omega)
  | aSubmit =>
    obtain ⟨rfl, b, ht⟩ := dv
    exact goes_m en_a_submit (fun W hb => st_aSubmit hb hn p10 ht p7) rfl (by omega)
  | aFill g =>
    obtain ⟨b1, b2, rfl, m1, m2, b, ht⟩ := dv
    exact goes_c en_a_fill1 (fun W hb => st_aFill hb hn p10 m1 m2 ht p11.1 p11.2 pos win) rfl (by omega)
  | rEnter =>
    obtain rfl := dv
    exact goes_m en_r_enter (fun W hb => st_rEnter hb hn) rfl (by omega)
  | rBegin =>
    obtain rfl := dv
    cases hcl : σ.cl
    · exact goes_m en_r_begin (fun W hb => st_rBeginY hb hn hcl) (by simp only [stepC]; rw [if_neg (by rw [hcl]; simp)]) (by omega)
    · exact goes_m en_r_begin (fun W hb => st_rBeginNo hb hn hcl) (by simp only [stepC]; rw [if_pos hcl]) (by omega)
  | rFind =>
    obtain rfl := dv
    exact goes_m en_r_find (fun W hb => st_rFind hb hn p10 p1) rfl (by omega)
  | rWait =>
    obtain ⟨rfl, b, ht⟩ := dv
    obtain ⟨t1, t2, t3, t4⟩ := tick_t E.N.r (σ.g (asl % E.N.m)).nx (σ.g (asl % E.N.m)).fi (σ.g (asl % E.N.m)).P t n p8 p9 hx
    rcases t4 p11.1 with e | e | e
    · exact goes_m en_r_wait (fun W hb => st_rWait0 hb hn (Lib.hid p10) ht pos p8 (Lib.hid rfl) (Lib.hid e)) (by
        refine Prod.ext rfl ?_
        show (if (tickStep E.N.r (σ.g (asl % E.N.m)).nx (σ.g (asl % E.N.m)).fi (σ.g (asl % E.N.m)).P t).2.su = 1 then _ else if (tickStep E.N.r (σ.g (asl % E.N.m)).nx (σ.g (asl % E.N.m)).fi (σ.g (asl % E.N.m)).P t).2.su = 2 then _ else _) = _
        rw [if_neg (by rw [e]; simp), if_neg (by rw [e]; simp)]) (by omega)
    · exact goes_m en_r_wait (fun W hb => st_rWait1 hb hn (Lib.hid p10) ht pos p8 (Lib.hid rfl) (Lib.hid e)) (by
        refine Prod.ext rfl ?_
        show (if (tickStep E.N.r (σ.g (asl % E.N.m)).nx (σ.g (asl % E.N.m)).fi (σ.g (asl % E.N.m)).P t).2.su = 1 then _ else _) = _
        rw [if_pos e]) (by omega)
    · exact goes_m en_r_wait (fun W hb => st_rWait2 hb hn (Lib.hid p10) ht pos p8 (Lib.hid rfl) (Lib.hid e)) (by
        refine Prod.ext rfl ?_
        show (if (tickStep E.N.r (σ.g (asl % E.N.m)).nx (σ.g (asl % E.N.m)).fi (σ.g (asl % E.N.m)).P t).2.su = 1 then _ else if (tickStep E.N.r (σ.g (asl % E.N.m)).nx (σ.g (asl % E.N.m)).fi (σ.g (asl % E.N.m)).P t).2.su = 2 then _ else _) = _
        rw [if_neg (by rw [e]; simp), if_pos e]) (by omega)
  | rAgain =>
    obtain ⟨rfl, b, ht⟩ := dv
    exact goes_m en_r_findAgain (fun W hb => st_rAgain hb hn p10 p1 ht) rfl (by omega)
  | rChange s v =>
    obtain ⟨b1, b2, rfl, m1, m2, b, ht⟩ := dv
    cases hy : tryW σ.R s v 8
    · exact goes_c en_r_change1 (fun W hb => st_rChangeN hb hn (Lib.hid p10) ht m1 m2 p11.2.2.1 p11.2.2.2 hy) (by simp only [stepC]; rw [if_neg (by rw [hy]; simp)]) (by omega)
    · exact goes_c en_r_change1 (fun W hb => st_rChangeY hb hn (Lib.hid p10) ht m1 m2 p11.2.2.1 hy (Lib.hid rfl)) (by simp only [stepC]; rw [if_pos hy]) (by omega)
  | rFill s g =>
    obtain ⟨b1, b2, b3, rfl, m1, m2, m3, b, ht⟩ := dv
    exact goes_c en_r_fill1 (fun W hb => st_rFill hb hn (Lib.hid p10) m1 m2 m3 p11.2.2 ht p11.1 p11.2.1 pos win) rfl (by omega)
  | rNone =>
    obtain ⟨rfl, b, ht⟩ := dv
    exact goes_m en_r_fillWithNothing (fun W hb => st_rNone hb hn (Lib.hid p10) ht p11.1 p11.2 pos win) rfl (by omega)
  | eBegin =>
    obtain rfl := dv
    cases hcl : σ.cl
    · exact goes_m en_e_begin (fun W hb => st_eBeginY hb hn hcl) (by simp only [stepC]; rw [if_neg (by rw [hcl]; simp)]) (by omega)
    · exact goes_m en_e_begin (fun W hb => st_eBeginNo hb hn hcl) (by simp only [stepC]; rw [if_pos hcl]) (by omega)
  | eFind =>
    obtain rfl := dv
    exact goes_m en_e_find (fun W hb => st_eFind hb hn p10 p1) rfl (by omega)
  | eStrike s v =>
    obtain ⟨b1, b2, rfl, m1, m2⟩ := dv
    cases hy : tryW σ.R s v (⟨kd, id, dl, p, .eStrike s v, a, q, t, aid, asl⟩ : Wk).ev
    · exact goes_c en_e_strike1 (fun W hb => st_eStrikeN hb hn p10 m1 m2 p11.1 p11.2 hy) (by simp only [stepC]; rw [if_neg (by rw [hy]; simp)]) (by omega)
    · by_cases h4 : kd = 4
      · exact goes_c en_e_strike1 (fun W hb => st_eStrikeC hb hn (Lib.hid h4) m1 m2 p11.1 hy (Lib.hid rfl)) (by simp only [stepC]; rw [if_pos hy, if_pos h4]) (by omega)
      · exact goes_c en_e_strike1 (fun W hb => st_eStrikeS hb hn p10 h4 m1 m2 p11.1 hy (Lib.hid rfl)) (by simp only [stepC]; rw [if_pos hy, if_neg h4]) (by omega)
  | eRelease s =>
    obtain ⟨b1, b2, rfl, m1, m2⟩ := dv
    exact goes_c en_e_release1 (fun W hb => st_eRelease hb hn m1 m2 p11) rfl (by omega)
  | eDrop =>
    obtain rfl := dv
    exact goes_m en_e_drop (fun W hb => st_eDrop hb hn) rfl (by omega)
  | leave =>
    obtain rfl := dv
    exact goes_m en_k_leave (fun W hb => st_leave hb hn) rfl (by omega)
  | fin =>
    obtain rfl := dv
    exact goes_m en_k_end (fun W hb => st_fin hb hn) rfl (by omega)
  | over => exact absurd rfl hne
end
end Go.Proofs.YtnbdafmjcmmfpaaGreat

/-
  Contracts of a work's methods: May, Step, Done, Answer, Call; of none.
-/
namespace Go.Proofs.YtnbdafmjcmmfpaaGreat
open Go.RowKit Verge
attribute [local go_sem] Oper.semAt_some
set_option linter.unusedVariables false
set_option linter.unusedSimpArgs false
/-- an answer, a call as values -/
abbrev anV (a : An) : Value := .agg #[.int .i64 (a.e : Nat), .bool a.ok, .int .u64 (a.id : Nat), .int .u64 (a.g : Nat), .slice none 0 0]
abbrev clV (kd id d p : Nat) : Value := .agg #[.int .i64 (kd : Nat), .int .u64 (id : Nat), .int .u64 (d : Nat), .int .u64 (p : Nat)]
section
variable {E : Ee} {S S0 : Nat → Prop} {w0 W W' : World} {σ σ' : Wd} {n n' : Nat} {X X' : Mx} {k k' : Wk} {B : Nat} {r : List (Nat × List Value)}
theorem Bo.pgd (h : Bo E S0 w0 W σ n X k) {d : Value} {st : Int} (c : Ch (One X.pb) W W') (p : IsPg W' X.pb d st) : Bo E S0 w0 W' σ n { X with pd := d, st := st } k := by
  have kw := h.kw
  have o1 := kw.o1
  have o2 := kw.o2
  have hne : ∀ {j}, j ≠ X.pb → ¬ One X.pb j := fun {j} l e => l e
  exact h.work c (fun j e => .inr (by rw [show j = X.pb from e]; exact .inr (.inr (.inl rfl)))) ⟨kw.kc.kept c (hne (by omega)), kw.ac.kept c (hne (by omega)), p, fun b hb => (kw.qc b hb).kept c (hne (by have := kw.oq b hb; omega)), fun b hb => (kw.tc b hb).kept c (hne (by have := (kw.ot b hb).1; omega)), fun p hp => (kw.bc p hp).kept c (hne (by have := (kw.ob p hp).1; omega)), kw.o1, kw.o2, kw.oq, kw.ot, kw.ob⟩ (fun _ e => .inl e)
theorem Bo.k12 (h : Bo E S0 w0 W σ n X k) : W.cell? ⟨X.kb, 12, none⟩ = some (ptr X.pb) := h.kc 12 _ rfl
/-- a work at rest: its next step lies in its program -/
structure Rt (E : Ee) (S0 : Nat → Prop) (w0 W : World) (σ : Wd) (n : Nat) (X : Mx) (k : Wk) : Prop where
  b : Bo E S0 w0 W σ n X k
  d : DoV k.sg X X.pd
  s : 0 ≤ X.st ∧ X.st ≤ n
theorem Rt.quiet (h : Rt E S0 w0 W σ n X k) (c : Ch Nil W W') : Rt E S0 w0 W' σ n X k := ⟨h.b.quiet c, h.d, h.s⟩
theorem Rt.up (h : Rt E S0 w0 W σ n X k) (hn : n ≤ n') : Rt E S0 w0 W σ n' X k := ⟨h.b.up hn, h.d, h.s.1, by have := h.s.2; omega⟩
/-- what is asked of the floor, and of the work, so that it may step -/
structure Fits (E : Ee) (σ : Wd) (n : Nat) (k : Wk) : Prop where
  pw : Pw E.N n k
  nn : n ≤ 80000
  hN : E.N.n ≤ 64
  hc : σ.cnt ≤ 64
  win : Win E.N σ k
set_option maxHeartbeats 1000000 in
theorem Rt.step (h : Rt E S0 w0 W σ n X k) (f : Fits E σ n k) (hne : k.sg ≠ .over) :
    Calls Tryz.prog 12 #[ptr X.kb] W fun e W' => e = .returned (.bool true) ∧ ∃ X', Rt E S0 w0 W' (stepC E.N σ k).1 (n + 2) X' (stepC E.N σ k).2 ∧ X'.kb = X.kb ∧ X'.th = X.th ∧ X'.no = X.no := by
  have GO := st_any (S0 := S0) (w0 := w0) h.d f.pw f.nn f.hN f.hc (h.b.bd.x _ (Nat.mod_lt _ h.b.ly.m0)) h.b.bd.g f.win hne
  obtain ⟨K, fs, cs, hd, en, hg⟩ := GO
  have hpg := h.b.kw.pc
  rw [hd] at hpg
  have c12 := h.b.k12
  have H := Lib.hid h
  have G := Lib.hid hg
  have PG := Lib.hid hpg
  have ST := Lib.hid (And.intro h.s f.nn)
  generalize stepC E.N σ k = p at *
  have hd' := Lib.hid hd
  clear h f hne hg hpg hd
  go_enter Tryz.func12, Tryz.ntmps12
  go_wp2_with fail
  refine (pStep_yes (R := fun d' w1 w' => ∃ X', Bo E S0 w0 w' p.1 (n + 2) X' p.2 ∧ DoV p.2.sg X' d' ∧ Sm X X') PG.out en (by have := ST.out; omega) ST.out.1.1 (fun w1 c1 => ?_)).mono ?_
  · refine (G.out w1 (H.out.b.quiet c1)).mono ?_
    rintro e w' ⟨d', X', rfl, hb, hv, sm⟩
    refine ⟨d', rfl, hv.fn, ?_, X', hb, hv, sm⟩
    have := hb.kw.pc
    rw [sm.pb, sm.pd, sm.st, hd'.out] at this
    exact this
  rintro e w' ⟨rfl, d', w1, w2, c1, ⟨X', hb, hv, sm⟩, hp, c2⟩
  have HB := Lib.hid (And.intro hb (And.intro hv (And.intro sm (And.intro hp c2))))
  clear hb hv sm hp c2 c1
  go_wp2
  go_ret
  obtain ⟨hb, hv, sm, hp, c2⟩ := HB.out
  refine ⟨rfl, { X' with pd := d', st := X.st + 1 }, ⟨hb.pgd (by rw [sm.pb]; exact c2) (by rw [sm.pb]; exact hp), hv, by have := ST.out.1; dsimp only; omega⟩, sm.kb, sm.th, sm.no⟩
set_option maxHeartbeats 1000000 in
theorem Rt.stepNo (h : Rt E S0 w0 W σ n X k) (ho : k.sg = .over) :
    Calls Tryz.prog 12 #[ptr X.kb] W fun e W' => e = .returned (.bool false) ∧ Rt E S0 w0 W' σ n X k := by
  have hd := h.d
  rw [ho] at hd
  have hpg := h.b.kw.pc
  rw [show X.pd = .nilFunc from hd] at hpg
  have c12 := h.b.k12
  have H := Lib.hid h
  have PG := Lib.hid hpg
  clear h hpg hd
  go_enter Tryz.func12, Tryz.ntmps12
  go_wp2_with fail
  refine (pStep_no PG.out).mono ?_
  rintro e w' ⟨rfl, c1⟩
  have C1 := Lib.hid c1
  clear c1
  go_wp2
  go_ret
  exact ⟨rfl, H.out.quiet C1.out⟩
set_option maxHeartbeats 1000000 in
theorem Rt.may (h : Rt E S0 w0 W σ n X k) :
    Calls Tryz.prog 25 #[ptr X.kb] W fun e W' => e = .returned (.bool (!decide (k.sg = .over))) ∧ Ch Nil W W' := by
  have hpg := h.b.kw.pc
  have c12 := h.b.k12
  have DF := Lib.hid h.d.fn
  have DN := Lib.hid h.d.nil
  have H := Lib.hid h
  have PG := Lib.hid hpg
  obtain ⟨b, hb⟩ : ∃ b, b = decide (k.sg = .over) := ⟨_, rfl⟩
  rw [← hb] at DN ⊢
  clear h hpg hb
  go_enter Tryz.func25, Tryz.ntmps25
  go_wp2_with fail
  have PM := pMay_of PG.out DF.out
  rw [DN.out] at PM
  refine PM.mono ?_
  clear PM
  rintro e w' ⟨rfl, c1⟩
  have C1 := Lib.hid c1
  clear c1
  go_wp2
  go_ret
  exact ⟨rfl, C1.out⟩
set_option maxHeartbeats 1000000 in
theorem Rt.done (h : Rt E S0 w0 W σ n X k) :
    Calls Tryz.prog 26 #[ptr X.kb] W fun e W' => e = .returned (.bool (decide (k.sg = .over))) ∧ Ch Nil W W' := by
  have hpg := h.b.kw.pc
  have c12 := h.b.k12
  have DF := Lib.hid h.d.fn
  have DN := Lib.hid h.d.nil
  have H := Lib.hid h
  have PG := Lib.hid hpg
  obtain ⟨b, hb⟩ : ∃ b, b = decide (k.sg = .over) := ⟨_, rfl⟩
  rw [← hb] at DN ⊢
  clear h hpg hb
  go_enter Tryz.func26, Tryz.ntmps26
  go_wp2_with fail
  have PM := pDone_of PG.out DF.out
  rw [DN.out] at PM
  refine PM.mono ?_
  clear PM
  rintro e w' ⟨rfl, c1⟩
  have C1 := Lib.hid c1
  clear c1
  go_wp2
  go_ret
  exact ⟨rfl, C1.out⟩
/-- the box of an answer, of a call -/
def anZ : List Value := [.int .i64 0, .bool false, .int .u64 0, .int .u64 0, .slice none 0 0]
def clZ : List Value := [.int .i64 0, .int .u64 0, .int .u64 0, .int .u64 0]
def anL (a : An) : List Value := [.int .i64 (a.e : Nat), .bool a.ok, .int .u64 (a.id : Nat), .int .u64 (a.g : Nat), .slice none 0 0]
def clL (kd id d p : Nat) : List Value := [.int .i64 (kd : Nat), .int .u64 (id : Nat), .int .u64 (d : Nat), .int .u64 (p : Nat)]
theorem IsVs.cells5 {w : World} {b : Nat} {v0 v1 v2 v3 v4 : Value} (h : IsVs w b [v0, v1, v2, v3, v4]) :
    w.cell? ⟨b, 0, none⟩ = some v0 ∧ w.cell? ⟨b, 1, none⟩ = some v1 ∧ w.cell? ⟨b, 2, none⟩ = some v2 ∧ w.cell? ⟨b, 3, none⟩ = some v3 ∧ w.cell? ⟨b, 4, none⟩ = some v4 := ⟨h.c 0 _ rfl, h.c 1 _ rfl, h.c 2 _ rfl, h.c 3 _ rfl, h.c 4 _ rfl⟩
theorem IsVs.cells4 {w : World} {b : Nat} {v0 v1 v2 v3 : Value} (h : IsVs w b [v0, v1, v2, v3]) :
    w.cell? ⟨b, 0, none⟩ = some v0 ∧ w.cell? ⟨b, 1, none⟩ = some v1 ∧ w.cell? ⟨b, 2, none⟩ = some v2 ∧ w.cell? ⟨b, 3, none⟩ = some v3 := ⟨h.c 0 _ rfl, h.c 1 _ rfl, h.c 2 _ rfl, h.c 3 _ rfl⟩
set_option maxHeartbeats 2000000 in
theorem Rt.answer (h : Rt E S0 w0 W σ n X k) (ho : k.sg = .over) :
    Calls Tryz.prog 17 #[ptr X.kb] W fun e W' => e = .returned (.tuple #[anV k.a, .int .i64 0]) ∧ Rt E S0 w0 W' σ n X k ∧ Ch Nil W W' := by
  have cA : Ch Nil W (W.alloc (Obj.cells #[.int .i64 0, .bool false, .int .u64 0, .int .u64 0, .slice none 0 0] 51)) := (Ch.refl _ _).alloc _
  have bx : IsVs (W.alloc (Obj.cells #[.int .i64 0, .bool false, .int .u64 0, .int .u64 0, .slice none 0 0] 51)) W.heap.size anZ := IsVs.new W anZ 51
  have CA := Lib.hid cA
  have H0 := Lib.hid h
  have HDN := Lib.hid (show decide (k.sg = .over) = true from by simp [ho])
  clear h cA
  go_enter Tryz.func17, Tryz.ntmps17
  go_upto_region 1 with (fail)
  generalize W.alloc (Obj.cells #[.int .i64 0, .bool false, .int .u64 0, .int .u64 0, .slice none 0 0] 51) = w1 at bx CA ⊢
  obtain ⟨B, hB⟩ : ∃ B, B = W.heap.size := ⟨_, rfl⟩
  rw [← hB] at bx ⊢
  have HB := Lib.hid hB
  have BX := Lib.hid bx
  clear bx hB
  go_wp2_with fail
  have DN := (H0.out.quiet CA.out).done
  rw [HDN.out] at DN
  refine DN.mono ?_
  clear DN
  rintro e w2 ⟨rfl, c2⟩
  have C2 := Lib.hid (CA.out.trans c2)
  have KK := c2
  have H2 := Lib.hid (H0.out.quiet C2.out)
  have BZ := BX.out.kept KK (fun e => e)
  obtain ⟨z0, z1, z2, z3, z4⟩ := BZ.cells5
  have f0 := BZ.b.fz 0
  have f1 := BZ.b.fz 1
  have f2 := BZ.b.fz 2
  have f3 := BZ.b.fz 3
  have f4 := BZ.b.fz 4
  have c7 := H2.out.b.kc 7 _ rfl
  have c8 := H2.out.b.kc 8 _ rfl
  have c9 := H2.out.b.kc 9 _ rfl
  have c10 := H2.out.b.kc 10 _ rfl
  have c11 := H2.out.b.kc 11 _ rfl
  clear c2 KK BX
  go_wp2
  have hr := BZ.set (vs := anL k.a) rfl
  have hc : Ch Nil W (setVs w2 B 0 (anL k.a)) := setVs_nil B _ C2.out (Nat.le_of_eq HB.out.symm)
  (try simp only [Exit.inBlock, Exit.then])
  refine bodyPost_ret (v := .tuple #[anV k.a, .int .i64 0]) ?hr rfl ?hx
  case hx => exact ⟨rfl, H0.out.quiet hc, hc⟩
  case hr =>
    change (results _ _).run _ (setVs w2 B 0 (anL k.a)) = .ok _ (setVs w2 B 0 (anL k.a))
    generalize setVs w2 B 0 (anL k.a) = W5 at hr ⊢
    obtain ⟨d0, d1, d2, d3, d4⟩ := hr.cells5
    simp [results, Tryz.results17, go_sem, d0, d1, d2, d3, d4]
set_option maxHeartbeats 2000000 in
theorem Rt.busy (h : Rt E S0 w0 W σ n X k) (ho : k.sg ≠ .over) :
    Calls Tryz.prog 17 #[ptr X.kb] W fun e W' => e = .returned (.tuple #[anV ⟨0, false, 0, 0⟩, .int .i64 10]) ∧ Rt E S0 w0 W' σ n X k ∧ Ch Nil W W' := by
  have cA : Ch Nil W (W.alloc (Obj.cells #[.int .i64 0, .bool false, .int .u64 0, .int .u64 0, .slice none 0 0] 51)) := (Ch.refl _ _).alloc _
  have bx : IsVs (W.alloc (Obj.cells #[.int .i64 0, .bool false, .int .u64 0, .int .u64 0, .slice none 0 0] 51)) W.heap.size anZ := IsVs.new W anZ 51
  have CA := Lib.hid cA
  have H0 := Lib.hid h
  have HDN := Lib.hid (show decide (k.sg = .over) = false from by simp [ho])
  clear h cA
  go_enter Tryz.func17, Tryz.ntmps17
  go_upto_region 1 with (fail)
  generalize W.alloc (Obj.cells #[.int .i64 0, .bool false, .int .u64 0, .int .u64 0, .slice none 0 0] 51) = w1 at bx CA ⊢
  obtain ⟨B, hB⟩ : ∃ B, B = W.heap.size := ⟨_, rfl⟩
  rw [← hB] at bx ⊢
  have HB := Lib.hid hB
  have BX := Lib.hid bx
  clear bx hB
  go_wp2_with fail
  have DN := (H0.out.quiet CA.out).done
  rw [HDN.out] at DN
  refine DN.mono ?_
  clear DN
  rintro e w2 ⟨rfl, c2⟩
  have C2 := Lib.hid (CA.out.trans c2)
  have KK := c2
  have H2 := Lib.hid (H0.out.quiet C2.out)
  have BZ := BX.out.kept KK (fun e => e)
  obtain ⟨z0, z1, z2, z3, z4⟩ := BZ.cells5
  have f0 := BZ.b.fz 0
  have f1 := BZ.b.fz 1
  have f2 := BZ.b.fz 2
  have f3 := BZ.b.fz 3
  have f4 := BZ.b.fz 4
  have c7 := H2.out.b.kc 7 _ rfl
  have c8 := H2.out.b.kc 8 _ rfl
  have c9 := H2.out.b.kc 9 _ rfl
  have c10 := H2.out.b.kc 10 _ rfl
  have c11 := H2.out.b.kc 11 _ rfl
  clear c2 KK BX
  go_wp2
  have hr := BZ.set (vs := anZ) rfl
  have hc : Ch Nil W (setVs w2 B 0 (anZ)) := setVs_nil B _ C2.out (Nat.le_of_eq HB.out.symm)
  (try simp only [Exit.inBlock, Exit.then])
  refine bodyPost_ret (v := .tuple #[anV ⟨0, false, 0, 0⟩, .int .i64 10]) ?hr rfl ?hx
  case hx => exact ⟨rfl, H0.out.quiet hc, hc⟩
  case hr =>
    change (results _ _).run _ (setVs w2 B 0 (anZ)) = .ok _ (setVs w2 B 0 (anZ))
    generalize setVs w2 B 0 (anZ) = W5 at hr ⊢
    obtain ⟨d0, d1, d2, d3, d4⟩ := hr.cells5
    simp [results, Tryz.results17, go_sem, d0, d1, d2, d3, d4]
set_option maxHeartbeats 2000000 in
theorem answer_nil (W : World) :
    Calls Tryz.prog 17 #[.pointer none] W fun e W' => e = .returned (.tuple #[anV ⟨0, false, 0, 0⟩, .int .i64 6]) ∧ Ch Nil W W' := by
  have cA : Ch Nil W (W.alloc (Obj.cells #[.int .i64 0, .bool false, .int .u64 0, .int .u64 0, .slice none 0 0] 51)) := (Ch.refl _ _).alloc _
  have bx : IsVs (W.alloc (Obj.cells #[.int .i64 0, .bool false, .int .u64 0, .int .u64 0, .slice none 0 0] 51)) W.heap.size anZ := IsVs.new W anZ 51
  have CA := Lib.hid cA
  clear cA
  go_enter Tryz.func17, Tryz.ntmps17
  go_upto_region 1 with (fail)
  generalize W.alloc (Obj.cells #[.int .i64 0, .bool false, .int .u64 0, .int .u64 0, .slice none 0 0] 51) = w1 at bx CA ⊢
  obtain ⟨B, hB⟩ : ∃ B, B = W.heap.size := ⟨_, rfl⟩
  rw [← hB] at bx ⊢
  have HB := Lib.hid hB
  have BX := Lib.hid bx
  clear bx hB
  have w2e : ∃ w2, w2 = w1 := ⟨_, rfl⟩
  obtain ⟨w2, hw2⟩ := w2e
  rw [← hw2] at BX CA ⊢
  clear hw2
  have C2 := CA
  have KK : Ch Nil w2 w2 := Ch.refl _ _
  have BZ := BX.out.kept KK (fun e => e)
  obtain ⟨z0, z1, z2, z3, z4⟩ := BZ.cells5
  have f0 := BZ.b.fz 0
  have f1 := BZ.b.fz 1
  have f2 := BZ.b.fz 2
  have f3 := BZ.b.fz 3
  have f4 := BZ.b.fz 4
  clear KK BX
  go_wp2
  have hr := BZ.set (vs := anZ) rfl
  have hc : Ch Nil W (setVs w2 B 0 (anZ)) := setVs_nil B _ C2.out (Nat.le_of_eq HB.out.symm)
  (try simp only [Exit.inBlock, Exit.then])
  refine bodyPost_ret (v := .tuple #[anV ⟨0, false, 0, 0⟩, .int .i64 6]) ?hr rfl ?hx
  case hx => exact ⟨rfl, hc⟩
  case hr =>
    change (results _ _).run _ (setVs w2 B 0 (anZ)) = .ok _ (setVs w2 B 0 (anZ))
    generalize setVs w2 B 0 (anZ) = W5 at hr ⊢
    obtain ⟨d0, d1, d2, d3, d4⟩ := hr.cells5
    simp [results, Tryz.results17, go_sem, d0, d1, d2, d3, d4]
set_option maxHeartbeats 2000000 in
theorem Rt.call (h : Rt E S0 w0 W σ n X k) :
    Calls Tryz.prog 18 #[ptr X.kb] W fun e W' => e = .returned (clV k.kd k.id k.d k.p) ∧ Rt E S0 w0 W' σ n X k ∧ Ch Nil W W' := by
  have cA : Ch Nil W (W.alloc (Obj.cells #[.int .i64 0, .int .u64 0, .int .u64 0, .int .u64 0] 38)) := (Ch.refl _ _).alloc _
  have bx : IsVs (W.alloc (Obj.cells #[.int .i64 0, .int .u64 0, .int .u64 0, .int .u64 0] 38)) W.heap.size clZ := IsVs.new W clZ 38
  have CA := Lib.hid cA
  have H0 := Lib.hid h
  clear h cA
  go_enter Tryz.func18, Tryz.ntmps18
  go_upto_region 1 with (fail)
  generalize W.alloc (Obj.cells #[.int .i64 0, .int .u64 0, .int .u64 0, .int .u64 0] 38) = w1 at bx CA ⊢
  obtain ⟨B, hB⟩ : ∃ B, B = W.heap.size := ⟨_, rfl⟩
  rw [← hB] at bx ⊢
  have HB := Lib.hid hB
  have BX := Lib.hid bx
  clear bx hB
  have w2e : ∃ w2, w2 = w1 := ⟨_, rfl⟩
  obtain ⟨w2, hw2⟩ := w2e
  rw [← hw2] at BX CA ⊢
  clear hw2
  have C2 := CA
  have KK : Ch Nil w2 w2 := Ch.refl _ _
  have H2 := Lib.hid (H0.out.quiet C2.out)
  have BZ := BX.out.kept KK (fun e => e)
  obtain ⟨z0, z1, z2, z3⟩ := BZ.cells4
  have f0 := BZ.b.fz 0
  have f1 := BZ.b.fz 1
  have f2 := BZ.b.fz 2
  have f3 := BZ.b.fz 3
  have c3 := H2.out.b.kc 3 _ rfl
  have c4 := H2.out.b.kc 4 _ rfl
  have c5 := H2.out.b.kc 5 _ rfl
  have c6 := H2.out.b.kc 6 _ rfl
  clear KK BX
  go_wp2
  have hr := BZ.set (vs := clL k.kd k.id k.d k.p) rfl
  have hc : Ch Nil W (setVs w2 B 0 (clL k.kd k.id k.d k.p)) := setVs_nil B _ C2.out (Nat.le_of_eq HB.out.symm)
  (try simp only [Exit.inBlock, Exit.then])
  refine bodyPost_ret (v := clV k.kd k.id k.d k.p) ?hr rfl ?hx
  case hx => exact ⟨rfl, H0.out.quiet hc, hc⟩
  case hr =>
    change (results _ _).run _ (setVs w2 B 0 (clL k.kd k.id k.d k.p)) = .ok _ (setVs w2 B 0 (clL k.kd k.id k.d k.p))
    generalize setVs w2 B 0 (clL k.kd k.id k.d k.p) = W5 at hr ⊢
    obtain ⟨d0, d1, d2, d3⟩ := hr.cells4
    simp [results, Tryz.results18, go_sem, d0, d1, d2, d3]
set_option maxHeartbeats 2000000 in
theorem call_nil (W : World) :
    Calls Tryz.prog 18 #[.pointer none] W fun e W' => e = .returned (clV 0 0 0 0) ∧ Ch Nil W W' := by
  have cA : Ch Nil W (W.alloc (Obj.cells #[.int .i64 0, .int .u64 0, .int .u64 0, .int .u64 0] 38)) := (Ch.refl _ _).alloc _
  have bx : IsVs (W.alloc (Obj.cells #[.int .i64 0, .int .u64 0, .int .u64 0, .int .u64 0] 38)) W.heap.size clZ := IsVs.new W clZ 38
  have CA := Lib.hid cA
  clear cA
  go_enter Tryz.func18, Tryz.ntmps18
  go_upto_region 1 with (fail)
  generalize W.alloc (Obj.cells #[.int .i64 0, .int .u64 0, .int .u64 0, .int .u64 0] 38) = w1 at bx CA ⊢
  obtain ⟨B, hB⟩ : ∃ B, B = W.heap.size := ⟨_, rfl⟩
  rw [← hB] at bx ⊢
  have HB := Lib.hid hB
  have BX := Lib.hid bx
  clear bx hB
  have w2e : ∃ w2, w2 = w1 := ⟨_, rfl⟩
  obtain ⟨w2, hw2⟩ := w2e
  rw [← hw2] at BX CA ⊢
  clear hw2
  have C2 := CA
  have KK : Ch Nil w2 w2 := Ch.refl _ _
  have BZ := BX.out.kept KK (fun e => e)
  obtain ⟨z0, z1, z2, z3⟩ := BZ.cells4
  have f0 := BZ.b.fz 0
  have f1 := BZ.b.fz 1
  have f2 := BZ.b.fz 2
  have f3 := BZ.b.fz 3
  clear KK BX
  go_wp2
  have hr := BZ.set (vs := clZ) rfl
  have hc : Ch Nil W (setVs w2 B 0 (clZ)) := setVs_nil B _ C2.out (Nat.le_of_eq HB.out.symm)
  (try simp only [Exit.inBlock, Exit.then])
  refine bodyPost_ret (v := clV 0 0 0 0) ?hr rfl ?hx
  case hx => exact ⟨rfl, hc⟩
  case hr =>
    change (results _ _).run _ (setVs w2 B 0 (clZ)) = .ok _ (setVs w2 B 0 (clZ))
    generalize setVs w2 B 0 (clZ) = W5 at hr ⊢
    obtain ⟨d0, d1, d2, d3⟩ := hr.cells4
    simp [results, Tryz.results18, go_sem, d0, d1, d2, d3]
theorem kmay_nil (W : World) : Calls Tryz.prog 25 #[.pointer none] W fun e W' => e = .returned (.bool false) ∧ Ch Nil W W' := by
  go_enter Tryz.func25, Tryz.ntmps25
  go_wp2
  go_ret
  exact ⟨rfl, Ch.refl _ _⟩
theorem kstep_nil (W : World) : Calls Tryz.prog 12 #[.pointer none] W fun e W' => e = .returned (.bool false) ∧ Ch Nil W W' := by
  go_enter Tryz.func12, Tryz.ntmps12
  go_wp2
  go_ret
  exact ⟨rfl, Ch.refl _ _⟩
theorem kdone_nil (W : World) : Calls Tryz.prog 26 #[.pointer none] W fun e W' => e = .returned (.bool true) ∧ Ch Nil W W' := by
  go_enter Tryz.func26, Tryz.ntmps26
  go_wp2
  go_ret
  exact ⟨rfl, Ch.refl _ _⟩
end
end Go.Proofs.YtnbdafmjcmmfpaaGreat

/-
  Contract of package calls' Begin: a work that made no step; of no floor, of another kind.
-/
namespace Go.Proofs.YtnbdafmjcmmfpaaGreat
open Go.RowKit Verge
attribute [local go_sem] Oper.semAt_some
set_option linter.unusedVariables false
set_option linter.unusedSimpArgs false
/-- a floor; nothing but what is in S0 has turned since w0 -/
structure Bf (E : Ee) (S0 : Nat → Prop) (w0 W : World) (σ : Wd) (n : Nat) : Prop where
  ly : Lay E
  hd : ∃ L a tc, Hd E W σ L a tc ∧ L.length ≤ n ∧ ∀ j, OwnS a j → S0 j ∨ w0.heap.size ≤ j
  bd : Bd E n σ
  z : ∀ j, E.lo ≤ j → j < E.hi → S0 j
  hw : E.hi ≤ W.heap.size
  c : Ch S0 w0 W
section
variable {E : Ee} {S S0 : Nat → Prop} {w0 W W' : World} {σ σ' : Wd} {n n' : Nat} {X X' : Mx} {k k' : Wk}
theorem Bo.bf (h : Bo E S0 w0 W σ n X k) : Bf E S0 w0 W σ n := by
  obtain ⟨L, a, tc, h1, h2, h3, h4⟩ := h.hd
  exact ⟨h.ly, ⟨L, a, tc, h1, h2, h3⟩, h.bd, h.z, h.hw, h.c⟩
theorem Hd.quiet {L : List Ev} {a : Option Addr} {tc : Nat} (h : Hd E W σ L a tc) (ly : Lay E) (c : Ch Nil W W') : Hd E W' σ L a tc :=
  h.part ly c (fun _ e => e.elim) (h.s.quiet c) (fun i hi => (h.ri i hi).kept c (fun e => e) (fun e => e)) rfl rfl
theorem Bf.quiet (h : Bf E S0 w0 W σ n) (c : Ch Nil W W') : Bf E S0 w0 W' σ n := by
  obtain ⟨L, a, tc, h1, h2, h3⟩ := h.hd
  exact ⟨h.ly, ⟨L, a, tc, h1.quiet h.ly c, h2, h3⟩, h.bd, h.z, Nat.le_trans h.hw c.size, h.c.then c fun _ _ e => e.elim⟩
/-- a work more, in new memory -/
theorem Bf.with (h : Bf E S0 w0 W σ n) (c : Ch Nil W W') (kw : Kw E W' X k) (hn : ∀ j, own X j → W.heap.size ≤ j) : Bo E S0 w0 W' σ n X k := by
  obtain ⟨L, a, tc, h1, h2, h3⟩ := h.hd
  have sz := h.c.size
  have hw := h.hw
  refine ⟨h.ly, ⟨L, a, tc, h1.quiet h.ly c, h2, h3, fun j hj e => ?_⟩, kw, h.bd, fun j hj => ⟨by have := hn j hj; omega, .inr (by have := hn j hj; omega)⟩, h.z, Nat.le_trans h.hw c.size, h.c.then c fun _ _ e => e.elim⟩
  have h5 := h1.f.lt (k := j) (by simp [FS, e])
  have := hn j hj
  omega
def wk0 (E : Ee) (th no : Int) (kd id d p : Nat) : List Value :=
  [ptr E.F.f, .int .i64 th, .int .i64 no, .int .i64 (kd : Nat), .int .u64 (id : Nat), .int .u64 (d : Nat), .int .u64 (p : Nat), .int .i64 0, .bool false, .int .u64 0, .int .u64 0, .slice none 0 0, .pointer none]
/-- what first answers: the first step of a kind, its block -/
def First (E : Ee) (th no : Int) (kd id d p : Nat) (F : Nat) (vs : Nat → List Value) : Prop :=
  ∀ (w : World) (b : Nat), IsVs w b (wk0 E th no kd id d p) → Calls Tryz.prog 38 #[ptr b] w fun e w' => e = .returned (.func (.func F) #[ptr w.heap.size] #[]) ∧ IsVs w' w.heap.size (vs b) ∧ Ch Nil w w'
variable {th no : Int} {id d p : Nat}
theorem first1 : First E th no 1 id d p 60 (fun b => [ptr b, .int .u64 0, .pointer none, .pointer none, .int .u64 0, .int .i64 0]) := by
  intro w b h
  have hmf := mk_func
  have c3 := h.c 3 _ rfl
  go_enter Tryz.func38, Tryz.ntmps38
  go_wp2
  go_ret
  exact ⟨rfl, IsVs.new w [ptr b, .int .u64 0, .pointer none, .pointer none, .int .u64 0, .int .i64 0] _, (Ch.refl _ _).alloc _⟩
theorem first2 : First E th no 2 id d p 61 (fun b => [ptr b, .int .u64 (p : Nat), .pointer none, .pointer none, .int .u64 0, .int .i64 0]) := by
  intro w b h
  have hmf := mk_func
  have c3 := h.c 3 _ rfl
  have c6 := h.c 6 _ rfl
  go_enter Tryz.func38, Tryz.ntmps38
  go_wp2
  go_ret
  exact ⟨rfl, IsVs.new w [ptr b, .int .u64 (p : Nat), .pointer none, .pointer none, .int .u64 0, .int .i64 0] _, (Ch.refl _ _).alloc _⟩
theorem first3 : First E th no 3 id d p 62 (fun b => [ptr b, .pointer none]) := by
  intro w b h
  have hmf := mk_func
  have c3 := h.c 3 _ rfl
  go_enter Tryz.func38, Tryz.ntmps38
  go_wp2
  go_ret
  exact ⟨rfl, IsVs.new w [ptr b, .pointer none] _, (Ch.refl _ _).alloc _⟩
theorem first4 : First E th no 4 id d p 63 (fun b => [ptr b, .int .i64 6, .int .i64 7]) := by
  intro w b h
  have hmf := mk_func
  have c3 := h.c 3 _ rfl
  go_enter Tryz.func38, Tryz.ntmps38
  go_wp2
  go_ret
  exact ⟨rfl, IsVs.new w [ptr b, .int .i64 6, .int .i64 7] _, (Ch.refl _ _).alloc _⟩
theorem first5 : First E th no 5 id d p 63 (fun b => [ptr b, .int .i64 7, .int .i64 8]) := by
  intro w b h
  have hmf := mk_func
  have c3 := h.c 3 _ rfl
  go_enter Tryz.func38, Tryz.ntmps38
  go_wp2
  go_ret
  exact ⟨rfl, IsVs.new w [ptr b, .int .i64 7, .int .i64 8] _, (Ch.refl _ _).alloc _⟩
/-- a new work's places -/
def newX (kb ab pb : Nat) (th no : Int) (d : Value) : Mx := ⟨kb, ab, pb, none, none, th, no, [], d, 0⟩
/-- what Begin leaves ahead of its note: where the work lies -/
structure Begun (E : Ee) (W W' : World) (kb ab pb : Nat) (th no : Int) (kd id d p : Nat) (F : Nat) : Prop where
  kw : Kw E W' (newX kb ab pb th no (.func (.func F) #[ptr ab] #[])) (newW kd id d p)
  n1 : W.heap.size ≤ kb
  c : Ch Nil W W'
set_option maxHeartbeats 4000000 in
theorem begin_gen {kd F : Nat} {vs : Nat → List Value} (hf : First E th no kd id d p F vs) (hv : ∀ kb ab pb, rvV (newX kb ab pb th no (.func (.func F) #[ptr ab] #[])) (newW kd id d p) = vs kb) (h : Bf E S0 w0 W σ n) (hn : n ≤ 90000) :
    Calls Tryz.prog 11 #[ptr E.F.f, .int .i64 th, .int .i64 no, clV kd id d p] W fun e W' => ∃ kb ab pb, e = .returned (.tuple #[ptr kb, .int .i64 0]) ∧ Bo E S0 w0 W' σ (n + 1) (newX kb ab pb th no (.func (.func F) #[ptr ab] #[])) (newW kd id d p) ∧ W.heap.size ≤ kb ∧ kb < ab ∧ ab < pb := by
  have hE := eql_do
  obtain ⟨i1, i2, cA⟩ := boxes2 W (clL kd id d p) (wk0 E th no kd id d p) 38 98 _ rfl
  have I1 := Lib.hid i1
  have I2 := Lib.hid i2
  have CA := Lib.hid cA
  have HF := Lib.hid hf
  have HV := Lib.hid hv
  have H0 := Lib.hid h
  obtain ⟨y0, y1, y2, y3⟩ := (IsVs.new W (clL kd id d p) 38).cells4
  clear h hf hv i1 i2 cA
  go_enter Tryz.func11, Tryz.ntmps11
  go_upto_region 4 with (fail)
  change Hid (IsVs ((W.alloc (.cells #[.int .i64 (kd : Nat), .int .u64 (id : Nat), .int .u64 (d : Nat), .int .u64 (p : Nat)] 38)).alloc (.cells #[ptr E.F.f, .int .i64 th, .int .i64 no, .int .i64 (kd : Nat), .int .u64 (id : Nat), .int .u64 (d : Nat), .int .u64 (p : Nat), .int .i64 0, .bool false, .int .u64 0, .int .u64 0, .slice none 0 0, .pointer none] 98)) _ _) at I1
  change Hid (IsVs ((W.alloc (.cells #[.int .i64 (kd : Nat), .int .u64 (id : Nat), .int .u64 (d : Nat), .int .u64 (p : Nat)] 38)).alloc (.cells #[ptr E.F.f, .int .i64 th, .int .i64 no, .int .i64 (kd : Nat), .int .u64 (id : Nat), .int .u64 (d : Nat), .int .u64 (p : Nat), .int .i64 0, .bool false, .int .u64 0, .int .u64 0, .slice none 0 0, .pointer none] 98)) _ _) at I2
  change Hid (Ch Nil W ((W.alloc (.cells #[.int .i64 (kd : Nat), .int .u64 (id : Nat), .int .u64 (d : Nat), .int .u64 (p : Nat)] 38)).alloc (.cells #[ptr E.F.f, .int .i64 th, .int .i64 no, .int .i64 (kd : Nat), .int .u64 (id : Nat), .int .u64 (d : Nat), .int .u64 (p : Nat), .int .i64 0, .bool false, .int .u64 0, .int .u64 0, .slice none 0 0, .pointer none] 98))) at CA
  generalize (W.alloc (.cells #[.int .i64 (kd : Nat), .int .u64 (id : Nat), .int .u64 (d : Nat), .int .u64 (p : Nat)] 38)).alloc (.cells #[ptr E.F.f, .int .i64 th, .int .i64 no, .int .i64 (kd : Nat), .int .u64 (id : Nat), .int .u64 (d : Nat), .int .u64 (p : Nat), .int .i64 0, .bool false, .int .u64 0, .int .u64 0, .slice none 0 0, .pointer none] 98) = w1 at I1 I2 CA ⊢
  clear y0 y1 y2 y3
  obtain ⟨cb, hcb⟩ : ∃ cb, cb = W.heap.size := ⟨_, rfl⟩
  rw [← hcb] at I1 I2 ⊢
  obtain ⟨kb, hkb⟩ : ∃ kb, kb = cb + 1 := ⟨_, rfl⟩
  rw [← hkb] at I2 ⊢
  have HB := Lib.hid (And.intro hcb hkb)
  clear hcb hkb
  go_wp2_with fail
  refine (HF.out w1 kb I2.out).mono ?_
  rintro e w2 ⟨rfl, v2, c2⟩
  have V2 := Lib.hid v2
  have J1 := Lib.hid (I1.out.kept c2 (fun e => e))
  have J2 := Lib.hid (I2.out.kept c2 (fun e => e))
  have C2 := Lib.hid (CA.out.trans c2)
  have L1 := Lib.hid (show kb < w1.heap.size from I2.out.lt)
  obtain ⟨ab, hab⟩ : ∃ ab, ab = w1.heap.size := ⟨_, rfl⟩
  rw [← hab] at V2 L1 ⊢
  clear v2 c2 hab I1 I2 CA HF
  go_wp2_with fail
  refine (next_fn _ (.inr ⟨_, _, _, rfl⟩) _).mono ?_
  rintro e w3 ⟨rfl, c3⟩
  go_wp2_with fail
  refine (new_any _ _).mono ?_
  rintro e w4 ⟨pb, rfl, hp, c4, hpb⟩
  have C34 := c3.trans c4
  have V4 := Lib.hid (V2.out.kept C34 (fun e => e))
  have K1 := Lib.hid (J1.out.kept C34 (fun e => e))
  have K2 := Lib.hid (J2.out.kept C34 (fun e => e))
  have C4 := Lib.hid (C2.out.trans C34)
  have HP := Lib.hid hp
  have L2 := Lib.hid (show ab < pb from by have := V2.out.lt; have := c3.size; omega)
  have c12 := K2.out.c 12 _ rfl
  have f12 := K2.out.b.fz 12
  clear c3 c4 C34 hp hpb J1 J2 V2 C2
  go_upto_region 8 with (fail)
  have cS : Ch (One kb) w4 (w4.setCell ⟨kb, 12, none⟩ (ptr pb)) := (Ch.refl _ _).setB _ _
  have BG : Hid (Begun E W (w4.setCell ⟨kb, 12, none⟩ (ptr pb)) kb ab pb th no kd id d p F) := Lib.hid (by
    have l1 := L1.out
    have l2 := L2.out
    have hb := HB.out
    refine ⟨⟨K2.out.setAt 12 (ptr pb), ?_, HP.out.kept cS (fun e => by have e' : pb = kb := e; omega), fun b e => (by cases e), fun b e => (by cases e), fun p hp => (by cases hp), l1, l2, fun b e => (by cases e), fun b e => (by cases e), fun p hp => (by cases hp)⟩, by omega, C4.out.then cS (fun i hi e => by have e' : i = kb := e; omega)⟩
    show IsVs _ ab (rvV _ _)
    rw [HV.out]
    exact V4.out.kept cS (fun e => by have e' : ab = kb := e; omega))
  have K3 := Lib.hid (K1.out.kept cS (fun e => by have e' : cb = kb := e; have := HB.out; omega))
  clear c12 f12 cS K1 K2 V4 C4 HP
  generalize w4.setCell ⟨kb, 12, none⟩ (ptr pb) = w5 at BG K3 ⊢
  have B5 := Lib.hid (H0.out.with BG.out.c BG.out.kw (fun j hj => by
    have h1 := BG.out.n1
    have h2 := L1.out
    have h3 := L2.out
    rcases hj with e | e | e | e | e | ⟨p, hp, e⟩
    · have e' : j = kb := e; omega
    · have e' : j = ab := e; omega
    · have e' : j = pb := e; omega
    · cases e
    · cases e
    · cases hp))
  have LL := Lib.hid (And.intro BG.out.n1 (And.intro L1.out L2.out))
  obtain ⟨y0, y1, y2, y3⟩ := K3.out.cells4
  clear BG H0 HV L1 L2 HB
  go_wp2_with fail
  clear y0 y1 y2 y3 K3
  refine (B5.out.knote hn ⟨1, 0, 0, 0, (id : Nat), 0, (d : Nat), (p : Nat), 0, 0⟩).mono ?_
  rintro e w6 ⟨rfl, h6⟩
  have H6 := Lib.hid h6
  clear h6 B5
  go_wp2
  go_ret2
  exact ⟨kb, ab, pb, rfl, H6.out, LL.out.1, LL.out.2.1, LL.out.2.2⟩
/-- a work that begins, of whatever kind -/
theorem begin_any {kd : Nat} (hk : 1 ≤ kd ∧ kd ≤ 5) (h : Bf E S0 w0 W σ n) (hn : n ≤ 90000) :
    Calls Tryz.prog 11 #[ptr E.F.f, .int .i64 th, .int .i64 no, clV kd id d p] W fun e W' => ∃ X, e = .returned (.tuple #[ptr X.kb, .int .i64 0]) ∧ Rt E S0 w0 W' σ (n + 1) X (newW kd id d p) ∧ (∀ j, own X j → W.heap.size ≤ j) := by
  have hown : ∀ {kb ab pb : Nat} {v : Value}, W.heap.size ≤ kb → kb < ab → ab < pb → ∀ j, own (newX kb ab pb th no v) j → W.heap.size ≤ j := fun {kb ab pb v} h1 h2 h3 j hj => by
    rcases hj with e | e | e | e | e | ⟨p, hp, e⟩
    · have e' : j = kb := e; omega
    · have e' : j = ab := e; omega
    · have e' : j = pb := e; omega
    · cases e
    · cases e
    · cases hp
  have hc : kd = 1 ∨ kd = 2 ∨ kd = 3 ∨ kd = 4 ∨ kd = 5 := by omega
  rcases hc with rfl | rfl | rfl | rfl | rfl
  · refine (begin_gen first1 (fun _ _ _ => rfl) h hn).mono ?_
    rintro e w' ⟨kb, ab, pb, rfl, hb, h1, h2, h3⟩
    exact ⟨_, rfl, ⟨hb, ⟨rfl, rfl⟩, by show (0 : Int) ≤ 0 ∧ (0 : Int) ≤ _; omega⟩, hown h1 h2 h3⟩
  · refine (begin_gen first2 (fun _ _ _ => rfl) h hn).mono ?_
    rintro e w' ⟨kb, ab, pb, rfl, hb, h1, h2, h3⟩
    exact ⟨_, rfl, ⟨hb, ⟨rfl, rfl⟩, by show (0 : Int) ≤ 0 ∧ (0 : Int) ≤ _; omega⟩, hown h1 h2 h3⟩
  · refine (begin_gen first3 (fun _ _ _ => rfl) h hn).mono ?_
    rintro e w' ⟨kb, ab, pb, rfl, hb, h1, h2, h3⟩
    exact ⟨_, rfl, ⟨hb, rfl, by show (0 : Int) ≤ 0 ∧ (0 : Int) ≤ _; omega⟩, hown h1 h2 h3⟩
  · refine (begin_gen first4 (fun _ _ _ => rfl) h hn).mono ?_
    rintro e w' ⟨kb, ab, pb, rfl, hb, h1, h2, h3⟩
    exact ⟨_, rfl, ⟨hb, rfl, by show (0 : Int) ≤ 0 ∧ (0 : Int) ≤ _; omega⟩, hown h1 h2 h3⟩
  · refine (begin_gen first5 (fun _ _ _ => rfl) h hn).mono ?_
    rintro e w' ⟨kb, ab, pb, rfl, hb, h1, h2, h3⟩
    exact ⟨_, rfl, ⟨hb, rfl, by show (0 : Int) ≤ 0 ∧ (0 : Int) ≤ _; omega⟩, hown h1 h2 h3⟩
theorem kbegin_nil {kd' : Int} (W : World) :
    Calls Tryz.prog 11 #[.pointer none, .int .i64 th, .int .i64 no, .agg #[.int .i64 kd', .int .u64 (id : Nat), .int .u64 (d : Nat), .int .u64 (p : Nat)]] W fun e W' => e = .returned (.tuple #[.pointer none, .int .i64 6]) ∧ Ch Nil W W' := by
  go_enter Tryz.func11, Tryz.ntmps11
  go_wp2
  go_ret2
  exact ⟨rfl, (Ch.refl _ _).alloc _⟩
theorem first_no {kd' : Int} (hk : kd' < 1 ∨ 5 < kd') (w : World) (b : Nat) (h : w.cell? ⟨b, 3, none⟩ = some (.int .i64 kd')) :
    Calls Tryz.prog 38 #[ptr b] w fun e w' => e = .returned .nilFunc ∧ Ch Nil w w' := by
  have h1 : (kd' == 1) = false := by rw [beq_eq_false_iff_ne]; omega
  have h2 : (kd' == 2) = false := by rw [beq_eq_false_iff_ne]; omega
  have h3 : (kd' == 3) = false := by rw [beq_eq_false_iff_ne]; omega
  have h4 : (kd' == 4) = false := by rw [beq_eq_false_iff_ne]; omega
  have h5 : (kd' == 5) = false := by rw [beq_eq_false_iff_ne]; omega
  clear hk
  go_enter Tryz.func38, Tryz.ntmps38
  go_wp2
  go_ret
  exact ⟨rfl, Ch.refl _ _⟩
set_option maxHeartbeats 1000000 in
theorem begin_no {kd' : Int} (hk : kd' < 1 ∨ 5 < kd') (f : Nat) (W : World) :
    Calls Tryz.prog 11 #[ptr f, .int .i64 th, .int .i64 no, .agg #[.int .i64 kd', .int .u64 (id : Nat), .int .u64 (d : Nat), .int .u64 (p : Nat)]] W fun e W' => e = .returned (.tuple #[.pointer none, .int .i64 1]) ∧ Ch Nil W W' := by
  have hE := eql_do0
  obtain ⟨i1, i2, cA⟩ := boxes2 W [.int .i64 kd', .int .u64 (id : Nat), .int .u64 (d : Nat), .int .u64 (p : Nat)] [ptr f, .int .i64 th, .int .i64 no, .int .i64 kd', .int .u64 (id : Nat), .int .u64 (d : Nat), .int .u64 (p : Nat), .int .i64 0, .bool false, .int .u64 0, .int .u64 0, .slice none 0 0, .pointer none] 38 98 _ rfl
  have CA := Lib.hid cA
  have K3 := Lib.hid (i2.c 3 _ rfl)
  obtain ⟨y0, y1, y2, y3⟩ := (IsVs.new W [.int .i64 kd', .int .u64 (id : Nat), .int .u64 (d : Nat), .int .u64 (p : Nat)] 38).cells4
  have HK := Lib.hid hk
  clear i1 i2 cA hk
  go_enter Tryz.func11, Tryz.ntmps11
  go_wp2_with fail
  clear y0 y1 y2 y3
  refine (first_no HK.out _ _ K3.out).mono ?_
  rintro e w2 ⟨rfl, c2⟩
  have C2 := Lib.hid (CA.out.trans c2)
  clear c2
  go_wp2
  go_ret2
  exact ⟨rfl, C2.out⟩
end
end Go.Proofs.YtnbdafmjcmmfpaaGreat
