/-
  Proved: for every a the statement FiringTicks returns true: the firings of all ticks together are all, and those of a timer at a tick are those of the tick of that timer; and nothing that was there is changed. Conditions: none.
-/
import Derived.Test.YtpihlchocjdpmaaFirAlive
import Derived.Test.YtpihlchocjdpmaaFirTab
import Derived.ProofKit
import Derived.OpenShut
import Derived.ChangeOld
import Derived.Below
namespace Verge
/-- has one of the first k that tick? -/
def tickIn (L : List Fr) (k t : Nat) : Bool := (L.take k).any fun f => f.t == t
/-- how many have a tick of the first k -/
def tickCnt (L : List Fr) (k : Nat) : Nat := (L.filter fun f => tickIn L k f.t).length
theorem tickIn_succ {L : List Fr} {k : Nat} {f : Fr} (h : L[k]? = some f) (t : Nat) : tickIn L (k + 1) t = (tickIn L k t || f.t == t) := by
  unfold tickIn; rw [List.take_add_one, h, List.any_append]; simp
theorem filter_or_len {α : Type} (L : List α) (p q : α → Bool) (h : ∀ x, p x = true → q x = true → False) : (L.filter fun x => p x || q x).length = (L.filter p).length + (L.filter q).length := by
  induction L with
  | nil => rfl
  | cons x L ih =>
    cases hp : p x <;> cases hq : q x <;> simp [hp, hq, ih]
    · omega
    · omega
    · exact (h x hp hq).elim
theorem tickCnt_old {L : List Fr} {k : Nat} {f : Fr} (h : L[k]? = some f) (hi : tickIn L k f.t = true) : tickCnt L (k + 1) = tickCnt L k := by
  unfold tickCnt
  congr 1
  refine List.filter_congr fun x _ => ?_
  rw [tickIn_succ h]
  by_cases e : f.t = x.t
  · rw [← e, hi]; rfl
  · have : (f.t == x.t) = false := by simpa using e
    rw [this, Bool.or_false]
theorem tickCnt_new {L : List Fr} {k : Nat} {f : Fr} (h : L[k]? = some f) (hi : tickIn L k f.t = false) : tickCnt L (k + 1) = tickCnt L k + (L.filter fun x => x.t == f.t).length := by
  unfold tickCnt
  rw [← filter_or_len L _ _ (fun x h1 h2 => by
    simp only [beq_iff_eq] at h2
    rw [h2, hi] at h1
    cases h1)]
  congr 1
  refine List.filter_congr fun x _ => ?_
  rw [tickIn_succ h]
  congr 1
  rw [Bool.eq_iff_iff, beq_iff_eq, beq_iff_eq]
  exact eq_comm
theorem tickCnt_le (L : List Fr) (k : Nat) : tickCnt L k ≤ L.length := List.length_filter_le _ _
theorem tickCnt_zero (L : List Fr) : tickCnt L 0 = 0 := List.length_eq_zero_iff.2 (List.filter_eq_nil_iff.2 (by simp [tickIn]))
theorem tickCnt_all (L : List Fr) : tickCnt L L.length = L.length := by
  unfold tickCnt
  rw [List.filter_eq_self.2 fun x hx => ?_]
  unfold tickIn
  rw [List.take_length, List.any_eq_true]
  exact ⟨x, hx, by simp⟩
theorem filter_comm (L : List Fr) (p q : Fr → Bool) : (L.filter p).filter q = (L.filter q).filter p := by
  rw [List.filter_filter, List.filter_filter]
  exact List.filter_congr fun x _ => Bool.and_comm _ _
end Verge
namespace Go.Proofs.Ytpihlchocjdpmaa
open Go.ChangeShapes Go.WideShapes Go.ChangeAt Go.RowKit Verge Go.Maps
set_option linter.unusedVariables false
set_option linter.unusedSimpArgs false
attribute [local go_sem] Oper.semAt_some

/-- between two rounds -/
structure TkIn (w : World) (L : List Fr) (lb mb : Nat) (a : Option Addr) (cap k m : Nat) (wr : World) : Prop where
  log : IsLog wr lb a cap L
  mp : MapU wr mb k (tickIn L k)
  cnt : m = tickCnt L k
  c : Ch Nil w wr
  lo : w.heap.size ≤ mb
  ap : ¬ LgS lb a mb
theorem TkIn.kept {w wr W : World} {L : List Fr} {lb mb cap k m : Nat} {a : Option Addr} (h : TkIn w L lb mb a cap k m wr) (c : Ch Nil wr W) : TkIn w L lb mb a cap k m W :=
  ⟨h.log.kept c (fun _ _ e => e), h.mp.kept c (fun e => e), h.cnt, h.c.trans c, h.lo, h.ap⟩
/-- a tick is marked -/
theorem TkIn.marked {w wr W : World} {L : List Fr} {lb mb cap k m m' : Nat} {a : Option Addr} {f : Fr} (h : TkIn w L lb mb a cap k m wr) (hf : L[k]? = some f)
    (hm : MapU W mb (k + 1) (fun j => if j = f.t then true else tickIn L k j)) (c : Ch (One mb) wr W) (hc : m' = tickCnt L (k + 1)) : TkIn w L lb mb a cap (k + 1) m' W := by
  refine ⟨h.log.kept c (fun k hk e => h.ap (by rw [← show k = mb from e]; exact hk)), ?_, hc, h.c.then c (fun i hi e => by have := h.lo; have e2 : i = mb := e; omega), h.lo, h.ap⟩
  have e : tickIn L (k + 1) = fun j => if j = f.t then true else tickIn L k j := by
    funext j
    rw [tickIn_succ hf]
    by_cases e : j = f.t
    · subst e; simp
    · rw [if_neg e]
      have : (f.t == j) = false := by rw [beq_eq_false_iff_ne]; exact fun x => e x.symm
      rw [this, Bool.or_false]
  rw [e]; exact hm

set_option maxRecDepth 100000 in
set_option maxHeartbeats 4000000 in
theorem FiringTicks_walk (ad : Option Addr) (len cap : Nat) (w : World) (hv : IsTab [.i .u64, .i .u64, .i .u64, .i .u64] w ad len cap) :
    Calls Try.prog 7 #[.slice ad len cap] w fun e w' => e = .returned (.bool true) ∧ Below w.heap.size w w' := by
  obtain ⟨L, hlen, src, oks, hc0, hlc, hcm⟩ := Src.of_tab hv
  have HS := Lib.hid src
  have HO := Lib.hid oks
  have HL := Lib.hid hlen.symm
  have HC0 := Lib.hid hc0
  have hmm := @run_makeMap Try.prog
  clear hv src oks hlen hc0
  go_enter Try.func7, Try.ntmps7
  go_wp2_with fail
  refine (alive_any _).mono ?_
  rintro e w1 ⟨rfl, c1⟩
  have C1 := Lib.hid c1
  clear c1
  by_cases h200 : 100 < len
  · have hz : (100 : Int) < (len : Int) := by omega
    go_wp2
    go_ret
    exact ⟨rfl, C1.out.below (Nat.le_refl _) (fun _ _ e => e.elim)⟩
  · have hz : (len : Int) ≤ 100 := by omega
    have S1 := Lib.hid (HS.out.kept C1.out (fun _ _ e => e))
    go_wp2_with fail
    refine (new_of w1).mono ?_
    rintro e w2 ⟨rfl, l2, c2⟩
    have L2 := Lib.hid l2
    have S2 := Lib.hid (S1.out.kept c2 (fun _ _ e => e))
    have C2 := Lib.hid (C1.out.trans c2)
    have HLB := Lib.hid C1.out.size
    generalize w1.heap.size = lb at *
    clear l2 c2 C1 S1
    go_wp2_with fail
    have hput := put_of L2.out S2.out HC0.out (by simp) (by have := HL.out; omega)
    rw [← HL.out] at hput
    refine hput.mono ?_
    rintro e w3 ⟨a3, cap3, rfl, l3, c3, own3⟩
    have L3 := Lib.hid l3
    have C3 := Lib.hid (C2.out.then c3 (fun i hi e => by
      rcases e with h | h
      · have := HLB.out; omega
      · cases h))
    clear l3 c3 own3 hput L2 C2 S2
    have hm3 := L3.out.lt
    have M3 := Lib.hid (show ¬ LgS lb a3 w3.heap.size from fun e => Nat.lt_irrefl _ (hm3 _ e))
    have START : Hid (TkIn w L lb w3.heap.size a3 cap3 0 0 (w3.alloc (.map #[] 0))) := Lib.hid ⟨L3.out.kept (S := Nil) ((Ch.refl _ _).alloc _) (fun _ _ e => e), (by have := MapK.new (kt := 23) (kv := tkv) (ok := fun k => k < 18446744073709551616) w3; exact this), (tickCnt_zero L).symm, C3.out.alloc _, C3.out.size, M3.out⟩
    clear hm3 M3 C3 L3 HLB
    go_wp2_with fail
    generalize w3.heap.size = mb at START ⊢
    go_loopw [6, 5] (fun i v wr => ∃ (k m : Nat), k ≤ len ∧ i = .int .i64 (k : Nat) ∧ v = .int .i64 (m : Nat) ∧ Hid (TkIn w L lb mb a3 cap3 k m wr)) (fun i _ _ => len - (intOf i).toNat)
    case atStart => exact ⟨0, 0, by omega, rfl, rfl, START⟩
    case round =>
      obtain ⟨k, m, hk, rfl, rfl, HR⟩ := hrel
      by_cases hlt : k < len
      · obtain ⟨b1, o1, rfl, -, k1⟩ := HS.out.form (by rw [← HL.out]; omega)
        obtain ⟨f, hf⟩ : ∃ f, L[k]? = some f := ⟨_, List.getElem?_eq_getElem (by rw [← HL.out]; exact hlt)⟩
        have src := src_cells k1 hf
        obtain ⟨f0, -, -, f3⟩ := src
        have g0 := HR.out.c.keeps f0 (fun e => e)
        have g3 := HR.out.c.keeps f3 (fun e => e)
        have F0 := Lib.hid f0
        have F3 := Lib.hid f3
        have hkz : (k : Int) < (len : Int) := by omega
        have hkz0 : (0 : Int) ≤ (k : Int) := by omega
        have HF := Lib.hid hf
        obtain ⟨ok0, ok1, ok2, ok3⟩ := HO.out f (List.mem_of_getElem? hf)
        have lk := HR.out.mp.look keyed_u64 Try.underlying46 f.t ok3 (key_u64 f.t ok3)
        simp only [tkv] at lk
        have hcl : m ≤ len := by have := HR.out.cnt; have := tickCnt_le L k; have := HL.out; omega
        clear k1 hf f0 f3
        generalize ht : tickIn L k f.t = there at lk
        have HT := Lib.hid ht
        clear ht
        cases there with
        | true =>
          have HX := Lib.hid (tickCnt_old HF.out HT.out)
          obtain ⟨w4, hrun4, m4, c4⟩ := MapK.put HR.out.mp keyed_u64 Try.underlying46 tkv_inj f.t (key_u64 f.t ok3) (by omega)
          simp only [tkv] at hrun4
          have M4 := Lib.hid (HR.out.marked HF.out m4 c4 (m' := m) (by rw [HX.out]; exact HR.out.cnt))
          clear m4 c4
          go_upto_region 17 with (fail)
          have u0 := M4.out.c.keeps F0.out (fun e => e)
          have u3 := M4.out.c.keeps F3.out (fun e => e)
          refine wp_region_held_drew (S := fun w' => w'.cell? ⟨b1, o1 + k * 4, none⟩ = some (.int .u64 (f.i : Nat)) ∧ w'.cell? ⟨b1, o1 + k * 4 + 3, none⟩ = some (.int .u64 (f.t : Nat))) (by kernel_rfl) ⟨u0, u3⟩ (fun hHeld => ?_)
          have D0 := Lib.hid (M4.out.kept (Ch.refl Nil _).drew)
          clear u0 u3 hrun4 M4 HR
          generalize w4.drew = X0 at hHeld D0 ⊢
          refine take_at (v := ?_) 0 (some 49) rfl (by kernel_rfl) (by kernel_rfl) (by kernel_rfl) (by kernel_rfl) (fun _ _ _ h => h) (Or.inl ⟨by rfl, ?_⟩) (by assumption) ?_
          rotate_left
          · intro w hSw; (try dsimp only at hSw); go_simp; try (with_reducible rfl)
          (try simp only [Act.put, List.setIfInBounds_toArray, List.set_cons_zero, List.set_cons_succ])
          refine take_at (v := ?_) 1 (some 50) rfl (by kernel_rfl) (by kernel_rfl) (by kernel_rfl) (by kernel_rfl) (fun _ _ _ h => h) (Or.inl ⟨by rfl, ?_⟩) (by assumption) ?_
          rotate_left
          · intro w hSw; (try dsimp only at hSw); go_simp; try (with_reducible rfl)
          (try simp only [Act.put, List.setIfInBounds_toArray, List.set_cons_zero, List.set_cons_succ])
          refine take_at (v := ?_) 2 (some 51) rfl (by kernel_rfl) (by kernel_rfl) (by kernel_rfl) (by kernel_rfl) (fun _ _ _ h => h) (Or.inl ⟨by rfl, ?_⟩) (by assumption) ?_
          rotate_left
          · intro w hSw; (try dsimp only at hSw); go_simp; try (with_reducible rfl)
          (try simp only [Act.put, List.setIfInBounds_toArray, List.set_cons_zero, List.set_cons_succ])
          refine take_at (v := ?_) 3 (some 52) rfl (by kernel_rfl) (by kernel_rfl) (by kernel_rfl) (by kernel_rfl) (fun _ _ _ h => h) (Or.inl ⟨by rfl, ?_⟩) (by assumption) ?_
          rotate_left
          · intro w hSw; (try dsimp only at hSw); go_simp; try (with_reducible rfl)
          (try simp only [Act.put, List.setIfInBounds_toArray, List.set_cons_zero, List.set_cons_succ])
          refine take_at (v := ?_) 4 (some 53) rfl (by kernel_rfl) (by kernel_rfl) (by kernel_rfl) (by kernel_rfl) (fun _ _ _ h => h) (Or.inl ⟨by rfl, ?_⟩) (by assumption) ?_
          rotate_left
          · intro w hSw; (try dsimp only at hSw); go_simp; try (with_reducible rfl)
          (try simp only [Act.put, List.setIfInBounds_toArray, List.set_cons_zero, List.set_cons_succ])
          refine take_at (v := ?_) 5 (some 54) rfl (by kernel_rfl) (by kernel_rfl) (by kernel_rfl) (by kernel_rfl) (fun _ _ _ h => h) (Or.inl ⟨by rfl, ?_⟩) (by assumption) ?_
          rotate_left
          · intro w hSw; (try dsimp only at hSw); go_simp; try (with_reducible rfl)
          (try simp only [Act.put, List.setIfInBounds_toArray, List.set_cons_zero, List.set_cons_succ])
          refine take_at (v := ?_) 7 (some 56) rfl (by kernel_rfl) (by kernel_rfl) (by kernel_rfl) (by kernel_rfl) (fun _ _ _ h => h) (Or.inl ⟨by rfl, ?_⟩) (by assumption) ?_
          rotate_left
          · intro w hSw; (try dsimp only at hSw); go_simp; try (with_reducible rfl)
          (try simp only [Act.put, List.setIfInBounds_toArray, List.set_cons_zero, List.set_cons_succ])
          refine take_at (v := ?_) 8 (some 57) rfl (by kernel_rfl) (by kernel_rfl) (by kernel_rfl) (by kernel_rfl) (fun _ _ _ h => h) (Or.inl ⟨by rfl, ?_⟩) (by assumption) ?_
          rotate_left
          · intro w hSw; (try dsimp only at hSw); go_simp; try (with_reducible rfl)
          (try simp only [Act.put, List.setIfInBounds_toArray, List.set_cons_zero, List.set_cons_succ])
          refine take_at (v := ?_) 9 (some 58) rfl (by kernel_rfl) (by kernel_rfl) (by kernel_rfl) (by kernel_rfl) (fun _ _ _ h => h) (Or.inl ⟨by rfl, ?_⟩) (by assumption) ?_
          rotate_left
          · intro w hSw; (try dsimp only at hSw); go_simp; try (with_reducible rfl)
          (try simp only [Act.put, List.setIfInBounds_toArray, List.set_cons_zero, List.set_cons_succ])
          refine take_at (v := ?_) 10 (some 59) rfl (by kernel_rfl) (by kernel_rfl) (by kernel_rfl) (by kernel_rfl) (fun _ _ _ h => h) (Or.inl ⟨by rfl, ?_⟩) (by assumption) ?_
          rotate_left
          · intro w hSw; (try dsimp only at hSw); go_simp; try (with_reducible rfl)
          (try simp only [Act.put, List.setIfInBounds_toArray, List.set_cons_zero, List.set_cons_succ])
          refine take_at (v := ?_) 11 (some 60) rfl (by kernel_rfl) (by kernel_rfl) (by kernel_rfl) (by kernel_rfl) (fun _ _ _ h => h) (Or.inl ⟨by rfl, ?_⟩) (by assumption) ?_
          rotate_left
          · intro w hSw; (try dsimp only at hSw); go_simp; try (with_reducible rfl)
          (try simp only [Act.put, List.setIfInBounds_toArray, List.set_cons_zero, List.set_cons_succ])
          refine take_at (v := ?_) 13 (some 62) rfl (by kernel_rfl) (by kernel_rfl) (by kernel_rfl) (by kernel_rfl) (fun _ _ _ h => h) (Or.inl ⟨by rfl, ?_⟩) (by assumption) ?_
          rotate_left
          · intro w hSw; (try dsimp only at hSw); go_simp; try (with_reducible rfl)
          (try simp only [Act.put, List.setIfInBounds_toArray, List.set_cons_zero, List.set_cons_succ])
          refine take_at (v := ?_) 14 (some 63) rfl (by kernel_rfl) (by kernel_rfl) (by kernel_rfl) (by kernel_rfl) (fun _ _ _ h => h) (Or.inl ⟨by rfl, ?_⟩) (by assumption) ?_
          rotate_left
          · intro w hSw; (try dsimp only at hSw); go_simp; try (with_reducible rfl)
          (try simp only [Act.put, List.setIfInBounds_toArray, List.set_cons_zero, List.set_cons_succ])
          refine take_at (v := ?_) 15 (some 64) rfl (by kernel_rfl) (by kernel_rfl) (by kernel_rfl) (by kernel_rfl) (fun _ _ _ h => h) (Or.inl ⟨by rfl, ?_⟩) (by assumption) ?_
          rotate_left
          · intro w hSw; (try dsimp only at hSw); go_simp; try (with_reducible rfl)
          (try simp only [Act.put, List.setIfInBounds_toArray, List.set_cons_zero, List.set_cons_succ])
          refine take_at (v := ?_) 16 (some 65) rfl (by kernel_rfl) (by kernel_rfl) (by kernel_rfl) (by kernel_rfl) (fun _ _ _ h => h) (Or.inl ⟨by rfl, ?_⟩) (by assumption) ?_
          rotate_left
          · intro w hSw; (try dsimp only at hSw); go_simp; try (with_reducible rfl)
          (try simp only [Act.put, List.setIfInBounds_toArray, List.set_cons_zero, List.set_cons_succ])
          refine take_at (v := ?_) 17 (some 66) rfl (by kernel_rfl) (by kernel_rfl) (by kernel_rfl) (by kernel_rfl) (fun _ _ _ h => h) (Or.inl ⟨by rfl, ?_⟩) (by assumption) ?_
          rotate_left
          · intro w hSw; (try dsimp only at hSw); go_simp; try (with_reducible rfl)
          (try simp only [Act.put, List.setIfInBounds_toArray, List.set_cons_zero, List.set_cons_succ])
          refine take_at (v := ?_) 18 (some 67) rfl (by kernel_rfl) (by kernel_rfl) (by kernel_rfl) (by kernel_rfl) (fun _ _ _ h => h) (Or.inl ⟨by rfl, ?_⟩) (by assumption) ?_
          rotate_left
          · intro w hSw; (try dsimp only at hSw); go_simp; try (with_reducible rfl)
          (try simp only [Act.put, List.setIfInBounds_toArray, List.set_cons_zero, List.set_cons_succ])
          refine take_at (v := ?_) 20 (some 69) rfl (by kernel_rfl) (by kernel_rfl) (by kernel_rfl) (by kernel_rfl) (fun _ _ _ h => h) (Or.inl ⟨by rfl, ?_⟩) (by assumption) ?_
          rotate_left
          · intro w hSw; (try dsimp only at hSw); go_simp; try (with_reducible rfl)
          (try simp only [Act.put, List.setIfInBounds_toArray, List.set_cons_zero, List.set_cons_succ])
          refine take_at (v := ?_) 21 (some 70) rfl (by kernel_rfl) (by kernel_rfl) (by kernel_rfl) (by kernel_rfl) (fun _ _ _ h => h) (Or.inl ⟨by rfl, ?_⟩) (by assumption) ?_
          rotate_left
          · intro w hSw; (try dsimp only at hSw); go_simp; try (with_reducible rfl)
          (try simp only [Act.put, List.setIfInBounds_toArray, List.set_cons_zero, List.set_cons_succ])
          refine take_at (v := ?_) 22 (some 71) rfl (by kernel_rfl) (by kernel_rfl) (by kernel_rfl) (by kernel_rfl) (fun _ _ _ h => h) (Or.inl ⟨by rfl, ?_⟩) (by assumption) ?_
          rotate_left
          · intro w hSw; (try dsimp only at hSw); go_simp; try (with_reducible rfl)
          (try simp only [Act.put, List.setIfInBounds_toArray, List.set_cons_zero, List.set_cons_succ])
          refine take_at (v := ?_) 23 (some 72) rfl (by kernel_rfl) (by kernel_rfl) (by kernel_rfl) (by kernel_rfl) (fun _ _ _ h => h) (Or.inl ⟨by rfl, ?_⟩) (by assumption) ?_
          rotate_left
          · intro w hSw; (try dsimp only at hSw); go_simp; try (with_reducible rfl)
          (try simp only [Act.put, List.setIfInBounds_toArray, List.set_cons_zero, List.set_cons_succ])
          refine take_at (v := ?_) 24 (some 73) rfl (by kernel_rfl) (by kernel_rfl) (by kernel_rfl) (by kernel_rfl) (fun _ _ _ h => h) (Or.inl ⟨by rfl, ?_⟩) (by assumption) ?_
          rotate_left
          · intro w hSw; (try dsimp only at hSw); go_simp; try (with_reducible rfl)
          (try simp only [Act.put, List.setIfInBounds_toArray, List.set_cons_zero, List.set_cons_succ])
          refine wpAnyH_ready (rs := [6]) (by kernel_rfl) (by simp) ?_
          refine AllReadyH.cons rfl (fun K hK => ?_) AllReadyH.nil
          go_simp
          have AT := at_of f.t D0.out.log.at_ (fun k hk => D0.out.log.lt k (.inr hk)) (by have := HL.out; omega)
          obtain ⟨Q1, hQ1⟩ : ∃ Q, Q = L.filter (fun x => x.t == f.t) := ⟨_, rfl⟩
          have HQ1l := Lib.hid (show Q1.length ≤ 1000000 by rw [hQ1]; exact Nat.le_trans (List.length_filter_le _ _) (by have := HL.out; omega))
          rw [← hQ1] at AT
          have HQ1 := Lib.hid hQ1
          clear hQ1
          obtain ⟨n1, hn1⟩ : ∃ n, n = Q1.length := ⟨_, rfl⟩
          rw [← hn1] at AT
          have HN1 := Lib.hid hn1
          clear hn1
          refine AT.mono ?_
          clear AT
          rintro e X1 ⟨x1, z1, rfl, r1, -, c1⟩
          have D1 := Lib.hid (D0.out.kept c1)
          have R1 := Lib.hid r1
          refine hK.out _ _ ⟨D1.out.c.keeps F0.out (fun e => e), D1.out.c.keeps F3.out (fun e => e)⟩ (fun hHeld => ?_)
          clear hK K r1 c1
          (try simp only [Act.put, List.setIfInBounds_toArray, List.set_cons_zero, List.set_cons_succ])
          refine wpAnyH_ready (rs := [12]) (by kernel_rfl) (by simp) ?_
          refine AllReadyH.cons rfl (fun K hK => ?_) AllReadyH.nil
          go_simp
          have AT := refOf_of f.i (c1 := z1) (FRow.src R1.out) HQ1l.out
          obtain ⟨Q2, hQ1⟩ : ∃ Q, Q = Q1.filter (fun x => x.i == f.i) := ⟨_, rfl⟩
          have HQ2l := Lib.hid (show Q2.length ≤ 1000000 by rw [hQ1]; exact Nat.le_trans (List.length_filter_le _ _) HQ1l.out)
          rw [← hQ1, ← HN1.out] at AT
          have HQ2 := Lib.hid hQ1
          clear hQ1
          obtain ⟨n2, hn1⟩ : ∃ n, n = Q2.length := ⟨_, rfl⟩
          rw [← hn1] at AT
          have HN2 := Lib.hid hn1
          clear hn1
          refine AT.mono ?_
          clear AT
          rintro e X2 ⟨x2, z2, rfl, r2, -, c2⟩
          have D2 := Lib.hid (D1.out.kept c2)
          have R2 := Lib.hid r2
          refine hK.out _ _ ⟨D2.out.c.keeps F0.out (fun e => e), D2.out.c.keeps F3.out (fun e => e)⟩ (fun hHeld => ?_)
          clear hK K r2 c2
          (try simp only [Act.put, List.setIfInBounds_toArray, List.set_cons_zero, List.set_cons_succ])
          refine wpAnyH_ready (rs := [19]) (by kernel_rfl) (by simp) ?_
          refine AllReadyH.cons rfl (fun K hK => ?_) AllReadyH.nil
          go_simp
          have AT := of_of f.i D2.out.log.at_ (fun k hk => D2.out.log.lt k (.inr hk)) (by have := HL.out; omega)
          obtain ⟨Q3, hQ1⟩ : ∃ Q, Q = L.filter (fun x => x.i == f.i) := ⟨_, rfl⟩
          have HQ3l := Lib.hid (show Q3.length ≤ 1000000 by rw [hQ1]; exact Nat.le_trans (List.length_filter_le _ _) (by have := HL.out; omega))
          rw [← hQ1] at AT
          have HQ3 := Lib.hid hQ1
          clear hQ1
          obtain ⟨n3, hn1⟩ : ∃ n, n = Q3.length := ⟨_, rfl⟩
          rw [← hn1] at AT
          have HN3 := Lib.hid hn1
          clear hn1
          refine AT.mono ?_
          clear AT
          rintro e X3 ⟨x3, z3, rfl, r3, -, c3⟩
          have D3 := Lib.hid (D2.out.kept c3)
          have R3 := Lib.hid r3
          have R23 := Lib.hid (Row.kept R2.out c3 (fun _ _ e => e))
          refine hK.out _ _ ⟨D3.out.c.keeps F0.out (fun e => e), D3.out.c.keeps F3.out (fun e => e)⟩ (fun hHeld => ?_)
          clear hK K r3 c3
          (try simp only [Act.put, List.setIfInBounds_toArray, List.set_cons_zero, List.set_cons_succ])
          refine wpAnyH_ready (rs := [25]) (by kernel_rfl) (by simp) ?_
          refine AllReadyH.cons rfl (fun K hK => ?_) AllReadyH.nil
          go_simp
          have AT := refAt_of f.t (c1 := z3) (FRow.src R3.out) HQ3l.out
          obtain ⟨Q4, hQ1⟩ : ∃ Q, Q = Q3.filter (fun x => x.t == f.t) := ⟨_, rfl⟩
          have HQ4l := Lib.hid (show Q4.length ≤ 1000000 by rw [hQ1]; exact Nat.le_trans (List.length_filter_le _ _) HQ3l.out)
          rw [← hQ1, ← HN3.out] at AT
          obtain rfl : Q2 = Q4 := by rw [HQ2.out, hQ1, HQ1.out, HQ3.out]; exact filter_comm _ _ _
          clear hQ1
          rw [← HN2.out] at AT
          refine AT.mono ?_
          clear AT
          rintro e X4 ⟨x4, z4, rfl, r4, -, c4⟩
          have D4 := Lib.hid (D3.out.kept c4)
          have R4 := Lib.hid r4
          have R24 := Lib.hid (Row.kept R23.out c4 (fun _ _ e => e))
          refine hK.out _ _ ⟨D4.out.c.keeps F0.out (fun e => e), D4.out.c.keeps F3.out (fun e => e)⟩ (fun hHeld => ?_)
          clear hK K r4 c4
          (try simp only [Act.put, List.setIfInBounds_toArray, List.set_cons_zero, List.set_cons_succ])
          refine wpAnyH_ready (rs := [26]) (by kernel_rfl) (by simp) ?_
          refine AllReadyH.cons rfl (fun K hK => ?_) AllReadyH.nil
          go_simp
          have AT := same_of (c1 := z2) (c2 := z4) (FRow.src R24.out) (FRow.src R4.out) HQ2l.out HQ2l.out
          rw [← HN2.out, decide_eq_true (rfl : Q2 = Q2)] at AT
          refine AT.mono ?_
          clear AT
          rintro e X5 ⟨rfl, c5⟩
          have D5 := Lib.hid (D4.out.kept c5)
          refine hK.out _ _ ⟨D5.out.c.keeps F0.out (fun e => e), D5.out.c.keeps F3.out (fun e => e)⟩ (fun hHeld => ?_)
          clear hK K c5
          (try simp only [Act.put, List.setIfInBounds_toArray, List.set_cons_zero, List.set_cons_succ])
          refine take_at (v := ?_) 27 (some 76) rfl (by kernel_rfl) (by kernel_rfl) (by kernel_rfl) (by kernel_rfl) (fun _ _ _ h => h) (Or.inl ⟨by rfl, ?_⟩) (by assumption) ?_
          rotate_left
          · intro w hSw; (try dsimp only at hSw); go_simp; try (with_reducible rfl)
          (try simp only [Act.put, List.setIfInBounds_toArray, List.set_cons_zero, List.set_cons_succ])
          refine wpAnyH_done (by kernel_rfl) ?_ _
          clear hHeld
          go_wp2
          go_roundw
          case rel => exact ⟨k + 1, m, by omega, by go_num, by go_num, D5⟩
          case measure => simp [intOf]; omega
        | false =>
          have HX := Lib.hid (tickCnt_new HF.out HT.out)
          go_wp2_with fail
          refine (at_of f.t HR.out.log.at_ (fun k hk => HR.out.log.lt k (.inr hk)) (by have := HL.out; omega)).mono ?_
          rintro e w3 ⟨a5, cap5, rfl, -, -, c5⟩
          have R3 := Lib.hid (HR.out.kept c5)
          have HQ := Lib.hid (show m + (L.filter fun x => x.t == f.t).length ≤ len by have h1 := HX.out; have h2 := HR.out.cnt; have h3 := tickCnt_le L (k + 1); have h4 := HL.out; omega)
          have HX2 := Lib.hid (show m + (L.filter fun x => x.t == f.t).length = tickCnt L (k + 1) by have h1 := HX.out; have h2 := HR.out.cnt; omega)
          have g0 := c5.keeps g0 (fun e => e)
          have g3 := c5.keeps g3 (fun e => e)
          generalize (L.filter fun x => x.t == f.t).length = q at HQ HX2 ⊢
          have hmq : (m : Int) + (q : Int) ≤ 100 := by have := HQ.out; omega
          have hmq0 : (0 : Int) ≤ (m : Int) + (q : Int) := by omega
          obtain ⟨w4, hrun4, m4, c4⟩ := MapK.put R3.out.mp keyed_u64 Try.underlying46 tkv_inj f.t (key_u64 f.t ok3) (by omega)
          simp only [tkv] at hrun4
          have M4 := Lib.hid (R3.out.marked HF.out m4 c4 (m' := m + q) HX2.out)
          clear m4 c4 c5 lk HX HX2 HQ R3
          go_upto_region 17 with (fail)
          have u0 := M4.out.c.keeps F0.out (fun e => e)
          have u3 := M4.out.c.keeps F3.out (fun e => e)
          refine wp_region_held_drew (S := fun w' => w'.cell? ⟨b1, o1 + k * 4, none⟩ = some (.int .u64 (f.i : Nat)) ∧ w'.cell? ⟨b1, o1 + k * 4 + 3, none⟩ = some (.int .u64 (f.t : Nat))) (by kernel_rfl) ⟨u0, u3⟩ (fun hHeld => ?_)
          have D0 := Lib.hid (M4.out.kept (Ch.refl Nil _).drew)
          clear u0 u3 hrun4 M4 HR
          generalize w4.drew = X0 at hHeld D0 ⊢
          refine take_at (v := ?_) 0 (some 49) rfl (by kernel_rfl) (by kernel_rfl) (by kernel_rfl) (by kernel_rfl) (fun _ _ _ h => h) (Or.inl ⟨by rfl, ?_⟩) (by assumption) ?_
          rotate_left
          · intro w hSw; (try dsimp only at hSw); go_simp; try (with_reducible rfl)
          (try simp only [Act.put, List.setIfInBounds_toArray, List.set_cons_zero, List.set_cons_succ])
          refine take_at (v := ?_) 1 (some 50) rfl (by kernel_rfl) (by kernel_rfl) (by kernel_rfl) (by kernel_rfl) (fun _ _ _ h => h) (Or.inl ⟨by rfl, ?_⟩) (by assumption) ?_
          rotate_left
          · intro w hSw; (try dsimp only at hSw); go_simp; try (with_reducible rfl)
          (try simp only [Act.put, List.setIfInBounds_toArray, List.set_cons_zero, List.set_cons_succ])
          refine take_at (v := ?_) 2 (some 51) rfl (by kernel_rfl) (by kernel_rfl) (by kernel_rfl) (by kernel_rfl) (fun _ _ _ h => h) (Or.inl ⟨by rfl, ?_⟩) (by assumption) ?_
          rotate_left
          · intro w hSw; (try dsimp only at hSw); go_simp; try (with_reducible rfl)
          (try simp only [Act.put, List.setIfInBounds_toArray, List.set_cons_zero, List.set_cons_succ])
          refine take_at (v := ?_) 3 (some 52) rfl (by kernel_rfl) (by kernel_rfl) (by kernel_rfl) (by kernel_rfl) (fun _ _ _ h => h) (Or.inl ⟨by rfl, ?_⟩) (by assumption) ?_
          rotate_left
          · intro w hSw; (try dsimp only at hSw); go_simp; try (with_reducible rfl)
          (try simp only [Act.put, List.setIfInBounds_toArray, List.set_cons_zero, List.set_cons_succ])
          refine take_at (v := ?_) 4 (some 53) rfl (by kernel_rfl) (by kernel_rfl) (by kernel_rfl) (by kernel_rfl) (fun _ _ _ h => h) (Or.inl ⟨by rfl, ?_⟩) (by assumption) ?_
          rotate_left
          · intro w hSw; (try dsimp only at hSw); go_simp; try (with_reducible rfl)
          (try simp only [Act.put, List.setIfInBounds_toArray, List.set_cons_zero, List.set_cons_succ])
          refine take_at (v := ?_) 5 (some 54) rfl (by kernel_rfl) (by kernel_rfl) (by kernel_rfl) (by kernel_rfl) (fun _ _ _ h => h) (Or.inl ⟨by rfl, ?_⟩) (by assumption) ?_
          rotate_left
          · intro w hSw; (try dsimp only at hSw); go_simp; try (with_reducible rfl)
          (try simp only [Act.put, List.setIfInBounds_toArray, List.set_cons_zero, List.set_cons_succ])
          refine take_at (v := ?_) 7 (some 56) rfl (by kernel_rfl) (by kernel_rfl) (by kernel_rfl) (by kernel_rfl) (fun _ _ _ h => h) (Or.inl ⟨by rfl, ?_⟩) (by assumption) ?_
          rotate_left
          · intro w hSw; (try dsimp only at hSw); go_simp; try (with_reducible rfl)
          (try simp only [Act.put, List.setIfInBounds_toArray, List.set_cons_zero, List.set_cons_succ])
          refine take_at (v := ?_) 8 (some 57) rfl (by kernel_rfl) (by kernel_rfl) (by kernel_rfl) (by kernel_rfl) (fun _ _ _ h => h) (Or.inl ⟨by rfl, ?_⟩) (by assumption) ?_
          rotate_left
          · intro w hSw; (try dsimp only at hSw); go_simp; try (with_reducible rfl)
          (try simp only [Act.put, List.setIfInBounds_toArray, List.set_cons_zero, List.set_cons_succ])
          refine take_at (v := ?_) 9 (some 58) rfl (by kernel_rfl) (by kernel_rfl) (by kernel_rfl) (by kernel_rfl) (fun _ _ _ h => h) (Or.inl ⟨by rfl, ?_⟩) (by assumption) ?_
          rotate_left
          · intro w hSw; (try dsimp only at hSw); go_simp; try (with_reducible rfl)
          (try simp only [Act.put, List.setIfInBounds_toArray, List.set_cons_zero, List.set_cons_succ])
          refine take_at (v := ?_) 10 (some 59) rfl (by kernel_rfl) (by kernel_rfl) (by kernel_rfl) (by kernel_rfl) (fun _ _ _ h => h) (Or.inl ⟨by rfl, ?_⟩) (by assumption) ?_
          rotate_left
          · intro w hSw; (try dsimp only at hSw); go_simp; try (with_reducible rfl)
          (try simp only [Act.put, List.setIfInBounds_toArray, List.set_cons_zero, List.set_cons_succ])
          refine take_at (v := ?_) 11 (some 60) rfl (by kernel_rfl) (by kernel_rfl) (by kernel_rfl) (by kernel_rfl) (fun _ _ _ h => h) (Or.inl ⟨by rfl, ?_⟩) (by assumption) ?_
          rotate_left
          · intro w hSw; (try dsimp only at hSw); go_simp; try (with_reducible rfl)
          (try simp only [Act.put, List.setIfInBounds_toArray, List.set_cons_zero, List.set_cons_succ])
          refine take_at (v := ?_) 13 (some 62) rfl (by kernel_rfl) (by kernel_rfl) (by kernel_rfl) (by kernel_rfl) (fun _ _ _ h => h) (Or.inl ⟨by rfl, ?_⟩) (by assumption) ?_
          rotate_left
          · intro w hSw; (try dsimp only at hSw); go_simp; try (with_reducible rfl)
          (try simp only [Act.put, List.setIfInBounds_toArray, List.set_cons_zero, List.set_cons_succ])
          refine take_at (v := ?_) 14 (some 63) rfl (by kernel_rfl) (by kernel_rfl) (by kernel_rfl) (by kernel_rfl) (fun _ _ _ h => h) (Or.inl ⟨by rfl, ?_⟩) (by assumption) ?_
          rotate_left
          · intro w hSw; (try dsimp only at hSw); go_simp; try (with_reducible rfl)
          (try simp only [Act.put, List.setIfInBounds_toArray, List.set_cons_zero, List.set_cons_succ])
          refine take_at (v := ?_) 15 (some 64) rfl (by kernel_rfl) (by kernel_rfl) (by kernel_rfl) (by kernel_rfl) (fun _ _ _ h => h) (Or.inl ⟨by rfl, ?_⟩) (by assumption) ?_
          rotate_left
          · intro w hSw; (try dsimp only at hSw); go_simp; try (with_reducible rfl)
          (try simp only [Act.put, List.setIfInBounds_toArray, List.set_cons_zero, List.set_cons_succ])
          refine take_at (v := ?_) 16 (some 65) rfl (by kernel_rfl) (by kernel_rfl) (by kernel_rfl) (by kernel_rfl) (fun _ _ _ h => h) (Or.inl ⟨by rfl, ?_⟩) (by assumption) ?_
          rotate_left
          · intro w hSw; (try dsimp only at hSw); go_simp; try (with_reducible rfl)
          (try simp only [Act.put, List.setIfInBounds_toArray, List.set_cons_zero, List.set_cons_succ])
          refine take_at (v := ?_) 17 (some 66) rfl (by kernel_rfl) (by kernel_rfl) (by kernel_rfl) (by kernel_rfl) (fun _ _ _ h => h) (Or.inl ⟨by rfl, ?_⟩) (by assumption) ?_
          rotate_left
          · intro w hSw; (try dsimp only at hSw); go_simp; try (with_reducible rfl)
          (try simp only [Act.put, List.setIfInBounds_toArray, List.set_cons_zero, List.set_cons_succ])
          refine take_at (v := ?_) 18 (some 67) rfl (by kernel_rfl) (by kernel_rfl) (by kernel_rfl) (by kernel_rfl) (fun _ _ _ h => h) (Or.inl ⟨by rfl, ?_⟩) (by assumption) ?_
          rotate_left
          · intro w hSw; (try dsimp only at hSw); go_simp; try (with_reducible rfl)
          (try simp only [Act.put, List.setIfInBounds_toArray, List.set_cons_zero, List.set_cons_succ])
          refine take_at (v := ?_) 20 (some 69) rfl (by kernel_rfl) (by kernel_rfl) (by kernel_rfl) (by kernel_rfl) (fun _ _ _ h => h) (Or.inl ⟨by rfl, ?_⟩) (by assumption) ?_
          rotate_left
          · intro w hSw; (try dsimp only at hSw); go_simp; try (with_reducible rfl)
          (try simp only [Act.put, List.setIfInBounds_toArray, List.set_cons_zero, List.set_cons_succ])
          refine take_at (v := ?_) 21 (some 70) rfl (by kernel_rfl) (by kernel_rfl) (by kernel_rfl) (by kernel_rfl) (fun _ _ _ h => h) (Or.inl ⟨by rfl, ?_⟩) (by assumption) ?_
          rotate_left
          · intro w hSw; (try dsimp only at hSw); go_simp; try (with_reducible rfl)
          (try simp only [Act.put, List.setIfInBounds_toArray, List.set_cons_zero, List.set_cons_succ])
          refine take_at (v := ?_) 22 (some 71) rfl (by kernel_rfl) (by kernel_rfl) (by kernel_rfl) (by kernel_rfl) (fun _ _ _ h => h) (Or.inl ⟨by rfl, ?_⟩) (by assumption) ?_
          rotate_left
          · intro w hSw; (try dsimp only at hSw); go_simp; try (with_reducible rfl)
          (try simp only [Act.put, List.setIfInBounds_toArray, List.set_cons_zero, List.set_cons_succ])
          refine take_at (v := ?_) 23 (some 72) rfl (by kernel_rfl) (by kernel_rfl) (by kernel_rfl) (by kernel_rfl) (fun _ _ _ h => h) (Or.inl ⟨by rfl, ?_⟩) (by assumption) ?_
          rotate_left
          · intro w hSw; (try dsimp only at hSw); go_simp; try (with_reducible rfl)
          (try simp only [Act.put, List.setIfInBounds_toArray, List.set_cons_zero, List.set_cons_succ])
          refine take_at (v := ?_) 24 (some 73) rfl (by kernel_rfl) (by kernel_rfl) (by kernel_rfl) (by kernel_rfl) (fun _ _ _ h => h) (Or.inl ⟨by rfl, ?_⟩) (by assumption) ?_
          rotate_left
          · intro w hSw; (try dsimp only at hSw); go_simp; try (with_reducible rfl)
          (try simp only [Act.put, List.setIfInBounds_toArray, List.set_cons_zero, List.set_cons_succ])
          refine wpAnyH_ready (rs := [6]) (by kernel_rfl) (by simp) ?_
          refine AllReadyH.cons rfl (fun K hK => ?_) AllReadyH.nil
          go_simp
          have AT := at_of f.t D0.out.log.at_ (fun k hk => D0.out.log.lt k (.inr hk)) (by have := HL.out; omega)
          obtain ⟨Q1, hQ1⟩ : ∃ Q, Q = L.filter (fun x => x.t == f.t) := ⟨_, rfl⟩
          have HQ1l := Lib.hid (show Q1.length ≤ 1000000 by rw [hQ1]; exact Nat.le_trans (List.length_filter_le _ _) (by have := HL.out; omega))
          rw [← hQ1] at AT
          have HQ1 := Lib.hid hQ1
          clear hQ1
          obtain ⟨n1, hn1⟩ : ∃ n, n = Q1.length := ⟨_, rfl⟩
          rw [← hn1] at AT
          have HN1 := Lib.hid hn1
          clear hn1
          refine AT.mono ?_
          clear AT
          rintro e X1 ⟨x1, z1, rfl, r1, -, c1⟩
          have D1 := Lib.hid (D0.out.kept c1)
          have R1 := Lib.hid r1
          refine hK.out _ _ ⟨D1.out.c.keeps F0.out (fun e => e), D1.out.c.keeps F3.out (fun e => e)⟩ (fun hHeld => ?_)
          clear hK K r1 c1
          (try simp only [Act.put, List.setIfInBounds_toArray, List.set_cons_zero, List.set_cons_succ])
          refine wpAnyH_ready (rs := [12]) (by kernel_rfl) (by simp) ?_
          refine AllReadyH.cons rfl (fun K hK => ?_) AllReadyH.nil
          go_simp
          have AT := refOf_of f.i (c1 := z1) (FRow.src R1.out) HQ1l.out
          obtain ⟨Q2, hQ1⟩ : ∃ Q, Q = Q1.filter (fun x => x.i == f.i) := ⟨_, rfl⟩
          have HQ2l := Lib.hid (show Q2.length ≤ 1000000 by rw [hQ1]; exact Nat.le_trans (List.length_filter_le _ _) HQ1l.out)
          rw [← hQ1, ← HN1.out] at AT
          have HQ2 := Lib.hid hQ1
          clear hQ1
          obtain ⟨n2, hn1⟩ : ∃ n, n = Q2.length := ⟨_, rfl⟩
          rw [← hn1] at AT
          have HN2 := Lib.hid hn1
          clear hn1
          refine AT.mono ?_
          clear AT
          rintro e X2 ⟨x2, z2, rfl, r2, -, c2⟩
          have D2 := Lib.hid (D1.out.kept c2)
          have R2 := Lib.hid r2
          refine hK.out _ _ ⟨D2.out.c.keeps F0.out (fun e => e), D2.out.c.keeps F3.out (fun e => e)⟩ (fun hHeld => ?_)
          clear hK K r2 c2
          (try simp only [Act.put, List.setIfInBounds_toArray, List.set_cons_zero, List.set_cons_succ])
          refine wpAnyH_ready (rs := [19]) (by kernel_rfl) (by simp) ?_
          refine AllReadyH.cons rfl (fun K hK => ?_) AllReadyH.nil
          go_simp
          have AT := of_of f.i D2.out.log.at_ (fun k hk => D2.out.log.lt k (.inr hk)) (by have := HL.out; omega)
          obtain ⟨Q3, hQ1⟩ : ∃ Q, Q = L.filter (fun x => x.i == f.i) := ⟨_, rfl⟩
          have HQ3l := Lib.hid (show Q3.length ≤ 1000000 by rw [hQ1]; exact Nat.le_trans (List.length_filter_le _ _) (by have := HL.out; omega))
          rw [← hQ1] at AT
          have HQ3 := Lib.hid hQ1
          clear hQ1
          obtain ⟨n3, hn1⟩ : ∃ n, n = Q3.length := ⟨_, rfl⟩
          rw [← hn1] at AT
          have HN3 := Lib.hid hn1
          clear hn1
          refine AT.mono ?_
          clear AT
          rintro e X3 ⟨x3, z3, rfl, r3, -, c3⟩
          have D3 := Lib.hid (D2.out.kept c3)
          have R3 := Lib.hid r3
          have R23 := Lib.hid (Row.kept R2.out c3 (fun _ _ e => e))
          refine hK.out _ _ ⟨D3.out.c.keeps F0.out (fun e => e), D3.out.c.keeps F3.out (fun e => e)⟩ (fun hHeld => ?_)
          clear hK K r3 c3
          (try simp only [Act.put, List.setIfInBounds_toArray, List.set_cons_zero, List.set_cons_succ])
          refine wpAnyH_ready (rs := [25]) (by kernel_rfl) (by simp) ?_
          refine AllReadyH.cons rfl (fun K hK => ?_) AllReadyH.nil
          go_simp
          have AT := refAt_of f.t (c1 := z3) (FRow.src R3.out) HQ3l.out
          obtain ⟨Q4, hQ1⟩ : ∃ Q, Q = Q3.filter (fun x => x.t == f.t) := ⟨_, rfl⟩
          have HQ4l := Lib.hid (show Q4.length ≤ 1000000 by rw [hQ1]; exact Nat.le_trans (List.length_filter_le _ _) HQ3l.out)
          rw [← hQ1, ← HN3.out] at AT
          obtain rfl : Q2 = Q4 := by rw [HQ2.out, hQ1, HQ1.out, HQ3.out]; exact filter_comm _ _ _
          clear hQ1
          rw [← HN2.out] at AT
          refine AT.mono ?_
          clear AT
          rintro e X4 ⟨x4, z4, rfl, r4, -, c4⟩
          have D4 := Lib.hid (D3.out.kept c4)
          have R4 := Lib.hid r4
          have R24 := Lib.hid (Row.kept R23.out c4 (fun _ _ e => e))
          refine hK.out _ _ ⟨D4.out.c.keeps F0.out (fun e => e), D4.out.c.keeps F3.out (fun e => e)⟩ (fun hHeld => ?_)
          clear hK K r4 c4
          (try simp only [Act.put, List.setIfInBounds_toArray, List.set_cons_zero, List.set_cons_succ])
          refine wpAnyH_ready (rs := [26]) (by kernel_rfl) (by simp) ?_
          refine AllReadyH.cons rfl (fun K hK => ?_) AllReadyH.nil
          go_simp
          have AT := same_of (c1 := z2) (c2 := z4) (FRow.src R24.out) (FRow.src R4.out) HQ2l.out HQ2l.out
          rw [← HN2.out, decide_eq_true (rfl : Q2 = Q2)] at AT
          refine AT.mono ?_
          clear AT
          rintro e X5 ⟨rfl, c5⟩
          have D5 := Lib.hid (D4.out.kept c5)
          refine hK.out _ _ ⟨D5.out.c.keeps F0.out (fun e => e), D5.out.c.keeps F3.out (fun e => e)⟩ (fun hHeld => ?_)
          clear hK K c5
          (try simp only [Act.put, List.setIfInBounds_toArray, List.set_cons_zero, List.set_cons_succ])
          refine take_at (v := ?_) 27 (some 76) rfl (by kernel_rfl) (by kernel_rfl) (by kernel_rfl) (by kernel_rfl) (fun _ _ _ h => h) (Or.inl ⟨by rfl, ?_⟩) (by assumption) ?_
          rotate_left
          · intro w hSw; (try dsimp only at hSw); go_simp; try (with_reducible rfl)
          (try simp only [Act.put, List.setIfInBounds_toArray, List.set_cons_zero, List.set_cons_succ])
          refine wpAnyH_done (by kernel_rfl) ?_ _
          clear hHeld
          go_wp2
          go_roundw
          case rel => exact ⟨k + 1, m + q, by omega, by go_num, by go_num, D5⟩
          case measure => simp [intOf]; omega
      · obtain rfl : k = len := by omega
        have hm : m = k := by rw [HR.out.cnt, HL.out, tickCnt_all]
        subst hm
        go_wp2
        go_ret
        exact ⟨rfl, HR.out.c.below (Nat.le_refl _) (fun _ _ e => e.elim)⟩

theorem FiringTicks_own : ownKnob Try.prog.godebug = none := by kernel_rfl
theorem FiringTicks_laidOut : laidOutB Try.prog = true := by kernel_rfl

set_option maxRecDepth 100000 in
theorem FiringTicks_lifted (os : Os) (started : os.Started) (H : Type) (enc : TypeId × Value → H) :
    ReturnsInHanded {} Try.checked os 7 .any (Rows.firingTicksSpec.pre6 enc Try.prog Try.f7 Rows.firingTicksRow.domain false) (Rows.firingTicksSpec.post enc Try.prog Try.f7 false true false false) := by
  refine returnsInHanded_of_change (C := Try.checked) FiringTicks_own started (by kernel_rfl) Try.func7
    (ChangeSpec.witness6 (enc := enc) (C := Try.checked) false ⟨#[], #[.slice none 0 0], []⟩ 8 (by kernel_rfl) (by kernel_rfl) (by kernel_rfl) (by kernel_rfl)) ?_
  intro W base args ds gs before hval0 hW hcnd _
  have hval : ∀ (j : Nat) t v, Try.f7.params[j]? = some t → args[j]? = some v → Value.okWide Try.prog W .any base t v := hval0
  have hW' := hW
  obtain ⟨p, q, hA0, hV, rfl, hfz, hnd⟩ := hW
  have hA : DataW.TrodAll enc Try.prog W 0 (fun _ => true) true Try.f7.params.toList args.toList ds p := hA0
  rw [Try.params7] at hA hval
  obtain ⟨v0, vs0, d0, ds0, p0, q0, hargs, rfl, rfl, h0, r0⟩ := trodAll_cons hA
  obtain ⟨rfl, rfl, rfl⟩ := trodAll_nil r0
  obtain rfl : args = #[v0] := by cases args; simp_all
  obtain ⟨rfl, rfl⟩ := trodVars_none hV
  obtain ⟨a0, len0, cap0, rfl⟩ := okWide_slice Try.underlying22 (hval 0 22 v0 rfl rfl)
  have k0 := h0
  have lt0 : ∀ x ∈ p0, x.block < W.heap.size := by obtain ⟨m, hm⟩ := k0; exact DataW.trod_lt m _ _ _ hm
  have w0 : IsTab [.i .u64, .i .u64, .i .u64, .i .u64] W a0 len0 cap0 := by
    obtain ⟨fuel, hf⟩ := h0
    exact open_tab _ Try.underlying22 Try.underlying43 (by kernel_rfl) (by kernel_rfl) hf
  clear hA0 hval0
  refine (FiringTicks_walk a0 len0 cap0 W w0).mono fun e W' ⟨he, bel⟩ => ?_
  subst he
  exact ⟨_, rfl, _, _, _, [], _, [], hW', trodAll_mk1 (shut_bool Try.underlying4 _), (trodAll_cons_mk (Below.trod FiringTicks_laidOut (by kernel_rfl) (of_decide_eq_true (by kernel_rfl)) k0 bel lt0) trodAll_mk0), rfl, bel.frame _, fun h => by cases h⟩

theorem firingTicks_holds : Rows.FiringTicksSaid :=
  OpenClaim.holds_of_wide 7 Try.f7 rfl rfl rfl rfl rfl rfl rfl ⟨rfl, rfl, rfl, rfl, rfl⟩ rfl rfl rfl rfl rfl (by kernel_rfl) Try.func7 (by kernel_rfl)
    (of_decide_eq_true (by kernel_rfl)) (by unfold Func.isWrapper; rw [if_neg (of_decide_eq_false (by kernel_rfl))]; exact ⟨rfl, rfl⟩)
    (fun os started H enc _ => FiringTicks_lifted os started H enc)
end Go.Proofs.Ytpihlchocjdpmaa
