/-
  WheelNext: what holds in its loops; the loop that inserts.
-/
import Derived.Test.YtkdkkgbjfabifaaDoorWnCode
import Derived.Test.YtkdkkgbjfabifaaDoorHeld
import Derived.Deep.QuietTactic
import Derived.BigQuiet
import Derived.Deep.Cut
import Derived.Deep.CutRange
import Derived.Deep.CutBlock
import Derived.RegionTactic
import Derived.BigRegion
namespace Go.Proofs.YtkdkkgbjfabifaaDoor
open Go.RowKit Verge LP
set_option linter.unusedVariables false
set_option linter.unusedSimpArgs false
attribute [local go_sem] Oper.semAt_some

/-- the i-th number -/
def dzN (zs : List Int) (i : Nat) : Nat := (zs.getD i 0).toNat
/-- the first k are inserted, lo is the least of them -/
structure NxA (w : World) (g : Wh) (n0 len k : Nat) (zs : List Int) (Q P : List Ent) (lo : Nat) (W : World) : Prop where
  d : Drv w W g n0 Q P
  n : Q.length ≤ k
  a : ∃ j, j < len ∧ lo = dzN zs j
  b : ∀ j, j < k → lo ≤ dzN zs j
  c : ∀ j, j < k → ∃ x, x ∈ Q ∧ x.d = n0 + 1 + dzN zs j
  e : ∀ x, x ∈ Q → ∃ j, j < k ∧ x.d = n0 + 1 + dzN zs j
  l : lo ≤ 65535
/-- k ticks are done -/
structure NxB (w : World) (g : Wh) (n0 k lo : Nat) (Q P : List Ent) (W : World) : Prop where
  d : Drv w W g (n0 + k) Q P
  n : Q.length ≤ 60
  m : k ≤ lo → IsMin Q (n0 + 1 + lo)
theorem IsMin.unique {ys : List Ent} {m m' : Nat} (h : IsMin ys m) (h' : IsMin ys m') : m = m' := by
  obtain ⟨⟨x, hx, rfl⟩, h2⟩ := h
  obtain ⟨⟨y, hy, rfl⟩, h4⟩ := h'
  have := h2 y hy; have := h4 x hx; omega
theorem NxA.all {w : World} {g : Wh} {n0 len : Nat} {zs : List Int} {Q P : List Ent} {lo : Nat} {W : World} (h : NxA w g n0 len len zs Q P lo W) : IsMin Q (n0 + 1 + lo) := by
  obtain ⟨j, hj, rfl⟩ := h.a
  obtain ⟨x, hx, hd⟩ := h.c j hj
  refine ⟨⟨x, hx, hd⟩, fun y hy => ?_⟩
  obtain ⟨i, hi, hd'⟩ := h.e y hy
  have := h.b i hi; omega
theorem NxA.more {w : World} {g : Wh} {n0 len k : Nat} {zs : List Int} {Q P : List Ent} {lo b lo' : Nat} {u : Int} {W W' : World} (h : NxA w g n0 len k zs Q P lo W) (hk : k < len) (hb : dzN zs k ≤ 65535) (d : Drv w W' g n0 (Q ++ [⟨b, n0 + 1 + dzN zs k, u⟩]) (P ++ [⟨b, n0 + 1 + dzN zs k, u⟩])) (hlo : lo' = if dzN zs k < lo then dzN zs k else lo) : NxA w g n0 len (k + 1) zs (Q ++ [⟨b, n0 + 1 + dzN zs k, u⟩]) (P ++ [⟨b, n0 + 1 + dzN zs k, u⟩]) lo' W' := by
  have hl : lo' ≤ dzN zs k ∧ lo' ≤ lo ∧ (lo' = dzN zs k ∨ lo' = lo) := by rw [hlo]; split <;> omega
  refine ⟨d, by have := h.n; simp; omega, ?_, fun j hj => ?_, fun j hj => ?_, fun x hx => ?_, by have := h.l; omega⟩
  · rcases hl.2.2 with e | e
    · exact ⟨k, hk, e⟩
    · obtain ⟨j, hj, e'⟩ := h.a; exact ⟨j, hj, e.trans e'⟩
  · by_cases e : j = k
    · subst e; exact hl.1
    · have := h.b j (by omega); omega
  · by_cases e : j = k
    · subst e; exact ⟨_, List.mem_append_right _ (List.mem_singleton.2 rfl), rfl⟩
    · obtain ⟨x, hx, hd⟩ := h.c j (by omega); exact ⟨x, List.mem_append_left _ hx, hd⟩
  · rcases List.mem_append.1 hx with hx | hx
    · obtain ⟨j, hj, hd⟩ := h.e x hx; exact ⟨j, by omega, hd⟩
    · simp at hx; subst hx; exact ⟨k, by omega, rfl⟩
/-- what holds at the head of the loop -/
def wnAI (w : World) (g : Wh) (ad : Option Addr) (n0 len cap : Nat) (zs : List Int) (k : Nat) (a : Act) (wr : World) : Prop :=
  ∃ (Q P : List Ent) (lo : Nat), a.defers = [] ∧ a.tmps.size = 93 ∧ a.tmps.getD 0 undef = .int .u64 (n0 : Nat) ∧ a.tmps.getD 1 undef = .slice ad len cap ∧ a.tmps.getD 5 undef = .pointer (some ⟨g.wb, 0, none⟩) ∧ a.tmps.getD 6 undef = .int .u16 (lo : Nat) ∧ a.tmps.getD 7 undef = .int .i64 (k : Nat) ∧ NxA w g n0 len k zs Q P lo wr
theorem wnAI_ctr {k : Nat} (w : World) (g : Wh) (ad : Option Addr) (n0 len cap : Nat) (zs : List Int) {a : Act} {wr : World} (H : wnAI w g ad n0 len cap zs k a wr) : a.tmps.getD 7 undef = .int .i64 (k : Nat) := by
  obtain ⟨Q, P, lo, -, -, -, -, -, -, h, -⟩ := H
  exact h
set_option maxRecDepth 100000 in
set_option maxHeartbeats 0 in
theorem wnA_round {k : Nat} (w : World) (g : Wh) (ad : Option Addr) (n0 len cap : Nat) (zs : List Int) (hv : IsRow .u16 w ad len cap zs) (T : Tab w) (h60 : len ≤ 60) (bn : n0 ≤ 18446744073709351615) (a : Act) (wr : World) (hk : k ≤ len) (H : wnAI w g ad n0 len cap zs k a wr) :
    Code.wp Tryd.prog (loopIn 0 Tryd.f6) (Exit.then (fun a' w' => wnAI w g ad n0 len cap zs (k + 1) a' w' ∧ k < len) (Qx 0 (fun a' w' => wnAI w g ad n0 len cap zs k a' w' ∧ k = len))) a wr := by
  obtain ⟨t, ds⟩ := a
  obtain ⟨Q, P, lo, hd', hz, h0, h1, h5, h6, h7, rel⟩ := H
  replace hd' : ds = [] := hd'
  subst hd'
  replace hz : t.size = 93 := hz
  replace h0 : t.getD 0 undef = .int .u64 (n0 : Nat) := h0
  replace h1 : t.getD 1 undef = .slice ad len cap := h1
  replace h5 : t.getD 5 undef = .pointer (some ⟨g.wb, 0, none⟩) := h5
  replace h6 : t.getD 6 undef = .int .u16 (lo : Nat) := h6
  replace h7 : t.getD 7 undef = .int .i64 (k : Nat) := h7
  have REL := Lib.hid rel
  clear rel
  refine openFr93 (P := fun t => t.getD 0 undef = .int .u64 (n0 : Nat) → t.getD 1 undef = .slice ad len cap → t.getD 5 undef = .pointer (some ⟨g.wb, 0, none⟩) → t.getD 6 undef = .int .u16 (lo : Nat) → t.getD 7 undef = .int .i64 (k : Nat) → Code.wp Tryd.prog (loopIn 0 Tryd.f6) (Exit.then (fun a' w' => wnAI w g ad n0 len cap zs (k + 1) a' w' ∧ k < len) (Qx 0 (fun a' w' => wnAI w g ad n0 len cap zs k a' w' ∧ k = len))) ⟨t, []⟩ wr) ?_ t hz h0 h1 h5 h6 h7
  clear h0 h1 h5 h6 h7 hz t
  intro c0 c1 c2 c3 c4 c5 c6 c7 c8 c9 c10 c11 c12 c13 c14 c15 c16 c17 c18 c19 c20 c21 c22 c23 c24 c25 c26 c27 c28 c29 c30 c31 c32 c33 c34 c35 c36 c37 c38 c39 c40 c41 c42 c43 c44 c45 c46 c47 c48 c49 c50 c51 c52 c53 c54 c55 c56 c57 c58 c59 c60 c61 c62 c63 c64 c65 c66 c67 c68 c69 c70 c71 c72 c73 c74 c75 c76 c77 c78 c79 c80 c81 c82 c83 c84 c85 c86 c87 c88 c89 c90 c91 c92 h0 h1 h5 h6 h7
  replace h0 : c0 = .int .u64 (n0 : Nat) := h0
  replace h1 : c1 = .slice ad len cap := h1
  replace h5 : c5 = .pointer (some ⟨g.wb, 0, none⟩) := h5
  replace h6 : c6 = .int .u16 (lo : Nat) := h6
  replace h7 : c7 = .int .i64 (k : Nat) := h7
  subst h0
  subst h1
  subst h5
  subst h6
  subst h7
  conv => arg 2; whnf
  have hsm := hv.small
  have HV := Lib.hid hv
  have b3 : (n0 : Int) ≤ 18446744073709351615 := by omega
  clear hv T
  by_cases hlt : k < len
  · obtain ⟨x, rfl, hc, hwf⟩ := HV.out.item hlt
    obtain ⟨z1, z2⟩ := bounds_u16 hwf
    have q1 := REL.out.d.c.keeps hc (fun e => e)
    obtain ⟨di, hdi⟩ := Int.eq_ofNat_of_zero_le z1
    have hdz : di = dzN zs k := by unfold dzN; rw [hdi]; rfl
    rw [hdi] at q1 z2 hc
    have DI := Lib.hid hdz
    have HCELL := Lib.hid hc
    have hkz : (k : Int) < (len : Int) := by omega
    have hkz0 : (0 : Int) ≤ (k : Int) := by omega
    clear hc hwf hdi z1 hdz
    have b1 : (n0 : Int) + 1 + (di : Int) ≤ 18446744073709551615 := by omega
    by_cases hlo : di < lo
    · have hlz : (di : Int) < (lo : Int) := by omega
      go_wp2_with fail
      refine (REL.out.d.insert (n0 + 1 + di) k (by omega) (by omega) (by have := REL.out.n; omega)).mono ?_
      rintro e w5 ⟨xb, rfl, hxb, d5, c5⟩
      have q5 := d5.c.keeps HCELL.out (fun e => e)
      have NX := Lib.hid (REL.out.more (lo' := di) hlt (by rw [← DI.out]; omega) (by rw [← DI.out]; exact d5) (by rw [← DI.out]; rw [if_pos hlo]))
      rw [← DI.out] at NX
      clear d5 c5 REL
      go_wp2
      exact ⟨⟨_, _, di, rfl, rfl, rfl, rfl, rfl, rfl, rfl, NX.out⟩, hlt⟩
    · have hlz : (lo : Int) ≤ (di : Int) := by omega
      go_wp2_with fail
      refine (REL.out.d.insert (n0 + 1 + di) k (by omega) (by omega) (by have := REL.out.n; omega)).mono ?_
      rintro e w5 ⟨xb, rfl, hxb, d5, c5⟩
      have q5 := d5.c.keeps HCELL.out (fun e => e)
      have NX := Lib.hid (REL.out.more (lo' := lo) hlt (by rw [← DI.out]; omega) (by rw [← DI.out]; exact d5) (by rw [← DI.out]; rw [if_neg hlo]))
      rw [← DI.out] at NX
      clear d5 c5 REL
      go_wp2
      exact ⟨⟨_, _, lo, rfl, rfl, rfl, rfl, rfl, rfl, rfl, NX.out⟩, hlt⟩
  · obtain rfl : k = len := by omega
    go_wp2
    exact ⟨by first | rfl | trivial, ⟨_, _, lo, rfl, rfl, rfl, rfl, rfl, rfl, rfl, REL.out⟩, by first | rfl | trivial⟩
theorem wnA_loop (w : World) (g : Wh) (ad : Option Addr) (n0 len cap : Nat) (zs : List Int) (hv : IsRow .u16 w ad len cap zs) (T : Tab w) (h60 : len ≤ 60) (bn : n0 ≤ 18446744073709351615) (a : Act) (wr : World) (hb : 0 ≤ len) (H : wnAI w g ad n0 len cap zs 0 a wr) :
    Code.wp Tryd.prog (.loop (loopIn 0 Tryd.f6)) (Qx 0 (fun a' w' => wnAI w g ad n0 len cap zs len a' w')) a wr := by
  refine wp_loop (fun a' wr => ∃ k, k ≤ len ∧ wnAI w g ad n0 len cap zs k a' wr) (fun a' _ => len - (intOf (a'.tmps.getD 7 undef)).toNat) ⟨0, hb, H⟩ ?_
  rintro a' wr ⟨k, hk, h⟩
  refine wp_mono (wnA_round w g ad n0 len cap zs hv T h60 bn a' wr hk h) ?_
  intro e a2 w2 hp
  cases e with
  | normal =>
    refine ⟨⟨k + 1, by have := hp.2; omega, hp.1⟩, ?_⟩
    rw [wnAI_ctr w g ad n0 len cap zs h, wnAI_ctr w g ad n0 len cap zs hp.1]
    have := hp.2
    simp only [intOf, Int.toNat_natCast]
    omega
  | exit n => exact ⟨hp.1, hp.2.2 ▸ hp.2.1⟩
  | _ => exact hp.elim
end Go.Proofs.YtkdkkgbjfabifaaDoor
