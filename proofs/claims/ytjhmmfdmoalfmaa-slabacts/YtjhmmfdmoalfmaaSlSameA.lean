/-
  The statements' function same of package slab: a slab tells what the document's does.
-/
import Derived.Test.YtjhmmfdmoalfmaaSlCode
import Derived.Test.YtjhmmfdmoalfmaaHeld
import Derived.Deep.QuietTactic
import Derived.BigQuiet
import Derived.Deep.Cut
import Derived.Deep.CutRange
import Derived.Deep.CutBlock
import Derived.RegionTactic
import Derived.BigRegion
namespace Go.Proofs.Ytjhmmfdmoalfmaa
open Go.RowKit Verge
set_option linter.unusedVariables false
set_option linter.unusedSimpArgs false
attribute [local go_sem] Oper.semAt_some

/-- what holds at the head of the loop -/
def slAI (w : World) (b rb vb lb n cnt np : Nat) (R : Nat → Rec) (Q : Nat → Rq) (ar : Option Addr) (cr : Nat) (slot : Int) (k : Nat) (a : Act) (wr : World) : Prop :=
  a.defers = [] ∧ a.tmps.size = 155 ∧ a.tmps.getD 0 undef = .pointer (some ⟨b, 0, none⟩) ∧ a.tmps.getD 1 undef = .pointer (some ⟨vb, 0, none⟩) ∧ a.tmps.getD 3 undef = .int .i64 slot ∧ a.tmps.getD 12 undef = .int .i64 (k : Nat) ∧ (IsS wr b rb n cnt R ∧ RfS wr vb lb n cnt R np Q ar cr ∧ Ch (Two b rb) w wr)
theorem slAI_ctr {k : Nat} (w : World) (b rb vb lb n cnt np : Nat) (R : Nat → Rec) (Q : Nat → Rq) (ar : Option Addr) (cr : Nat) (slot : Int) {a : Act} {wr : World} (H : slAI w b rb vb lb n cnt np R Q ar cr slot k a wr) : a.tmps.getD 12 undef = .int .i64 (k : Nat) := by
  obtain ⟨-, -, -, -, -, h, -⟩ := H
  exact h
set_option maxRecDepth 100000 in
set_option maxHeartbeats 0 in
theorem slA_round {k : Nat} (w : World) (b rb vb lb n cnt np : Nat) (R : Nat → Rec) (Q : Nat → Rq) (ar : Option Addr) (cr : Nat) (slot : Int) (hd : ∀ k, VS vb lb ar k → k ≠ b ∧ k ≠ rb) (n1 : n ≤ 64) (a : Act) (wr : World) (hk : k ≤ n) (H : slAI w b rb vb lb n cnt np R Q ar cr slot k a wr) :
    Code.wp Try.prog (loopIn 0 Try.f20) (Exit.then (fun a' w' => slAI w b rb vb lb n cnt np R Q ar cr slot (k + 1) a' w' ∧ k < n) (Qx 0 (fun a' w' => slAI w b rb vb lb n cnt np R Q ar cr slot k a' w' ∧ k = n))) a wr := by
  obtain ⟨t, ds⟩ := a
  obtain ⟨hd', hz, h0, h1, h3, h12, rel⟩ := H
  replace hd' : ds = [] := hd'
  subst hd'
  replace hz : t.size = 155 := hz
  replace h0 : t.getD 0 undef = .pointer (some ⟨b, 0, none⟩) := h0
  replace h1 : t.getD 1 undef = .pointer (some ⟨vb, 0, none⟩) := h1
  replace h3 : t.getD 3 undef = .int .i64 slot := h3
  replace h12 : t.getD 12 undef = .int .i64 (k : Nat) := h12
  have REL := Lib.hid rel
  clear rel
  refine openFr155 (P := fun t => t.getD 0 undef = .pointer (some ⟨b, 0, none⟩) → t.getD 1 undef = .pointer (some ⟨vb, 0, none⟩) → t.getD 3 undef = .int .i64 slot → t.getD 12 undef = .int .i64 (k : Nat) → Code.wp Try.prog (loopIn 0 Try.f20) (Exit.then (fun a' w' => slAI w b rb vb lb n cnt np R Q ar cr slot (k + 1) a' w' ∧ k < n) (Qx 0 (fun a' w' => slAI w b rb vb lb n cnt np R Q ar cr slot k a' w' ∧ k = n))) ⟨t, []⟩ wr) ?_ t hz h0 h1 h3 h12
  clear h0 h1 h3 h12 hz t
  intro c0 c1 c2 c3 c4 c5 c6 c7 c8 c9 c10 c11 c12 c13 c14 c15 c16 c17 c18 c19 c20 c21 c22 c23 c24 c25 c26 c27 c28 c29 c30 c31 c32 c33 c34 c35 c36 c37 c38 c39 c40 c41 c42 c43 c44 c45 c46 c47 c48 c49 c50 c51 c52 c53 c54 c55 c56 c57 c58 c59 c60 c61 c62 c63 c64 c65 c66 c67 c68 c69 c70 c71 c72 c73 c74 c75 c76 c77 c78 c79 c80 c81 c82 c83 c84 c85 c86 c87 c88 c89 c90 c91 c92 c93 c94 c95 c96 c97 c98 c99 c100 c101 c102 c103 c104 c105 c106 c107 c108 c109 c110 c111 c112 c113 c114 c115 c116 c117 c118 c119 c120 c121 c122 c123 c124 c125 c126 c127 c128 c129 c130 c131 c132 c133 c134 c135 c136 c137 c138 c139 c140 c141 c142 c143 c144 c145 c146 c147 c148 c149 c150 c151 c152 c153 c154 h0 h1 h3 h12
  replace h0 : c0 = .pointer (some ⟨b, 0, none⟩) := h0
  replace h1 : c1 = .pointer (some ⟨vb, 0, none⟩) := h1
  replace h3 : c3 = .int .i64 slot := h3
  replace h12 : c12 = .int .i64 (k : Nat) := h12
  subst h0
  subst h1
  subst h3
  subst h12
  conv => arg 2; whnf
  have HDD := Lib.hid hd
  clear hd
  have c0 := REL.out.2.1.l
  by_cases hlt : k < n
  · have hkz : (k : Int) < (n : Int) := by omega
    have hkz0 : (0 : Int) ≤ (k : Int) := by omega
    have e0 : ((k : Int)).toNat = k := by omega
    go_wp2_with fail
    refine (word_in k REL.out.1 hlt).mono ?_
    rintro e w5 ⟨rfl, s5, c5⟩
    have V5 := Lib.hid (REL.out.2.1.kept c5 (fun j hj e => (HDD.out j hj).2 e))
    have S5 := Lib.hid s5
    have C5 : Hid (Ch (Two b rb) w w5) := Lib.hid (REL.out.2.2.trans (Ch_two2 c5))
    clear s5 c5 REL c0
    obtain ⟨v, hv⟩ : ∃ v, v = (R k).wd := ⟨_, rfl⟩
    obtain ⟨p, hp⟩ : ∃ p, p = (R k).pd := ⟨_, rfl⟩
    have PP := Lib.hid hp
    have a1 := (V5.out.rc k hlt).v
    have a2 := (V5.out.rc k hlt).p
    rw [← hv] at a1 ⊢
    rw [← hp] at a2
    clear hv hp
    have vz : ((v : Int) != (v : Int)) = false := by rw [bne_eq_false_iff_eq]
    have pz : ((p : Int) != (p : Int)) = false := by rw [bne_eq_false_iff_eq]
    go_upto_region 9 with (fail)
    have V6 := Lib.hid (V5.out.quiet ((Ch.refl Nil w5).drew))
    have S6 := Lib.hid (S5.out.quiet ((Ch.refl Nil w5).drew))
    have C6 : Hid (Ch (Two b rb) w w5.drew) := Lib.hid C5.out.drew
    refine wp_region_held_drew (S := fun w' => w'.cell? ⟨vb, 0, none⟩ = some (.slice (some ⟨lb, 0, none⟩) n n) ∧ w'.cell? ⟨lb, k * 3, none⟩ = some (.int .u64 (v : Nat)) ∧ w'.cell? ⟨lb, k * 3 + 2, none⟩ = some (.int .u64 (p : Nat))) (by kernel_rfl) ⟨V6.out.l, a1, a2⟩ (fun hHeld => ?_)
    clear V5 S5 C5 a1 a2
    generalize w5.drew = X at V6 S6 C6 hHeld ⊢
    refine take_at (v := ?_) 0 (some 98) rfl (by kernel_rfl) (by kernel_rfl) (by kernel_rfl) (by kernel_rfl) (fun _ _ _ h => h) (Or.inl ⟨by rfl, ?_⟩) (by assumption) ?_
    rotate_left
    · intro w hSw; (try dsimp only at hSw); go_simp; try (with_reducible rfl)
    (try simp only [Act.put, List.setIfInBounds_toArray, List.set_cons_zero, List.set_cons_succ])
    refine take_at (v := ?_) 1 (some 99) rfl (by kernel_rfl) (by kernel_rfl) (by kernel_rfl) (by kernel_rfl) (fun _ _ _ h => h) (Or.inl ⟨by rfl, ?_⟩) (by assumption) ?_
    rotate_left
    · intro w hSw; (try dsimp only at hSw); go_simp; try (with_reducible rfl)
    (try simp only [Act.put, List.setIfInBounds_toArray, List.set_cons_zero, List.set_cons_succ])
    refine take_at (v := ?_) 2 (some 100) rfl (by kernel_rfl) (by kernel_rfl) (by kernel_rfl) (by kernel_rfl) (fun _ _ _ h => h) (Or.inl ⟨by rfl, ?_⟩) (by assumption) ?_
    rotate_left
    · intro w hSw; (try dsimp only at hSw); go_simp; try (with_reducible rfl)
    (try simp only [Act.put, List.setIfInBounds_toArray, List.set_cons_zero, List.set_cons_succ])
    refine take_at (v := ?_) 3 (some 101) rfl (by kernel_rfl) (by kernel_rfl) (by kernel_rfl) (by kernel_rfl) (fun _ _ _ h => h) (Or.inl ⟨by rfl, ?_⟩) (by assumption) ?_
    rotate_left
    · intro w hSw; (try dsimp only at hSw); go_simp; try (with_reducible rfl)
    (try simp only [Act.put, List.setIfInBounds_toArray, List.set_cons_zero, List.set_cons_succ])
    refine take_at (v := ?_) 4 (some 102) rfl (by kernel_rfl) (by kernel_rfl) (by kernel_rfl) (by kernel_rfl) (fun _ _ _ h => h) (Or.inl ⟨by rfl, ?_⟩) (by assumption) ?_
    rotate_left
    · intro w hSw; (try dsimp only at hSw); go_simp; try (with_reducible rfl)
    (try simp only [Act.put, List.setIfInBounds_toArray, List.set_cons_zero, List.set_cons_succ])
    refine take_at (v := ?_) 5 (some 103) rfl (by kernel_rfl) (by kernel_rfl) (by kernel_rfl) (by kernel_rfl) (fun _ _ _ h => h) (Or.inl ⟨by rfl, ?_⟩) (by assumption) ?_
    rotate_left
    · intro w hSw; (try dsimp only at hSw); go_simp; try (with_reducible rfl)
    (try simp only [Act.put, List.setIfInBounds_toArray, List.set_cons_zero, List.set_cons_succ])
    refine take_at (v := ?_) 6 (some 104) rfl (by kernel_rfl) (by kernel_rfl) (by kernel_rfl) (by kernel_rfl) (fun _ _ _ h => h) (Or.inl ⟨by rfl, ?_⟩) (by assumption) ?_
    rotate_left
    · intro w hSw; (try dsimp only at hSw); go_simp; try (with_reducible rfl)
    (try simp only [Act.put, List.setIfInBounds_toArray, List.set_cons_zero, List.set_cons_succ])
    refine take_at (v := ?_) 7 (some 105) rfl (by kernel_rfl) (by kernel_rfl) (by kernel_rfl) (by kernel_rfl) (fun _ _ _ h => h) (Or.inl ⟨by rfl, ?_⟩) (by assumption) ?_
    rotate_left
    · intro w hSw; (try dsimp only at hSw); go_simp; try (with_reducible rfl)
    (try simp only [Act.put, List.setIfInBounds_toArray, List.set_cons_zero, List.set_cons_succ])
    refine take_at (v := ?_) 8 (some 106) rfl (by kernel_rfl) (by kernel_rfl) (by kernel_rfl) (by kernel_rfl) (fun _ _ _ h => h) (Or.inl ⟨by rfl, ?_⟩) (by assumption) ?_
    rotate_left
    · intro w hSw; (try dsimp only at hSw); go_simp; try (with_reducible rfl)
    (try simp only [Act.put, List.setIfInBounds_toArray, List.set_cons_zero, List.set_cons_succ])
    refine take_at (v := ?_) 9 (some 107) rfl (by kernel_rfl) (by kernel_rfl) (by kernel_rfl) (by kernel_rfl) (fun _ _ _ h => h) (Or.inl ⟨by rfl, ?_⟩) (by assumption) ?_
    rotate_left
    · intro w hSw; (try dsimp only at hSw); go_simp; try (with_reducible rfl)
    (try simp only [Act.put, List.setIfInBounds_toArray, List.set_cons_zero, List.set_cons_succ])
    refine take_at (v := ?_) 10 (some 108) rfl (by kernel_rfl) (by kernel_rfl) (by kernel_rfl) (by kernel_rfl) (fun _ _ _ h => h) (Or.inl ⟨by rfl, ?_⟩) (by assumption) ?_
    rotate_left
    · intro w hSw; (try dsimp only at hSw); go_simp; try (with_reducible rfl)
    (try simp only [Act.put, List.setIfInBounds_toArray, List.set_cons_zero, List.set_cons_succ])
    refine take_at (v := ?_) 11 (some 109) rfl (by kernel_rfl) (by kernel_rfl) (by kernel_rfl) (by kernel_rfl) (fun _ _ _ h => h) (Or.inl ⟨by rfl, ?_⟩) (by assumption) ?_
    rotate_left
    · intro w hSw; (try dsimp only at hSw); go_simp; try (with_reducible rfl)
    (try simp only [Act.put, List.setIfInBounds_toArray, List.set_cons_zero, List.set_cons_succ])
    refine take_at (v := ?_) 12 (some 110) rfl (by kernel_rfl) (by kernel_rfl) (by kernel_rfl) (by kernel_rfl) (fun _ _ _ h => h) (Or.inl ⟨by rfl, ?_⟩) (by assumption) ?_
    rotate_left
    · intro w hSw; (try dsimp only at hSw); go_simp; try (with_reducible rfl)
    (try simp only [Act.put, List.setIfInBounds_toArray, List.set_cons_zero, List.set_cons_succ])
    refine take_at (v := ?_) 13 (some 111) rfl (by kernel_rfl) (by kernel_rfl) (by kernel_rfl) (by kernel_rfl) (fun _ _ _ h => h) (Or.inl ⟨by rfl, ?_⟩) (by assumption) ?_
    rotate_left
    · intro w hSw; (try dsimp only at hSw); go_simp; try (with_reducible rfl)
    (try simp only [Act.put, List.setIfInBounds_toArray, List.set_cons_zero, List.set_cons_succ])
    refine take_at (v := ?_) 14 (some 112) rfl (by kernel_rfl) (by kernel_rfl) (by kernel_rfl) (by kernel_rfl) (fun _ _ _ h => h) (Or.inl ⟨by rfl, ?_⟩) (by assumption) ?_
    rotate_left
    · intro w hSw; (try dsimp only at hSw); go_simp; try (with_reducible rfl)
    (try simp only [Act.put, List.setIfInBounds_toArray, List.set_cons_zero, List.set_cons_succ])
    refine take_at (v := ?_) 15 (some 113) rfl (by kernel_rfl) (by kernel_rfl) (by kernel_rfl) (by kernel_rfl) (fun _ _ _ h => h) (Or.inl ⟨by rfl, ?_⟩) (by assumption) ?_
    rotate_left
    · intro w hSw; (try dsimp only at hSw); go_simp; try (with_reducible rfl)
    (try simp only [Act.put, List.setIfInBounds_toArray, List.set_cons_zero, List.set_cons_succ])
    refine take_at (v := ?_) 16 (some 114) rfl (by kernel_rfl) (by kernel_rfl) (by kernel_rfl) (by kernel_rfl) (fun _ _ _ h => h) (Or.inl ⟨by rfl, ?_⟩) (by assumption) ?_
    rotate_left
    · intro w hSw; (try dsimp only at hSw); go_simp; try (with_reducible rfl)
    (try simp only [Act.put, List.setIfInBounds_toArray, List.set_cons_zero, List.set_cons_succ])
    refine take_at (v := ?_) 18 (some 116) rfl (by kernel_rfl) (by kernel_rfl) (by kernel_rfl) (by kernel_rfl) (fun _ _ _ h => h) (Or.inl ⟨by rfl, ?_⟩) (by assumption) ?_
    rotate_left
    · intro w hSw; (try dsimp only at hSw); go_simp; try (with_reducible rfl)
    (try simp only [Act.put, List.setIfInBounds_toArray, List.set_cons_zero, List.set_cons_succ])
    refine take_at (v := ?_) 19 (some 117) rfl (by kernel_rfl) (by kernel_rfl) (by kernel_rfl) (by kernel_rfl) (fun _ _ _ h => h) (Or.inl ⟨by rfl, ?_⟩) (by assumption) ?_
    rotate_left
    · intro w hSw; (try dsimp only at hSw); go_simp; try (with_reducible rfl)
    (try simp only [Act.put, List.setIfInBounds_toArray, List.set_cons_zero, List.set_cons_succ])
    refine take_at (v := ?_) 20 (some 118) rfl (by kernel_rfl) (by kernel_rfl) (by kernel_rfl) (by kernel_rfl) (fun _ _ _ h => h) (Or.inl ⟨by rfl, ?_⟩) (by assumption) ?_
    rotate_left
    · intro w hSw; (try dsimp only at hSw); go_simp; try (with_reducible rfl)
    (try simp only [Act.put, List.setIfInBounds_toArray, List.set_cons_zero, List.set_cons_succ])
    refine take_at (v := ?_) 21 (some 119) rfl (by kernel_rfl) (by kernel_rfl) (by kernel_rfl) (by kernel_rfl) (fun _ _ _ h => h) (Or.inl ⟨by rfl, ?_⟩) (by assumption) ?_
    rotate_left
    · intro w hSw; (try dsimp only at hSw); go_simp; try (with_reducible rfl)
    (try simp only [Act.put, List.setIfInBounds_toArray, List.set_cons_zero, List.set_cons_succ])
    refine take_at (v := ?_) 22 (some 120) rfl (by kernel_rfl) (by kernel_rfl) (by kernel_rfl) (by kernel_rfl) (fun _ _ _ h => h) (Or.inl ⟨by rfl, ?_⟩) (by assumption) ?_
    rotate_left
    · intro w hSw; (try dsimp only at hSw); go_simp; try (with_reducible rfl)
    (try simp only [Act.put, List.setIfInBounds_toArray, List.set_cons_zero, List.set_cons_succ])
    refine take_at (v := ?_) 23 (some 121) rfl (by kernel_rfl) (by kernel_rfl) (by kernel_rfl) (by kernel_rfl) (fun _ _ _ h => h) (Or.inl ⟨by rfl, ?_⟩) (by assumption) ?_
    rotate_left
    · intro w hSw; (try dsimp only at hSw); go_simp; try (with_reducible rfl)
    (try simp only [Act.put, List.setIfInBounds_toArray, List.set_cons_zero, List.set_cons_succ])
    refine take_at (v := ?_) 24 (some 122) rfl (by kernel_rfl) (by kernel_rfl) (by kernel_rfl) (by kernel_rfl) (fun _ _ _ h => h) (Or.inl ⟨by rfl, ?_⟩) (by assumption) ?_
    rotate_left
    · intro w hSw; (try dsimp only at hSw); go_simp; try (with_reducible rfl)
    (try simp only [Act.put, List.setIfInBounds_toArray, List.set_cons_zero, List.set_cons_succ])
    refine take_at (v := ?_) 25 (some 123) rfl (by kernel_rfl) (by kernel_rfl) (by kernel_rfl) (by kernel_rfl) (fun _ _ _ h => h) (Or.inl ⟨by rfl, ?_⟩) (by assumption) ?_
    rotate_left
    · intro w hSw; (try dsimp only at hSw); go_simp; try (with_reducible rfl)
    (try simp only [Act.put, List.setIfInBounds_toArray, List.set_cons_zero, List.set_cons_succ])
    refine wpAnyH_ready (rs := [17]) (by kernel_rfl) (by simp) ?_
    refine AllReadyH.cons rfl (fun K hK => ?_) AllReadyH.nil
    go_simp
    refine (period_in k S6.out hlt).mono ?_
    rintro e w7 ⟨rfl, rfl⟩
    rw [← PP.out]
    refine hK.out _ _ hHeld (fun hHeld => ?_)
    clear hK K
    (try simp only [Act.put, List.setIfInBounds_toArray, List.set_cons_zero, List.set_cons_succ])
    refine take_at (v := ?_) 26 (some 124) rfl (by kernel_rfl) (by kernel_rfl) (by kernel_rfl) (by kernel_rfl) (fun _ _ _ h => h) (Or.inl ⟨by rfl, ?_⟩) (by assumption) ?_
    rotate_left
    · intro w hSw; (try dsimp only at hSw); go_simp; try (with_reducible rfl)
    (try simp only [Act.put, List.setIfInBounds_toArray, List.set_cons_zero, List.set_cons_succ])
    refine take_at (v := ?_) 27 (some 125) rfl (by kernel_rfl) (by kernel_rfl) (by kernel_rfl) (by kernel_rfl) (fun _ _ _ h => h) (Or.inl ⟨by rfl, ?_⟩) (by assumption) ?_
    rotate_left
    · intro w hSw; (try dsimp only at hSw); go_simp; try (with_reducible rfl)
    (try simp only [Act.put, List.setIfInBounds_toArray, List.set_cons_zero, List.set_cons_succ])
    refine wpAnyH_done (by kernel_rfl) ?_ _
    clear hHeld
    go_wp2
    first | exact ⟨⟨rfl, rfl, rfl, rfl, rfl, rfl, ⟨S6.out, V6.out, C6.out⟩⟩, hlt⟩ | exact ⟨rfl, rfl, rfl, rfl, rfl, rfl, ⟨S6.out, V6.out, C6.out⟩⟩
  · obtain rfl : k = n := by omega
    have hkz : ¬ (k : Int) < (k : Int) := by omega
    go_wp2
    first | exact ⟨by first | rfl | trivial, ⟨rfl, rfl, rfl, rfl, rfl, rfl, REL.out⟩, by first | rfl | trivial⟩ | exact ⟨by first | rfl | trivial, ⟨rfl, rfl, rfl, rfl, rfl, rfl, REL.out⟩⟩ | exact ⟨rfl, rfl, rfl, rfl, rfl, rfl, REL.out⟩ | exact ⟨⟨rfl, rfl, rfl, rfl, rfl, rfl, REL.out⟩, by first | rfl | trivial⟩
theorem slA_loop (w : World) (b rb vb lb n cnt np : Nat) (R : Nat → Rec) (Q : Nat → Rq) (ar : Option Addr) (cr : Nat) (slot : Int) (hd : ∀ k, VS vb lb ar k → k ≠ b ∧ k ≠ rb) (n1 : n ≤ 64) (a : Act) (wr : World) (hb : 0 ≤ n) (H : slAI w b rb vb lb n cnt np R Q ar cr slot 0 a wr) :
    Code.wp Try.prog (.loop (loopIn 0 Try.f20)) (Qx 0 (fun a' w' => slAI w b rb vb lb n cnt np R Q ar cr slot n a' w')) a wr := by
  refine wp_loop (fun a' wr => ∃ k, k ≤ n ∧ slAI w b rb vb lb n cnt np R Q ar cr slot k a' wr) (fun a' _ => n - (intOf (a'.tmps.getD 12 undef)).toNat) ⟨0, hb, H⟩ ?_
  rintro a' wr ⟨k, hk, h⟩
  refine wp_mono (slA_round w b rb vb lb n cnt np R Q ar cr slot hd n1 a' wr hk h) ?_
  intro e a2 w2 hp
  cases e with
  | normal =>
    refine ⟨⟨k + 1, by have := hp.2; omega, hp.1⟩, ?_⟩
    rw [slAI_ctr w b rb vb lb n cnt np R Q ar cr slot h, slAI_ctr w b rb vb lb n cnt np R Q ar cr slot hp.1]
    have := hp.2
    simp only [intOf, Int.toNat_natCast]
    omega
  | exit n => exact ⟨hp.1, hp.2.2 ▸ hp.2.1⟩
  | _ => exact hp.elim
set_option maxRecDepth 100000 in
set_option maxHeartbeats 0 in
theorem sl_end (w : World) (b rb vb lb n cnt np : Nat) (R : Nat → Rec) (Q : Nat → Rq) (ar : Option Addr) (cr : Nat) (slot : Int) (hd : ∀ k, VS vb lb ar k → k ≠ b ∧ k ≠ rb) (n1 : n ≤ 64)  (a : Act) (wr : World) (H : slAI w b rb vb lb n cnt np R Q ar cr slot n a wr) :
    Code.wp Try.prog (aftIn 0 Try.f20) (bodyPost Try.prog Try.f20 (fun e w' => e = .returned (.bool true) ∧ IsS w' b rb n cnt R ∧ RfS w' vb lb n cnt R np Q ar cr ∧ Ch (Two b rb) w w')) a wr := by
  obtain ⟨t, ds⟩ := a
  obtain ⟨hd', hz, h0, h1, h3, h12, rel⟩ := H
  replace hd' : ds = [] := hd'
  subst hd'
  replace hz : t.size = 155 := hz
  replace h0 : t.getD 0 undef = .pointer (some ⟨b, 0, none⟩) := h0
  replace h1 : t.getD 1 undef = .pointer (some ⟨vb, 0, none⟩) := h1
  replace h3 : t.getD 3 undef = .int .i64 slot := h3
  replace h12 : t.getD 12 undef = .int .i64 (n : Nat) := h12
  have REL := Lib.hid rel
  clear rel
  refine openFr155 (P := fun t => t.getD 0 undef = .pointer (some ⟨b, 0, none⟩) → t.getD 1 undef = .pointer (some ⟨vb, 0, none⟩) → t.getD 3 undef = .int .i64 slot → t.getD 12 undef = .int .i64 (n : Nat) → Code.wp Try.prog (aftIn 0 Try.f20) (bodyPost Try.prog Try.f20 (fun e w' => e = .returned (.bool true) ∧ IsS w' b rb n cnt R ∧ RfS w' vb lb n cnt R np Q ar cr ∧ Ch (Two b rb) w w')) ⟨t, []⟩ wr) ?_ t hz h0 h1 h3 h12
  clear h0 h1 h3 h12 hz t
  intro c0 c1 c2 c3 c4 c5 c6 c7 c8 c9 c10 c11 c12 c13 c14 c15 c16 c17 c18 c19 c20 c21 c22 c23 c24 c25 c26 c27 c28 c29 c30 c31 c32 c33 c34 c35 c36 c37 c38 c39 c40 c41 c42 c43 c44 c45 c46 c47 c48 c49 c50 c51 c52 c53 c54 c55 c56 c57 c58 c59 c60 c61 c62 c63 c64 c65 c66 c67 c68 c69 c70 c71 c72 c73 c74 c75 c76 c77 c78 c79 c80 c81 c82 c83 c84 c85 c86 c87 c88 c89 c90 c91 c92 c93 c94 c95 c96 c97 c98 c99 c100 c101 c102 c103 c104 c105 c106 c107 c108 c109 c110 c111 c112 c113 c114 c115 c116 c117 c118 c119 c120 c121 c122 c123 c124 c125 c126 c127 c128 c129 c130 c131 c132 c133 c134 c135 c136 c137 c138 c139 c140 c141 c142 c143 c144 c145 c146 c147 c148 c149 c150 c151 c152 c153 c154 h0 h1 h3 h12
  replace h0 : c0 = .pointer (some ⟨b, 0, none⟩) := h0
  replace h1 : c1 = .pointer (some ⟨vb, 0, none⟩) := h1
  replace h3 : c3 = .int .i64 slot := h3
  replace h12 : c12 = .int .i64 (n : Nat) := h12
  subst h0
  subst h1
  subst h3
  subst h12
  conv => arg 2; whnf
  have HDD := Lib.hid hd
  clear hd
  have c0 := REL.out.2.1.l
  by_cases hin : 0 ≤ slot ∧ slot < n
  · obtain ⟨h1, h2⟩ := hin
    go_wp2
    go_ret
    exact ⟨rfl, REL.out⟩
  · have HI := Lib.hid hin
    by_cases h1 : 0 ≤ slot
    · have h2 : ¬ slot < (n : Int) := fun h => hin ⟨h1, h⟩
      clear hin
      go_wp2_with fail
      refine (word_out slot REL.out.1 HI.out).mono ?_
      rintro e w5 ⟨rfl, rfl⟩
      go_wp2_with fail
      refine (period_out slot REL.out.1 HI.out).mono ?_
      rintro e w5 ⟨rfl, rfl⟩
      go_wp2
      go_ret
      exact ⟨rfl, REL.out⟩
    · clear hin
      go_wp2_with fail
      refine (word_out slot REL.out.1 HI.out).mono ?_
      rintro e w5 ⟨rfl, rfl⟩
      go_wp2_with fail
      refine (period_out slot REL.out.1 HI.out).mono ?_
      rintro e w5 ⟨rfl, rfl⟩
      go_wp2
      go_ret
      exact ⟨rfl, REL.out⟩
end Go.Proofs.Ytjhmmfdmoalfmaa
