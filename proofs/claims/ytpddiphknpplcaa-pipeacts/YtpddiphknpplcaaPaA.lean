/-
  PipeActs: the loop over the acts.
-/
import Derived.Test.YtpddiphknpplcaaPaCode
import Derived.Test.YtpddiphknpplcaaHeld
import Derived.Deep.QuietTactic
import Derived.BigQuiet
import Derived.Deep.Cut
import Derived.Deep.CutRange
import Derived.Deep.CutBlock
import Derived.RegionTactic
import Derived.BigRegion
namespace Go.Proofs.Ytpddiphknpplcaa
open Go.RowKit Verge PI
set_option linter.unusedVariables false
set_option linter.unusedSimpArgs false
attribute [local go_sem] Oper.semAt_some

/-- what holds at the head of the loop -/
def paAI (w : World) (pb cb n vb : Nat) (ad : Option Addr) (len cap : Nat) (k : Nat) (a : Act) (wr : World) : Prop :=
  ∃ (q : List Int) (m : Nat) (sh : Bool) (S : Nat → Prop) (ra : Option Addr) (cp : Nat), a.defers = [] ∧ a.tmps.size = 192 ∧ a.tmps.getD 1 undef = .slice ad len cap ∧ a.tmps.getD 5 undef = .pointer (some ⟨pb, 0, none⟩) ∧ a.tmps.getD 7 undef = .pointer (some ⟨vb, 0, none⟩) ∧ a.tmps.getD 8 undef = .int .i64 (k : Nat) ∧ PaR w wr pb cb n vb q m sh S ra cp k
theorem paAI_ctr {k : Nat} (w : World) (pb cb n vb : Nat) (ad : Option Addr) (len cap : Nat) {a : Act} {wr : World} (H : paAI w pb cb n vb ad len cap k a wr) : a.tmps.getD 8 undef = .int .i64 (k : Nat) := by
  obtain ⟨q, m, sh, S, ra, cp, -, -, -, -, -, h, -⟩ := H
  exact h
set_option maxRecDepth 100000 in
set_option maxHeartbeats 0 in
theorem paA_round {k : Nat} (w : World) (pb cb n vb : Nat) (ad : Option Addr) (len cap : Nat) (hv : IsTab [.i .i64, .i .i64] w ad len cap) (h200 : len ≤ 200) (hn1 : 1 ≤ n) (hn2 : n ≤ 16) (a : Act) (wr : World) (hk : k ≤ len) (H : paAI w pb cb n vb ad len cap k a wr) :
    Code.wp Try.prog (loopIn 0 Try.f3) (Exit.then (fun a' w' => paAI w pb cb n vb ad len cap (k + 1) a' w' ∧ k < len) (Qx 0 (fun a' w' => paAI w pb cb n vb ad len cap k a' w' ∧ k = len))) a wr := by
  obtain ⟨t, ds⟩ := a
  obtain ⟨q, m, sh, S, ra, cp, hd', hz, h1, h5, h7, h8, rel⟩ := H
  replace hd' : ds = [] := hd'
  subst hd'
  replace hz : t.size = 192 := hz
  replace h1 : t.getD 1 undef = .slice ad len cap := h1
  replace h5 : t.getD 5 undef = .pointer (some ⟨pb, 0, none⟩) := h5
  replace h7 : t.getD 7 undef = .pointer (some ⟨vb, 0, none⟩) := h7
  replace h8 : t.getD 8 undef = .int .i64 (k : Nat) := h8
  have REL := Lib.hid rel
  clear rel
  refine openFr192 (P := fun t => t.getD 1 undef = .slice ad len cap → t.getD 5 undef = .pointer (some ⟨pb, 0, none⟩) → t.getD 7 undef = .pointer (some ⟨vb, 0, none⟩) → t.getD 8 undef = .int .i64 (k : Nat) → Code.wp Try.prog (loopIn 0 Try.f3) (Exit.then (fun a' w' => paAI w pb cb n vb ad len cap (k + 1) a' w' ∧ k < len) (Qx 0 (fun a' w' => paAI w pb cb n vb ad len cap k a' w' ∧ k = len))) ⟨t, []⟩ wr) ?_ t hz h1 h5 h7 h8
  clear h1 h5 h7 h8 hz t
  intro c0 c1 c2 c3 c4 c5 c6 c7 c8 c9 c10 c11 c12 c13 c14 c15 c16 c17 c18 c19 c20 c21 c22 c23 c24 c25 c26 c27 c28 c29 c30 c31 c32 c33 c34 c35 c36 c37 c38 c39 c40 c41 c42 c43 c44 c45 c46 c47 c48 c49 c50 c51 c52 c53 c54 c55 c56 c57 c58 c59 c60 c61 c62 c63 c64 c65 c66 c67 c68 c69 c70 c71 c72 c73 c74 c75 c76 c77 c78 c79 c80 c81 c82 c83 c84 c85 c86 c87 c88 c89 c90 c91 c92 c93 c94 c95 c96 c97 c98 c99 c100 c101 c102 c103 c104 c105 c106 c107 c108 c109 c110 c111 c112 c113 c114 c115 c116 c117 c118 c119 c120 c121 c122 c123 c124 c125 c126 c127 c128 c129 c130 c131 c132 c133 c134 c135 c136 c137 c138 c139 c140 c141 c142 c143 c144 c145 c146 c147 c148 c149 c150 c151 c152 c153 c154 c155 c156 c157 c158 c159 c160 c161 c162 c163 c164 c165 c166 c167 c168 c169 c170 c171 c172 c173 c174 c175 c176 c177 c178 c179 c180 c181 c182 c183 c184 c185 c186 c187 c188 c189 c190 c191 h1 h5 h7 h8
  replace h1 : c1 = .slice ad len cap := h1
  replace h5 : c5 = .pointer (some ⟨pb, 0, none⟩) := h5
  replace h7 : c7 = .pointer (some ⟨vb, 0, none⟩) := h7
  replace h8 : c8 = .int .i64 (k : Nat) := h8
  subst h1
  subst h5
  subst h7
  subst h8
  conv => arg 2; whnf
  by_cases hlt : k < len
  · obtain ⟨x, z, v, hx, cp1, cp2, q0, q1⟩ := tab_act11 hv hlt
    subst hx
    have Q1 := Lib.hid q1
    replace q0 := REL.out.g.p.c.keeps q0 (fun e => e)
    replace q1 := REL.out.g.p.c.keeps q1 (fun e => e)
    have hltz : (k : Int) < (len : Int) := by omega
    have e0 : ((k : Int)).toNat = k := by omega
    have hk0 : (0 : Int) ≤ (k : Int) := by omega
    go_upto_block 2 with (fail)
    clear q0
    go_cut [] from 49 to 191 (fun wc => PaM w wc pb cb n vb (k + 1))
    case first =>
      obtain ⟨G, hb, hm⟩ := REL.out
      by_cases h0 : z = 0
      · subst h0
        cases sh with
        | true =>
          have P1 := Lib.hid (G.p.putShut v)
          have R1 := Lib.hid (G.r.putShut v)
          have GG := Lib.hid G
          clear G
          go_wp2_with fail
          refine P1.out.mono ?_
          rintro e w5 ⟨rfl, rfl⟩
          go_wp2_with fail
          refine R1.out.mono ?_
          rintro e w5 ⟨rfl, rfl⟩
          clear P1 R1 q1
          go_wp2
          go_meet
          case rel => exact ⟨_, _, _, _, _, _, GG.out, by omega, by omega⟩
        | false =>
          have P1 := Lib.hid (G.p.put v (by omega) (by omega))
          have hql := hb
          obtain ⟨sp, hsp⟩ : ∃ sp, decide (n ≤ q.length) = sp := ⟨_, rfl⟩
          rw [hsp] at P1
          have GG := Lib.hid G
          clear G
          go_wp2_with fail
          refine P1.out.mono ?_
          rintro e w5 ⟨rfl, S5, p5, nx5⟩
          have G5 := GG.out.pipe p5 nx5
          have R1 := Lib.hid (G5.r.put v (by omega) (by omega))
          rw [hsp] at R1
          have q2 := p5.c.keeps Q1.out (fun e => e)
          have GG5 := Lib.hid G5
          clear P1 p5 nx5 G5 GG q1 hsp
          go_wp2_with fail
          refine R1.out.mono ?_
          rintro e w6 ⟨rfl, g6, cp6, hg6, r6, c6⟩
          have G6 := Lib.hid (GG5.out.ref r6 c6 (fun j hj => by have e : g6 = j := by simpa [OwnS] using hj
                                                                subst e; exact hg6))
          clear R1 r6 c6 hg6 GG5 q2
          cases sp
          · go_wp2
            go_meet
            case rel => exact ⟨_, _, _, _, _, _, G6.out, by simp; omega, by omega⟩
          · go_wp2
            go_meet
            case rel => exact ⟨_, _, _, _, _, _, G6.out, by simp; omega, by omega⟩
      · have t0 : (z == 0) = false := by rw [beq_eq_false_iff_ne]; exact h0
        clear h0
        by_cases h1 : z = 1
        · subst h1
          cases q with
          | nil =>
            have P1 := Lib.hid G.p.takeNone
            have R1 := Lib.hid G.r.takeNone
            have GG := Lib.hid G
            clear G
            go_wp2_with fail
            refine P1.out.mono ?_
            rintro e w5 ⟨rfl, rfl⟩
            go_wp2_with fail
            refine R1.out.mono ?_
            rintro e w5 ⟨rfl, rfl⟩
            clear P1 R1 q1
            go_wp2
            go_meet
            case rel => exact ⟨_, _, _, _, _, _, GG.out, by simp, by omega⟩
          | cons y q =>
            simp only [List.length_cons] at hb
            have P1 := Lib.hid (G.p.take hn1 (by omega))
            have GG := Lib.hid G
            have yy : ∀ y : Int, (y != y) = false := fun y => by simp
            clear G
            go_wp2_with fail
            refine P1.out.mono ?_
            rintro e w5 ⟨rfl, S5, p5, nx5⟩
            have G5 := GG.out.pipe p5 nx5
            have R1 := Lib.hid (G5.r.take (by omega))
            have GG5 := Lib.hid G5
            clear P1 p5 nx5 G5 GG q1
            go_wp2_with fail
            refine R1.out.mono ?_
            rintro e w6 ⟨rfl, g6, cp6, hg6, r6, c6⟩
            have G6 := Lib.hid (GG5.out.ref r6 c6 (fun j hj => by have e : g6 = j := by simpa [OwnS] using hj
                                                                  subst e; exact .inr hg6))
            clear R1 r6 c6 hg6 GG5
            go_wp2
            go_meet
            case rel => exact ⟨_, _, _, _, _, _, G6.out, by omega, by omega⟩
        · have t1 : (z == 1) = false := by rw [beq_eq_false_iff_ne]; exact h1
          clear h1
          by_cases h2 : z = 2
          · subst h2
            have c2 := G.r.s
            have f2 := G.r.k.fz 2
            have G5 := Lib.hid (G.ref (G.r.setS true) ((Ch.refl (RB vb ra) wr).set (p := ⟨vb, 2, none⟩) (fun _ => .inl rfl) _) (fun j hj => .inl hj))
            clear G q1
            cases sh with
            | true =>
              have P1 := Lib.hid G5.out.p.shutAgain
              go_upto_region 30 with (fail)
              generalize wr.setCell ⟨vb, 2, none⟩ (.bool true) = W5 at *
              go_wp2_with fail
              refine P1.out.mono ?_
              rintro e w5 ⟨rfl, rfl⟩
              clear P1 c2 f2
              go_wp2
              go_meet
              case rel => exact ⟨_, _, _, _, _, _, G5.out, by omega, by omega⟩
            | false =>
              have P1 := Lib.hid G5.out.p.shut
              go_upto_region 30 with (fail)
              generalize wr.setCell ⟨vb, 2, none⟩ (.bool true) = W5 at *
              go_wp2_with fail
              refine P1.out.mono ?_
              rintro e w6 ⟨rfl, p6, nx6⟩
              have G6 := Lib.hid (G5.out.pipe p6 nx6)
              clear P1 c2 f2 p6 nx6 G5
              go_wp2
              go_meet
              case rel => exact ⟨_, _, _, _, _, _, G6.out, by omega, by omega⟩
          · have t2 : (z == 2) = false := by rw [beq_eq_false_iff_ne]; exact h2
            have GG := Lib.hid G
            clear h2 G q1
            go_wp2
            go_meet
            case rel => exact ⟨_, _, _, _, _, _, GG.out, by omega, by omega⟩
    case rest =>
      obtain ⟨q5, m5, sh5, S5, ra5, cp5, R⟩ := hcut
      obtain ⟨G, hb5, hm5⟩ := R
      obtain ⟨l, hl⟩ : ∃ l, q5.length = l := ⟨_, rfl⟩
      obtain ⟨d, hd⟩ : ∃ d, l - n = d := ⟨_, rfl⟩
      have G0 := Lib.hid (G.quiet ((Ch.refl Nil wc).drew))
      have yz : ∀ z : Nat, ((z : Int) != (z : Int)) = false := fun z => by rw [bne_eq_false_iff_eq]
      clear G REL q1
      go_upto_region 32 with (fail)
      cases sh5 with
      | false =>
        refine wp_region_held_drew (S := fun w' => w'.cell? ⟨vb, 1, none⟩ = some (.slice ra5 l cp5) ∧ w'.cell? ⟨vb, 2, none⟩ = some (.bool false) ∧ w'.cell? ⟨vb, 3, none⟩ = some (.int .i64 m5)) (by kernel_rfl) ⟨by have h := G0.out.r.l; rw [hl] at h; exact h, G0.out.r.s, G0.out.r.m0⟩ (fun hHeld => ?_)
        generalize wc.drew = Y at *
        refine take_at (v := ?_) 0 (some 141) rfl (by kernel_rfl) (by kernel_rfl) (by kernel_rfl) (by kernel_rfl) (fun _ _ _ h => h) (Or.inl ⟨by rfl, ?_⟩) (by assumption) ?_
        rotate_left
        · intro w hSw; (try dsimp only at hSw); go_simp; try (with_reducible rfl)
        (try simp only [Act.put, List.setIfInBounds_toArray, List.set_cons_zero, List.set_cons_succ])
        refine take_at (v := ?_) 2 (some 143) rfl (by kernel_rfl) (by kernel_rfl) (by kernel_rfl) (by kernel_rfl) (fun _ _ _ h => h) (Or.inl ⟨by rfl, ?_⟩) (by assumption) ?_
        rotate_left
        · intro w hSw; (try dsimp only at hSw); go_simp; try (with_reducible rfl)
        (try simp only [Act.put, List.setIfInBounds_toArray, List.set_cons_zero, List.set_cons_succ])
        refine take_at (v := ?_) 3 (some 144) rfl (by kernel_rfl) (by kernel_rfl) (by kernel_rfl) (by kernel_rfl) (fun _ _ _ h => h) (Or.inl ⟨by rfl, ?_⟩) (by assumption) ?_
        rotate_left
        · intro w hSw; (try dsimp only at hSw); go_simp; try (with_reducible rfl)
        (try simp only [Act.put, List.setIfInBounds_toArray, List.set_cons_zero, List.set_cons_succ])
        refine take_at (v := ?_) 4 (some 145) rfl (by kernel_rfl) (by kernel_rfl) (by kernel_rfl) (by kernel_rfl) (fun _ _ _ h => h) (Or.inl ⟨by rfl, ?_⟩) (by assumption) ?_
        rotate_left
        · intro w hSw; (try dsimp only at hSw); go_simp; try (with_reducible rfl)
        (try simp only [Act.put, List.setIfInBounds_toArray, List.set_cons_zero, List.set_cons_succ])
        refine take_at (v := ?_) 5 (some 146) rfl (by kernel_rfl) (by kernel_rfl) (by kernel_rfl) (by kernel_rfl) (fun _ _ _ h => h) (Or.inl ⟨by rfl, ?_⟩) (by assumption) ?_
        rotate_left
        · intro w hSw; (try dsimp only at hSw); go_simp; try (with_reducible rfl)
        (try simp only [Act.put, List.setIfInBounds_toArray, List.set_cons_zero, List.set_cons_succ])
        refine take_at (v := ?_) 6 (some 147) rfl (by kernel_rfl) (by kernel_rfl) (by kernel_rfl) (by kernel_rfl) (fun _ _ _ h => h) (Or.inl ⟨by rfl, ?_⟩) (by assumption) ?_
        rotate_left
        · intro w hSw; (try dsimp only at hSw); go_simp; try (with_reducible rfl)
        (try simp only [Act.put, List.setIfInBounds_toArray, List.set_cons_zero, List.set_cons_succ])
        have LE := Lib.hid (G0.out.p.len (by omega))
        rw [hl] at LE
        refine wpAnyH_ready (rs := [1]) (by kernel_rfl) (by simp) ?_
        refine AllReadyH.cons rfl (fun K hK => ?_) AllReadyH.nil
        go_simp
        refine LE.out.mono ?_
        rintro e w1 ⟨rfl, p1, nx1⟩
        have G1 := Lib.hid (G0.out.pipe p1 nx1)
        clear p1 nx1 LE G0
        refine hK.out _ _ ⟨by have h := G1.out.r.l; rw [hl] at h; exact h, G1.out.r.s, G1.out.r.m0⟩ (fun hHeld => ?_)
        clear hK K
        (try simp only [Act.put, List.setIfInBounds_toArray, List.set_cons_zero, List.set_cons_succ])
        refine take_at (v := ?_) 7 (some 148) rfl (by kernel_rfl) (by kernel_rfl) (by kernel_rfl) (by kernel_rfl) (fun _ _ _ h => h) (Or.inl ⟨by rfl, ?_⟩) (by assumption) ?_
        rotate_left
        · intro w hSw; (try dsimp only at hSw); go_simp; try (with_reducible rfl)
        (try simp only [Act.put, List.setIfInBounds_toArray, List.set_cons_zero, List.set_cons_succ])
        refine take_at (v := ?_) 8 (some 149) rfl (by kernel_rfl) (by kernel_rfl) (by kernel_rfl) (by kernel_rfl) (fun _ _ _ h => h) (Or.inl ⟨by rfl, ?_⟩) (by assumption) ?_
        rotate_left
        · intro w hSw; (try dsimp only at hSw); go_simp; try (with_reducible rfl)
        (try simp only [Act.put, List.setIfInBounds_toArray, List.set_cons_zero, List.set_cons_succ])
        refine take_at (v := ?_) 9 (some 150) rfl (by kernel_rfl) (by kernel_rfl) (by kernel_rfl) (by kernel_rfl) (fun _ _ _ h => h) (Or.inl ⟨by rfl, ?_⟩) (by assumption) ?_
        rotate_left
        · intro w hSw; (try dsimp only at hSw); go_simp; try (with_reducible rfl)
        (try simp only [Act.put, List.setIfInBounds_toArray, List.set_cons_zero, List.set_cons_succ])
        refine take_at (v := ?_) 11 (some 152) rfl (by kernel_rfl) (by kernel_rfl) (by kernel_rfl) (by kernel_rfl) (fun _ _ _ h => h) (Or.inl ⟨by rfl, ?_⟩) (by assumption) ?_
        rotate_left
        · intro w hSw; (try dsimp only at hSw); go_simp; try (with_reducible rfl)
        (try simp only [Act.put, List.setIfInBounds_toArray, List.set_cons_zero, List.set_cons_succ])
        have SP := Lib.hid G1.out.p.spilled
        rw [hl, hd] at SP
        refine wpAnyH_ready (rs := [10]) (by kernel_rfl) (by simp) ?_
        refine AllReadyH.cons rfl (fun K hK => ?_) AllReadyH.nil
        go_simp
        refine SP.out.mono ?_
        rintro e wx ⟨rfl, rfl⟩
        clear SP
        refine hK.out _ _ ⟨by have h := G1.out.r.l; rw [hl] at h; exact h, G1.out.r.s, G1.out.r.m0⟩ (fun hHeld => ?_)
        clear hK K
        (try simp only [Act.put, List.setIfInBounds_toArray, List.set_cons_zero, List.set_cons_succ])
        have SP := Lib.hid (G1.out.r.spilled (by omega) (by omega))
        rw [hl, hd] at SP
        refine wpAnyH_ready (rs := [12]) (by kernel_rfl) (by simp) ?_
        refine AllReadyH.cons rfl (fun K hK => ?_) AllReadyH.nil
        go_simp
        refine SP.out.mono ?_
        rintro e w2 ⟨rfl, c2⟩
        have G2 := Lib.hid (G1.out.quiet c2)
        clear c2 SP G1
        refine hK.out _ _ ⟨by have h := G2.out.r.l; rw [hl] at h; exact h, G2.out.r.s, G2.out.r.m0⟩ (fun hHeld => ?_)
        clear hK K
        (try simp only [Act.put, List.setIfInBounds_toArray, List.set_cons_zero, List.set_cons_succ])
        refine take_at (v := ?_) 13 (some 154) rfl (by kernel_rfl) (by kernel_rfl) (by kernel_rfl) (by kernel_rfl) (fun _ _ _ h => h) (Or.inl ⟨by rfl, ?_⟩) (by assumption) ?_
        rotate_left
        · intro w hSw; (try dsimp only at hSw); go_simp; try (with_reducible rfl)
        (try simp only [Act.put, List.setIfInBounds_toArray, List.set_cons_zero, List.set_cons_succ])
        refine take_at (v := ?_) 14 (some 155) rfl (by kernel_rfl) (by kernel_rfl) (by kernel_rfl) (by kernel_rfl) (fun _ _ _ h => h) (Or.inl ⟨by rfl, ?_⟩) (by assumption) ?_
        rotate_left
        · intro w hSw; (try dsimp only at hSw); go_simp; try (with_reducible rfl)
        (try simp only [Act.put, List.setIfInBounds_toArray, List.set_cons_zero, List.set_cons_succ])
        refine take_at (v := ?_) 15 (some 156) rfl (by kernel_rfl) (by kernel_rfl) (by kernel_rfl) (by kernel_rfl) (fun _ _ _ h => h) (Or.inl ⟨by rfl, ?_⟩) (by assumption) ?_
        rotate_left
        · intro w hSw; (try dsimp only at hSw); go_simp; try (with_reducible rfl)
        (try simp only [Act.put, List.setIfInBounds_toArray, List.set_cons_zero, List.set_cons_succ])
        refine take_at (v := ?_) 16 (some 157) rfl (by kernel_rfl) (by kernel_rfl) (by kernel_rfl) (by kernel_rfl) (fun _ _ _ h => h) (Or.inl ⟨by rfl, ?_⟩) (by assumption) ?_
        rotate_left
        · intro w hSw; (try dsimp only at hSw); go_simp; try (with_reducible rfl)
        (try simp only [Act.put, List.setIfInBounds_toArray, List.set_cons_zero, List.set_cons_succ])
        refine take_at (v := ?_) 18 (some 159) rfl (by kernel_rfl) (by kernel_rfl) (by kernel_rfl) (by kernel_rfl) (fun _ _ _ h => h) (Or.inl ⟨by rfl, ?_⟩) (by assumption) ?_
        rotate_left
        · intro w hSw; (try dsimp only at hSw); go_simp; try (with_reducible rfl)
        (try simp only [Act.put, List.setIfInBounds_toArray, List.set_cons_zero, List.set_cons_succ])
        refine take_at (v := ?_) 19 (some 160) rfl (by kernel_rfl) (by kernel_rfl) (by kernel_rfl) (by kernel_rfl) (fun _ _ _ h => h) (Or.inl ⟨by rfl, ?_⟩) (by assumption) ?_
        rotate_left
        · intro w hSw; (try dsimp only at hSw); go_simp; try (with_reducible rfl)
        (try simp only [Act.put, List.setIfInBounds_toArray, List.set_cons_zero, List.set_cons_succ])
        refine take_at (v := ?_) 20 (some 161) rfl (by kernel_rfl) (by kernel_rfl) (by kernel_rfl) (by kernel_rfl) (fun _ _ _ h => h) (Or.inl ⟨by rfl, ?_⟩) (by assumption) ?_
        rotate_left
        · intro w hSw; (try dsimp only at hSw); go_simp; try (with_reducible rfl)
        (try simp only [Act.put, List.setIfInBounds_toArray, List.set_cons_zero, List.set_cons_succ])
        refine take_at (v := ?_) 21 (some 162) rfl (by kernel_rfl) (by kernel_rfl) (by kernel_rfl) (by kernel_rfl) (fun _ _ _ h => h) (Or.inl ⟨by rfl, ?_⟩) (by assumption) ?_
        rotate_left
        · intro w hSw; (try dsimp only at hSw); go_simp; try (with_reducible rfl)
        (try simp only [Act.put, List.setIfInBounds_toArray, List.set_cons_zero, List.set_cons_succ])
        have MO := Lib.hid G2.out.p.most
        refine wpAnyH_ready (rs := [17]) (by kernel_rfl) (by simp) ?_
        refine AllReadyH.cons rfl (fun K hK => ?_) AllReadyH.nil
        go_simp
        refine MO.out.mono ?_
        rintro e wx ⟨rfl, rfl⟩
        clear MO
        refine hK.out _ _ ⟨by have h := G2.out.r.l; rw [hl] at h; exact h, G2.out.r.s, G2.out.r.m0⟩ (fun hHeld => ?_)
        clear hK K
        (try simp only [Act.put, List.setIfInBounds_toArray, List.set_cons_zero, List.set_cons_succ])
        refine take_at (v := ?_) 22 (some 163) rfl (by kernel_rfl) (by kernel_rfl) (by kernel_rfl) (by kernel_rfl) (fun _ _ _ h => h) (Or.inl ⟨by rfl, ?_⟩) (by assumption) ?_
        rotate_left
        · intro w hSw; (try dsimp only at hSw); go_simp; try (with_reducible rfl)
        (try simp only [Act.put, List.setIfInBounds_toArray, List.set_cons_zero, List.set_cons_succ])
        refine take_at (v := ?_) 23 (some 164) rfl (by kernel_rfl) (by kernel_rfl) (by kernel_rfl) (by kernel_rfl) (fun _ _ _ h => h) (Or.inl ⟨by rfl, ?_⟩) (by assumption) ?_
        rotate_left
        · intro w hSw; (try dsimp only at hSw); go_simp; try (with_reducible rfl)
        (try simp only [Act.put, List.setIfInBounds_toArray, List.set_cons_zero, List.set_cons_succ])
        refine take_at (v := ?_) 24 (some 165) rfl (by kernel_rfl) (by kernel_rfl) (by kernel_rfl) (by kernel_rfl) (fun _ _ _ h => h) (Or.inl ⟨by rfl, ?_⟩) (by assumption) ?_
        rotate_left
        · intro w hSw; (try dsimp only at hSw); go_simp; try (with_reducible rfl)
        (try simp only [Act.put, List.setIfInBounds_toArray, List.set_cons_zero, List.set_cons_succ])
        refine take_at (v := ?_) 25 (some 166) rfl (by kernel_rfl) (by kernel_rfl) (by kernel_rfl) (by kernel_rfl) (fun _ _ _ h => h) (Or.inl ⟨by rfl, ?_⟩) (by assumption) ?_
        rotate_left
        · intro w hSw; (try dsimp only at hSw); go_simp; try (with_reducible rfl)
        (try simp only [Act.put, List.setIfInBounds_toArray, List.set_cons_zero, List.set_cons_succ])
        refine take_at (v := ?_) 27 (some 168) rfl (by kernel_rfl) (by kernel_rfl) (by kernel_rfl) (by kernel_rfl) (fun _ _ _ h => h) (Or.inl ⟨by rfl, ?_⟩) (by assumption) ?_
        rotate_left
        · intro w hSw; (try dsimp only at hSw); go_simp; try (with_reducible rfl)
        (try simp only [Act.put, List.setIfInBounds_toArray, List.set_cons_zero, List.set_cons_succ])
        refine take_at (v := ?_) 28 (some 169) rfl (by kernel_rfl) (by kernel_rfl) (by kernel_rfl) (by kernel_rfl) (fun _ _ _ h => h) (Or.inl ⟨by rfl, ?_⟩) (by assumption) ?_
        rotate_left
        · intro w hSw; (try dsimp only at hSw); go_simp; try (with_reducible rfl)
        (try simp only [Act.put, List.setIfInBounds_toArray, List.set_cons_zero, List.set_cons_succ])
        refine take_at (v := ?_) 29 (some 170) rfl (by kernel_rfl) (by kernel_rfl) (by kernel_rfl) (by kernel_rfl) (fun _ _ _ h => h) (Or.inl ⟨by rfl, ?_⟩) (by assumption) ?_
        rotate_left
        · intro w hSw; (try dsimp only at hSw); go_simp; try (with_reducible rfl)
        (try simp only [Act.put, List.setIfInBounds_toArray, List.set_cons_zero, List.set_cons_succ])
        refine take_at (v := ?_) 30 (some 171) rfl (by kernel_rfl) (by kernel_rfl) (by kernel_rfl) (by kernel_rfl) (fun _ _ _ h => h) (Or.inl ⟨by rfl, ?_⟩) (by assumption) ?_
        rotate_left
        · intro w hSw; (try dsimp only at hSw); go_simp; try (with_reducible rfl)
        (try simp only [Act.put, List.setIfInBounds_toArray, List.set_cons_zero, List.set_cons_succ])
        have CL := Lib.hid (G2.out.p.closed (by omega))
        rw [hl, Bool.false_and] at CL
        refine wpAnyH_ready (rs := [26]) (by kernel_rfl) (by simp) ?_
        refine AllReadyH.cons rfl (fun K hK => ?_) AllReadyH.nil
        go_simp
        refine CL.out.mono ?_
        rintro e w3 ⟨rfl, p3, nx3⟩
        have G3 := Lib.hid (G2.out.pipe p3 nx3)
        clear p3 nx3 CL G2
        refine hK.out _ _ ⟨by have h := G3.out.r.l; rw [hl] at h; exact h, G3.out.r.s, G3.out.r.m0⟩ (fun hHeld => ?_)
        clear hK K
        (try simp only [Act.put, List.setIfInBounds_toArray, List.set_cons_zero, List.set_cons_succ])
        refine take_at (v := ?_) 31 (some 172) rfl (by kernel_rfl) (by kernel_rfl) (by kernel_rfl) (by kernel_rfl) (fun _ _ _ h => h) (Or.inl ⟨by rfl, ?_⟩) (by assumption) ?_
        rotate_left
        · intro w hSw; (try dsimp only at hSw); go_simp; try (with_reducible rfl)
        (try simp only [Act.put, List.setIfInBounds_toArray, List.set_cons_zero, List.set_cons_succ])
        refine take_at (v := undef) 32 (some 173) rfl (by kernel_rfl) (by kernel_rfl) (by kernel_rfl) (by kernel_rfl) (fun _ _ _ h => h) (Or.inr ⟨by rfl, rfl⟩) (by assumption) ?_
        (try simp only [Act.put, List.setIfInBounds_toArray, List.set_cons_zero, List.set_cons_succ])
        refine take_at (v := undef) 33 (some 174) rfl (by kernel_rfl) (by kernel_rfl) (by kernel_rfl) (by kernel_rfl) (fun _ _ _ h => h) (Or.inr ⟨by rfl, rfl⟩) (by assumption) ?_
        (try simp only [Act.put, List.setIfInBounds_toArray, List.set_cons_zero, List.set_cons_succ])
        refine take_at (v := undef) 34 (some 175) rfl (by kernel_rfl) (by kernel_rfl) (by kernel_rfl) (by kernel_rfl) (fun _ _ _ h => h) (Or.inr ⟨by rfl, rfl⟩) (by assumption) ?_
        (try simp only [Act.put, List.setIfInBounds_toArray, List.set_cons_zero, List.set_cons_succ])
        refine take_at (v := undef) 35 (some 176) rfl (by kernel_rfl) (by kernel_rfl) (by kernel_rfl) (by kernel_rfl) (fun _ _ _ h => h) (Or.inr ⟨by rfl, rfl⟩) (by assumption) ?_
        (try simp only [Act.put, List.setIfInBounds_toArray, List.set_cons_zero, List.set_cons_succ])
        refine take_at (v := undef) 36 (some 177) rfl (by kernel_rfl) (by kernel_rfl) (by kernel_rfl) (by kernel_rfl) (fun _ _ _ h => h) (Or.inr ⟨by rfl, rfl⟩) (by assumption) ?_
        (try simp only [Act.put, List.setIfInBounds_toArray, List.set_cons_zero, List.set_cons_succ])
        refine take_at (v := undef) 37 (some 178) rfl (by kernel_rfl) (by kernel_rfl) (by kernel_rfl) (by kernel_rfl) (fun _ _ _ h => h) (Or.inr ⟨by rfl, rfl⟩) (by assumption) ?_
        (try simp only [Act.put, List.setIfInBounds_toArray, List.set_cons_zero, List.set_cons_succ])
        refine take_at (v := ?_) 38 (some 179) rfl (by kernel_rfl) (by kernel_rfl) (by kernel_rfl) (by kernel_rfl) (fun _ _ _ h => h) (Or.inl ⟨by rfl, ?_⟩) (by assumption) ?_
        rotate_left
        · intro w hSw; (try dsimp only at hSw); go_simp; try (with_reducible rfl)
        (try simp only [Act.put, List.setIfInBounds_toArray, List.set_cons_zero, List.set_cons_succ])
        refine take_at (v := ?_) 39 (some 180) rfl (by kernel_rfl) (by kernel_rfl) (by kernel_rfl) (by kernel_rfl) (fun _ _ _ h => h) (Or.inl ⟨by rfl, ?_⟩) (by assumption) ?_
        rotate_left
        · intro w hSw; (try dsimp only at hSw); go_simp; try (with_reducible rfl)
        (try simp only [Act.put, List.setIfInBounds_toArray, List.set_cons_zero, List.set_cons_succ])
        refine take_at (v := ?_) 40 (some 181) rfl (by kernel_rfl) (by kernel_rfl) (by kernel_rfl) (by kernel_rfl) (fun _ _ _ h => h) (Or.inl ⟨by rfl, ?_⟩) (by assumption) ?_
        rotate_left
        · intro w hSw; (try dsimp only at hSw); go_simp; try (with_reducible rfl)
        (try simp only [Act.put, List.setIfInBounds_toArray, List.set_cons_zero, List.set_cons_succ])
        refine take_at (v := ?_) 41 (some 182) rfl (by kernel_rfl) (by kernel_rfl) (by kernel_rfl) (by kernel_rfl) (fun _ _ _ h => h) (Or.inl ⟨by rfl, ?_⟩) (by assumption) ?_
        rotate_left
        · intro w hSw; (try dsimp only at hSw); go_simp; try (with_reducible rfl)
        (try simp only [Act.put, List.setIfInBounds_toArray, List.set_cons_zero, List.set_cons_succ])
        refine take_at (v := ?_) 42 (some 183) rfl (by kernel_rfl) (by kernel_rfl) (by kernel_rfl) (by kernel_rfl) (fun _ _ _ h => h) (Or.inl ⟨by rfl, ?_⟩) (by assumption) ?_
        rotate_left
        · intro w hSw; (try dsimp only at hSw); go_simp; try (with_reducible rfl)
        (try simp only [Act.put, List.setIfInBounds_toArray, List.set_cons_zero, List.set_cons_succ])
        refine take_at (v := ?_) 44 (some 185) rfl (by kernel_rfl) (by kernel_rfl) (by kernel_rfl) (by kernel_rfl) (fun _ _ _ h => h) (Or.inl ⟨by rfl, ?_⟩) (by assumption) ?_
        rotate_left
        · intro w hSw; (try dsimp only at hSw); go_simp; try (with_reducible rfl)
        (try simp only [Act.put, List.setIfInBounds_toArray, List.set_cons_zero, List.set_cons_succ])
        refine take_at (v := ?_) 45 (some 186) rfl (by kernel_rfl) (by kernel_rfl) (by kernel_rfl) (by kernel_rfl) (fun _ _ _ h => h) (Or.inl ⟨by rfl, ?_⟩) (by assumption) ?_
        rotate_left
        · intro w hSw; (try dsimp only at hSw); go_simp; try (with_reducible rfl)
        (try simp only [Act.put, List.setIfInBounds_toArray, List.set_cons_zero, List.set_cons_succ])
        refine take_at (v := ?_) 46 (some 187) rfl (by kernel_rfl) (by kernel_rfl) (by kernel_rfl) (by kernel_rfl) (fun _ _ _ h => h) (Or.inl ⟨by rfl, ?_⟩) (by assumption) ?_
        rotate_left
        · intro w hSw; (try dsimp only at hSw); go_simp; try (with_reducible rfl)
        (try simp only [Act.put, List.setIfInBounds_toArray, List.set_cons_zero, List.set_cons_succ])
        refine take_at (v := ?_) 47 (some 188) rfl (by kernel_rfl) (by kernel_rfl) (by kernel_rfl) (by kernel_rfl) (fun _ _ _ h => h) (Or.inl ⟨by rfl, ?_⟩) (by assumption) ?_
        rotate_left
        · intro w hSw; (try dsimp only at hSw); go_simp; try (with_reducible rfl)
        (try simp only [Act.put, List.setIfInBounds_toArray, List.set_cons_zero, List.set_cons_succ])
        have AL := Lib.hid (G3.out.p.all hn2 (by omega))
        rw [hl] at AL
        refine wpAnyH_ready (rs := [43]) (by kernel_rfl) (by simp) ?_
        refine AllReadyH.cons rfl (fun K hK => ?_) AllReadyH.nil
        go_simp
        refine AL.out.mono ?_
        rintro e w4 ⟨a4, cp4, rfl, row4, own4, p4, nx4⟩
        have G4 := Lib.hid (G3.out.pipe p4 nx4)
        have ROW := Lib.hid row4
        clear p4 nx4 AL G3 row4 own4
        refine hK.out _ _ ⟨by have h := G4.out.r.l; rw [hl] at h; exact h, G4.out.r.s, G4.out.r.m0⟩ (fun hHeld => ?_)
        clear hK K
        (try simp only [Act.put, List.setIfInBounds_toArray, List.set_cons_zero, List.set_cons_succ])
        have IS := Lib.hid (ints_same (F := fun i => q5.getD i 0) (n := l) (h := ROW.out) (by have h := G4.out.r.r; rw [hl] at h; exact h) (by omega))
        refine wpAnyH_ready (rs := [48]) (by kernel_rfl) (by simp) ?_
        refine AllReadyH.cons rfl (fun K hK => ?_) AllReadyH.nil
        go_simp
        refine IS.out.mono ?_
        rintro e w5 ⟨rfl, c5⟩
        have G5 := Lib.hid (G4.out.quiet c5)
        clear c5 IS G4 ROW
        refine hK.out _ _ ⟨by have h := G5.out.r.l; rw [hl] at h; exact h, G5.out.r.s, G5.out.r.m0⟩ (fun hHeld => ?_)
        clear hK K
        (try simp only [Act.put, List.setIfInBounds_toArray, List.set_cons_zero, List.set_cons_succ])
        refine take_at (v := ?_) 49 (some 190) rfl (by kernel_rfl) (by kernel_rfl) (by kernel_rfl) (by kernel_rfl) (fun _ _ _ h => h) (Or.inl ⟨by rfl, ?_⟩) (by assumption) ?_
        rotate_left
        · intro w hSw; (try dsimp only at hSw); go_simp; try (with_reducible rfl)
        (try simp only [Act.put, List.setIfInBounds_toArray, List.set_cons_zero, List.set_cons_succ])
        refine take_at (v := ?_) 50 (some 191) rfl (by kernel_rfl) (by kernel_rfl) (by kernel_rfl) (by kernel_rfl) (fun _ _ _ h => h) (Or.inl ⟨by rfl, ?_⟩) (by assumption) ?_
        rotate_left
        · intro w hSw; (try dsimp only at hSw); go_simp; try (with_reducible rfl)
        (try simp only [Act.put, List.setIfInBounds_toArray, List.set_cons_zero, List.set_cons_succ])
        refine wpAnyH_done (by kernel_rfl) ?_ _
        go_wp2
        first | exact ⟨⟨q5, m5, false, S5, ra5, cp5, rfl, rfl, rfl, rfl, rfl, rfl, ⟨G5.out, hb5, hm5⟩⟩, hlt⟩ | exact ⟨q5, m5, false, S5, ra5, cp5, rfl, rfl, rfl, rfl, rfl, rfl, ⟨G5.out, hb5, hm5⟩⟩
      | true =>
        obtain ⟨bb, hbb⟩ : ∃ bb, (l == 0) = bb := ⟨_, rfl⟩
        have b1 : ((l : Int) == 0) = bb := by rw [← hbb]; rcases l with _ | l; rfl; simp; omega
        have b2 : (bb != bb) = false := by cases bb <;> rfl
        refine wp_region_held_drew (S := fun w' => w'.cell? ⟨vb, 1, none⟩ = some (.slice ra5 l cp5) ∧ w'.cell? ⟨vb, 2, none⟩ = some (.bool true) ∧ w'.cell? ⟨vb, 3, none⟩ = some (.int .i64 m5)) (by kernel_rfl) ⟨by have h := G0.out.r.l; rw [hl] at h; exact h, G0.out.r.s, G0.out.r.m0⟩ (fun hHeld => ?_)
        generalize wc.drew = Y at *
        refine take_at (v := ?_) 0 (some 141) rfl (by kernel_rfl) (by kernel_rfl) (by kernel_rfl) (by kernel_rfl) (fun _ _ _ h => h) (Or.inl ⟨by rfl, ?_⟩) (by assumption) ?_
        rotate_left
        · intro w hSw; (try dsimp only at hSw); go_simp; try (with_reducible rfl)
        (try simp only [Act.put, List.setIfInBounds_toArray, List.set_cons_zero, List.set_cons_succ])
        refine take_at (v := ?_) 2 (some 143) rfl (by kernel_rfl) (by kernel_rfl) (by kernel_rfl) (by kernel_rfl) (fun _ _ _ h => h) (Or.inl ⟨by rfl, ?_⟩) (by assumption) ?_
        rotate_left
        · intro w hSw; (try dsimp only at hSw); go_simp; try (with_reducible rfl)
        (try simp only [Act.put, List.setIfInBounds_toArray, List.set_cons_zero, List.set_cons_succ])
        refine take_at (v := ?_) 3 (some 144) rfl (by kernel_rfl) (by kernel_rfl) (by kernel_rfl) (by kernel_rfl) (fun _ _ _ h => h) (Or.inl ⟨by rfl, ?_⟩) (by assumption) ?_
        rotate_left
        · intro w hSw; (try dsimp only at hSw); go_simp; try (with_reducible rfl)
        (try simp only [Act.put, List.setIfInBounds_toArray, List.set_cons_zero, List.set_cons_succ])
        refine take_at (v := ?_) 4 (some 145) rfl (by kernel_rfl) (by kernel_rfl) (by kernel_rfl) (by kernel_rfl) (fun _ _ _ h => h) (Or.inl ⟨by rfl, ?_⟩) (by assumption) ?_
        rotate_left
        · intro w hSw; (try dsimp only at hSw); go_simp; try (with_reducible rfl)
        (try simp only [Act.put, List.setIfInBounds_toArray, List.set_cons_zero, List.set_cons_succ])
        refine take_at (v := ?_) 5 (some 146) rfl (by kernel_rfl) (by kernel_rfl) (by kernel_rfl) (by kernel_rfl) (fun _ _ _ h => h) (Or.inl ⟨by rfl, ?_⟩) (by assumption) ?_
        rotate_left
        · intro w hSw; (try dsimp only at hSw); go_simp; try (with_reducible rfl)
        (try simp only [Act.put, List.setIfInBounds_toArray, List.set_cons_zero, List.set_cons_succ])
        refine take_at (v := ?_) 6 (some 147) rfl (by kernel_rfl) (by kernel_rfl) (by kernel_rfl) (by kernel_rfl) (fun _ _ _ h => h) (Or.inl ⟨by rfl, ?_⟩) (by assumption) ?_
        rotate_left
        · intro w hSw; (try dsimp only at hSw); go_simp; try (with_reducible rfl)
        (try simp only [Act.put, List.setIfInBounds_toArray, List.set_cons_zero, List.set_cons_succ])
        have LE := Lib.hid (G0.out.p.len (by omega))
        rw [hl] at LE
        refine wpAnyH_ready (rs := [1]) (by kernel_rfl) (by simp) ?_
        refine AllReadyH.cons rfl (fun K hK => ?_) AllReadyH.nil
        go_simp
        refine LE.out.mono ?_
        rintro e w1 ⟨rfl, p1, nx1⟩
        have G1 := Lib.hid (G0.out.pipe p1 nx1)
        clear p1 nx1 LE G0
        refine hK.out _ _ ⟨by have h := G1.out.r.l; rw [hl] at h; exact h, G1.out.r.s, G1.out.r.m0⟩ (fun hHeld => ?_)
        clear hK K
        (try simp only [Act.put, List.setIfInBounds_toArray, List.set_cons_zero, List.set_cons_succ])
        refine take_at (v := ?_) 7 (some 148) rfl (by kernel_rfl) (by kernel_rfl) (by kernel_rfl) (by kernel_rfl) (fun _ _ _ h => h) (Or.inl ⟨by rfl, ?_⟩) (by assumption) ?_
        rotate_left
        · intro w hSw; (try dsimp only at hSw); go_simp; try (with_reducible rfl)
        (try simp only [Act.put, List.setIfInBounds_toArray, List.set_cons_zero, List.set_cons_succ])
        refine take_at (v := ?_) 8 (some 149) rfl (by kernel_rfl) (by kernel_rfl) (by kernel_rfl) (by kernel_rfl) (fun _ _ _ h => h) (Or.inl ⟨by rfl, ?_⟩) (by assumption) ?_
        rotate_left
        · intro w hSw; (try dsimp only at hSw); go_simp; try (with_reducible rfl)
        (try simp only [Act.put, List.setIfInBounds_toArray, List.set_cons_zero, List.set_cons_succ])
        refine take_at (v := ?_) 9 (some 150) rfl (by kernel_rfl) (by kernel_rfl) (by kernel_rfl) (by kernel_rfl) (fun _ _ _ h => h) (Or.inl ⟨by rfl, ?_⟩) (by assumption) ?_
        rotate_left
        · intro w hSw; (try dsimp only at hSw); go_simp; try (with_reducible rfl)
        (try simp only [Act.put, List.setIfInBounds_toArray, List.set_cons_zero, List.set_cons_succ])
        refine take_at (v := ?_) 11 (some 152) rfl (by kernel_rfl) (by kernel_rfl) (by kernel_rfl) (by kernel_rfl) (fun _ _ _ h => h) (Or.inl ⟨by rfl, ?_⟩) (by assumption) ?_
        rotate_left
        · intro w hSw; (try dsimp only at hSw); go_simp; try (with_reducible rfl)
        (try simp only [Act.put, List.setIfInBounds_toArray, List.set_cons_zero, List.set_cons_succ])
        have SP := Lib.hid G1.out.p.spilled
        rw [hl, hd] at SP
        refine wpAnyH_ready (rs := [10]) (by kernel_rfl) (by simp) ?_
        refine AllReadyH.cons rfl (fun K hK => ?_) AllReadyH.nil
        go_simp
        refine SP.out.mono ?_
        rintro e wx ⟨rfl, rfl⟩
        clear SP
        refine hK.out _ _ ⟨by have h := G1.out.r.l; rw [hl] at h; exact h, G1.out.r.s, G1.out.r.m0⟩ (fun hHeld => ?_)
        clear hK K
        (try simp only [Act.put, List.setIfInBounds_toArray, List.set_cons_zero, List.set_cons_succ])
        have SP := Lib.hid (G1.out.r.spilled (by omega) (by omega))
        rw [hl, hd] at SP
        refine wpAnyH_ready (rs := [12]) (by kernel_rfl) (by simp) ?_
        refine AllReadyH.cons rfl (fun K hK => ?_) AllReadyH.nil
        go_simp
        refine SP.out.mono ?_
        rintro e w2 ⟨rfl, c2⟩
        have G2 := Lib.hid (G1.out.quiet c2)
        clear c2 SP G1
        refine hK.out _ _ ⟨by have h := G2.out.r.l; rw [hl] at h; exact h, G2.out.r.s, G2.out.r.m0⟩ (fun hHeld => ?_)
        clear hK K
        (try simp only [Act.put, List.setIfInBounds_toArray, List.set_cons_zero, List.set_cons_succ])
        refine take_at (v := ?_) 13 (some 154) rfl (by kernel_rfl) (by kernel_rfl) (by kernel_rfl) (by kernel_rfl) (fun _ _ _ h => h) (Or.inl ⟨by rfl, ?_⟩) (by assumption) ?_
        rotate_left
        · intro w hSw; (try dsimp only at hSw); go_simp; try (with_reducible rfl)
        (try simp only [Act.put, List.setIfInBounds_toArray, List.set_cons_zero, List.set_cons_succ])
        refine take_at (v := ?_) 14 (some 155) rfl (by kernel_rfl) (by kernel_rfl) (by kernel_rfl) (by kernel_rfl) (fun _ _ _ h => h) (Or.inl ⟨by rfl, ?_⟩) (by assumption) ?_
        rotate_left
        · intro w hSw; (try dsimp only at hSw); go_simp; try (with_reducible rfl)
        (try simp only [Act.put, List.setIfInBounds_toArray, List.set_cons_zero, List.set_cons_succ])
        refine take_at (v := ?_) 15 (some 156) rfl (by kernel_rfl) (by kernel_rfl) (by kernel_rfl) (by kernel_rfl) (fun _ _ _ h => h) (Or.inl ⟨by rfl, ?_⟩) (by assumption) ?_
        rotate_left
        · intro w hSw; (try dsimp only at hSw); go_simp; try (with_reducible rfl)
        (try simp only [Act.put, List.setIfInBounds_toArray, List.set_cons_zero, List.set_cons_succ])
        refine take_at (v := ?_) 16 (some 157) rfl (by kernel_rfl) (by kernel_rfl) (by kernel_rfl) (by kernel_rfl) (fun _ _ _ h => h) (Or.inl ⟨by rfl, ?_⟩) (by assumption) ?_
        rotate_left
        · intro w hSw; (try dsimp only at hSw); go_simp; try (with_reducible rfl)
        (try simp only [Act.put, List.setIfInBounds_toArray, List.set_cons_zero, List.set_cons_succ])
        refine take_at (v := ?_) 18 (some 159) rfl (by kernel_rfl) (by kernel_rfl) (by kernel_rfl) (by kernel_rfl) (fun _ _ _ h => h) (Or.inl ⟨by rfl, ?_⟩) (by assumption) ?_
        rotate_left
        · intro w hSw; (try dsimp only at hSw); go_simp; try (with_reducible rfl)
        (try simp only [Act.put, List.setIfInBounds_toArray, List.set_cons_zero, List.set_cons_succ])
        refine take_at (v := ?_) 19 (some 160) rfl (by kernel_rfl) (by kernel_rfl) (by kernel_rfl) (by kernel_rfl) (fun _ _ _ h => h) (Or.inl ⟨by rfl, ?_⟩) (by assumption) ?_
        rotate_left
        · intro w hSw; (try dsimp only at hSw); go_simp; try (with_reducible rfl)
        (try simp only [Act.put, List.setIfInBounds_toArray, List.set_cons_zero, List.set_cons_succ])
        refine take_at (v := ?_) 20 (some 161) rfl (by kernel_rfl) (by kernel_rfl) (by kernel_rfl) (by kernel_rfl) (fun _ _ _ h => h) (Or.inl ⟨by rfl, ?_⟩) (by assumption) ?_
        rotate_left
        · intro w hSw; (try dsimp only at hSw); go_simp; try (with_reducible rfl)
        (try simp only [Act.put, List.setIfInBounds_toArray, List.set_cons_zero, List.set_cons_succ])
        refine take_at (v := ?_) 21 (some 162) rfl (by kernel_rfl) (by kernel_rfl) (by kernel_rfl) (by kernel_rfl) (fun _ _ _ h => h) (Or.inl ⟨by rfl, ?_⟩) (by assumption) ?_
        rotate_left
        · intro w hSw; (try dsimp only at hSw); go_simp; try (with_reducible rfl)
        (try simp only [Act.put, List.setIfInBounds_toArray, List.set_cons_zero, List.set_cons_succ])
        have MO := Lib.hid G2.out.p.most
        refine wpAnyH_ready (rs := [17]) (by kernel_rfl) (by simp) ?_
        refine AllReadyH.cons rfl (fun K hK => ?_) AllReadyH.nil
        go_simp
        refine MO.out.mono ?_
        rintro e wx ⟨rfl, rfl⟩
        clear MO
        refine hK.out _ _ ⟨by have h := G2.out.r.l; rw [hl] at h; exact h, G2.out.r.s, G2.out.r.m0⟩ (fun hHeld => ?_)
        clear hK K
        (try simp only [Act.put, List.setIfInBounds_toArray, List.set_cons_zero, List.set_cons_succ])
        refine take_at (v := ?_) 22 (some 163) rfl (by kernel_rfl) (by kernel_rfl) (by kernel_rfl) (by kernel_rfl) (fun _ _ _ h => h) (Or.inl ⟨by rfl, ?_⟩) (by assumption) ?_
        rotate_left
        · intro w hSw; (try dsimp only at hSw); go_simp; try (with_reducible rfl)
        (try simp only [Act.put, List.setIfInBounds_toArray, List.set_cons_zero, List.set_cons_succ])
        refine take_at (v := ?_) 23 (some 164) rfl (by kernel_rfl) (by kernel_rfl) (by kernel_rfl) (by kernel_rfl) (fun _ _ _ h => h) (Or.inl ⟨by rfl, ?_⟩) (by assumption) ?_
        rotate_left
        · intro w hSw; (try dsimp only at hSw); go_simp; try (with_reducible rfl)
        (try simp only [Act.put, List.setIfInBounds_toArray, List.set_cons_zero, List.set_cons_succ])
        refine take_at (v := ?_) 24 (some 165) rfl (by kernel_rfl) (by kernel_rfl) (by kernel_rfl) (by kernel_rfl) (fun _ _ _ h => h) (Or.inl ⟨by rfl, ?_⟩) (by assumption) ?_
        rotate_left
        · intro w hSw; (try dsimp only at hSw); go_simp; try (with_reducible rfl)
        (try simp only [Act.put, List.setIfInBounds_toArray, List.set_cons_zero, List.set_cons_succ])
        refine take_at (v := ?_) 25 (some 166) rfl (by kernel_rfl) (by kernel_rfl) (by kernel_rfl) (by kernel_rfl) (fun _ _ _ h => h) (Or.inl ⟨by rfl, ?_⟩) (by assumption) ?_
        rotate_left
        · intro w hSw; (try dsimp only at hSw); go_simp; try (with_reducible rfl)
        (try simp only [Act.put, List.setIfInBounds_toArray, List.set_cons_zero, List.set_cons_succ])
        refine take_at (v := ?_) 27 (some 168) rfl (by kernel_rfl) (by kernel_rfl) (by kernel_rfl) (by kernel_rfl) (fun _ _ _ h => h) (Or.inl ⟨by rfl, ?_⟩) (by assumption) ?_
        rotate_left
        · intro w hSw; (try dsimp only at hSw); go_simp; try (with_reducible rfl)
        (try simp only [Act.put, List.setIfInBounds_toArray, List.set_cons_zero, List.set_cons_succ])
        refine take_at (v := ?_) 28 (some 169) rfl (by kernel_rfl) (by kernel_rfl) (by kernel_rfl) (by kernel_rfl) (fun _ _ _ h => h) (Or.inl ⟨by rfl, ?_⟩) (by assumption) ?_
        rotate_left
        · intro w hSw; (try dsimp only at hSw); go_simp; try (with_reducible rfl)
        (try simp only [Act.put, List.setIfInBounds_toArray, List.set_cons_zero, List.set_cons_succ])
        refine take_at (v := ?_) 29 (some 170) rfl (by kernel_rfl) (by kernel_rfl) (by kernel_rfl) (by kernel_rfl) (fun _ _ _ h => h) (Or.inl ⟨by rfl, ?_⟩) (by assumption) ?_
        rotate_left
        · intro w hSw; (try dsimp only at hSw); go_simp; try (with_reducible rfl)
        (try simp only [Act.put, List.setIfInBounds_toArray, List.set_cons_zero, List.set_cons_succ])
        refine take_at (v := ?_) 30 (some 171) rfl (by kernel_rfl) (by kernel_rfl) (by kernel_rfl) (by kernel_rfl) (fun _ _ _ h => h) (Or.inl ⟨by rfl, ?_⟩) (by assumption) ?_
        rotate_left
        · intro w hSw; (try dsimp only at hSw); go_simp; try (with_reducible rfl)
        (try simp only [Act.put, List.setIfInBounds_toArray, List.set_cons_zero, List.set_cons_succ])
        have CL := Lib.hid (G2.out.p.closed (by omega))
        rw [hl, hbb, Bool.true_and] at CL
        refine wpAnyH_ready (rs := [26]) (by kernel_rfl) (by simp) ?_
        refine AllReadyH.cons rfl (fun K hK => ?_) AllReadyH.nil
        go_simp
        refine CL.out.mono ?_
        rintro e w3 ⟨rfl, p3, nx3⟩
        have G3 := Lib.hid (G2.out.pipe p3 nx3)
        clear p3 nx3 CL G2
        refine hK.out _ _ ⟨by have h := G3.out.r.l; rw [hl] at h; exact h, G3.out.r.s, G3.out.r.m0⟩ (fun hHeld => ?_)
        clear hK K
        (try simp only [Act.put, List.setIfInBounds_toArray, List.set_cons_zero, List.set_cons_succ])
        refine take_at (v := ?_) 31 (some 172) rfl (by kernel_rfl) (by kernel_rfl) (by kernel_rfl) (by kernel_rfl) (fun _ _ _ h => h) (Or.inl ⟨by rfl, ?_⟩) (by assumption) ?_
        rotate_left
        · intro w hSw; (try dsimp only at hSw); go_simp; try (with_reducible rfl)
        (try simp only [Act.put, List.setIfInBounds_toArray, List.set_cons_zero, List.set_cons_succ])
        refine take_at (v := ?_) 32 (some 173) rfl (by kernel_rfl) (by kernel_rfl) (by kernel_rfl) (by kernel_rfl) (fun _ _ _ h => h) (Or.inl ⟨by rfl, ?_⟩) (by assumption) ?_
        rotate_left
        · intro w hSw; (try dsimp only at hSw); go_simp; try (with_reducible rfl)
        (try simp only [Act.put, List.setIfInBounds_toArray, List.set_cons_zero, List.set_cons_succ])
        refine take_at (v := ?_) 33 (some 174) rfl (by kernel_rfl) (by kernel_rfl) (by kernel_rfl) (by kernel_rfl) (fun _ _ _ h => h) (Or.inl ⟨by rfl, ?_⟩) (by assumption) ?_
        rotate_left
        · intro w hSw; (try dsimp only at hSw); go_simp; try (with_reducible rfl)
        (try simp only [Act.put, List.setIfInBounds_toArray, List.set_cons_zero, List.set_cons_succ])
        refine take_at (v := ?_) 34 (some 175) rfl (by kernel_rfl) (by kernel_rfl) (by kernel_rfl) (by kernel_rfl) (fun _ _ _ h => h) (Or.inl ⟨by rfl, ?_⟩) (by assumption) ?_
        rotate_left
        · intro w hSw; (try dsimp only at hSw); go_simp; try (with_reducible rfl)
        (try simp only [Act.put, List.setIfInBounds_toArray, List.set_cons_zero, List.set_cons_succ])
        refine take_at (v := ?_) 35 (some 176) rfl (by kernel_rfl) (by kernel_rfl) (by kernel_rfl) (by kernel_rfl) (fun _ _ _ h => h) (Or.inl ⟨by rfl, ?_⟩) (by assumption) ?_
        rotate_left
        · intro w hSw; (try dsimp only at hSw); go_simp; try (with_reducible rfl)
        (try simp only [Act.put, List.setIfInBounds_toArray, List.set_cons_zero, List.set_cons_succ])
        refine take_at (v := ?_) 36 (some 177) rfl (by kernel_rfl) (by kernel_rfl) (by kernel_rfl) (by kernel_rfl) (fun _ _ _ h => h) (Or.inl ⟨by rfl, ?_⟩) (by assumption) ?_
        rotate_left
        · intro w hSw; (try dsimp only at hSw); go_simp; try (with_reducible rfl)
        (try simp only [Act.put, List.setIfInBounds_toArray, List.set_cons_zero, List.set_cons_succ])
        refine take_at (v := ?_) 37 (some 178) rfl (by kernel_rfl) (by kernel_rfl) (by kernel_rfl) (by kernel_rfl) (fun _ _ _ h => h) (Or.inl ⟨by rfl, ?_⟩) (by assumption) ?_
        rotate_left
        · intro w hSw; (try dsimp only at hSw); go_simp; try (with_reducible rfl)
        (try simp only [Act.put, List.setIfInBounds_toArray, List.set_cons_zero, List.set_cons_succ])
        refine take_at (v := ?_) 38 (some 179) rfl (by kernel_rfl) (by kernel_rfl) (by kernel_rfl) (by kernel_rfl) (fun _ _ _ h => h) (Or.inl ⟨by rfl, ?_⟩) (by assumption) ?_
        rotate_left
        · intro w hSw; (try dsimp only at hSw); go_simp; try (with_reducible rfl)
        (try simp only [Act.put, List.setIfInBounds_toArray, List.set_cons_zero, List.set_cons_succ])
        refine take_at (v := ?_) 39 (some 180) rfl (by kernel_rfl) (by kernel_rfl) (by kernel_rfl) (by kernel_rfl) (fun _ _ _ h => h) (Or.inl ⟨by rfl, ?_⟩) (by assumption) ?_
        rotate_left
        · intro w hSw; (try dsimp only at hSw); go_simp; try (with_reducible rfl)
        (try simp only [Act.put, List.setIfInBounds_toArray, List.set_cons_zero, List.set_cons_succ])
        refine take_at (v := ?_) 40 (some 181) rfl (by kernel_rfl) (by kernel_rfl) (by kernel_rfl) (by kernel_rfl) (fun _ _ _ h => h) (Or.inl ⟨by rfl, ?_⟩) (by assumption) ?_
        rotate_left
        · intro w hSw; (try dsimp only at hSw); go_simp; try (with_reducible rfl)
        (try simp only [Act.put, List.setIfInBounds_toArray, List.set_cons_zero, List.set_cons_succ])
        refine take_at (v := ?_) 41 (some 182) rfl (by kernel_rfl) (by kernel_rfl) (by kernel_rfl) (by kernel_rfl) (fun _ _ _ h => h) (Or.inl ⟨by rfl, ?_⟩) (by assumption) ?_
        rotate_left
        · intro w hSw; (try dsimp only at hSw); go_simp; try (with_reducible rfl)
        (try simp only [Act.put, List.setIfInBounds_toArray, List.set_cons_zero, List.set_cons_succ])
        refine take_at (v := ?_) 42 (some 183) rfl (by kernel_rfl) (by kernel_rfl) (by kernel_rfl) (by kernel_rfl) (fun _ _ _ h => h) (Or.inl ⟨by rfl, ?_⟩) (by assumption) ?_
        rotate_left
        · intro w hSw; (try dsimp only at hSw); go_simp; try (with_reducible rfl)
        (try simp only [Act.put, List.setIfInBounds_toArray, List.set_cons_zero, List.set_cons_succ])
        refine take_at (v := ?_) 44 (some 185) rfl (by kernel_rfl) (by kernel_rfl) (by kernel_rfl) (by kernel_rfl) (fun _ _ _ h => h) (Or.inl ⟨by rfl, ?_⟩) (by assumption) ?_
        rotate_left
        · intro w hSw; (try dsimp only at hSw); go_simp; try (with_reducible rfl)
        (try simp only [Act.put, List.setIfInBounds_toArray, List.set_cons_zero, List.set_cons_succ])
        refine take_at (v := ?_) 45 (some 186) rfl (by kernel_rfl) (by kernel_rfl) (by kernel_rfl) (by kernel_rfl) (fun _ _ _ h => h) (Or.inl ⟨by rfl, ?_⟩) (by assumption) ?_
        rotate_left
        · intro w hSw; (try dsimp only at hSw); go_simp; try (with_reducible rfl)
        (try simp only [Act.put, List.setIfInBounds_toArray, List.set_cons_zero, List.set_cons_succ])
        refine take_at (v := ?_) 46 (some 187) rfl (by kernel_rfl) (by kernel_rfl) (by kernel_rfl) (by kernel_rfl) (fun _ _ _ h => h) (Or.inl ⟨by rfl, ?_⟩) (by assumption) ?_
        rotate_left
        · intro w hSw; (try dsimp only at hSw); go_simp; try (with_reducible rfl)
        (try simp only [Act.put, List.setIfInBounds_toArray, List.set_cons_zero, List.set_cons_succ])
        refine take_at (v := ?_) 47 (some 188) rfl (by kernel_rfl) (by kernel_rfl) (by kernel_rfl) (by kernel_rfl) (fun _ _ _ h => h) (Or.inl ⟨by rfl, ?_⟩) (by assumption) ?_
        rotate_left
        · intro w hSw; (try dsimp only at hSw); go_simp; try (with_reducible rfl)
        (try simp only [Act.put, List.setIfInBounds_toArray, List.set_cons_zero, List.set_cons_succ])
        have AL := Lib.hid (G3.out.p.all hn2 (by omega))
        rw [hl] at AL
        refine wpAnyH_ready (rs := [43]) (by kernel_rfl) (by simp) ?_
        refine AllReadyH.cons rfl (fun K hK => ?_) AllReadyH.nil
        go_simp
        refine AL.out.mono ?_
        rintro e w4 ⟨a4, cp4, rfl, row4, own4, p4, nx4⟩
        have G4 := Lib.hid (G3.out.pipe p4 nx4)
        have ROW := Lib.hid row4
        clear p4 nx4 AL G3 row4 own4
        refine hK.out _ _ ⟨by have h := G4.out.r.l; rw [hl] at h; exact h, G4.out.r.s, G4.out.r.m0⟩ (fun hHeld => ?_)
        clear hK K
        (try simp only [Act.put, List.setIfInBounds_toArray, List.set_cons_zero, List.set_cons_succ])
        have IS := Lib.hid (ints_same (F := fun i => q5.getD i 0) (n := l) (h := ROW.out) (by have h := G4.out.r.r; rw [hl] at h; exact h) (by omega))
        refine wpAnyH_ready (rs := [48]) (by kernel_rfl) (by simp) ?_
        refine AllReadyH.cons rfl (fun K hK => ?_) AllReadyH.nil
        go_simp
        refine IS.out.mono ?_
        rintro e w5 ⟨rfl, c5⟩
        have G5 := Lib.hid (G4.out.quiet c5)
        clear c5 IS G4 ROW
        refine hK.out _ _ ⟨by have h := G5.out.r.l; rw [hl] at h; exact h, G5.out.r.s, G5.out.r.m0⟩ (fun hHeld => ?_)
        clear hK K
        (try simp only [Act.put, List.setIfInBounds_toArray, List.set_cons_zero, List.set_cons_succ])
        refine take_at (v := ?_) 49 (some 190) rfl (by kernel_rfl) (by kernel_rfl) (by kernel_rfl) (by kernel_rfl) (fun _ _ _ h => h) (Or.inl ⟨by rfl, ?_⟩) (by assumption) ?_
        rotate_left
        · intro w hSw; (try dsimp only at hSw); go_simp; try (with_reducible rfl)
        (try simp only [Act.put, List.setIfInBounds_toArray, List.set_cons_zero, List.set_cons_succ])
        refine take_at (v := ?_) 50 (some 191) rfl (by kernel_rfl) (by kernel_rfl) (by kernel_rfl) (by kernel_rfl) (fun _ _ _ h => h) (Or.inl ⟨by rfl, ?_⟩) (by assumption) ?_
        rotate_left
        · intro w hSw; (try dsimp only at hSw); go_simp; try (with_reducible rfl)
        (try simp only [Act.put, List.setIfInBounds_toArray, List.set_cons_zero, List.set_cons_succ])
        refine wpAnyH_done (by kernel_rfl) ?_ _
        go_wp2
        first | exact ⟨⟨q5, m5, true, S5, ra5, cp5, rfl, rfl, rfl, rfl, rfl, rfl, ⟨G5.out, hb5, hm5⟩⟩, hlt⟩ | exact ⟨q5, m5, true, S5, ra5, cp5, rfl, rfl, rfl, rfl, rfl, rfl, ⟨G5.out, hb5, hm5⟩⟩
  · have hge : ¬ (k : Int) < (len : Int) := by omega
    obtain rfl : k = len := by omega
    go_wp2
    first | exact ⟨by first | rfl | trivial, ⟨_, _, _, _, _, _, rfl, rfl, rfl, rfl, rfl, rfl, REL.out⟩, by first | rfl | trivial⟩ | exact ⟨by first | rfl | trivial, ⟨_, _, _, _, _, _, rfl, rfl, rfl, rfl, rfl, rfl, REL.out⟩⟩ | exact ⟨_, _, _, _, _, _, rfl, rfl, rfl, rfl, rfl, rfl, REL.out⟩ | exact ⟨⟨_, _, _, _, _, _, rfl, rfl, rfl, rfl, rfl, rfl, REL.out⟩, by first | rfl | trivial⟩
theorem paA_loop (w : World) (pb cb n vb : Nat) (ad : Option Addr) (len cap : Nat) (hv : IsTab [.i .i64, .i .i64] w ad len cap) (h200 : len ≤ 200) (hn1 : 1 ≤ n) (hn2 : n ≤ 16) (a : Act) (wr : World) (hb : 0 ≤ len) (H : paAI w pb cb n vb ad len cap 0 a wr) :
    Code.wp Try.prog (.loop (loopIn 0 Try.f3)) (Qx 0 (fun a' w' => paAI w pb cb n vb ad len cap len a' w')) a wr := by
  refine wp_loop (fun a' wr => ∃ k, k ≤ len ∧ paAI w pb cb n vb ad len cap k a' wr) (fun a' _ => len - (intOf (a'.tmps.getD 8 undef)).toNat) ⟨0, hb, H⟩ ?_
  rintro a' wr ⟨k, hk, h⟩
  refine wp_mono (paA_round w pb cb n vb ad len cap hv h200 hn1 hn2 a' wr hk h) ?_
  intro e a2 w2 hp
  cases e with
  | normal =>
    refine ⟨⟨k + 1, by have := hp.2; omega, hp.1⟩, ?_⟩
    rw [paAI_ctr w pb cb n vb ad len cap h, paAI_ctr w pb cb n vb ad len cap hp.1]
    have := hp.2
    simp only [intOf, Int.toNat_natCast]
    omega
  | exit n => exact ⟨hp.1, hp.2.2 ▸ hp.2.1⟩
  | _ => exact hp.elim
set_option maxRecDepth 100000 in
set_option maxHeartbeats 0 in
theorem pa_end (w : World) (pb cb n vb : Nat) (ad : Option Addr) (len cap : Nat) (hv : IsTab [.i .i64, .i .i64] w ad len cap) (h200 : len ≤ 200) (hn1 : 1 ≤ n) (hn2 : n ≤ 16)  (a : Act) (wr : World) (H : paAI w pb cb n vb ad len cap len a wr) :
    Code.wp Try.prog (aftIn 0 Try.f3) (bodyPost Try.prog Try.f3 (fun e w' => e = .returned (.bool true) ∧ Below w.heap.size w w')) a wr := by
  obtain ⟨t, ds⟩ := a
  obtain ⟨q, m, sh, S, ra, cp, hd', hz, h1, h5, h7, h8, rel⟩ := H
  replace hd' : ds = [] := hd'
  subst hd'
  replace hz : t.size = 192 := hz
  replace h1 : t.getD 1 undef = .slice ad len cap := h1
  replace h5 : t.getD 5 undef = .pointer (some ⟨pb, 0, none⟩) := h5
  replace h7 : t.getD 7 undef = .pointer (some ⟨vb, 0, none⟩) := h7
  replace h8 : t.getD 8 undef = .int .i64 (len : Nat) := h8
  have REL := Lib.hid rel
  clear rel
  refine openFr192 (P := fun t => t.getD 1 undef = .slice ad len cap → t.getD 5 undef = .pointer (some ⟨pb, 0, none⟩) → t.getD 7 undef = .pointer (some ⟨vb, 0, none⟩) → t.getD 8 undef = .int .i64 (len : Nat) → Code.wp Try.prog (aftIn 0 Try.f3) (bodyPost Try.prog Try.f3 (fun e w' => e = .returned (.bool true) ∧ Below w.heap.size w w')) ⟨t, []⟩ wr) ?_ t hz h1 h5 h7 h8
  clear h1 h5 h7 h8 hz t
  intro c0 c1 c2 c3 c4 c5 c6 c7 c8 c9 c10 c11 c12 c13 c14 c15 c16 c17 c18 c19 c20 c21 c22 c23 c24 c25 c26 c27 c28 c29 c30 c31 c32 c33 c34 c35 c36 c37 c38 c39 c40 c41 c42 c43 c44 c45 c46 c47 c48 c49 c50 c51 c52 c53 c54 c55 c56 c57 c58 c59 c60 c61 c62 c63 c64 c65 c66 c67 c68 c69 c70 c71 c72 c73 c74 c75 c76 c77 c78 c79 c80 c81 c82 c83 c84 c85 c86 c87 c88 c89 c90 c91 c92 c93 c94 c95 c96 c97 c98 c99 c100 c101 c102 c103 c104 c105 c106 c107 c108 c109 c110 c111 c112 c113 c114 c115 c116 c117 c118 c119 c120 c121 c122 c123 c124 c125 c126 c127 c128 c129 c130 c131 c132 c133 c134 c135 c136 c137 c138 c139 c140 c141 c142 c143 c144 c145 c146 c147 c148 c149 c150 c151 c152 c153 c154 c155 c156 c157 c158 c159 c160 c161 c162 c163 c164 c165 c166 c167 c168 c169 c170 c171 c172 c173 c174 c175 c176 c177 c178 c179 c180 c181 c182 c183 c184 c185 c186 c187 c188 c189 c190 c191 h1 h5 h7 h8
  replace h1 : c1 = .slice ad len cap := h1
  replace h5 : c5 = .pointer (some ⟨pb, 0, none⟩) := h5
  replace h7 : c7 = .pointer (some ⟨vb, 0, none⟩) := h7
  replace h8 : c8 = .int .i64 (len : Nat) := h8
  subst h1
  subst h5
  subst h7
  subst h8
  conv => arg 2; whnf
  go_wp2
  go_ret
  exact ⟨rfl, REL.out.g.p.c.below (Nat.le_refl _) (fun _ _ e => e.elim)⟩
end Go.Proofs.Ytpddiphknpplcaa
