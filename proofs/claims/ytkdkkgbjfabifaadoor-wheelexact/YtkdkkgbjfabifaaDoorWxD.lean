/-
  WheelExact: the loop over those that are due.
-/
import Derived.Test.YtkdkkgbjfabifaaDoorWxCode
import Derived.Test.YtkdkkgbjfabifaaDoorHeld
import Derived.Deep.QuietTactic
import Derived.BigQuiet
import Derived.Deep.Cut
import Derived.Deep.CutRange
import Derived.Deep.CutBlock
import Derived.RegionTactic
import Derived.BigRegion
namespace Go.Proofs.YtkdkkgbjfabifaaDoor
open Go.RowKit Verge LP
set_option linter.unusedVariables false
set_option linter.unusedSimpArgs false
attribute [local go_sem] Oper.semAt_some

/-- what holds at the head of the loop -/
def wxDI (w : World) (g : Wh) (ad bd : Option Addr) (n0 ti len cap blen bcap mb : Nat) (zs ys : List Int) (tt k0 m : Nat) (P Q : List Ent) (F : Nat → Int) (ar : Option Addr) (cr : Nat) (ag : Option Addr) (cg : Nat) (k : Nat) (a : Act) (wr : World) : Prop :=
  ∃ (mm : Nat), a.defers = [] ∧ a.tmps.size = 220 ∧ a.tmps.getD 0 undef = .int .u64 (n0 : Nat) ∧ a.tmps.getD 1 undef = .slice ad len cap ∧ a.tmps.getD 3 undef = .int .u16 (ti : Nat) ∧ a.tmps.getD 9 undef = .pointer (some ⟨g.wb, 0, none⟩) ∧ a.tmps.getD 11 undef = .map (some mb) ∧ a.tmps.getD 17 undef = .int .i64 (k0 : Nat) ∧ a.tmps.getD 20 undef = .slice ag m cg ∧ a.tmps.getD 22 undef = .int .i64 (k : Nat) ∧ ExI w g mb n0 zs len mm (n0 + k0) P Q F ar cr ag cg k wr ∧ mm ≤ 60 + 60 * k0 + k
theorem wxDI_ctr {k : Nat} (w : World) (g : Wh) (ad bd : Option Addr) (n0 ti len cap blen bcap mb : Nat) (zs ys : List Int) (tt k0 m : Nat) (P Q : List Ent) (F : Nat → Int) (ar : Option Addr) (cr : Nat) (ag : Option Addr) (cg : Nat) {a : Act} {wr : World} (H : wxDI w g ad bd n0 ti len cap blen bcap mb zs ys tt k0 m P Q F ar cr ag cg k a wr) : a.tmps.getD 22 undef = .int .i64 (k : Nat) := by
  obtain ⟨mm, -, -, -, -, -, -, -, -, -, h, -⟩ := H
  exact h
set_option maxRecDepth 100000 in
set_option maxHeartbeats 0 in
theorem wxD_round {k : Nat} (w : World) (g : Wh) (ad bd : Option Addr) (n0 ti len cap blen bcap mb : Nat) (zs ys : List Int) (tt k0 m : Nat) (P Q : List Ent) (F : Nat → Int) (ar : Option Addr) (cr : Nat) (ag : Option Addr) (cg : Nat) (hv : IsRow .u16 w ad len cap zs) (hu : IsRow .u8 w bd blen bcap ys) (T : Tab w) (h60 : len ≤ 60) (hb60 : blen ≤ 60) (bn : n0 ≤ 18446744073709351615) (bt : ti ≤ 65535) (hm : m = (dueQ Q (n0 + k0 + 1)).length) (hk0 : k0 < 6000) (hm60 : m ≤ 60) (a : Act) (wr : World) (hk : k ≤ m) (H : wxDI w g ad bd n0 ti len cap blen bcap mb zs ys tt k0 m P Q F ar cr ag cg k a wr) :
    Code.wp Tryd.prog (loopIn 6 Tryd.f4) (Exit.then (fun a' w' => wxDI w g ad bd n0 ti len cap blen bcap mb zs ys tt k0 m P Q F ar cr ag cg (k + 1) a' w' ∧ k < m) (Qx 6 (fun a' w' => wxDI w g ad bd n0 ti len cap blen bcap mb zs ys tt k0 m P Q F ar cr ag cg k a' w' ∧ k = m))) a wr := by
  obtain ⟨t, ds⟩ := a
  obtain ⟨mm, hd', hz, h0, h1, h3, h9, h11, h17, h20, h22, rel⟩ := H
  replace hd' : ds = [] := hd'
  subst hd'
  replace hz : t.size = 220 := hz
  replace h0 : t.getD 0 undef = .int .u64 (n0 : Nat) := h0
  replace h1 : t.getD 1 undef = .slice ad len cap := h1
  replace h3 : t.getD 3 undef = .int .u16 (ti : Nat) := h3
  replace h9 : t.getD 9 undef = .pointer (some ⟨g.wb, 0, none⟩) := h9
  replace h11 : t.getD 11 undef = .map (some mb) := h11
  replace h17 : t.getD 17 undef = .int .i64 (k0 : Nat) := h17
  replace h20 : t.getD 20 undef = .slice ag m cg := h20
  replace h22 : t.getD 22 undef = .int .i64 (k : Nat) := h22
  have REL := Lib.hid rel
  clear rel
  refine openFr220 (P := fun t => t.getD 0 undef = .int .u64 (n0 : Nat) → t.getD 1 undef = .slice ad len cap → t.getD 3 undef = .int .u16 (ti : Nat) → t.getD 9 undef = .pointer (some ⟨g.wb, 0, none⟩) → t.getD 11 undef = .map (some mb) → t.getD 17 undef = .int .i64 (k0 : Nat) → t.getD 20 undef = .slice ag m cg → t.getD 22 undef = .int .i64 (k : Nat) → Code.wp Tryd.prog (loopIn 6 Tryd.f4) (Exit.then (fun a' w' => wxDI w g ad bd n0 ti len cap blen bcap mb zs ys tt k0 m P Q F ar cr ag cg (k + 1) a' w' ∧ k < m) (Qx 6 (fun a' w' => wxDI w g ad bd n0 ti len cap blen bcap mb zs ys tt k0 m P Q F ar cr ag cg k a' w' ∧ k = m))) ⟨t, []⟩ wr) ?_ t hz h0 h1 h3 h9 h11 h17 h20 h22
  clear h0 h1 h3 h9 h11 h17 h20 h22 hz t
  intro c0 c1 c2 c3 c4 c5 c6 c7 c8 c9 c10 c11 c12 c13 c14 c15 c16 c17 c18 c19 c20 c21 c22 c23 c24 c25 c26 c27 c28 c29 c30 c31 c32 c33 c34 c35 c36 c37 c38 c39 c40 c41 c42 c43 c44 c45 c46 c47 c48 c49 c50 c51 c52 c53 c54 c55 c56 c57 c58 c59 c60 c61 c62 c63 c64 c65 c66 c67 c68 c69 c70 c71 c72 c73 c74 c75 c76 c77 c78 c79 c80 c81 c82 c83 c84 c85 c86 c87 c88 c89 c90 c91 c92 c93 c94 c95 c96 c97 c98 c99 c100 c101 c102 c103 c104 c105 c106 c107 c108 c109 c110 c111 c112 c113 c114 c115 c116 c117 c118 c119 c120 c121 c122 c123 c124 c125 c126 c127 c128 c129 c130 c131 c132 c133 c134 c135 c136 c137 c138 c139 c140 c141 c142 c143 c144 c145 c146 c147 c148 c149 c150 c151 c152 c153 c154 c155 c156 c157 c158 c159 c160 c161 c162 c163 c164 c165 c166 c167 c168 c169 c170 c171 c172 c173 c174 c175 c176 c177 c178 c179 c180 c181 c182 c183 c184 c185 c186 c187 c188 c189 c190 c191 c192 c193 c194 c195 c196 c197 c198 c199 c200 c201 c202 c203 c204 c205 c206 c207 c208 c209 c210 c211 c212 c213 c214 c215 c216 c217 c218 c219 h0 h1 h3 h9 h11 h17 h20 h22
  replace h0 : c0 = .int .u64 (n0 : Nat) := h0
  replace h1 : c1 = .slice ad len cap := h1
  replace h3 : c3 = .int .u16 (ti : Nat) := h3
  replace h9 : c9 = .pointer (some ⟨g.wb, 0, none⟩) := h9
  replace h11 : c11 = .map (some mb) := h11
  replace h17 : c17 = .int .i64 (k0 : Nat) := h17
  replace h20 : c20 = .slice ag m cg := h20
  replace h22 : c22 = .int .i64 (k : Nat) := h22
  subst h0
  subst h1
  subst h3
  subst h9
  subst h11
  subst h17
  subst h20
  subst h22
  conv => arg 2; whnf
  have hsm := hv.small
  have HV := Lib.hid hv
  have HM := Lib.hid hm
  clear hv hu T hm
  by_cases hlt : k < m
  · obtain ⟨x, hx⟩ : ∃ x, (dueQ Q (n0 + k0 + 1))[k]? = some x := ⟨_, List.getElem?_eq_getElem (by rw [← HM.out]; exact hlt)⟩
    obtain ⟨i, hi, hil, hid, hF⟩ := REL.out.1.at hx
    have hg := REL.out.1.gr
    rw [← HM.out] at hg
    obtain ⟨ga, rfl, -⟩ := hg.form (by omega)
    have q1 := hg.cell k (by omega)
    have hu1 : uAt (dueQ Q (n0 + k0 + 1)) k = (i : Int) := by unfold uAt; rw [List.getD_eq_getElem?_getD, hx]; exact hi
    simp only [hu1] at q1
    have lcg := hg.len_cap
    have lk := REL.out.1.z.look i (by omega)
    rw [hF] at lk
    obtain ⟨y, rfl, hc, hwf⟩ := HV.out.item hil
    obtain ⟨z1, z2⟩ := bounds_u16 hwf
    have q2 := REL.out.1.d.c.keeps hc (fun e => e)
    obtain ⟨di, hdi⟩ := Int.eq_ofNat_of_zero_le z1
    have hdz : di = k0 := by have h1 : dzE zs i = di := by unfold dzE; rw [hdi]; rfl
                             omega
    rw [hdi, hdz] at q2
    have hkz : (k : Int) < (m : Int) := by omega
    have hkz0 : (0 : Int) ≤ (k : Int) := by omega
    have hiz : (i : Int) < (len : Int) := by omega
    have hiz0 : (0 : Int) ≤ (i : Int) := by omega
    have hk0z : (k0 : Int) ≤ 65535 := by omega
    obtain ⟨w6, hput, z6, c6⟩ := REL.out.1.z.put i 2 (by omega) (by omega) (by have := REL.out.2; omega)
    have NX := Lib.hid (REL.out.1.more hx hi z6 c6)
    have hmm := REL.out.2
    clear hg hu1 hc hwf hdi z1 z2 hdz z6 c6 REL hF hx hi
    go_wp2
    exact ⟨⟨mm + 1, rfl, rfl, rfl, rfl, rfl, rfl, rfl, rfl, rfl, rfl, ⟨NX.out, by omega⟩⟩, hlt⟩
  · obtain rfl : k = m := by omega
    go_wp2
    exact ⟨by first | rfl | trivial, ⟨_, rfl, rfl, rfl, rfl, rfl, rfl, rfl, rfl, rfl, rfl, REL.out⟩, by first | rfl | trivial⟩
theorem wxD_loop (w : World) (g : Wh) (ad bd : Option Addr) (n0 ti len cap blen bcap mb : Nat) (zs ys : List Int) (tt k0 m : Nat) (P Q : List Ent) (F : Nat → Int) (ar : Option Addr) (cr : Nat) (ag : Option Addr) (cg : Nat) (hv : IsRow .u16 w ad len cap zs) (hu : IsRow .u8 w bd blen bcap ys) (T : Tab w) (h60 : len ≤ 60) (hb60 : blen ≤ 60) (bn : n0 ≤ 18446744073709351615) (bt : ti ≤ 65535) (hm : m = (dueQ Q (n0 + k0 + 1)).length) (hk0 : k0 < 6000) (hm60 : m ≤ 60) (a : Act) (wr : World) (hb : 0 ≤ m) (H : wxDI w g ad bd n0 ti len cap blen bcap mb zs ys tt k0 m P Q F ar cr ag cg 0 a wr) :
    Code.wp Tryd.prog (.loop (loopIn 6 Tryd.f4)) (Qx 6 (fun a' w' => wxDI w g ad bd n0 ti len cap blen bcap mb zs ys tt k0 m P Q F ar cr ag cg m a' w')) a wr := by
  refine wp_loop (fun a' wr => ∃ k, k ≤ m ∧ wxDI w g ad bd n0 ti len cap blen bcap mb zs ys tt k0 m P Q F ar cr ag cg k a' wr) (fun a' _ => m - (intOf (a'.tmps.getD 22 undef)).toNat) ⟨0, hb, H⟩ ?_
  rintro a' wr ⟨k, hk, h⟩
  refine wp_mono (wxD_round w g ad bd n0 ti len cap blen bcap mb zs ys tt k0 m P Q F ar cr ag cg hv hu T h60 hb60 bn bt hm hk0 hm60 a' wr hk h) ?_
  intro e a2 w2 hp
  cases e with
  | normal =>
    refine ⟨⟨k + 1, by have := hp.2; omega, hp.1⟩, ?_⟩
    rw [wxDI_ctr w g ad bd n0 ti len cap blen bcap mb zs ys tt k0 m P Q F ar cr ag cg h, wxDI_ctr w g ad bd n0 ti len cap blen bcap mb zs ys tt k0 m P Q F ar cr ag cg hp.1]
    have := hp.2
    simp only [intOf, Int.toNat_natCast]
    omega
  | exit n => exact ⟨hp.1, hp.2.2 ▸ hp.2.1⟩
  | _ => exact hp.elim
end Go.Proofs.YtkdkkgbjfabifaaDoor
