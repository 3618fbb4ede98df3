/-
  WheelExact: the loop that inserts.
-/
import Derived.Test.YtkdkkgbjfabifaaDoorWxCode
import Derived.Test.YtkdkkgbjfabifaaDoorHeld
import Derived.Deep.QuietTactic
import Derived.BigQuiet
import Derived.Deep.Cut
import Derived.Deep.CutRange
import Derived.Deep.CutBlock
import Derived.RegionTactic
import Derived.BigRegion
namespace Go.Proofs.YtkdkkgbjfabifaaDoor
open Go.RowKit Verge LP
set_option linter.unusedVariables false
set_option linter.unusedSimpArgs false
attribute [local go_sem] Oper.semAt_some

/-- what holds at the head of the loop -/
def wxAI (w : World) (g : Wh) (ad bd : Option Addr) (n0 ti len cap blen bcap mb : Nat) (zs ys : List Int) (k : Nat) (a : Act) (wr : World) : Prop :=
  ∃ (P Q : List Ent) (ar : Option Addr) (cr : Nat), a.defers = [] ∧ a.tmps.size = 220 ∧ a.tmps.getD 0 undef = .int .u64 (n0 : Nat) ∧ a.tmps.getD 1 undef = .slice ad len cap ∧ a.tmps.getD 3 undef = .int .u16 (ti : Nat) ∧ a.tmps.getD 9 undef = .pointer (some ⟨g.wb, 0, none⟩) ∧ a.tmps.getD 11 undef = .map (some mb) ∧ a.tmps.getD 2 undef = .slice bd blen bcap ∧ a.tmps.getD 10 undef = .slice ar k cr ∧ a.tmps.getD 12 undef = .int .i64 (k : Nat) ∧ Ex w g mb n0 zs k 0 n0 P Q (fun _ => 0) ar cr wr
theorem wxAI_ctr {k : Nat} (w : World) (g : Wh) (ad bd : Option Addr) (n0 ti len cap blen bcap mb : Nat) (zs ys : List Int) {a : Act} {wr : World} (H : wxAI w g ad bd n0 ti len cap blen bcap mb zs ys k a wr) : a.tmps.getD 12 undef = .int .i64 (k : Nat) := by
  obtain ⟨P, Q, ar, cr, -, -, -, -, -, -, -, -, -, h, -⟩ := H
  exact h
set_option maxRecDepth 100000 in
set_option maxHeartbeats 0 in
theorem wxA_round {k : Nat} (w : World) (g : Wh) (ad bd : Option Addr) (n0 ti len cap blen bcap mb : Nat) (zs ys : List Int) (hv : IsRow .u16 w ad len cap zs) (hu : IsRow .u8 w bd blen bcap ys) (T : Tab w) (h60 : len ≤ 60) (hb60 : blen ≤ 60) (bn : n0 ≤ 18446744073709351615) (bt : ti ≤ 65535) (a : Act) (wr : World) (hk : k ≤ len) (H : wxAI w g ad bd n0 ti len cap blen bcap mb zs ys k a wr) :
    Code.wp Tryd.prog (loopIn 0 Tryd.f4) (Exit.then (fun a' w' => wxAI w g ad bd n0 ti len cap blen bcap mb zs ys (k + 1) a' w' ∧ k < len) (Qx 0 (fun a' w' => wxAI w g ad bd n0 ti len cap blen bcap mb zs ys k a' w' ∧ k = len))) a wr := by
  obtain ⟨t, ds⟩ := a
  obtain ⟨P, Q, ar, cr, hd', hz, h0, h1, h3, h9, h11, h2, h10, h12, rel⟩ := H
  replace hd' : ds = [] := hd'
  subst hd'
  replace hz : t.size = 220 := hz
  replace h0 : t.getD 0 undef = .int .u64 (n0 : Nat) := h0
  replace h1 : t.getD 1 undef = .slice ad len cap := h1
  replace h3 : t.getD 3 undef = .int .u16 (ti : Nat) := h3
  replace h9 : t.getD 9 undef = .pointer (some ⟨g.wb, 0, none⟩) := h9
  replace h11 : t.getD 11 undef = .map (some mb) := h11
  replace h2 : t.getD 2 undef = .slice bd blen bcap := h2
  replace h10 : t.getD 10 undef = .slice ar k cr := h10
  replace h12 : t.getD 12 undef = .int .i64 (k : Nat) := h12
  have REL := Lib.hid rel
  clear rel
  refine openFr220 (P := fun t => t.getD 0 undef = .int .u64 (n0 : Nat) → t.getD 1 undef = .slice ad len cap → t.getD 3 undef = .int .u16 (ti : Nat) → t.getD 9 undef = .pointer (some ⟨g.wb, 0, none⟩) → t.getD 11 undef = .map (some mb) → t.getD 2 undef = .slice bd blen bcap → t.getD 10 undef = .slice ar k cr → t.getD 12 undef = .int .i64 (k : Nat) → Code.wp Tryd.prog (loopIn 0 Tryd.f4) (Exit.then (fun a' w' => wxAI w g ad bd n0 ti len cap blen bcap mb zs ys (k + 1) a' w' ∧ k < len) (Qx 0 (fun a' w' => wxAI w g ad bd n0 ti len cap blen bcap mb zs ys k a' w' ∧ k = len))) ⟨t, []⟩ wr) ?_ t hz h0 h1 h3 h9 h11 h2 h10 h12
  clear h0 h1 h3 h9 h11 h2 h10 h12 hz t
  intro c0 c1 c2 c3 c4 c5 c6 c7 c8 c9 c10 c11 c12 c13 c14 c15 c16 c17 c18 c19 c20 c21 c22 c23 c24 c25 c26 c27 c28 c29 c30 c31 c32 c33 c34 c35 c36 c37 c38 c39 c40 c41 c42 c43 c44 c45 c46 c47 c48 c49 c50 c51 c52 c53 c54 c55 c56 c57 c58 c59 c60 c61 c62 c63 c64 c65 c66 c67 c68 c69 c70 c71 c72 c73 c74 c75 c76 c77 c78 c79 c80 c81 c82 c83 c84 c85 c86 c87 c88 c89 c90 c91 c92 c93 c94 c95 c96 c97 c98 c99 c100 c101 c102 c103 c104 c105 c106 c107 c108 c109 c110 c111 c112 c113 c114 c115 c116 c117 c118 c119 c120 c121 c122 c123 c124 c125 c126 c127 c128 c129 c130 c131 c132 c133 c134 c135 c136 c137 c138 c139 c140 c141 c142 c143 c144 c145 c146 c147 c148 c149 c150 c151 c152 c153 c154 c155 c156 c157 c158 c159 c160 c161 c162 c163 c164 c165 c166 c167 c168 c169 c170 c171 c172 c173 c174 c175 c176 c177 c178 c179 c180 c181 c182 c183 c184 c185 c186 c187 c188 c189 c190 c191 c192 c193 c194 c195 c196 c197 c198 c199 c200 c201 c202 c203 c204 c205 c206 c207 c208 c209 c210 c211 c212 c213 c214 c215 c216 c217 c218 c219 h0 h1 h3 h9 h11 h2 h10 h12
  replace h0 : c0 = .int .u64 (n0 : Nat) := h0
  replace h1 : c1 = .slice ad len cap := h1
  replace h3 : c3 = .int .u16 (ti : Nat) := h3
  replace h9 : c9 = .pointer (some ⟨g.wb, 0, none⟩) := h9
  replace h11 : c11 = .map (some mb) := h11
  replace h2 : c2 = .slice bd blen bcap := h2
  replace h10 : c10 = .slice ar k cr := h10
  replace h12 : c12 = .int .i64 (k : Nat) := h12
  subst h0
  subst h1
  subst h3
  subst h9
  subst h11
  subst h2
  subst h10
  subst h12
  conv => arg 2; whnf
  have hsm := hv.small
  have HV := Lib.hid hv
  have b3 : (n0 : Int) ≤ 18446744073709351615 := by omega
  clear hv hu T
  by_cases hlt : k < len
  · obtain ⟨x, rfl, hc, hwf⟩ := HV.out.item hlt
    obtain ⟨z1, z2⟩ := bounds_u16 hwf
    have q1 := REL.out.d.c.keeps hc (fun e => e)
    obtain ⟨di, hdi⟩ := Int.eq_ofNat_of_zero_le z1
    have hdz : di = dzE zs k := by unfold dzE; rw [hdi]; rfl
    rw [hdi] at q1 z2
    have DI := Lib.hid hdz
    have hkz : (k : Int) < (len : Int) := by omega
    have hkz0 : (0 : Int) ≤ (k : Int) := by omega
    clear hc hwf hdi z1 hdz
    have b1 : (n0 : Int) + 1 + (di : Int) ≤ 18446744073709551615 := by omega
    go_wp2_with fail
    refine (REL.out.d.insert (n0 + 1 + di) k (by omega) (by omega) (by have := REL.out.ql; omega)).mono ?_
    rintro e w5 ⟨xb, rfl, hxb, d5, c5⟩
    have D5 := Lib.hid d5
    have C5 := Lib.hid c5
    have R5 := Lib.hid (Row.kept (S := Nil) (Row.kept REL.out.r c5 (fun j hj => (REL.out.ro j hj).2.1)) ((Ch.refl Nil w5).alloc (Obj.cells #[.pointer (some ⟨xb, 0, none⟩)] 34)) (fun _ _ e => e))
    have LN := Lib.hid REL.out.ln
    obtain ⟨P2, hP2⟩ : ∃ P2, P2 = P ++ [(⟨xb, n0 + 1 + di, (k : Int)⟩ : Ent)] := ⟨_, rfl⟩
    have HP2 := Lib.hid hP2
    clear hP2
    have V1 : Hid (∀ i, i < k * 1 → valAt (P2.map nd) pre i = valAt (P.map nd) pre i) := Lib.hid fun i hi => by rw [HP2.out]; exact valAt_snoc (by rw [LN.out]; omega)
    have V2 : Hid (∀ (j : Nat) (u : Value), ([.pointer (some ⟨xb, 0, none⟩)] : List Value)[j]? = some u → valAt (P2.map nd) pre (k * 1 + j) = u) := Lib.hid (by
      intro j u hu
      rw [HP2.out]
      obtain rfl : j = 0 := (by cases j; rfl; simp at hu)
      simp at hu
      subst hu
      have := valAt_last (P := P) (x := ⟨xb, n0 + 1 + di, (k : Int)⟩)
      rw [LN.out] at this
      simpa using this)
    clear d5 c5
    go_wp2_with (at_builtin; refine append_row _ rfl _ _ _ rfl 34 (.pointer none) 1 8 Tryd.underlying31 (by kernel_rfl) rfl (by omega) (by omega) rfl R5.out (by omega) w5.heap.size 1 [.pointer (some ⟨xb, 0, none⟩)] 34 rfl rfl (heap_alloc_new w5 _) (by simp [Value.oneCell']) (valAt (P2.map nd) pre) V1.out V2.out _ rfl ?_)
    intro gb cp6 w6 row6 ch6 at6 lt6
    rw [HP2.out] at row6
    have c6 : Ch (OwnS ar) w5 w6 := (((Ch.refl Nil w5).alloc _).mono (fun _ _ e => e.elim)).trans ch6
    have NX := Lib.hid (REL.out.more (x := ⟨xb, n0 + 1 + di, (k : Int)⟩) hxb (by rw [← DI.out]) rfl D5.out C5.out c6 row6 (by rcases at6 with h | h; exact .inl h; exact .inr (by (try simp at h); omega)))
    clear ch6 row6 at6 lt6 R5 c6 D5 C5 REL LN
    go_wp2
    exact ⟨⟨_, _, _, _, rfl, rfl, rfl, rfl, rfl, rfl, rfl, rfl, rfl, rfl, NX.out⟩, hlt⟩
  · obtain rfl : k = len := by omega
    go_wp2
    exact ⟨by first | rfl | trivial, ⟨_, _, _, _, rfl, rfl, rfl, rfl, rfl, rfl, rfl, rfl, rfl, rfl, REL.out⟩, by first | rfl | trivial⟩
theorem wxA_loop (w : World) (g : Wh) (ad bd : Option Addr) (n0 ti len cap blen bcap mb : Nat) (zs ys : List Int) (hv : IsRow .u16 w ad len cap zs) (hu : IsRow .u8 w bd blen bcap ys) (T : Tab w) (h60 : len ≤ 60) (hb60 : blen ≤ 60) (bn : n0 ≤ 18446744073709351615) (bt : ti ≤ 65535) (a : Act) (wr : World) (hb : 0 ≤ len) (H : wxAI w g ad bd n0 ti len cap blen bcap mb zs ys 0 a wr) :
    Code.wp Tryd.prog (.loop (loopIn 0 Tryd.f4)) (Qx 0 (fun a' w' => wxAI w g ad bd n0 ti len cap blen bcap mb zs ys len a' w')) a wr := by
  refine wp_loop (fun a' wr => ∃ k, k ≤ len ∧ wxAI w g ad bd n0 ti len cap blen bcap mb zs ys k a' wr) (fun a' _ => len - (intOf (a'.tmps.getD 12 undef)).toNat) ⟨0, hb, H⟩ ?_
  rintro a' wr ⟨k, hk, h⟩
  refine wp_mono (wxA_round w g ad bd n0 ti len cap blen bcap mb zs ys hv hu T h60 hb60 bn bt a' wr hk h) ?_
  intro e a2 w2 hp
  cases e with
  | normal =>
    refine ⟨⟨k + 1, by have := hp.2; omega, hp.1⟩, ?_⟩
    rw [wxAI_ctr w g ad bd n0 ti len cap blen bcap mb zs ys h, wxAI_ctr w g ad bd n0 ti len cap blen bcap mb zs ys hp.1]
    have := hp.2
    simp only [intOf, Int.toNat_natCast]
    omega
  | exit n => exact ⟨hp.1, hp.2.2 ▸ hp.2.1⟩
  | _ => exact hp.elim
end Go.Proofs.YtkdkkgbjfabifaaDoor
