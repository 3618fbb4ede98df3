/-
  SlabStale: the outer loop; the end.
-/
import Derived.Test.YtjhmmfdmoalfmaaStA
import Derived.Test.YtjhmmfdmoalfmaaHeld
import Derived.Deep.QuietTactic
import Derived.BigQuiet
import Derived.Deep.Cut
import Derived.Deep.CutRange
import Derived.Deep.CutBlock
import Derived.RegionTactic
import Derived.BigRegion
namespace Go.Proofs.Ytjhmmfdmoalfmaa
open Go.RowKit Verge
set_option linter.unusedVariables false
set_option linter.unusedSimpArgs false
attribute [local go_sem] Oper.semAt_some

/-- what holds at the head of the loop -/
def stAI (w : World) (b rb tz ev tt : Nat) (k : Nat) (a : Act) (wr : World) : Prop :=
  ∃ (R : Nat → Rec) (ai aw : Option Addr) (ci cw : Nat), a.defers = [] ∧ a.tmps.size = 138 ∧ a.tmps.getD 0 undef = .int .u8 (tz : Nat) ∧ a.tmps.getD 1 undef = .int .u8 (ev : Nat) ∧ a.tmps.getD 5 undef = .pointer (some ⟨b, 0, none⟩) ∧ a.tmps.getD 7 undef = .slice ai k ci ∧ a.tmps.getD 8 undef = .slice aw k cw ∧ a.tmps.getD 9 undef = .int .i64 (k : Nat) ∧ (SlR w wr b rb 1 0 R k ∧ (R 0).gv = k ∧ Rows2 w wr b rb k ai ci aw cw)
theorem stAI_ctr {k : Nat} (w : World) (b rb tz ev tt : Nat) {a : Act} {wr : World} (H : stAI w b rb tz ev tt k a wr) : a.tmps.getD 9 undef = .int .i64 (k : Nat) := by
  obtain ⟨R, ai, aw, ci, cw, -, -, -, -, -, -, -, h, -⟩ := H
  exact h
set_option maxRecDepth 100000 in
set_option maxHeartbeats 0 in
theorem stA_round {k : Nat} (w : World) (b rb tz ev tt : Nat) (ht : tt = tz % 6) (htz : tz ≤ 255) (hev : ev ≤ 255) (a : Act) (wr : World) (hk : k ≤ (tt + 1)) (H : stAI w b rb tz ev tt k a wr) :
    Code.wp Try.prog (loopIn 0 Try.f6) (Exit.then (fun a' w' => stAI w b rb tz ev tt (k + 1) a' w' ∧ k < (tt + 1)) (Qx 0 (fun a' w' => stAI w b rb tz ev tt k a' w' ∧ k = (tt + 1)))) a wr := by
  obtain ⟨t, ds⟩ := a
  obtain ⟨R, ai, aw, ci, cw, hd', hz, h0, h1, h5, h7, h8, h9, rel⟩ := H
  replace hd' : ds = [] := hd'
  subst hd'
  replace hz : t.size = 138 := hz
  replace h0 : t.getD 0 undef = .int .u8 (tz : Nat) := h0
  replace h1 : t.getD 1 undef = .int .u8 (ev : Nat) := h1
  replace h5 : t.getD 5 undef = .pointer (some ⟨b, 0, none⟩) := h5
  replace h7 : t.getD 7 undef = .slice ai k ci := h7
  replace h8 : t.getD 8 undef = .slice aw k cw := h8
  replace h9 : t.getD 9 undef = .int .i64 (k : Nat) := h9
  have REL := Lib.hid rel
  clear rel
  refine openFr138 (P := fun t => t.getD 0 undef = .int .u8 (tz : Nat) → t.getD 1 undef = .int .u8 (ev : Nat) → t.getD 5 undef = .pointer (some ⟨b, 0, none⟩) → t.getD 7 undef = .slice ai k ci → t.getD 8 undef = .slice aw k cw → t.getD 9 undef = .int .i64 (k : Nat) → Code.wp Try.prog (loopIn 0 Try.f6) (Exit.then (fun a' w' => stAI w b rb tz ev tt (k + 1) a' w' ∧ k < (tt + 1)) (Qx 0 (fun a' w' => stAI w b rb tz ev tt k a' w' ∧ k = (tt + 1)))) ⟨t, []⟩ wr) ?_ t hz h0 h1 h5 h7 h8 h9
  clear h0 h1 h5 h7 h8 h9 hz t
  intro c0 c1 c2 c3 c4 c5 c6 c7 c8 c9 c10 c11 c12 c13 c14 c15 c16 c17 c18 c19 c20 c21 c22 c23 c24 c25 c26 c27 c28 c29 c30 c31 c32 c33 c34 c35 c36 c37 c38 c39 c40 c41 c42 c43 c44 c45 c46 c47 c48 c49 c50 c51 c52 c53 c54 c55 c56 c57 c58 c59 c60 c61 c62 c63 c64 c65 c66 c67 c68 c69 c70 c71 c72 c73 c74 c75 c76 c77 c78 c79 c80 c81 c82 c83 c84 c85 c86 c87 c88 c89 c90 c91 c92 c93 c94 c95 c96 c97 c98 c99 c100 c101 c102 c103 c104 c105 c106 c107 c108 c109 c110 c111 c112 c113 c114 c115 c116 c117 c118 c119 c120 c121 c122 c123 c124 c125 c126 c127 c128 c129 c130 c131 c132 c133 c134 c135 c136 c137 h0 h1 h5 h7 h8 h9
  replace h0 : c0 = .int .u8 (tz : Nat) := h0
  replace h1 : c1 = .int .u8 (ev : Nat) := h1
  replace h5 : c5 = .pointer (some ⟨b, 0, none⟩) := h5
  replace h7 : c7 = .slice ai k ci := h7
  replace h8 : c8 = .slice aw k cw := h8
  replace h9 : c9 = .int .i64 (k : Nat) := h9
  subst h0
  subst h1
  subst h5
  subst h7
  subst h8
  subst h9
  conv => arg 2; whnf
  have tm := tmod_nat tz 6
  rw [← ht] at tm
  replace tm : ((tz : Int)).tmod 6 = (tt : Int) := tm
  have em : (tz : Int) % 6 = (tt : Int) := by rw [ht, Int.natCast_emod]; rfl
  have ht6 : tt < 6 := by rw [ht]; exact Nat.mod_lt _ (by decide)
  have HT := Lib.hid ht
  clear ht
  by_cases hlt : k < tt + 1
  · have hkz : (k : Int) ≤ (tt : Int) := by omega
    have hk6 : k ≤ 6 := by omega
    go_wp2_with fail
    refine (begin_sq 1 REL.out.1.s).mono ?_
    rintro e w7 ⟨q, rfl, hq, k7, c7, z7⟩
    have HQ : Hid (w.heap.size ≤ q) := Lib.hid (by have := REL.out.1.c.size; omega)
    have HQO : Hid (¬ OwnS ai q ∧ ¬ OwnS aw q) := Lib.hid ⟨fun e => by have := REL.out.2.2.ids.lt _ e; omega, fun e => by have := REL.out.2.2.wds.lt _ e; omega⟩
    have START : Hid (ItR w w7 b rb 1 0 R q 1 0 ∧ Rows2 w w7 b rb k ai ci aw cw) := Lib.hid ⟨⟨k7, REL.out.1.c.trans c7, REL.out.1.hb, REL.out.1.hr, HQ.out⟩, REL.out.2.2.kept c7 (fun j e => e.elim)⟩
    have II := Lib.hid REL.out.1.i
    have GG := Lib.hid REL.out.2.1
    clear k7 c7 z7 hq REL
    go_wp2
    refine wp_mono (stB_loop w b rb tz ev tt k q R ai aw ci cw HT.out htz hev II.out hk6 HQO.out _ _ (by omega) ?hI) ?_
    case hI => exact ⟨rfl, rfl, rfl, rfl, rfl, rfl, rfl, rfl, rfl, rfl, START.out⟩
    clear START
    intro e a' w8 hp
    obtain ⟨rfl, H⟩ := Qx_inv hp
    clear hp
    obtain ⟨t, ds⟩ := a'
    obtain ⟨hd', hz, h0, h1, h5, h7, h8, h9, h10, h11, rel⟩ := H
    replace hd' : ds = [] := hd'
    subst hd'
    replace hz : t.size = 138 := hz
    replace h0 : t.getD 0 undef = .int .u8 (tz : Nat) := h0
    replace h1 : t.getD 1 undef = .int .u8 (ev : Nat) := h1
    replace h5 : t.getD 5 undef = .pointer (some ⟨b, 0, none⟩) := h5
    replace h7 : t.getD 7 undef = .slice ai k ci := h7
    replace h8 : t.getD 8 undef = .slice aw k cw := h8
    replace h9 : t.getD 9 undef = .int .i64 (k : Nat) := h9
    replace h10 : t.getD 10 undef = .pointer (some ⟨q, 0, none⟩) := h10
    replace h11 : t.getD 11 undef = .int .i64 (3 : Nat) := h11
    have REL := Lib.hid rel
    clear rel
    refine openFr138 (P := fun t => t.getD 0 undef = .int .u8 (tz : Nat) → t.getD 1 undef = .int .u8 (ev : Nat) → t.getD 5 undef = .pointer (some ⟨b, 0, none⟩) → t.getD 7 undef = .slice ai k ci → t.getD 8 undef = .slice aw k cw → t.getD 9 undef = .int .i64 (k : Nat) → t.getD 10 undef = .pointer (some ⟨q, 0, none⟩) → t.getD 11 undef = .int .i64 (3 : Nat) → Exit.inBlock 2 _ (.exit 2) ⟨t, []⟩ w8) ?_ t hz h0 h1 h5 h7 h8 h9 h10 h11
    clear h0 h1 h5 h7 h8 h9 h10 h11 hz t
    intro c0 c1 c2 c3 c4 c5 c6 c7 c8 c9 c10 c11 c12 c13 c14 c15 c16 c17 c18 c19 c20 c21 c22 c23 c24 c25 c26 c27 c28 c29 c30 c31 c32 c33 c34 c35 c36 c37 c38 c39 c40 c41 c42 c43 c44 c45 c46 c47 c48 c49 c50 c51 c52 c53 c54 c55 c56 c57 c58 c59 c60 c61 c62 c63 c64 c65 c66 c67 c68 c69 c70 c71 c72 c73 c74 c75 c76 c77 c78 c79 c80 c81 c82 c83 c84 c85 c86 c87 c88 c89 c90 c91 c92 c93 c94 c95 c96 c97 c98 c99 c100 c101 c102 c103 c104 c105 c106 c107 c108 c109 c110 c111 c112 c113 c114 c115 c116 c117 c118 c119 c120 c121 c122 c123 c124 c125 c126 c127 c128 c129 c130 c131 c132 c133 c134 c135 c136 c137 h0 h1 h5 h7 h8 h9 h10 h11
    replace h0 : c0 = .int .u8 (tz : Nat) := h0
    replace h1 : c1 = .int .u8 (ev : Nat) := h1
    replace h5 : c5 = .pointer (some ⟨b, 0, none⟩) := h5
    replace h7 : c7 = .slice ai k ci := h7
    replace h8 : c8 = .slice aw k cw := h8
    replace h9 : c9 = .int .i64 (k : Nat) := h9
    replace h10 : c10 = .pointer (some ⟨q, 0, none⟩) := h10
    replace h11 : c11 = .int .i64 (3 : Nat) := h11
    subst h0
    subst h1
    subst h5
    subst h7
    subst h8
    subst h9
    subst h10
    subst h11

    have hE := it_end 1 II.out (by omega : k + 1 ≤ 900000) 3 (Nat.le_refl _)
    rcases hE with ⟨hc, hE⟩ | ⟨f, hf, f0, hE, i9⟩
    · exact absurd hc (by decide)
    · obtain rfl : f = 0 := by omega
      have h9 := REL.out.1.sq
      rw [hE, GG.out] at h9
      obtain ⟨id, hid⟩ : ∃ id, id = 64 * (k + 1) := ⟨_, rfl⟩
      obtain ⟨wd, hwd⟩ : ∃ wd, wd = 256 * (k + 1) + 1 := ⟨_, rfl⟩
      rw [GG.out] at i9
      dsimp only at h9
      rw [show (k + 1) * 64 + 0 = id by omega, ← hwd] at h9
      rw [← hwd] at i9
      obtain ⟨R1, hR1⟩ : ∃ R1, R1 = upR R 0 ⟨wd, k + 1, 1⟩ := ⟨_, rfl⟩
      rw [← hR1] at h9 i9
      have r1 : R1 0 = ⟨wd, k + 1, 1⟩ := by rw [hR1, upR_same]
      have R10 := Lib.hid r1
      have I9 := Lib.hid i9
      have S9 := Lib.hid h9.s
      have ID := id_of h9.rq
      dsimp only at ID
      rw [if_pos rfl, if_pos rfl] at ID
      replace ID := Lib.hid ID
      have RW := Lib.hid REL.out.2
      have C9 := Lib.hid REL.out.1.c
      have HB := Lib.hid REL.out.1.hb
      have HR := Lib.hid REL.out.1.hr
      have idb : (id : Int) ≤ 1000 := by omega
      have W0 : Hid ((R1 0).wd = wd) := Lib.hid (by rw [r1])
      have HID := Lib.hid hid
      have HWD := Lib.hid hwd
      clear hE h9 i9 REL hR1 r1 f0 hid hwd
      go_wp2_with fail
      refine ID.out.mono ?_
      rintro e w9 ⟨rfl, rfl⟩
      clear ID
      go_wp2_with fail
      refine (word_in 0 S9.out (by decide)).mono ?_
      rintro e w9 ⟨rfl, s9, c9⟩
      rw [W0.out]
      have START : Hid (IsS w9 b rb 1 1 R1 ∧ Rows2 w w9 b rb k ai ci aw cw ∧ Ch Nil w w9) := Lib.hid ⟨s9, RW.out.kept c9 (fun j e => .inr (.inl e)), C9.out.then c9 (fun j hj e => by have := HR.out; change j = _ at e; omega)⟩
      clear s9 c9 S9 RW C9
      go_wp2
      refine wp_mono (stC_loop w b rb tz ev tt k id wd R1 ai aw ci cw HT.out htz hev hk6 HID.out HWD.out R10.out HR.out _ _ (by omega) ?hI) ?_
      case hI => exact ⟨rfl, rfl, rfl, rfl, rfl, rfl, rfl, rfl, rfl, rfl, rfl, START.out⟩
      clear START w9
      intro e a' w9 hp
      obtain ⟨rfl, H⟩ := Qx_inv hp
      clear hp
      obtain ⟨t, ds⟩ := a'
      obtain ⟨hd', hz, h0, h1, h5, h7, h8, h9, h12, h14, h16, rel⟩ := H
      replace hd' : ds = [] := hd'
      subst hd'
      replace hz : t.size = 138 := hz
      replace h0 : t.getD 0 undef = .int .u8 (tz : Nat) := h0
      replace h1 : t.getD 1 undef = .int .u8 (ev : Nat) := h1
      replace h5 : t.getD 5 undef = .pointer (some ⟨b, 0, none⟩) := h5
      replace h7 : t.getD 7 undef = .slice ai k ci := h7
      replace h8 : t.getD 8 undef = .slice aw k cw := h8
      replace h9 : t.getD 9 undef = .int .i64 (k : Nat) := h9
      replace h12 : t.getD 12 undef = .int .u64 (id : Nat) := h12
      replace h14 : t.getD 14 undef = .int .u64 (wd : Nat) := h14
      replace h16 : t.getD 16 undef = .int .i64 (k : Nat) := h16
      have REL := Lib.hid rel
      clear rel
      refine openFr138 (P := fun t => t.getD 0 undef = .int .u8 (tz : Nat) → t.getD 1 undef = .int .u8 (ev : Nat) → t.getD 5 undef = .pointer (some ⟨b, 0, none⟩) → t.getD 7 undef = .slice ai k ci → t.getD 8 undef = .slice aw k cw → t.getD 9 undef = .int .i64 (k : Nat) → t.getD 12 undef = .int .u64 (id : Nat) → t.getD 14 undef = .int .u64 (wd : Nat) → t.getD 16 undef = .int .i64 (k : Nat) → Exit.inBlock 4 _ (.exit 4) ⟨t, []⟩ w9) ?_ t hz h0 h1 h5 h7 h8 h9 h12 h14 h16
      clear h0 h1 h5 h7 h8 h9 h12 h14 h16 hz t
      intro c0 c1 c2 c3 c4 c5 c6 c7 c8 c9 c10 c11 c12 c13 c14 c15 c16 c17 c18 c19 c20 c21 c22 c23 c24 c25 c26 c27 c28 c29 c30 c31 c32 c33 c34 c35 c36 c37 c38 c39 c40 c41 c42 c43 c44 c45 c46 c47 c48 c49 c50 c51 c52 c53 c54 c55 c56 c57 c58 c59 c60 c61 c62 c63 c64 c65 c66 c67 c68 c69 c70 c71 c72 c73 c74 c75 c76 c77 c78 c79 c80 c81 c82 c83 c84 c85 c86 c87 c88 c89 c90 c91 c92 c93 c94 c95 c96 c97 c98 c99 c100 c101 c102 c103 c104 c105 c106 c107 c108 c109 c110 c111 c112 c113 c114 c115 c116 c117 c118 c119 c120 c121 c122 c123 c124 c125 c126 c127 c128 c129 c130 c131 c132 c133 c134 c135 c136 c137 h0 h1 h5 h7 h8 h9 h12 h14 h16
      replace h0 : c0 = .int .u8 (tz : Nat) := h0
      replace h1 : c1 = .int .u8 (ev : Nat) := h1
      replace h5 : c5 = .pointer (some ⟨b, 0, none⟩) := h5
      replace h7 : c7 = .slice ai k ci := h7
      replace h8 : c8 = .slice aw k cw := h8
      replace h9 : c9 = .int .i64 (k : Nat) := h9
      replace h12 : c12 = .int .u64 (id : Nat) := h12
      replace h14 : c14 = .int .u64 (wd : Nat) := h14
      replace h16 : c16 = .int .i64 (k : Nat) := h16
      subst h0
      subst h1
      subst h5
      subst h7
      subst h8
      subst h9
      subst h12
      subst h14
      subst h16

      have ng : ¬ givenId 1 R1 (id + 64) := by
        unfold givenId
        rw [show (id + 64) / 64 = k + 2 by have := HID.out; omega, show (id + 64) % 64 = 0 by have := HID.out; omega, R10.out]
        show ¬ (0 < 1 ∧ 1 ≤ k + 2 ∧ k + 2 ≤ k + 1)
        omega
      have my : mineId 1 R1 id = true := by
        unfold mineId
        rw [show id / 64 = k + 1 by have := HID.out; omega, show id % 64 = 0 by have := HID.out; omega, if_pos (by decide), R10.out]
        exact decide_eq_true ⟨by omega, rfl⟩
      have NG := Lib.hid ng
      have MY := Lib.hid my
      clear ng my
      have sl := slot_no (id + 64) (by omega) REL.out.1 NG.out
      rw [show ((id + 64 : Nat) : Int) = (id : Int) + 64 by omega] at sl
      have SL := Lib.hid sl
      clear sl
      go_wp2_with fail
      refine SL.out.mono ?_
      rintro e w10 ⟨rfl, rfl⟩
      clear SL
      go_wp2_with fail
      refine (mine_of id (by omega) REL.out.1).mono ?_
      rintro e w10 ⟨rfl, rfl⟩
      rw [MY.out]
      have hc1 := REL.out.2.1.ids.len_cap
      have hc2 := REL.out.2.1.wds.len_cap
      have E7 := Lib.hid (Row.kept (S := Nil) REL.out.2.1.ids ((Ch.refl Nil w9).alloc (Obj.cells #[.int .u64 (id : Nat)] 23)) (fun _ _ e => e))
      have V2 : Hid (∀ (j : Nat) (u : Value), ([.int .u64 (id : Nat)] : List Value)[j]? = some u → idF (k * 1 + j) = u) := Lib.hid (by
        intro j u hu
        obtain rfl : j = 0 := (by cases j; rfl; simp at hu)
        simp at hu
        subst hu
        unfold idF
        rw [Nat.mul_one, Nat.add_zero, HID.out])
      go_wp2_with (at_builtin; refine append_row _ rfl _ _ _ rfl 23 (.int .u64 0) 1 8 Try.underlying65 (by kernel_rfl) rfl (by omega) (by omega) rfl E7.out (by omega) w9.heap.size 1 [.int .u64 (id : Nat)] 23 rfl rfl (heap_alloc_new w9 _) (by simp [Value.oneCell']) idF (fun _ _ => rfl) V2.out _ rfl ?_)
      intro ga ca w10 row10 ch10 at10 lt10
      have c10 : Ch (OwnS ai) w9 w10 := (((Ch.refl Nil w9).alloc _).mono (fun _ _ e => e.elim)).trans ch10
      have sz9 := c10.size
      have WD10 := Lib.hid (REL.out.2.1.wds.kept c10 (fun j hj e => (REL.out.2.1.oi j e).2.2.2 hj))
      have S10 := Lib.hid (REL.out.1.kept c10 (fun e => (REL.out.2.1.oi b e).2.1 rfl) (fun e => (REL.out.2.1.oi rb e).2.2.1 rfl))
      have C10 : Hid (Ch Nil w w10) := Lib.hid (REL.out.2.2.then c10 (fun j hj e => by have := (REL.out.2.1.oi j e).1; omega))
      have ID10 := Lib.hid row10
      have cz9 := REL.out.2.2.size
      have lb9 := REL.out.1.lt
      have lr9 := REL.out.1.lt2
      have OI10 : Hid (∀ j, OwnS (some ⟨ga, 0, none⟩) j → w.heap.size ≤ j ∧ j ≠ b ∧ j ≠ rb ∧ ¬ OwnS aw j) := Lib.hid (fun j hj => by
        obtain rfl : ga = j := by simpa [OwnS] using hj
        rcases at10 with h | h
        · exact REL.out.2.1.oi _ h
        · have h : w9.heap.size ≤ ga := by (try simp at h); omega
          exact ⟨by omega, by omega, by omega, fun e => by have := REL.out.2.1.wds.lt _ e; omega⟩)
      have OW10 := Lib.hid REL.out.2.1.ow
      clear row10 ch10 at10 lt10 c10 REL E7 V2 sz9 cz9 lb9 lr9
      have E8 := Lib.hid (Row.kept (S := Nil) WD10.out ((Ch.refl Nil w10).alloc (Obj.cells #[.int .u64 (wd : Nat)] 49)) (fun _ _ e => e))
      have V3 : Hid (∀ (j : Nat) (u : Value), ([.int .u64 (wd : Nat)] : List Value)[j]? = some u → wdF (k * 1 + j) = u) := Lib.hid (by
        intro j u hu
        obtain rfl : j = 0 := (by cases j; rfl; simp at hu)
        simp at hu
        subst hu
        unfold wdF
        rw [Nat.mul_one, Nat.add_zero, HWD.out])
      go_wp2_with (at_builtin; refine append_row _ rfl _ _ _ rfl 49 (.int .u64 0) 1 8 Try.underlying66 (by kernel_rfl) rfl (by omega) (by omega) rfl E8.out (by omega) w10.heap.size 1 [.int .u64 (wd : Nat)] 49 rfl rfl (heap_alloc_new w10 _) (by simp [Value.oneCell']) wdF (fun _ _ => rfl) V3.out _ rfl ?_)
      intro gb cb w11 row11 ch11 at11 lt11
      have c11 : Ch (OwnS aw) w10 w11 := (((Ch.refl Nil w10).alloc _).mono (fun _ _ e => e.elim)).trans ch11
      have ID11 := Lib.hid (ID10.out.kept c11 (fun j hj e => (OI10.out j hj).2.2.2 e))
      have S11 := Lib.hid (S10.out.kept c11 (fun e => (OW10.out b e).2.1 rfl) (fun e => (OW10.out rb e).2.2 rfl))
      have C11 : Hid (Ch Nil w w11) := Lib.hid (C10.out.then c11 (fun j hj e => by have := (OW10.out j e).1; omega))
      have WD11 := Lib.hid row11
      have cz := C10.out.size
      have lb9 := S10.out.lt
      have lr9 := S10.out.lt2
      have OW11 : Hid (∀ j, OwnS (some ⟨gb, 0, none⟩) j → w.heap.size ≤ j ∧ j ≠ b ∧ j ≠ rb) := Lib.hid (fun j hj => by
        obtain rfl : gb = j := by simpa [OwnS] using hj
        rcases at11 with h | h
        · exact OW10.out _ h
        · have h : w10.heap.size ≤ gb := by (try simp at h); omega
          exact ⟨by omega, by omega, by omega⟩)
      have OI11 : Hid (∀ j, OwnS (some ⟨ga, 0, none⟩) j → w.heap.size ≤ j ∧ j ≠ b ∧ j ≠ rb ∧ ¬ OwnS (some ⟨gb, 0, none⟩) j) := Lib.hid (fun j hj => by
        have h1 := OI10.out j hj
        refine ⟨h1.1, h1.2.1, h1.2.2.1, fun e => ?_⟩
        obtain rfl : gb = j := by simpa [OwnS] using e
        rcases at11 with h | h
        · exact h1.2.2.2 h
        · have h : w10.heap.size ≤ gb := by (try simp at h); omega
          have := ID10.out.lt _ hj
          omega)
      have RW11 : Hid (Rows2 w w11 b rb (k + 1) (some ⟨ga, 0, none⟩) ca (some ⟨gb, 0, none⟩) cb) := Lib.hid ⟨ID11.out, WD11.out, OI11.out, OW11.out⟩
      clear row11 ch11 at11 lt11 c11 E8 V3 WD10 S10 C10 ID10 OI10 OW10 cz lb9 lr9 ID11 WD11 OI11 OW11
      go_wp2_with fail
      refine (free_yes 0 S11.out I9.out (by omega) (by decide) (busy_of1 (by rw [R10.out]; exact HWD.out))).mono ?_
      rintro e w12 ⟨rfl, s12, c12⟩
      have i12 := I9.out.freed (k := 0) (by decide) (busy_of1 (by rw [R10.out]; exact HWD.out)) (R1 0).pd
      have NX : Hid (SlR w w12 b rb 1 0 (upR R1 0 ⟨256 * (R1 0).gv, (R1 0).gv, (R1 0).pd⟩) (k + 1) ∧ (upR R1 0 ⟨256 * (R1 0).gv, (R1 0).gv, (R1 0).pd⟩ 0).gv = k + 1 ∧ Rows2 w w12 b rb (k + 1) (some ⟨ga, 0, none⟩) ca (some ⟨gb, 0, none⟩) cb) := Lib.hid ⟨⟨s12, i12, C11.out.then c12 (fun j hj e => by have := HB.out; have := HR.out; rcases e with e | e <;> omega), HB.out, HR.out⟩, by rw [upR_same, R10.out], RW11.out.kept c12 (fun j e => by rcases e with e | e; exact .inl e; exact .inr (.inl e))⟩
      clear s12 c12 i12 S11 C11 RW11 I9
      go_wp2
      first | exact ⟨⟨_, _, _, _, _, rfl, rfl, rfl, rfl, rfl, rfl, rfl, rfl, NX.out⟩, hlt⟩ | exact ⟨_, _, _, _, _, rfl, rfl, rfl, rfl, rfl, rfl, rfl, rfl, NX.out⟩
  · obtain rfl : k = tt + 1 := by omega
    have hkz : ¬ (tt : Int) + 1 ≤ (tt : Int) := by omega
    have hkz2 : (tt : Int) < (tt : Int) + 1 := by omega
    go_wp2
    first | exact ⟨by first | rfl | trivial, ⟨_, _, _, _, _, rfl, rfl, rfl, rfl, rfl, rfl, rfl, rfl, REL.out⟩, by first | rfl | trivial⟩ | exact ⟨_, _, _, _, _, rfl, rfl, rfl, rfl, rfl, rfl, rfl, rfl, REL.out⟩ | exact ⟨⟨_, _, _, _, _, rfl, rfl, rfl, rfl, rfl, rfl, rfl, rfl, REL.out⟩, by first | rfl | trivial⟩ | exact ⟨by first | rfl | trivial, ⟨_, _, _, _, _, rfl, rfl, rfl, rfl, rfl, rfl, rfl, rfl, REL.out⟩⟩
theorem stA_loop (w : World) (b rb tz ev tt : Nat) (ht : tt = tz % 6) (htz : tz ≤ 255) (hev : ev ≤ 255) (a : Act) (wr : World) (hb : 0 ≤ (tt + 1)) (H : stAI w b rb tz ev tt 0 a wr) :
    Code.wp Try.prog (.loop (loopIn 0 Try.f6)) (Qx 0 (fun a' w' => stAI w b rb tz ev tt (tt + 1) a' w')) a wr := by
  refine wp_loop (fun a' wr => ∃ k, k ≤ (tt + 1) ∧ stAI w b rb tz ev tt k a' wr) (fun a' _ => (tt + 1) - (intOf (a'.tmps.getD 9 undef)).toNat) ⟨0, hb, H⟩ ?_
  rintro a' wr ⟨k, hk, h⟩
  refine wp_mono (stA_round w b rb tz ev tt ht htz hev a' wr hk h) ?_
  intro e a2 w2 hp
  cases e with
  | normal =>
    refine ⟨⟨k + 1, by have := hp.2; omega, hp.1⟩, ?_⟩
    rw [stAI_ctr w b rb tz ev tt h, stAI_ctr w b rb tz ev tt hp.1]
    have := hp.2
    simp only [intOf, Int.toNat_natCast]
    omega
  | exit n => exact ⟨hp.1, hp.2.2 ▸ hp.2.1⟩
  | _ => exact hp.elim
set_option maxRecDepth 100000 in
set_option maxHeartbeats 0 in
theorem st_end (w : World) (b rb tz ev tt : Nat) (ht : tt = tz % 6) (htz : tz ≤ 255) (hev : ev ≤ 255)  (a : Act) (wr : World) (H : stAI w b rb tz ev tt (tt + 1) a wr) :
    Code.wp Try.prog (aftIn 0 Try.f6) (bodyPost Try.prog Try.f6 (fun e w' => e = .returned (.bool true) ∧ Below w.heap.size w w')) a wr := by
  obtain ⟨t, ds⟩ := a
  obtain ⟨R, ai, aw, ci, cw, hd', hz, h0, h1, h5, h7, h8, h9, rel⟩ := H
  replace hd' : ds = [] := hd'
  subst hd'
  replace hz : t.size = 138 := hz
  replace h0 : t.getD 0 undef = .int .u8 (tz : Nat) := h0
  replace h1 : t.getD 1 undef = .int .u8 (ev : Nat) := h1
  replace h5 : t.getD 5 undef = .pointer (some ⟨b, 0, none⟩) := h5
  replace h7 : t.getD 7 undef = .slice ai (tt + 1) ci := h7
  replace h8 : t.getD 8 undef = .slice aw (tt + 1) cw := h8
  replace h9 : t.getD 9 undef = .int .i64 ((tt + 1) : Nat) := h9
  have REL := Lib.hid rel
  clear rel
  refine openFr138 (P := fun t => t.getD 0 undef = .int .u8 (tz : Nat) → t.getD 1 undef = .int .u8 (ev : Nat) → t.getD 5 undef = .pointer (some ⟨b, 0, none⟩) → t.getD 7 undef = .slice ai (tt + 1) ci → t.getD 8 undef = .slice aw (tt + 1) cw → t.getD 9 undef = .int .i64 ((tt + 1) : Nat) → Code.wp Try.prog (aftIn 0 Try.f6) (bodyPost Try.prog Try.f6 (fun e w' => e = .returned (.bool true) ∧ Below w.heap.size w w')) ⟨t, []⟩ wr) ?_ t hz h0 h1 h5 h7 h8 h9
  clear h0 h1 h5 h7 h8 h9 hz t
  intro c0 c1 c2 c3 c4 c5 c6 c7 c8 c9 c10 c11 c12 c13 c14 c15 c16 c17 c18 c19 c20 c21 c22 c23 c24 c25 c26 c27 c28 c29 c30 c31 c32 c33 c34 c35 c36 c37 c38 c39 c40 c41 c42 c43 c44 c45 c46 c47 c48 c49 c50 c51 c52 c53 c54 c55 c56 c57 c58 c59 c60 c61 c62 c63 c64 c65 c66 c67 c68 c69 c70 c71 c72 c73 c74 c75 c76 c77 c78 c79 c80 c81 c82 c83 c84 c85 c86 c87 c88 c89 c90 c91 c92 c93 c94 c95 c96 c97 c98 c99 c100 c101 c102 c103 c104 c105 c106 c107 c108 c109 c110 c111 c112 c113 c114 c115 c116 c117 c118 c119 c120 c121 c122 c123 c124 c125 c126 c127 c128 c129 c130 c131 c132 c133 c134 c135 c136 c137 h0 h1 h5 h7 h8 h9
  replace h0 : c0 = .int .u8 (tz : Nat) := h0
  replace h1 : c1 = .int .u8 (ev : Nat) := h1
  replace h5 : c5 = .pointer (some ⟨b, 0, none⟩) := h5
  replace h7 : c7 = .slice ai (tt + 1) ci := h7
  replace h8 : c8 = .slice aw (tt + 1) cw := h8
  replace h9 : c9 = .int .i64 ((tt + 1) : Nat) := h9
  subst h0
  subst h1
  subst h5
  subst h7
  subst h8
  subst h9
  conv => arg 2; whnf
  go_wp2
  go_ret
  exact ⟨rfl, REL.out.1.c.below (Nat.le_refl _) (fun _ _ e => e.elim)⟩
end Go.Proofs.Ytjhmmfdmoalfmaa
