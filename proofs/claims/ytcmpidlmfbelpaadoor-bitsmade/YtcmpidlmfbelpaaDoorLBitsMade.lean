/-
  BitsMade: for every list of bytes the statement 'a map made of any slots, in whatever order, has just these, each once, and is alike to any other one with the same' returns true, and its argument reads as before. (The table of math/bits reads as the program's text lays it: tied by the card.)
-/
import Derived.Test.YtcmpidlmfbelpaaDoorBitsAlive
import Derived.Test.YtcmpidlmfbelpaaDoorBitsStep
import Derived.Test.YtcmpidlmfbelpaaDoorIsRow
import Derived.Test.YtcmpidlmfbelpaaDoorTie
import Derived.Test.YtcmpidlmfbelpaaDoorCards
import Derived.SevenTiedAt
import Derived.ChangeOld
import Derived.Below
import Derived.Deep.QuietTactic
import Derived.BigQuiet
namespace Go.Proofs.YtcmpidlmfbelpaaDoor
open Go.ChangeShapes Go.WideShapes Go.ChangeAt Go.RowKit Verge
set_option linter.unusedVariables false

/-- the slot of the j-th byte -/
def slotOf (zs : List Int) (j : Nat) : Nat := (zs.getD j 0 % 64).toNat
theorem slotOf_lt (zs : List Int) (j : Nat) : slotOf zs j < 64 := by unfold slotOf; omega
theorem slotOf_cast (zs : List Int) (j : Nat) : ((slotOf zs j : Nat) : Int) = zs.getD j 0 % 64 := by unfold slotOf; omega
/-- a map has just the slots of the first k of these bytes -/
def Made (zs : List Int) (f : Nat → Nat) (k a : Nat) : Prop := a < 18446744073709551616 ∧ ∀ i, i < 64 → (a.testBit i = true ↔ ∃ j, j < k ∧ slotOf zs (f j) = i)
theorem Made.zero (zs : List Int) (f : Nat → Nat) : Made zs f 0 0 := ⟨by decide, fun i _ => by simp⟩
theorem Made.step {zs : List Int} {f : Nat → Nat} {k a : Nat} (h : Made zs f k a) : Made zs f (k + 1) (withN a (zs.getD (f k) 0 % 64)) := by
  refine ⟨withN_lt _ _ h.1, fun i hi => ?_⟩
  rw [withN_test, ← slotOf_cast]
  have hs := slotOf_lt zs (f k)
  have hd : decide ((0 : Int) ≤ (slotOf zs (f k) : Int) ∧ (slotOf zs (f k) : Int) < 64) = true := by simp; omega
  rw [hd, Int.toNat_natCast, Bool.true_and, Bool.or_eq_true, h.2 i hi, decide_eq_true_eq]
  constructor
  · rintro (⟨j, hj, e⟩ | e)
    · exact ⟨j, by omega, e⟩
    · exact ⟨k, by omega, e⟩
  · rintro ⟨j, hj, e⟩
    by_cases hk : j = k
    · subst hk; exact .inr e
    · exact .inl ⟨j, by omega, e⟩
theorem Made.same {zs : List Int} {n a b : Nat} (h : Made zs (fun j => j) n a) (h' : Made zs (fun j => n - 1 - j) n b) : b = a := by
  refine eq_of_test _ _ h'.1 h.1 fun i hi => ?_
  rw [Bool.eq_iff_iff, h.2 i hi, h'.2 i hi]
  constructor
  · rintro ⟨j, hj, e⟩
    exact ⟨n - 1 - j, by omega, e⟩
  · rintro ⟨j, hj, e⟩
    refine ⟨n - 1 - j, by omega, ?_⟩
    show slotOf zs (n - 1 - (n - 1 - j)) = i
    rw [show n - 1 - (n - 1 - j) = j by omega]
    exact e
theorem Made.has {zs : List Int} {n a j : Nat} (h : Made zs (fun j => j) n a) (hj : j < n) : hasN a (zs.getD j 0 % 64) = true := by
  have hs := slotOf_lt zs j
  rw [← slotOf_cast]
  unfold hasN
  rw [Int.toNat_natCast, (h.2 _ hs).2 ⟨j, hj, rfl⟩]
  simp; omega
theorem Made.of {zs : List Int} {n a k : Nat} (h : Made zs (fun j => j) n a) (hk : k < (slots a).length) : ∃ j, j < n ∧ slotOf zs j = slotAt a k := by
  obtain ⟨h1, h2⟩ := (mem_slots a _).1 (slotAt_mem a k hk)
  exact (h.2 _ h1).1 h2
/-- the bytes seen so far hold the slot -/
def Seen (zs : List Int) (s k : Nat) (b : Bool) : Prop := b = true ↔ ∃ j, j < k ∧ slotOf zs j = s
theorem Seen.zero (zs : List Int) (s : Nat) : Seen zs s 0 false := by unfold Seen; simp
theorem Seen.more {zs : List Int} {s k : Nat} (h : Seen zs s k true) : Seen zs s (k + 1) true := by
  obtain ⟨j, hj, e⟩ := h.1 rfl
  exact ⟨fun _ => ⟨j, by omega, e⟩, fun _ => rfl⟩
theorem Seen.next {zs : List Int} {s k : Nat} (h : Seen zs s k false) : Seen zs s (k + 1) (zs.getD k 0 % 64 == (s : Int)) := by
  have hn : ¬ ∃ j, j < k ∧ slotOf zs j = s := fun e => by have := h.2 e; cases this
  have hc := slotOf_cast zs k
  unfold Seen
  rw [beq_iff_eq, ← hc]
  constructor
  · intro e
    exact ⟨k, by omega, by omega⟩
  · rintro ⟨j, hj, e⟩
    by_cases hk : j = k
    · subst hk; omega
    · exact absurd ⟨j, by omega, e⟩ hn

set_option maxHeartbeats 4000000 in
set_option maxRecDepth 1000000 in
theorem BitsMade_walk (a0 : Option Addr) (len cap0 : Nat) (zs : List Int) (w : World) (hr : IsRow .u8 w a0 len cap0 zs) (T : Tab w) :
    Calls Tryd.prog 6 #[.slice a0 len cap0] w fun e w' => e = .returned (.bool true) ∧ Below w.heap.size w w' := by
  have HI := Lib.hid hr
  have hsm := hr.small
  have HT := Lib.hid T
  clear hr T
  unfold maxLen at hsm
  by_cases h2 : 200 < (len : Int)
  · go_enter Tryd.func6, Tryd.ntmps6
    go_wp2_with fail
    refine (alive_any _ HT.out).mono ?_
    rintro e w1 ⟨rfl, hc⟩
    have C1 := Lib.hid hc
    clear hc
    go_wp2
    go_ret
    exact ⟨rfl, C1.out.below (Nat.le_refl _) (fun _ _ e => e.elim)⟩
  · have hl : len ≤ 200 := by omega
    have d2 : decide (200 < (len : Int)) = false := by simpa using h2
    clear h2
    go_enter Tryd.func6, Tryd.ntmps6
    go_wp2_with fail
    refine (alive_any _ HT.out).mono ?_
    rintro e w1 ⟨rfl, hc⟩
    have C1 := Lib.hid hc
    have T1 := Lib.hid (HT.out.keeps hc (fun e => e))
    have IT : Hid (∀ (w' : World) (j : Nat), j < len → Ch Nil w w' → ∃ x z, a0 = some x ∧ zs.getD j 0 = z ∧ w'.cell? (x.add j) = some (.int .u8 z) ∧ 0 ≤ z ∧ z ≤ 255) := fun w' j hj c => by
      obtain ⟨x, h1, h2, h3⟩ := HI.out.item hj
      have := bounds_u8 h3
      exact ⟨x, _, h1, rfl, c.keeps h2 (fun e => e), this.1, this.2⟩
    clear hc HI HT
    go_wp2
    go_loop [3, 4, 5] (fun va vb i => ∃ k a b : Nat, k ≤ len ∧ i = .int .i64 k ∧ va = .int .u64 a ∧ vb = .int .u64 b ∧ Made zs (fun j => j) k a ∧ Made zs (fun j => len - 1 - j) k b) (fun _ _ i => len - (intOf i).toNat)
    case atStart => exact ⟨0, 0, 0, by omega, rfl, rfl, rfl, Made.zero _ _, Made.zero _ _⟩
    case round =>
      obtain ⟨k, a, b, hk, rfl, rfl, rfl, ma, mb⟩ := hrel
      have MA := Lib.hid ma
      have MB := Lib.hid mb
      have ha := ma.1
      have hb := mb.1
      clear ma mb
      by_cases hlt : k < len
      · obtain ⟨x, z, rfl, hz, q, z0, z1⟩ := IT.out w1 k hlt C1.out
        obtain ⟨p, hp⟩ : ∃ p, p = len - 1 - k := ⟨_, rfl⟩
        obtain ⟨x', y, hx', hy, q', y0, y1⟩ := IT.out w1 p (by omega) C1.out
        simp only [Option.some.injEq] at hx'
        subst hx'
        have hkz : (k : Int) < (len : Int) := by omega
        have hkz0 : (0 : Int) ≤ (k : Int) := by omega
        have pi : (len : Int) - 1 - (k : Int) = (p : Int) := by omega
        have p0 : (0 : Int) ≤ (len : Int) - 1 - (k : Int) := by omega
        have p1 : (len : Int) - 1 - (k : Int) < (len : Int) := by omega
        have SA := Lib.hid (MA.out.step)
        have SB := Lib.hid (MB.out.step)
        have HZ := Lib.hid hz
        have HY := Lib.hid hy
        have HP := Lib.hid hp
        have e1 : ((len : Int) - 1 - (k : Int)).toNat = p := by omega
        clear hz hy hp pi
        go_wp2_with fail
        refine (with_any a _ ha _).mono ?_
        rintro e w2 ⟨rfl, rfl⟩
        go_wp2_with fail
        refine (with_any b _ hb _).mono ?_
        rintro e w2 ⟨rfl, rfl⟩
        go_wp2
        go_round
        case rel => exact ⟨k + 1, _, _, by omega, by go_num, rfl, rfl, by rw [← HZ.out]; exact SA.out, by rw [← HY.out, HP.out]; exact SB.out⟩
        case measure => simp [intOf]; omega
      · obtain rfl : k = len := by omega
        obtain rfl : b = a := MA.out.same MB.out
        clear MB hb
        have hla := slots_le b
        have b0 : ((b : Int) != (b : Int)) = false := by simp
        go_wp2_with fail
        refine (all_any b ha _ T1.out).mono ?_
        rintro e w2 ⟨aa, cap, rfl, row, hg, hc⟩
        have C2 := Lib.hid (C1.out.trans hc)
        have R2 := Lib.hid row
        have lc := row.len_cap
        clear hc row hg
        go_wp2_with fail
        refine (len_any b ha _).mono ?_
        rintro e w3 ⟨rfl, rfl⟩
        have b1 : (((slots b).length : Int) != ((slots b).length : Int)) = false := by simp
        go_wp2
        go_loopw [7] (fun i wr => ∃ j : Nat, j ≤ (slots b).length ∧ i = .int .i64 j ∧ Row wr 3 1 aa (slots b).length cap (slotV b) ∧ Ch Nil w wr) (fun i _ => (slots b).length - (intOf i).toNat)
        case atStart => exact ⟨0, by omega, rfl, R2.out, C2.out⟩
        case round =>
          obtain ⟨j, hj, rfl, row, hc⟩ := hrel
          have HR := Lib.hid row
          have HC := Lib.hid hc
          clear row hc
          by_cases hlt2 : j < (slots b).length
          · obtain ⟨g, rfl, -⟩ := HR.out.form (by omega)
            have hsl := slotAt_lt b j hlt2
            have OF := Lib.hid (MA.out.of hlt2)
            go_wp2
            go_loopw [8, 9] (fun t i wr => ∃ (q : Nat) (c : Bool), q ≤ k ∧ i = .int .i64 q ∧ t = .bool c ∧ Seen zs (slotAt b j) q c ∧ Row wr 3 1 (some ⟨g, 0, none⟩) (slots b).length cap (slotV b) ∧ Ch Nil w wr) (fun _ i _ => k - (intOf i).toNat)
            case atStart => exact ⟨0, false, by omega, rfl, rfl, Seen.zero _ _, HR.out, HC.out⟩
            case round =>
              obtain ⟨q, c, hq, rfl, rfl, sn, row, hc⟩ := hrel
              have SN := Lib.hid sn
              have HR3 := Lib.hid row
              have HC3 := Lib.hid hc
              clear sn row hc
              by_cases hlt3 : q < k
              · obtain ⟨x, z, rfl, hz, qc, z0, z1⟩ := IT.out _ q hlt3 HC3.out
                have ql : wr.cell? ⟨g, j, none⟩ = some (.int .i64 (slotAt b j : Nat)) := HR3.out.cell j (by omega)
                have jz : (j : Int) < ((slots b).length : Int) := by omega
                have jz0 : (0 : Int) ≤ (j : Int) := by omega
                have qz : (q : Int) < (k : Int) := by omega
                have qz0 : (0 : Int) ≤ (q : Int) := by omega
                have zw : IntKind.i64.wrap z = z := IntWalk.i64_in _ (by omega)
                have zw2 : wrap64 z = z := by unfold wrap64; omega
                have zt : z.tmod 64 = z % 64 := Int.tmod_eq_emod_of_nonneg z0
                cases c
                · have NX := Lib.hid SN.out.next
                  rw [hz] at NX
                  cases hcz : (z % 64 == (slotAt b j : Int))
                  · rw [hcz] at NX
                    generalize hn : (slots b).length = n at *
                    clear hn hz
                    go_wp2
                    go_quiet (fail)
                    go_wp2
                    go_roundw
                    case rel => exact ⟨q + 1, false, by omega, by go_num, rfl, NX.out, HR3.out.kept (S := Nil) ((Ch.refl _ _).drewN _) (fun _ _ e => e), HC3.out.drewN _⟩
                    case measure => simp [intOf]; omega
                  · rw [hcz] at NX
                    generalize hn : (slots b).length = n at *
                    clear hn hz
                    go_wp2
                    go_quiet (fail)
                    go_wp2
                    go_roundw
                    case rel => exact ⟨q + 1, true, by omega, by go_num, rfl, NX.out, HR3.out.kept (S := Nil) ((Ch.refl _ _).drewN _) (fun _ _ e => e), HC3.out.drewN _⟩
                    case measure => simp [intOf]; omega
                · have NX := Lib.hid SN.out.more
                  generalize hn : (slots b).length = n at *
                  clear hn hz
                  go_wp2
                  go_quiet (fail)
                  go_wp2
                  go_roundw
                  case rel => exact ⟨q + 1, true, by omega, by go_num, rfl, NX.out, HR3.out.kept (S := Nil) ((Ch.refl _ _).drewN _) (fun _ _ e => e), HC3.out.drewN _⟩
                  case measure => simp [intOf]; omega
              · obtain rfl : q = k := by omega
                obtain rfl : c = true := SN.out.2 OF.out
                have ql : wr.cell? ⟨g, j, none⟩ = some (.int .i64 (slotAt b j : Nat)) := HR3.out.cell j (by omega)
                have jz : (j : Int) < ((slots b).length : Int) := by omega
                have jz0 : (0 : Int) ≤ (j : Int) := by omega
                by_cases hj0 : j = 0
                · have d0 : decide ((0 : Int) < (j : Int)) = false := by simp; omega
                  have d0n : decide (0 < j) = false := by simp; omega
                  clear hj0
                  go_wp2
                  go_quiet (fail)
                  go_wp2
                  go_roundw
                  case rel => exact ⟨j + 1, by omega, by go_num, HR3.out.kept (S := Nil) ((Ch.refl _ _).drewN _) (fun _ _ e => e), HC3.out.drewN _⟩
                  case measure => simp [intOf]; omega
                · have lt := slot_lt b (j - 1) j (by omega) hlt2
                  have ql2 : wr.cell? ⟨g, j - 1, none⟩ = some (.int .i64 (slotAt b (j - 1) : Nat)) := HR3.out.cell (j - 1) (by omega)
                  have d : decide ((slotAt b j : Int) ≤ (slotAt b (j - 1) : Int)) = false := by simp; omega
                  have d0 : decide ((0 : Int) < (j : Int)) = true := by simp; omega
                  have d0n : 0 < j := by omega
                  have dn : decide (slotAt b j ≤ slotAt b (j - 1)) = false := by simp; omega
                  have k1 : IntKind.i64.wrap ((j : Int) - 1) = (j : Int) - 1 := IntWalk.i64_in _ (by omega)
                  have k2 : (0 : Int) ≤ (j : Int) - 1 := by omega
                  have k2' : 1 ≤ (j : Int) := by omega
                  have k3 : (j : Int) - 1 < ((slots b).length : Int) := by omega
                  have k4 : ((j : Int) - 1).toNat = j - 1 := by omega
                  go_wp2
                  go_quiet (fail)
                  go_wp2
                  go_roundw
                  case rel => exact ⟨j + 1, by omega, by go_num, HR3.out.kept (S := Nil) ((Ch.refl _ _).drewN _) (fun _ _ e => e), HC3.out.drewN _⟩
                  case measure => simp [intOf]; omega
          · obtain rfl : j = (slots b).length := by omega
            go_wp2
            go_loop [10] (fun i => ∃ q : Nat, q ≤ k ∧ i = .int .i64 q) (fun i => k - (intOf i).toNat)
            case atStart => exact ⟨0, by omega, rfl⟩
            case round =>
              obtain ⟨q, hq, rfl⟩ := hrel
              by_cases hlt3 : q < k
              · obtain ⟨x, z, rfl, hz, qc, z0, z1⟩ := IT.out _ q hlt3 HC.out
                have qz : (q : Int) < (k : Int) := by omega
                have qz0 : (0 : Int) ≤ (q : Int) := by omega
                have E := Lib.hid (MA.out.has hlt3)
                rw [hz] at E
                clear hz
                go_wp2_with fail
                refine (has_any b _ ha _).mono ?_
                rw [E.out]
                rintro e w4 ⟨rfl, rfl⟩
                go_wp2
                go_round
                case rel => exact ⟨q + 1, by omega, by go_num⟩
                case measure => simp [intOf]; omega
              · obtain rfl : q = k := by omega
                go_wp2
                go_ret
                exact ⟨rfl, HC.out.below (Nat.le_refl _) (fun _ _ e => e.elim)⟩

theorem BitsMade_own : ownKnob Tryd.prog.godebug = none := by kernel_rfl
theorem BitsMade_laidOut : laidOutB Tryd.prog = true := by kernel_rfl

set_option maxRecDepth 100000 in
theorem BitsMade_lifted (os : Os) (started : os.Started) (H : Type) (enc : TypeId × Value → H) :
    ReturnsInHanded {} Tryd.checked os 6 .any (fun w args => (Rows.bitsMadeSpec.pre enc Tryd.prog Tryd.f6 [] false w args ∧ laidMetH Tryd.prog laidTab w) ∧ sizedMet enc Tryd.prog Tryd.f6 (OpenSpec.ofChange Rows.bitsMadeSpec) false w args) (Rows.bitsMadeSpec.post enc Tryd.prog Tryd.f6 false true false false) := by
  refine returnsInHanded_of_change_and (C := Tryd.checked) (X := fun w _ => laidMetH Tryd.prog laidTab w) (fun _ _ _ hh h => h.of_heap hh) BitsMade_own started (by kernel_rfl) Tryd.func6
    (ChangeSpec.witness_shaped (enc := enc) (C := Tryd.checked) (os := os) (X := fun w _ => laidMetH Tryd.prog laidTab w) false (World.doorLaid Tryd.prog doorSteps os) #[.slice none 0 0] 8 rfl (World.shaped_of_RefB (by kernel_rfl) (by kernel_rfl)) (by kernel_rfl) (by kernel_rfl) (by kernel_rfl) (door_met os _)) ?_
  intro W base args ds gs before hval0 hW _ _ hL _
  have TB := tab_of_laid hL
  have hval : ∀ (j : Nat) t v, Tryd.f6.params[j]? = some t → args[j]? = some v → Value.okWide Tryd.prog W .any base t v := hval0
  have hW' := hW
  obtain ⟨p, q, hA0, hV, rfl, hfz, hnd⟩ := hW
  have hA : DataW.TrodAll enc Tryd.prog W 0 (fun _ => true) true Tryd.f6.params.toList args.toList ds p := hA0
  rw [Tryd.params6] at hA hval
  obtain ⟨v0, vs0, d0, ds0, p0, q0, hargs, rfl, rfl, h0, r0⟩ := trodAll_cons hA
  obtain ⟨rfl, rfl, rfl⟩ := trodAll_nil r0
  obtain rfl : args = #[v0] := by cases args; simp_all
  obtain ⟨rfl, rfl⟩ := trodVars_none hV
  obtain ⟨a0, len0, cap0, rfl⟩ := okWide_slice Tryd.underlying36 (hval 0 36 v0 rfl rfl)
  have k0 := h0
  have lt0 : ∀ x ∈ p0, x.block < W.heap.size := by obtain ⟨m, hm⟩ := k0; exact DataW.trod_lt m _ _ _ hm
  obtain ⟨z0, w0⟩ : ∃ zs, IsRow .u8 W a0 len0 cap0 zs := by
    obtain ⟨fuel, hf⟩ := h0
    rcases open_ints Tryd.underlying36 Tryd.underlying5 (by kernel_rfl) hf with ⟨hcs, _⟩ | ⟨x, l, c, zs, hcs, _, hl, hm, hz, _, hcell, hwz⟩
    · simp [Value.cells] at hcs
      obtain ⟨rfl, rfl, rfl⟩ := hcs
      exact ⟨[], .inl ⟨rfl, rfl, rfl, rfl⟩⟩
    · simp [Value.cells] at hcs
      obtain ⟨rfl, rfl, rfl⟩ := hcs
      exact ⟨zs, .inr ⟨_, rfl, hl, hm, by simpa using hz, hcell, hwz⟩⟩
  clear hA0 hval0
  refine (BitsMade_walk a0 len0 cap0 z0 W w0 TB).mono fun e W' ⟨he, bel⟩ => ?_
  subst he
  exact ⟨_, rfl, _, _, _, [], _, [], hW', trodAll_mk1 (shut_bool Tryd.underlying4 _), (trodAll_cons_mk (Below.trod BitsMade_laidOut (by kernel_rfl) (of_decide_eq_true (by kernel_rfl)) k0 bel lt0) trodAll_mk0), rfl, bel.frame _, fun h => by cases h⟩

theorem bitsMade_holds : Rows.BitsMadeSaid :=
  OpenClaim.holds_of_wide 6 Tryd.f6 rfl rfl rfl rfl rfl rfl rfl ⟨rfl, rfl, rfl, rfl, rfl⟩ rfl rfl rfl rfl rfl (by kernel_rfl) Tryd.func6 (by kernel_rfl)
    (of_decide_eq_true (by kernel_rfl)) (by unfold Func.isWrapper; rw [if_neg (of_decide_eq_false (by kernel_rfl))]; exact ⟨rfl, rfl⟩)
    (fun os started H enc _ => BitsMade_lifted os started H enc)

theorem bitsMade_card_holds : Rows.BitsMadeCardSaid :=
  Claim7.holds_tied_plain_at .later [] [.data] true (true, "8b9362e19d0a6f861012771419a9cf678e1bc17006d07ff604b0e7574640ef7a") false
    bitsMade_holds (fun _ h => by cases h) (by kernel_rfl) (fun _ h => by cases h) bitsMade_row_tie rfl ⟨rfl, rfl⟩ (by kernel_rfl) rfl
    (fun f fn hf hfn => by
      obtain rfl : f = 6 := Option.some.inj ((show Tryd.prog.funcNamed Rows.bitsMadeRow.func = some 6 by kernel_rfl).symm.trans hf) |>.symm
      obtain rfl : fn = Tryd.f6 := (Option.some.inj (Tryd.func6.symm.trans hfn)).symm
      exact ⟨by kernel_rfl, fun j t ht => by
        rw [Tryd.params6] at ht
        have hm : t ∈ [36] := by have := Array.mem_of_getElem? ht; simp at this; simp [this]
        have hall : ([36].all fun u => !Tryd.prog.wantsStandIn u) = true := by kernel_rfl
        exact (show Tryd.prog.wantsStandIn t = false by simpa using List.all_eq_true.1 hall t hm)⟩)
    (by kernel_rfl)
end Go.Proofs.YtcmpidlmfbelpaaDoor
