/-
  Contracts of package level's Put, Remove, At, Len.
-/
import Derived.Test.YtkfknafgknppdaaDoorLevelPWalks1
namespace Go.Proofs.YtkfknafgknppdaaDoor.LP
open Go.RowKit Verge
attribute [local go_sem] Oper.semAt_some
set_option linter.unusedVariables false
set_option linter.unusedSimpArgs false
section
variable {S : Nat → Prop} {w w' : World} {vb m b s : Nat} {hd : Nat → Nat} {X : Nat → List Nat} {V : Nat → Nat}

theorem vput_of (h : IsLv w vb hd X V) (hs : s < 64) (hb : IsN w b (V b) none none none) (hx : ¬ LvB vb hd X b) (hl : (X s).length ≤ 1000000) :
    Calls Tryd.prog 40 #[.pointer (some ⟨vb, 0, none⟩), .int .i64 (s : Nat), .pointer (some ⟨b, 0, none⟩)] w fun e w' => e = .returned (.int .i64 0) ∧ IsLv w' vb hd (upd X s (X s ++ [b])) V ∧ Ch (fun k => LvB vb hd X k ∨ k = b) w w' := by
  have HR := Lib.hid (row_of h hs)
  have hbs : b ∉ X s := fun e => hx (.inr ⟨s, hs, .inr e⟩)
  have hbh : b ≠ hd s := fun e => hx (.inr ⟨s, hs, .inl e⟩)
  have HP := Lib.hid ((h.l s hs).put hb hbs hbh hl)
  have H := Lib.hid h
  have HX := Lib.hid hx
  clear h hb hx hbs hbh
  go_enter Tryd.func40, Tryd.ntmps40
  go_wp2_with fail
  refine HR.out.mono ?_
  rintro e w1 ⟨rfl, rfl⟩
  go_wp2_with fail
  refine HP.out.mono ?_
  rintro e w2 ⟨rfl, h2, c2⟩
  have t2 : IsV w2 vb hd (upd X s (X s ++ [b])) V (mapX X) := H.out.turned (P := One b) hs c2 (fun k e => e ▸ HX.out) h2 (fun k hk => by simpa using hk)
  have T2 := Lib.hid t2
  have C2 := Lib.hid c2
  clear h2 t2 c2
  go_wp2_with fail
  refine (mark_of T2.out hs mapX_lt).mono ?_
  rintro e w3 ⟨⟨r, rfl⟩, h3, c3⟩
  rw [markN_mapX hs (fun i hi hne => (upd_other _ _ _ _ hne).symm)] at h3
  have H3 := Lib.hid h3
  have C3 := Lib.hid c3
  clear h3 c3
  go_wp2
  go_ret
  refine ⟨rfl, H3.out, (C2.out.mono ?_).then C3.out ?_⟩
  · rintro k - (hk | hk)
    · exact .inl (.inr ⟨s, hs, hk⟩)
    · exact .inr hk
  · rintro k - rfl; exact .inl (.inl rfl)
theorem vput_quiet (h : IsLv w vb hd X V) (hs : s < 64) (p : Value) (er : Int) (hc : Calls Tryd.prog 39 #[.pointer (some ⟨hd s, 0, none⟩), p] w fun e w' => e = .returned (.int .i64 er) ∧ w = w') :
    Calls Tryd.prog 40 #[.pointer (some ⟨vb, 0, none⟩), .int .i64 (s : Nat), p] w fun e w' => e = .returned (.int .i64 er) ∧ IsLv w' vb hd X V ∧ Ch (One vb) w w' := by
  have HR := Lib.hid (row_of h hs)
  have HP := Lib.hid hc
  have H := Lib.hid h
  clear h hc
  go_enter Tryd.func40, Tryd.ntmps40
  go_wp2_with fail
  refine HR.out.mono ?_
  rintro e w1 ⟨rfl, rfl⟩
  go_wp2_with fail
  refine HP.out.mono ?_
  rintro e w2 ⟨rfl, rfl⟩
  go_wp2_with fail
  refine (mark_of H.out hs mapX_lt).mono ?_
  rintro e w3 ⟨⟨r, rfl⟩, h3, c3⟩
  rw [markN_mapX hs (fun i hi hne => rfl)] at h3
  have H3 := Lib.hid h3
  have C3 := Lib.hid c3
  clear h3 c3
  go_wp2
  go_ret
  exact ⟨rfl, H3.out, C3.out⟩
theorem vput_state (h : IsLv w vb hd X V) (hs : s < 64) {x : Nat} (hc : w.cell? ⟨b, 1, none⟩ = some (pt (some x))) :
    Calls Tryd.prog 40 #[.pointer (some ⟨vb, 0, none⟩), .int .i64 (s : Nat), .pointer (some ⟨b, 0, none⟩)] w fun e w' => e = .returned (.int .i64 7) ∧ IsLv w' vb hd X V ∧ Ch (One vb) w w' :=
  vput_quiet h hs _ 7 (put_state (hd s) b x w hc)
theorem vput_nonode (h : IsLv w vb hd X V) (hs : s < 64) :
    Calls Tryd.prog 40 #[.pointer (some ⟨vb, 0, none⟩), .int .i64 (s : Nat), .pointer none] w fun e w' => e = .returned (.int .i64 1) ∧ IsLv w' vb hd X V ∧ Ch (One vb) w w' :=
  vput_quiet h hs _ 1 (put_nonode (hd s) w)
theorem vput_range (vb : Nat) (z : Int) (hz : z < 0 ∨ 64 ≤ z) (p : Value) (w : World) :
    Calls Tryd.prog 40 #[.pointer (some ⟨vb, 0, none⟩), .int .i64 z, p] w fun e w' => e = .returned (.int .i64 4) ∧ w = w' := by
  have HR := Lib.hid (row_range vb z hz w)
  clear hz
  go_enter Tryd.func40, Tryd.ntmps40
  go_wp2_with fail
  refine HR.out.mono ?_
  rintro e w1 ⟨rfl, rfl⟩
  go_wp2
  go_ret
  exact ⟨rfl, rfl⟩
theorem vput_nil (z : Int) (p : Value) (w : World) :
    Calls Tryd.prog 40 #[.pointer none, .int .i64 z, p] w fun e w' => e = .returned (.int .i64 6) ∧ w = w' := by
  have HR := Lib.hid (row_nil z w)
  go_enter Tryd.func40, Tryd.ntmps40
  go_wp2_with fail
  refine HR.out.mono ?_
  rintro e w1 ⟨rfl, rfl⟩
  go_wp2
  go_ret
  exact ⟨rfl, rfl⟩

theorem vrem_of (h : IsLv w vb hd X V) (hs : s < 64) {i : Nat} (hi : (X s)[i]? = some b) (hl : (X s).length ≤ 1000000) :
    Calls Tryd.prog 25 #[.pointer (some ⟨vb, 0, none⟩), .int .i64 (s : Nat), .pointer (some ⟨b, 0, none⟩)] w fun e w' => e = .returned (.int .i64 0) ∧ IsLv w' vb hd (upd X s ((X s).eraseIdx i)) V ∧ IsN w' b (V b) none none none ∧ Ch (LvB vb hd X) w w' := by
  have HR := Lib.hid (row_of h hs)
  have HP := Lib.hid ((h.l s hs).unlink hi hl)
  have H := Lib.hid h
  have hbv : b ≠ vb := fun e => h.nv s hs (.inr (e ▸ List.mem_of_getElem? hi))
  clear h hi
  go_enter Tryd.func25, Tryd.ntmps25
  go_wp2_with fail
  refine HR.out.mono ?_
  rintro e w1 ⟨rfl, rfl⟩
  go_wp2_with fail
  refine HP.out.mono ?_
  rintro e w2 ⟨rfl, h2, n2, c2⟩
  have t2 : IsV w2 vb hd (upd X s ((X s).eraseIdx i)) V (mapX X) := H.out.turned (P := Nil) hs (c2.mono fun k _ e => .inl e) (fun k e => e.elim) h2 (fun k hk => .inl (List.mem_of_mem_eraseIdx hk))
  have T2 := Lib.hid t2
  have N2 := Lib.hid n2
  have C2 := Lib.hid c2
  clear h2 t2 c2 n2
  go_wp2_with fail
  refine (mark_of T2.out hs mapX_lt).mono ?_
  rintro e w3 ⟨⟨r, rfl⟩, h3, c3⟩
  rw [markN_mapX hs (fun i hi hne => (upd_other _ _ _ _ hne).symm)] at h3
  have H3 := Lib.hid h3
  have C3 := Lib.hid c3
  clear h3 c3
  go_wp2
  go_ret
  refine ⟨rfl, H3.out, N2.out.kept C3.out hbv, (C2.out.mono ?_).then C3.out ?_⟩
  · rintro k - hk; exact .inr ⟨s, hs, hk⟩
  · rintro k - rfl; exact .inl rfl
theorem vrem_quiet (h : IsLv w vb hd X V) (hs : s < 64) (p : Value) (er : Int) (hc : Calls Tryd.prog 24 #[.pointer (some ⟨hd s, 0, none⟩), p] w fun e w' => e = .returned (.int .i64 er) ∧ w = w') :
    Calls Tryd.prog 25 #[.pointer (some ⟨vb, 0, none⟩), .int .i64 (s : Nat), p] w fun e w' => e = .returned (.int .i64 er) ∧ IsLv w' vb hd X V ∧ Ch (One vb) w w' := by
  have HR := Lib.hid (row_of h hs)
  have HP := Lib.hid hc
  have H := Lib.hid h
  clear h hc
  go_enter Tryd.func25, Tryd.ntmps25
  go_wp2_with fail
  refine HR.out.mono ?_
  rintro e w1 ⟨rfl, rfl⟩
  go_wp2_with fail
  refine HP.out.mono ?_
  rintro e w2 ⟨rfl, rfl⟩
  go_wp2_with fail
  refine (mark_of H.out hs mapX_lt).mono ?_
  rintro e w3 ⟨⟨r, rfl⟩, h3, c3⟩
  rw [markN_mapX hs (fun i hi hne => rfl)] at h3
  have H3 := Lib.hid h3
  have C3 := Lib.hid c3
  clear h3 c3
  go_wp2
  go_ret
  exact ⟨rfl, H3.out, C3.out⟩
/-- a node that isn't in that slot -/
theorem vrem_none (h : IsLv w vb hd X V) (hs : s < 64) {lp : Option Nat} (hc : w.cell? ⟨b, 1, none⟩ = some (pt lp)) (hl : ∀ x, lp = some x → Blk w x) (hne : lp ≠ some (hd s)) :
    Calls Tryd.prog 25 #[.pointer (some ⟨vb, 0, none⟩), .int .i64 (s : Nat), .pointer (some ⟨b, 0, none⟩)] w fun e w' => e = .returned (.int .i64 6) ∧ IsLv w' vb hd X V ∧ Ch (One vb) w w' :=
  vrem_quiet h hs _ 6 (unlink_none (hd s) b lp w hc (h.l s hs).h.k hl hne)
theorem vrem_nonode (h : IsLv w vb hd X V) (hs : s < 64) :
    Calls Tryd.prog 25 #[.pointer (some ⟨vb, 0, none⟩), .int .i64 (s : Nat), .pointer none] w fun e w' => e = .returned (.int .i64 1) ∧ IsLv w' vb hd X V ∧ Ch (One vb) w w' :=
  vrem_quiet h hs _ 1 (unlink_nonode (hd s) w)
theorem vrem_range (vb : Nat) (z : Int) (hz : z < 0 ∨ 64 ≤ z) (p : Value) (w : World) :
    Calls Tryd.prog 25 #[.pointer (some ⟨vb, 0, none⟩), .int .i64 z, p] w fun e w' => e = .returned (.int .i64 4) ∧ w = w' := by
  have HR := Lib.hid (row_range vb z hz w)
  clear hz
  go_enter Tryd.func25, Tryd.ntmps25
  go_wp2_with fail
  refine HR.out.mono ?_
  rintro e w1 ⟨rfl, rfl⟩
  go_wp2
  go_ret
  exact ⟨rfl, rfl⟩
theorem vrem_nil (z : Int) (p : Value) (w : World) :
    Calls Tryd.prog 25 #[.pointer none, .int .i64 z, p] w fun e w' => e = .returned (.int .i64 6) ∧ w = w' := by
  have HR := Lib.hid (row_nil z w)
  go_enter Tryd.func25, Tryd.ntmps25
  go_wp2_with fail
  refine HR.out.mono ?_
  rintro e w1 ⟨rfl, rfl⟩
  go_wp2
  go_ret
  exact ⟨rfl, rfl⟩

theorem vat_of (h : IsV w vb hd X V m) (hs : s < 64) (hl : (X s).length ≤ 100000) :
    Calls Tryd.prog 38 #[.pointer (some ⟨vb, 0, none⟩), .int .i64 (s : Nat)] w fun e w' => ∃ a cap, e = .returned (.slice a (X s).length cap) ∧ RowE w' a (X s).length cap (valAt (X s) V) ∧ (∀ g, OwnS a g → w.heap.size ≤ g) ∧ Ch Nil w w' := by
  have HR := Lib.hid (row_of h hs)
  have HP := Lib.hid ((h.l s hs).all hl)
  clear h
  go_enter Tryd.func38, Tryd.ntmps38
  go_wp2_with fail
  refine HR.out.mono ?_
  rintro e w1 ⟨rfl, rfl⟩
  go_wp2_with fail
  refine HP.out.mono ?_
  rintro e w2 ⟨a, cap, rfl, r2, g2, c2⟩
  have R2 := Lib.hid r2
  have G2 := Lib.hid g2
  have C2 := Lib.hid c2
  clear r2 g2 c2
  go_wp2
  go_ret
  exact ⟨_, _, rfl, R2.out, G2.out, C2.out⟩
theorem vat_range (vb : Nat) (z : Int) (hz : z < 0 ∨ 64 ≤ z) (w : World) :
    Calls Tryd.prog 38 #[.pointer (some ⟨vb, 0, none⟩), .int .i64 z] w fun e w' => e = .returned (.slice none 0 0) ∧ w = w' := by
  have HR := Lib.hid (row_range vb z hz w)
  clear hz
  go_enter Tryd.func38, Tryd.ntmps38
  go_wp2_with fail
  refine HR.out.mono ?_
  rintro e w1 ⟨rfl, rfl⟩
  go_wp2
  go_ret
  exact ⟨rfl, rfl⟩
theorem vat_nil (z : Int) (w : World) :
    Calls Tryd.prog 38 #[.pointer none, .int .i64 z] w fun e w' => e = .returned (.slice none 0 0) ∧ w = w' := by
  have HR := Lib.hid (row_nil z w)
  go_enter Tryd.func38, Tryd.ntmps38
  go_wp2_with fail
  refine HR.out.mono ?_
  rintro e w1 ⟨rfl, rfl⟩
  go_wp2
  go_ret
  exact ⟨rfl, rfl⟩

set_option maxHeartbeats 1000000 in
theorem vlen_of (h : IsLv w vb hd X V) (T : Tab w) (hl : ∀ i, i < 64 → (X i).length ≤ 1000000) :
    Calls Tryd.prog 53 #[.pointer (some ⟨vb, 0, none⟩)] w fun e w' => e = .returned (.int .i64 (totX X : Nat)) ∧ Ch Nil w w' := by
  have HM := Lib.hid (map_of h)
  have HA := Lib.hid (all_any (mapX X) mapX_lt w T)
  have H := Lib.hid h
  have hsl := slots_le (mapX X)
  have HL := Lib.hid hl
  clear h T hl
  go_enter Tryd.func53, Tryd.ntmps53
  go_wp2_with fail
  refine HM.out.mono ?_
  rintro e w1 ⟨rfl, rfl⟩
  go_wp2_with fail
  refine HA.out.mono ?_
  rintro e w2 ⟨a, cap, rfl, r2, g2, c2⟩
  have R2 := Lib.hid r2
  have C2 := Lib.hid c2
  have lc2 := r2.len_cap
  have SUM := Lib.hid (partX_all (X := X))
  have STEP := Lib.hid fun k => partX_succ (X := X) (k := k)
  have LE := Lib.hid fun k => partX_le (k := k) HL.out
  have SLT := Lib.hid (slotAt_lt (mapX X))
  obtain ⟨n, hn⟩ : ∃ n, n = (slots (mapX X)).length := ⟨_, rfl⟩
  rw [← hn] at R2 lc2 SUM STEP hsl SLT ⊢
  clear r2 g2 c2 HM HA hn
  go_wp2
  go_loopw [10, 3] (fun i c wr => ∃ k : Nat, k ≤ n ∧ i = .int .i64 k ∧ c = .int .i64 (partX X k : Nat) ∧ wr = w2) (fun i _ _ => n - (intOf i).toNat)
  case atStart => exact ⟨0, by omega, rfl, by rw [partX_zero]; rfl, rfl⟩
  case round =>
    obtain ⟨k, hk, rfl, rfl, rfl⟩ := hrel
    by_cases hlt : k < n
    · obtain ⟨g, rfl, -⟩ := R2.out.form (by omega)
      have q1 := R2.out.cell k (by omega)
      unfold slotV at q1
      have s1 := SLT.out k hlt
      have q2 := C2.out.keeps (H.out.s _ s1) (fun e => e)
      have q3 := C2.out.keeps (H.out.l _ s1).h.n (fun e => e)
      have st := STEP.out k hlt
      have l1 := LE.out k
      have l2 := HL.out _ s1
      generalize slotAt (mapX X) k = t at *
      have hkz : (k : Int) < (n : Int) := by omega
      have hkz0 : (0 : Int) ≤ (k : Int) := by omega
      have htz : (t : Int) < 64 := by omega
      have htz0 : (0 : Int) ≤ (t : Int) := by omega
      have ST := Lib.hid st
      have LN := Lib.hid (len_of (hd t) _ wr q3)
      clear st q3
      generalize (X t).length = tl at *
      generalize hp : partX X k = p at *
      clear hp
      go_wp2_with fail
      refine LN.out.mono ?_
      rintro e w' ⟨rfl, rfl⟩
      go_wp2
      go_roundw
      case rel => exact ⟨k + 1, by omega, by go_num, by rw [ST.out]; go_num, trivial⟩
      case measure => simp [intOf]; omega
    · obtain rfl : k = n := by omega
      have e := SUM.out
      rw [e]
      go_wp2
      go_ret
      exact ⟨rfl, C2.out⟩
set_option maxHeartbeats 1000000 in
theorem vlen_nil (w : World) (T : Tab w) :
    Calls Tryd.prog 53 #[.pointer none] w fun e w' => e = .returned (.int .i64 0) ∧ Ch Nil w w' := by
  have HM := Lib.hid (map_nil w)
  have HA := Lib.hid (all_any 0 (by decide) w T)
  rw [slots_zero] at HA
  clear T
  go_enter Tryd.func53, Tryd.ntmps53
  go_wp2_with fail
  refine HM.out.mono ?_
  rintro e w1 ⟨rfl, rfl⟩
  go_wp2_with fail
  refine HA.out.mono ?_
  rintro e w2 ⟨a, cap, rfl, r2, g2, c2⟩
  have C2 := Lib.hid c2
  clear r2 g2 c2 HM HA
  simp only [List.length_nil]
  go_wp2
  go_loopw [10, 3] (fun i c wr => i = .int .i64 0 ∧ c = .int .i64 0 ∧ wr = w2) (fun i _ _ => 0)
  case atStart => exact ⟨rfl, rfl, rfl⟩
  case round =>
    obtain ⟨rfl, rfl, rfl⟩ := hrel
    go_wp2
    go_ret
    exact ⟨rfl, C2.out⟩
end
end Go.Proofs.YtkfknafgknppdaaDoor.LP
