/-
  Contract of package level's Take: the nodes of a slot, in order, each in no list then.
-/
import Derived.Test.YtkfknafgknppdaaDoorLevelPWalks2
namespace Go.Proofs.YtkfknafgknppdaaDoor.LP
open Go.RowKit Verge
attribute [local go_sem] Oper.semAt_some
set_option linter.unusedVariables false
set_option linter.unusedSimpArgs false

/-- a pointer to the i-th node -/
def ptrL (xs : List Nat) (i : Nat) : Value := .pointer (some ⟨xs.getD i 0, 0, none⟩)
/-- a row of pointers to nodes -/
abbrev RowP (w : World) (a : Option Addr) (n cap : Nat) (xs : List Nat) : Prop := Row w 38 1 a n cap (ptrL xs)
/-- between two rounds of Take -/
structure TkIn (w : World) (lb : Nat) (xs : List Nat) (V : Nat → Nat) (k : Nat) (a : Option Addr) (cap : Nat) (W : World) : Prop where
  l : IsL W lb (xs.drop k) V
  f : ∀ i b, i < k → xs[i]? = some b → IsN W b (V b) none none none
  r : RowP W a k cap xs
  g : ∀ x, OwnS a x → w.heap.size ≤ x
  c : Ch (LB lb xs) w W
section
variable {S : Nat → Prop} {w w' W w5 w6 : World} {vb lb k m b s : Nat} {hd : Nat → Nat} {X : Nat → List Nat} {xs : List Nat} {V : Nat → Nat} {a : Option Addr} {cap : Nat}
theorem sub_drop {k : Nat} : ∀ j, LB lb (xs.drop k) j → LB lb xs j := by
  rintro j (rfl | hj)
  · exact .inl rfl
  · exact .inr (List.mem_of_mem_drop hj)
theorem vtake_range (vb : Nat) (z : Int) (hz : z < 0 ∨ 64 ≤ z) (w : World) :
    Calls Tryd.prog 49 #[.pointer (some ⟨vb, 0, none⟩), .int .i64 z] w fun e w' => e = .returned (.slice none 0 0) ∧ w = w' := by
  have HR := Lib.hid (row_range vb z hz w)
  clear hz
  go_enter Tryd.func49, Tryd.ntmps49
  go_wp2_with fail
  refine HR.out.mono ?_
  rintro e w1 ⟨rfl, rfl⟩
  go_wp2
  go_ret
  exact ⟨rfl, rfl⟩
theorem vtake_nil (z : Int) (w : World) :
    Calls Tryd.prog 49 #[.pointer none, .int .i64 z] w fun e w' => e = .returned (.slice none 0 0) ∧ w = w' := by
  have HR := Lib.hid (row_nil z w)
  go_enter Tryd.func49, Tryd.ntmps49
  go_wp2_with fail
  refine HR.out.mono ?_
  rintro e w1 ⟨rfl, rfl⟩
  go_wp2
  go_ret
  exact ⟨rfl, rfl⟩
theorem TkIn.more (h : TkIn w lb xs V k a cap W) (hlt : ∀ j, LB lb xs j → j < w.heap.size) (nd : ∀ (i j b : Nat), xs[i]? = some b → xs[j]? = some b → i = j) (nl : lb ∉ xs) (hb : xs[k]? = some b) (h5 : IsL w5 lb (xs.drop (k + 1)) V) (n5 : IsN w5 b (V b) none none none) (c5 : Ch (LB lb (xs.drop k)) W w5)
    (c6 : Ch (OwnS a) w5 w6) {g cap' : Nat} (row6 : RowP w6 (some ⟨g, 0, none⟩) (k + 1) cap' xs) (at6 : OwnS a g ∨ g = w5.heap.size + 1) : TkIn w lb xs V (k + 1) (some ⟨g, 0, none⟩) cap' w6 := by
  have hw := h.c.size
  have hw5 := c5.size
  have ap : ∀ j, LB lb xs j → ¬ OwnS a j := fun j hj e => by have := hlt j hj; have := h.g j e; omega
  refine ⟨h5.kept c6 (fun j hj => ap j (sub_drop j hj)), fun i c hi hc => ?_, row6, ?_, (h.c.trans (c5.mono fun j _ e => sub_drop j e)).then c6 (fun j hj e => by have := h.g j e; omega)⟩
  · by_cases e : i = k
    · subst e; rw [hb] at hc; cases hc
      exact n5.kept c6 (ap _ (.inr (List.mem_of_getElem? hb)))
    · refine ((h.f i c (by omega) hc).kept c5 ?_).kept c6 (ap _ (.inr (List.mem_of_getElem? hc)))
      rintro (rfl | hm)
      · exact nl (List.mem_of_getElem? hc)
      · obtain ⟨j, hj⟩ := List.mem_iff_getElem?.1 hm
        rw [List.getElem?_drop] at hj
        have := nd _ _ _ hc hj
        omega
  · intro x hx
    cases hx
    rcases at6 with h' | h'
    · exact h.g _ h'
    · simp only; omega

set_option maxHeartbeats 1000000 in
theorem vtake_of (h : IsLv w vb hd X V) (hs : s < 64) (hl : (X s).length ≤ 100000) :
    Calls Tryd.prog 49 #[.pointer (some ⟨vb, 0, none⟩), .int .i64 (s : Nat)] w fun e w' => ∃ a cap, e = .returned (.slice a (X s).length cap) ∧ RowP w' a (X s).length cap (X s) ∧ (∀ g, OwnS a g → w.heap.size ≤ g) ∧ IsLv w' vb hd (upd X s []) V ∧ (∀ b, b ∈ X s → IsN w' b (V b) none none none) ∧ Ch (LvB vb hd X) w w' := by
  have HR := Lib.hid (row_of h hs)
  have L0 := Lib.hid (h.l s hs)
  have H := Lib.hid h
  have LT := Lib.hid fun j (hj : LB (hd s) (X s) j) => (h.l s hs).lt hj
  have NV := Lib.hid (h.nv s hs)
  clear h
  obtain ⟨xs, hxs⟩ : ∃ xs, xs = X s := ⟨_, rfl⟩
  obtain ⟨lb, hlb⟩ : ∃ lb, lb = hd s := ⟨_, rfl⟩
  rw [← hxs] at L0 LT NV hl ⊢
  rw [← hlb] at HR L0 LT NV
  have HXS := Lib.hid hxs
  have HLB := Lib.hid hlb
  clear hxs hlb
  go_enter Tryd.func49, Tryd.ntmps49
  go_wp2_with fail
  refine HR.out.mono ?_
  rintro e w1 ⟨rfl, rfl⟩
  go_wp2_with fail
  refine (first_of lb xs[0]? _ L0.out.h.f).mono ?_
  rintro e w1 ⟨rfl, rfl⟩
  obtain ⟨p0, hp0⟩ : ∃ p0, p0 = pt xs[0]? := ⟨_, rfl⟩
  have HP0 := Lib.hid hp0
  rw [← hp0]
  clear hp0
  go_wp2
  go_loopw [7, 8] (fun ns n wr => ∃ (k : Nat) (a : Option Addr) (cap : Nat), k ≤ xs.length ∧ ns = .slice a k cap ∧ n = pt xs[k]? ∧ TkIn w lb xs V k a cap wr) (fun ns _ _ => xs.length - (match ns with | .slice _ n _ => n | _ => 0))
  case atStart =>
    refine ⟨0, none, 0, by omega, rfl, HP0.out, by simpa using L0.out, fun i b hi => by omega, Row.nil _ _ _ _, fun x hx => (by cases hx), Ch.refl _ _⟩
  case round =>
    obtain ⟨k, a, cap, hk, rfl, rfl, ht⟩ := hrel
    have HT := Lib.hid ht
    clear ht
    by_cases hlt : k < xs.length
    · obtain ⟨b, hb⟩ : ∃ b, xs[k]? = some b := ⟨_, List.getElem?_eq_getElem hlt⟩
      have hd0 : (xs.drop k)[0]? = some b := by rw [List.getElem?_drop]; exact hb
      have HB := Lib.hid hb
      have UL := Lib.hid (HT.out.l.unlink hd0 (by rw [List.length_drop]; omega))
      rw [hb, pt_some]
      clear hb hd0
      go_wp2_with fail
      refine UL.out.mono ?_
      rintro e w5 ⟨rfl, h5, n5, c5⟩
      rw [drop_succ] at h5
      have H5 := Lib.hid h5
      have N5 := Lib.hid n5
      have C5 := Lib.hid c5
      have R5 := Lib.hid ((HT.out.r.kept c5 (fun j hj e => by have := HT.out.g j hj; have := LT.out j (sub_drop j e); omega)).kept (S := Nil) ((Ch.refl Nil w5).alloc (Obj.cells #[.pointer (some ⟨b, 0, none⟩)] 38)) (fun _ _ e => e))
      have hv : ptrL xs k = .pointer (some ⟨b, 0, none⟩) := by unfold ptrL; rw [List.getD_eq_getElem?_getD, HB.out]; rfl
      have HV := Lib.hid hv
      clear h5 n5 c5 hv
      go_wp2_with (at_builtin; refine append_row _ rfl _ _ _ rfl 38 (.pointer none) 1 8 Tryd.underlying101 (by kernel_rfl) rfl (by omega) (by omega) rfl R5.out (by omega) w5.heap.size 1 [.pointer (some ⟨b, 0, none⟩)] 38 rfl rfl (heap_alloc_new w5 _) (by simp [Value.oneCell']) (ptrL xs) (fun i hi => rfl) (by intro j u hu; obtain rfl : j = 0 := (by cases j; rfl; simp at hu); simp at hu; subst hu; simpa using HV.out) _ rfl ?_)
      intro g cap6 w6 row6 ch6 at6 lt6
      have c6 : Ch (OwnS a) w5 w6 := (((Ch.refl Nil w5).alloc _).mono (fun _ _ e => e.elim)).trans ch6
      have FIN := Lib.hid (HT.out.more LT.out L0.out.nd L0.out.nl HB.out H5.out N5.out C5.out c6 row6 (by simpa using at6))
      clear ch6 row6 at6 lt6 R5 c6
      go_wp2_with fail
      refine (first_of lb _ _ FIN.out.l.h.f).mono ?_
      rintro e w7 ⟨rfl, rfl⟩
      rw [List.getElem?_drop]
      obtain ⟨p1, hp1⟩ : ∃ p1, p1 = pt xs[k + 1 + 0]? := ⟨_, rfl⟩
      have HP1 := Lib.hid hp1
      rw [← hp1]
      clear hp1
      go_wp2
      go_roundw
      case rel => exact ⟨k + 1, _, _, by omega, rfl, HP1.out, FIN.out⟩
      case measure => simp; omega
    · obtain rfl : k = xs.length := by omega
      rw [List.getElem?_eq_none (Nat.le_refl _), pt_none]
      go_wp2_with fail
      refine (unlink_nonode lb _).mono ?_
      rintro e w5 ⟨rfl, rfl⟩
      have t5 : IsV wr vb hd (upd X s []) V (mapX X) := by
        have h0 := HT.out.l
        rw [List.drop_length] at h0
        refine H.out.turned (P := Nil) hs (HT.out.c.mono fun k _ e => .inl ?_) (fun k e => e.elim) (by rw [← HLB.out]; exact h0) (fun k hk => (by cases hk))
        rw [← HXS.out, ← HLB.out]; exact e
      have T5 := Lib.hid t5
      clear t5
      go_wp2_with fail
      refine (mark_of T5.out hs mapX_lt).mono ?_
      rintro e w6 ⟨⟨r, rfl⟩, h6, c6⟩
      rw [markN_mapX hs (fun i hi hne => (upd_other _ _ _ _ hne).symm)] at h6
      have H6 := Lib.hid h6
      have C6 := Lib.hid c6
      clear h6 c6
      go_wp2
      go_ret
      have vlt : vb < w.heap.size := H.out.lt (.inl rfl)
      refine ⟨a, cap, rfl, HT.out.r.kept C6.out (fun j hj e => ?_), HT.out.g, H6.out, fun b hb => ?_, (HT.out.c.mono fun j _ e => ?_).then C6.out ?_⟩
      · have := HT.out.g j hj; have e' : j = vb := e; omega
      · obtain ⟨i, hi⟩ := List.mem_iff_getElem?.1 hb
        refine (HT.out.f i b (List.getElem?_eq_some_iff.1 hi).1 hi).kept C6.out (fun e => NV.out (.inr (e ▸ hb)))
      · rw [HXS.out, HLB.out] at e; exact .inr ⟨s, hs, e⟩
      · rintro j - rfl; exact .inl rfl
end
end Go.Proofs.YtkfknafgknppdaaDoor.LP
