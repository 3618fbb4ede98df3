/-
  The document's example, as the statements ask it.
-/
import Derived.Test.YtmebkogkcnmkiaaListS6
namespace Go.Proofs.Ytmebkogkcnmkiaa
open Go.RowKit Verge LS
attribute [local go_sem] Oper.semAt_some
set_option linter.unusedVariables false

theorem Ch.up {S : Nat → Prop} {a b c : World} (h : Ch Nil a b) (k : Ch S b c) (hs : ∀ i, S i → a.heap.size ≤ i) : Ch Nil a c :=
  h.then k fun i hi e => by have := hs i e; omega

set_option maxHeartbeats 4000000 in
set_option maxRecDepth 100000 in
theorem alive_any (w : World) :
    Calls Try.prog 4 #[] w fun e w' => e = .returned (.bool true) ∧ Ch Nil w w' := by
  go_enter Try.func4, Try.ntmps4
  go_wp2_with fail
  refine (new_of _ (fun _ => ⟨#[]⟩)).mono ?_
  rintro e w1 ⟨lb, rfl, hlb, h1, c1⟩
  have H1 := Lib.hid h1
  have C1 := Lib.hid c1
  have l1 : lb < w1.heap.size := h1.lt (.inl rfl)
  clear h1 c1
  go_wp2_with fail
  refine (new_of _ (fun _ => ⟨#[]⟩)).mono ?_
  rintro e w2 ⟨ob, rfl, hob, o2, c2⟩
  have O2 := Lib.hid o2
  have H2 := Lib.hid (H1.out.kept c2 (fun _ _ e => e))
  have C2 := Lib.hid (C1.out.up c2 (fun _ e => e.elim))
  have l2 : ob < w2.heap.size := o2.lt (.inl rfl)
  clear o2 c2
  go_wp2_with fail
  refine (H2.out.push ⟨#[97]⟩ (by simp)).mono ?_
  rintro e w3 ⟨a, rfl, ha, h3, c3⟩
  have H3 := Lib.hid h3
  have la : a < w3.heap.size := h3.lt (.inr (by simp))
  have O3 := Lib.hid (O2.out.kept c3 (by rintro k (rfl | hk) (rfl | hk') <;> first | omega | cases hk | cases hk'))
  have C3 := Lib.hid (C2.out.up c3 (by rintro k (rfl | hk); exact hlb; cases hk))
  clear h3 c3
  go_wp2_with fail
  refine (H3.out.push ⟨#[98]⟩ (by simp)).mono ?_
  rintro e w4 ⟨b, rfl, hb, h4, c4⟩
  have H4 := Lib.hid h4
  have lb4 : b < w4.heap.size := h4.lt (.inr (by simp))
  have O4 := Lib.hid (O3.out.kept c4 (by rintro k (rfl | hk) (rfl | hk') <;> first | omega | cases hk | (simp at hk'; omega)))
  have s2 := C2.out.size
  have C4 := Lib.hid (C3.out.up c4 (by rintro k (rfl | hk); exact hlb; simp at hk; omega))
  clear h4 c4
  go_wp2_with fail
  refine (H4.out.push ⟨#[99]⟩ (by simp)).mono ?_
  rintro e w5 ⟨c, rfl, hc, h5, c5⟩
  have H5 := Lib.hid h5
  have lc : c < w5.heap.size := h5.lt (.inr (by simp))
  have O5 := Lib.hid (O4.out.kept c5 (by rintro k (rfl | hk) (rfl | hk') <;> first | omega | cases hk | (simp at hk'; omega)))
  have C5 := Lib.hid (C4.out.up c5 (by rintro k (rfl | hk); exact hlb; simp at hk; omega))
  clear h5 c5
  go_wp2_with fail
  refine (O5.out.push ⟨#[100]⟩ (by simp)).mono ?_
  rintro e w6 ⟨d, rfl, hd, o6, c6⟩
  obtain ⟨U, hU⟩ : ∃ U, U = upd (upd (upd (upd (fun _ => (⟨#[]⟩ : ByteArray)) a ⟨#[97]⟩) b ⟨#[98]⟩) c ⟨#[99]⟩) d ⟨#[100]⟩ := ⟨_, rfl⟩
  have ua : U a = ⟨#[97]⟩ := by rw [hU, upd_other _ _ _ _ (by omega), upd_other _ _ _ _ (by omega), upd_other _ _ _ _ (by omega), upd_same]
  have uc : U c = ⟨#[99]⟩ := by rw [hU, upd_other _ _ _ _ (by omega), upd_same]
  have ud : U d = ⟨#[100]⟩ := by rw [hU, upd_same]
  have o6' : IsL w6 ob [d] U := (o6.congr U (by intro x hx; simp at hx; subst hx; rw [ud, upd_same]))
  have h6 : IsL w6 lb [a, b, c] U := ((H5.out.kept c6 (by rintro k (rfl | hk) (rfl | hk') <;> first | omega | cases hk' | (simp at hk; omega))).congr U (by intro x hx; rw [hU, upd_other _ _ _ _ (by simp at hx; omega)]))
  have H6 := Lib.hid h6
  have O6 := Lib.hid o6'
  have C6 := Lib.hid (C5.out.up c6 (by rintro k (rfl | hk); have := C1.out.size; omega; cases hk))
  have UA := Lib.hid ua
  have UC := Lib.hid uc
  have UD := Lib.hid ud
  clear h6 o6 o6' c6 ua uc ud hU
  go_wp2_with fail
  refine (H6.out.unlink (i := 1) (b := b) rfl (by simp)).mono ?_
  rintro e w7 ⟨rfl, h7, n7, c7⟩
  have H7 : Hid (IsL w7 lb [a, c] U) := Lib.hid h7
  have O7 := Lib.hid (O6.out.kept c7 (by rintro k (rfl | hk) (rfl | hk') <;> first | omega | (simp at hk; omega) | (simp at hk'; omega) | (simp at hk hk'; omega)))
  have C7 := Lib.hid (C6.out.up c7 (by rintro k (rfl | hk); exact hlb; simp at hk; omega))
  clear h7 n7 c7
  go_wp2_with fail
  refine (H7.out.splice O7.out (by rintro k (rfl | hk) (rfl | hk') <;> first | omega | (simp at hk; omega) | (simp at hk'; omega) | (simp at hk hk'; omega)) (by simp)).mono ?_
  rintro e w8 ⟨rfl, h8, o8, c8⟩
  have H8 : Hid (IsL w8 lb [a, c, d] U) := Lib.hid h8
  have O8 := Lib.hid o8
  have C8 := Lib.hid (C7.out.up c8 (by
    have := C1.out.size
    rintro k ((rfl | hk) | (rfl | hk))
    · exact hlb
    · simp at hk; omega
    · omega
    · simp at hk; omega))
  clear h8 o8 c8
  go_wp2_with fail
  refine (H8.out.all (by simp)).mono ?_
  rintro e w9 ⟨r, cap, rfl, r9, g9, c9⟩
  obtain ⟨g, rfl, -⟩ := r9.form (by simp)
  have q0 : w9.cell? ⟨g, 0, none⟩ = some (.string ⟨#[97]⟩) := by rw [← UA.out]; exact r9.cell 0 (by simp)
  have q1 : w9.cell? ⟨g, 1, none⟩ = some (.string ⟨#[99]⟩) := by rw [← UC.out]; exact r9.cell 1 (by simp)
  have q2 : w9.cell? ⟨g, 2, none⟩ = some (.string ⟨#[100]⟩) := by rw [← UD.out]; exact r9.cell 2 (by simp)
  have O9 := Lib.hid (O8.out.kept c9 (fun _ _ e => e))
  have C9 := Lib.hid (C8.out.up c9 (fun _ e => e.elim))
  simp only [List.length_cons, List.length_nil, Nat.zero_add, Nat.reduceAdd] at r9 ⊢
  clear r9 g9 c9
  go_wp2_with fail
  refine (len_of ob 0 _ O9.out.h.n).mono ?_
  rintro e w10 ⟨rfl, rfl⟩
  go_wp2
  go_ret
  exact ⟨rfl, C9.out⟩
end Go.Proofs.Ytmebkogkcnmkiaa
