/-
  Contracts of package cell's functions at texts, and of no cell.
-/
import Derived.Test.YtnflieejfegnhaaCellWalks1
namespace Go.Proofs.Ytnflieejfegnhaa
open Go.RowKit
attribute [local go_sem] Oper.semAt_some
set_option linter.unusedVariables false

theorem catchS_idle (w : World) :
    CallsD Try.prog 34 #[] .returning w fun e u' w' => e = .returned (.tuple #[]) ∧ u' = .returning ∧ w = w' := by
  refine callsD_of_wpS Try.func34 rfl fun c₀ cs hu => ?_
  apply wpS_region
  cases c₀
  simp_all [wpOpsS, go_sem, recoverD, Try.ntmps34, bodyPostS, results, Try.results34]

theorem sameS_any (a b : ByteArray) (w : World) :
    Calls Try.prog 30 #[.string a, .string b] w fun e w' => e = .returned (.bool (a.toList == b.toList)) ∧ w = w' := by
  have hmf : ∀ (fn : Fn) (first cap : Array Value) (w : World), (Instr.makeFunc fn first cap).run Try.prog w = .ok (.func fn first cap) w := fun _ _ _ _ => rfl
  go_enter_defers Try.func30, Try.ntmps30
  go_wp2
  refine leaves_cons (f := 34) (args := #[]) (by simp) (by simp [go_sem]) ?_
  refine (catchS_idle _).mono ?_
  rintro e u' w'' ⟨rfl, rfl, rfl⟩
  simp [Leaves, settle, results, Try.results30, go_sem]

theorem loadS_nil (w : World) :
    Calls Try.prog 18 #[.pointer none] w fun e w' => e = .returned (.string ⟨#[]⟩) ∧ w = w' := by
  go_enter Try.func18, Try.ntmps18
  go_wp2
  go_ret
  exact ⟨rfl, rfl⟩
theorem storeS_nil (s : ByteArray) (w : World) :
    Calls Try.prog 14 #[.pointer none, .string s] w fun e w' => e = .returned (.tuple #[]) ∧ w = w' := by
  go_enter Try.func14, Try.ntmps14
  go_wp2
  go_end0
  exact ⟨rfl, rfl⟩
theorem countsS_nil (w : World) :
    Calls Try.prog 17 #[.pointer none] w fun e w' => e = .returned (.tuple #[.int .i64 0, .int .i64 0, .int .i64 0]) ∧ w = w' := by
  go_enter Try.func17, Try.ntmps17
  go_wp2
  (try simp only [Exit.inBlock, Exit.then]); refine bodyPost_ret (results_tmp3 rfl _ _ _) rfl ?_
  exact ⟨rfl, rfl⟩
theorem swapS_nil (a b : Value) (w : World) :
    Calls Try.prog 19 #[.pointer none, a, b] w fun e w' => e = .returned (.bool false) ∧ w = w' := by
  go_enter Try.func19, Try.ntmps19
  go_wp2
  go_ret
  exact ⟨rfl, rfl⟩
theorem turnS_nil (f : Value) (w : World) :
    Calls Try.prog 15 #[.pointer none, f] w fun e w' => e = .returned (.tuple #[.string ⟨#[]⟩, .bool false]) ∧ w = w' := by
  go_enter Try.func15, Try.ntmps15
  go_wp2_with fail
  refine (loadS_nil _).mono ?_
  rintro e w' ⟨rfl, rfl⟩
  go_wp2
  go_ret2
  exact ⟨rfl, rfl⟩

theorem loadS_at (b o : Nat) (v : ByteArray) (l t u : Int) (w : World) (h : IsC w b o (.string v) l t u) :
    Calls Try.prog 18 #[.pointer (some ⟨b, o, none⟩)] w fun e w' => e = .returned (.string v) ∧ w.setCell ⟨b, o + 1, none⟩ (.int .i64 (wrap64 (l + 1))) = w' := by
  obtain ⟨hv, hl, ht, hu, fv, fl, ft, fu⟩ := h
  go_enter Try.func18, Try.ntmps18
  go_wp2
  go_ret
  exact ⟨rfl, rfl⟩
theorem storeS_at (b o : Nat) (v : Value) (x : ByteArray) (l t u : Int) (w : World) (h : IsC w b o v l t u) :
    Calls Try.prog 14 #[.pointer (some ⟨b, o, none⟩), .string x] w fun e w' => e = .returned (.tuple #[]) ∧ w.setCell ⟨b, o, none⟩ (.string x) = w' := by
  obtain ⟨hv, hl, ht, hu, fv, fl, ft, fu⟩ := h
  go_enter Try.func14, Try.ntmps14
  go_wp2
  go_end0
  exact ⟨rfl, rfl⟩
theorem changeS_no (b o : Nat) (v x : Value) (l t u : Int) (w : World) (h : IsC w b o v l t u) :
    Calls Try.prog 29 #[.pointer (some ⟨b, o, none⟩), x, .bool false] w fun e w' => e = .returned (.bool false) ∧ w.setCell ⟨b, o + 2, none⟩ (.int .i64 (wrap64 (t + 1))) = w' := by
  obtain ⟨hv, hl, ht, hu, fv, fl, ft, fu⟩ := h
  go_enter Try.func29, Try.ntmps29
  go_wp2
  go_ret
  exact ⟨rfl, rfl⟩
theorem changeS_yes (b o : Nat) (v : Value) (x : ByteArray) (l t u : Int) (w : World) (h : IsC w b o v l t u) :
    Calls Try.prog 29 #[.pointer (some ⟨b, o, none⟩), .string x, .bool true] w fun e w' => e = .returned (.bool true) ∧
      ((w.setCell ⟨b, o + 2, none⟩ (.int .i64 (wrap64 (t + 1)))).setCell ⟨b, o, none⟩ (.string x)).setCell ⟨b, o + 3, none⟩ (.int .i64 (wrap64 (u + 1))) = w' := by
  obtain ⟨hv, hl, ht, hu, fv, fl, ft, fu⟩ := h
  go_enter Try.func29, Try.ntmps29
  go_wp2
  go_ret
  exact ⟨rfl, rfl⟩
theorem swapS_at (b o : Nat) (v old x : ByteArray) (l t u : Int) (w : World) (h : IsC w b o (.string v) l t u) :
    Calls Try.prog 19 #[.pointer (some ⟨b, o, none⟩), .string old, .string x] w fun e w' => e = .returned (.bool (v.toList == old.toList)) ∧ Ch (One b) w w' := by
  have H := Lib.hid h
  have hv := h.v
  clear h
  cases hq : (v.toList == old.toList)
  · go_enter Try.func19, Try.ntmps19
    have HQ := Lib.hid hq
    clear hq
    go_wp2_with fail
    refine (sameS_any _ _ _).mono ?_
    rintro e w1 ⟨rfl, rfl⟩
    rw [HQ.out]
    go_wp2_with fail
    refine (changeS_no b o _ _ l t u _ H.out).mono ?_
    rintro e w1 ⟨rfl, rfl⟩
    go_wp2
    go_ret
    exact ⟨rfl, (Ch.refl _ _).setB _ _⟩
  · go_enter Try.func19, Try.ntmps19
    have HQ := Lib.hid hq
    clear hq
    go_wp2_with fail
    refine (sameS_any _ _ _).mono ?_
    rintro e w1 ⟨rfl, rfl⟩
    rw [HQ.out]
    go_wp2_with fail
    refine (changeS_yes b o _ _ l t u _ H.out).mono ?_
    rintro e w1 ⟨rfl, rfl⟩
    go_wp2
    go_ret
    exact ⟨rfl, (((Ch.refl _ _).setB _ _).setB _ _).setB _ _⟩

theorem loadS_c (b : Nat) (v : ByteArray) (l t u : Int) (w : World) (h : IsC w b 0 (.string v) l t u) :
    Calls Try.prog 18 #[.pointer (some ⟨b, 0, none⟩)] w fun e w' => e = .returned (.string v) ∧ IsC w' b 0 (.string v) (wrap64 (l + 1)) t u ∧ Ch (One b) w w' :=
  (loadS_at b 0 v l t u w h).mono fun e w' ⟨he, hw⟩ => by subst hw; exact ⟨he, h.setL _, (Ch.refl _ _).setB _ _⟩
theorem storeS_c (b : Nat) (v : Value) (x : ByteArray) (l t u : Int) (w : World) (h : IsC w b 0 v l t u) :
    Calls Try.prog 14 #[.pointer (some ⟨b, 0, none⟩), .string x] w fun e w' => e = .returned (.tuple #[]) ∧ IsC w' b 0 (.string x) l t u ∧ Ch (One b) w w' :=
  (storeS_at b 0 v x l t u w h).mono fun e w' ⟨he, hw⟩ => by subst hw; exact ⟨he, h.setV _, (Ch.refl _ _).setB _ _⟩
end Go.Proofs.Ytnflieejfegnhaa
