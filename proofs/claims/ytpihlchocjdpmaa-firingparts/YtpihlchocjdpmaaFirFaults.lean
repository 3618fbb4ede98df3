/-
  Contracts of package firing's Faults and of the document's: the places of those that are early, or twice.
-/
import Derived.Test.YtpihlchocjdpmaaFirRef1
import Derived.Test.YtpihlchocjdpmaaFirMap
import Derived.Test.YtpihlchocjdpmaaListInts
namespace Verge
/-- is the firing at place i early, or twice? -/
def isBad (L : List Fr) (i : Nat) : Bool := match L[i]? with
  | some f => decide (f.t < f.d) || (L.take i).any (fun g => g.i == f.i && g.g == f.g)
  | none => false
/-- the faults below place k -/
def faultsTo (L : List Fr) (k : Nat) : List Nat := (List.range k).filter (isBad L)
theorem faultsTo_succ (L : List Fr) (k : Nat) : faultsTo L (k + 1) = if isBad L k then faultsTo L k ++ [k] else faultsTo L k := by
  unfold faultsTo
  rw [List.range_succ, List.filter_append]
  cases h : isBad L k <;> simp [h]
theorem faultsTo_le (L : List Fr) (k : Nat) : (faultsTo L k).length ≤ k := Nat.le_trans (List.length_filter_le _ _) (by simp)
theorem isBad_at {L : List Fr} {k : Nat} {f : Fr} (h : L[k]? = some f) : isBad L k = (decide (f.t < f.d) || (L.take k).any (fun g => g.i == f.i && g.g == f.g)) := by
  unfold isBad; rw [h]
end Verge
namespace Go.Proofs.Ytpihlchocjdpmaa
open Go.RowKit Verge Go.Maps
set_option linter.unusedVariables false
set_option linter.unusedSimpArgs false

/-- the numbers of a list -/
def qf (Q : List Nat) (i : Nat) : Int := ((Q.getD i 0 : Nat) : Int)
theorem append_nat {P : Program} (w : World) {ops : Array Oper} {rest : List Oper} {o : Oper} {act : Act} {Q : Exit → Act → World → Prop} (hgd : o.guard = none) (s x : Operand) (t : TypeId)
    (ho : o.op = .call { callee := .builtin .append, args := #[s, x], argTypes := #[t, t] })
    (ht : P.underlying t = some (.slice 3)) (hi : (P.info? 3).map (fun i => (i.zero, i.size, i.bytes)) = some (some (.int .i64 0), 1, 8))
    {a : Option Addr} {cap n : Nat} {L : List Nat} (hs : act.eval s = .slice a n cap) (hn' : n = L.length) (hrow : RowI w a L.length cap (qf L)) (hn : L.length ≤ 1000000)
    (B c : Nat) (y : Nat) (T : TypeId) (hx : act.eval x = .slice (some ⟨B, 0, none⟩) 1 c) (hb : w.heap[B]? = some (.cells #[.int .i64 (y : Nat)] T (0, 0))) (H : Nat) (hH : w.heap.size = H)
    (h : ∀ g cap' w', RowI w' (some ⟨g, 0, none⟩) (L ++ [y]).length cap' (qf (L ++ [y])) → Ch (OwnS a) w w' → (OwnS a g ∨ g = H) → g < w'.heap.size → wpList P ops Q rest (act.put o.dst (.slice (some ⟨g, 0, none⟩) (n + 1) cap')) w') : wpList P ops Q (o :: rest) act w := by
  subst hn'
  refine append_row w hgd s x t ho 3 (.int .i64 0) 1 8 ht hi rfl (by omega) (by omega) hs hrow hn B c [.int .i64 (y : Nat)] T hx rfl hb (by simp [Value.oneCell']) (fun i => .int .i64 (qf (L ++ [y]) i)) (fun i hi => ?_) (fun j u hu => ?_) H hH ?_
  · simp only [qf, List.getD_eq_getElem?_getD]
    rw [List.getElem?_append_left (by omega)]
  · obtain rfl : j = 0 := by cases j; rfl; simp at hu
    simp at hu
    subst hu
    simp [qf, List.getD_eq_getElem?_getD]
  · intro g cap' w' h1 h2 h3 h4
    refine h g cap' w' ?_ h2 h3 h4
    rw [List.length_append]
    exact h1

theorem any_snoc {L : List Fr} {k : Nat} {f : Fr} (h : L.take (k + 1) = L.take k ++ [f]) : (fun key : Nat × Nat => (L.take (k + 1)).any fun g => g.i == key.1 && g.g == key.2) = (fun j => if j = (f.i, f.g) then true else (L.take k).any fun g => g.i == j.1 && g.g == j.2) := by
  funext key
  rw [h, List.any_append]
  by_cases e : key = (f.i, f.g)
  · subst e; simp
  · rw [if_neg e]
    have : (f.i == key.1 && f.g == key.2) = false := by
      rw [Bool.eq_false_iff]
      intro h
      simp only [Bool.and_eq_true, beq_iff_eq] at h
      exact e (Prod.ext h.1.symm h.2.symm)
    simp [this]

/-- between two rounds of Faults -/
structure FtIn (w : World) (L : List Fr) (k n : Nat) (a : Option Addr) (cap : Nat) (wr : World) : Prop where
  n : n = (faultsTo L k).length
  row : RowI wr a (faultsTo L k).length cap (qf (faultsTo L k))
  own : ∀ g, OwnS a g → w.heap.size < g
  m : MapS wr w.heap.size k (fun key => (L.take k).any fun g => g.i == key.1 && g.g == key.2)
  c : Ch Nil w wr

set_option maxHeartbeats 2000000 in
theorem faults_of {w : World} {a : Option Addr} {c1 : Nat} {L : List Fr} (h1 : Src w a L) (hok : Oks L) (hl : L.length ≤ 100000) :
    Calls Try.prog 22 #[.slice a L.length c1] w fun e w' => ∃ a' cap', e = .returned (.slice a' (faultsTo L L.length).length cap') ∧ RowI w' a' (faultsTo L L.length).length cap' (qf (faultsTo L L.length)) ∧ (∀ g, OwnS a' g → w.heap.size ≤ g) ∧ Ch Nil w w' := by
  obtain ⟨n, hn⟩ : ∃ n, n = L.length := ⟨_, rfl⟩
  have HN := Lib.hid hn
  have S1 := Lib.hid h1
  have HOK := Lib.hid hok
  rw [← hn] at hl ⊢
  clear hn h1 hok
  have hmm := @run_makeMap Try.prog
  go_enter Try.func22, Try.ntmps22
  go_wp2
  go_loopw [11, 4] (fun i v wr => ∃ (k : Nat) (a' : Option Addr) (cap' m : Nat), k ≤ n ∧ i = .int .i64 k ∧ v = .slice a' m cap' ∧ Hid (FtIn w L k m a' cap' wr)) (fun i _ _ => n - (intOf i).toNat)
  case atStart => exact ⟨0, none, 0, 0, by omega, rfl, rfl, Lib.hid ⟨rfl, Row.nil _ _ _ _, fun g hg => by simp [OwnS] at hg, MapK.new w, (Ch.refl _ _).alloc _⟩⟩
  case round =>
    obtain ⟨k, a', cap', m, hk, rfl, rfl, HR⟩ := hrel
    by_cases hlt : k < n
    · obtain ⟨b1, o1, rfl, -, k1⟩ := (S1.out.kept HR.out.c (fun _ _ e => e)).form (by rw [← HN.out]; omega)
      obtain ⟨f, hf⟩ : ∃ f, L[k]? = some f := ⟨_, List.getElem?_eq_getElem (by rw [← HN.out]; exact hlt)⟩
      obtain ⟨f0, f1, f2, f3⟩ := src_cells k1 hf
      obtain ⟨ok0, ok1, ok2, ok3⟩ := HOK.out f (List.mem_of_getElem? hf)
      have hkz : (k : Int) < (n : Int) := by omega
      have hkz0 : (0 : Int) ≤ (k : Int) := by omega
      have HT := Lib.hid (show L.take (k + 1) = L.take k ++ [f] by rw [List.take_add_one, hf]; rfl)
      have HB := Lib.hid (isBad_at hf)
      obtain ⟨l, hkey⟩ := key_shot (f.i, f.g) ok0 ok1
      have cA : Ch Nil wr (wr.alloc (.cells #[.int .u64 (f.i : Nat), .int .u64 (f.g : Nat), .int .u64 (f.d : Nat), .int .u64 (f.t : Nat)] 43)) := (Ch.refl _ _).alloc _
      have cB : Ch Nil (wr.alloc (.cells #[.int .u64 (f.i : Nat), .int .u64 (f.g : Nat), .int .u64 (f.d : Nat), .int .u64 (f.t : Nat)] 43)) ((wr.alloc (.cells #[.int .u64 (f.i : Nat), .int .u64 (f.g : Nat), .int .u64 (f.d : Nat), .int .u64 (f.t : Nat)] 43)).alloc (.cells #[.int .u64 (f.i : Nat), .int .u64 (f.g : Nat)] 57)) := (Ch.refl _ _).alloc _
      have x2 := cB.keeps (p := ⟨wr.heap.size, 2, none⟩) (v := .int .u64 (f.d : Nat)) (by simp [cell_fresh]) (fun e => e)
      have x3 := cB.keeps (p := ⟨wr.heap.size, 3, none⟩) (v := .int .u64 (f.t : Nat)) (by simp [cell_fresh]) (fun e => e)
      have hs1 : (wr.alloc (.cells #[.int .u64 (f.i : Nat), .int .u64 (f.g : Nat), .int .u64 (f.d : Nat), .int .u64 (f.t : Nat)] 43)).heap.size = wr.heap.size + 1 := by simp
      have y0 : ((wr.alloc (.cells #[.int .u64 (f.i : Nat), .int .u64 (f.g : Nat), .int .u64 (f.d : Nat), .int .u64 (f.t : Nat)] 43)).alloc (.cells #[.int .u64 (f.i : Nat), .int .u64 (f.g : Nat)] 57)).cell? ⟨wr.heap.size + 1, 0, none⟩ = some (.int .u64 (f.i : Nat)) := by rw [← hs1]; simp [cell_fresh]
      have y1 : ((wr.alloc (.cells #[.int .u64 (f.i : Nat), .int .u64 (f.g : Nat), .int .u64 (f.d : Nat), .int .u64 (f.t : Nat)] 43)).alloc (.cells #[.int .u64 (f.i : Nat), .int .u64 (f.g : Nat)] 57)).cell? ⟨wr.heap.size + 1, 1, none⟩ = some (.int .u64 (f.g : Nat)) := by rw [← hs1]; simp [cell_fresh]
      have M2 := (HR.out.m.kept cA (fun e => e)).kept cB (fun e => e)
      have lk := M2.look keyed_shot Try.underlying55 (f.i, f.g) ⟨ok0, ok1⟩ hkey
      simp only [shv] at lk
      have CAB := Lib.hid (cA.trans cB)
      have HM2 := Lib.hid M2
      have HKEY := Lib.hid hkey
      have hwk := HR.out.m.lt
      clear k1 hf cA cB M2 hkey hs1
      generalize ha : ((L.take k).any fun g => g.i == f.i && g.g == f.g) = ah at lk
      have HAH := Lib.hid ha
      clear ha
      by_cases hb : f.t < f.d ∨ ah = true
      · have hbad : isBad L k = true := by
          rw [HB.out, HAH.out]
          rcases hb with h | h
          · simp [h]
          · simp [h]
        have HX := Lib.hid (show faultsTo L (k + 1) = faultsTo L k ++ [k] by rw [faultsTo_succ, if_pos hbad])
        have R2 : Hid (RowI (((wr.alloc (.cells #[.int .u64 (f.i : Nat), .int .u64 (f.g : Nat), .int .u64 (f.d : Nat), .int .u64 (f.t : Nat)] 43)).alloc (.cells #[.int .u64 (f.i : Nat), .int .u64 (f.g : Nat)] 57)).alloc (.cells #[.int .i64 (k : Nat)] 3)) a' (faultsTo L k).length cap' (qf (faultsTo L k))) := Lib.hid (HR.out.row.kept (CAB.out.alloc _) (fun _ _ e => e))
        have HL : Hid ((faultsTo L k).length ≤ 1000000) := Lib.hid (by have := faultsTo_le L k; omega)
        have HMN := Lib.hid HR.out.n
        have HNB : Hid ((((wr.alloc (.cells #[.int .u64 (f.i : Nat), .int .u64 (f.g : Nat), .int .u64 (f.d : Nat), .int .u64 (f.t : Nat)] 43)).alloc (.cells #[.int .u64 (f.i : Nat), .int .u64 (f.g : Nat)] 57)).alloc (.cells #[.int .i64 (k : Nat)] 3)).heap[wr.heap.size + 2]? = some (.cells #[.int .i64 (k : Nat)] 3 (0, 0))) := Lib.hid (by have h := heap_alloc_new ((wr.alloc (.cells #[.int .u64 (f.i : Nat), .int .u64 (f.g : Nat), .int .u64 (f.d : Nat), .int .u64 (f.t : Nat)] 43)).alloc (.cells #[.int .u64 (f.i : Nat), .int .u64 (f.g : Nat)] 57)) (.cells #[.int .i64 (k : Nat)] 3); simpa using h)
        have C23 : Hid (Ch Nil wr (((wr.alloc (.cells #[.int .u64 (f.i : Nat), .int .u64 (f.g : Nat), .int .u64 (f.d : Nat), .int .u64 (f.t : Nat)] 43)).alloc (.cells #[.int .u64 (f.i : Nat), .int .u64 (f.g : Nat)] 57)).alloc (.cells #[.int .i64 (k : Nat)] 3))) := Lib.hid (CAB.out.alloc _)
        have z0 := ((Ch.refl Nil ((wr.alloc (.cells #[.int .u64 (f.i : Nat), .int .u64 (f.g : Nat), .int .u64 (f.d : Nat), .int .u64 (f.t : Nat)] 43)).alloc (.cells #[.int .u64 (f.i : Nat), .int .u64 (f.g : Nat)] 57))).alloc (.cells #[.int .i64 (k : Nat)] 3)).keeps y0 (fun e => e)
        have z1 := ((Ch.refl Nil ((wr.alloc (.cells #[.int .u64 (f.i : Nat), .int .u64 (f.g : Nat), .int .u64 (f.d : Nat), .int .u64 (f.t : Nat)] 43)).alloc (.cells #[.int .u64 (f.i : Nat), .int .u64 (f.g : Nat)] 57))).alloc (.cells #[.int .i64 (k : Nat)] 3)).keeps y1 (fun e => e)
        have hrl := fun g hg => HR.out.row.lt g hg
        have HRL := Lib.hid hrl
        clear hbad hrl
        have way : (f.t : Int) < (f.d : Int) ∨ (¬ (f.t : Int) < (f.d : Int) ∧ ah = true) := by
          rcases hb with h | h
          · exact .inl (by omega)
          · by_cases h2 : (f.t : Int) < (f.d : Int)
            · exact .inl h2
            · exact .inr ⟨h2, h⟩
        rcases way with hz | ⟨hz, rfl⟩
        all_goals
          try clear hb
          go_wp2_with (at_builtin; refine append_nat _ rfl _ _ _ rfl Try.underlying39 (by kernel_rfl) rfl HMN.out R2.out HL.out (wr.heap.size + 2) 1 k 3 rfl HNB.out _ rfl ?_)
          intro g2 cap2 w2 row ch at_ lt
          have ROW := Lib.hid row
          have CH := Lib.hid ch
          have AT := Lib.hid at_
          have nown : ∀ k, wr.heap.size ≤ k → ¬ OwnS a' k := fun k hk e => by have := HRL.out k e; omega
          have v0 := ch.keeps z0 (nown _ (by simp))
          have v1 := ch.keeps z1 (nown _ (by simp))
          have MM := (HM2.out.kept (S := Nil) ((Ch.refl _ _).alloc (.cells #[.int .i64 (k : Nat)] 3)) (fun e => e)).kept ch (fun e => by have := HR.out.own _ e; omega)
          clear row ch at_ x2 x3 y0 y1 z0 z1
          try clear lk
          obtain ⟨w3, hrun3, m3, c3⟩ := MapK.put MM keyed_shot Try.underlying55 shv_inj (f.i, f.g) HKEY.out (by omega)
          simp only [shv] at hrun3
          have M3 := Lib.hid m3
          have C3 := Lib.hid c3
          clear m3 c3
          go_wp2
          go_roundw
          case rel =>
            have gt : w.heap.size < g2 := by
              rcases AT.out with h | h
              · exact HR.out.own g2 h
              · omega
            refine ⟨k + 1, _, cap2, m + 1, by omega, by go_num, rfl, Lib.hid ⟨?_, ?_, ?_, ?_, ?_⟩⟩
            · rw [HX.out, List.length_append, ← HMN.out]; rfl
            · rw [HX.out, List.length_append]
              refine ROW.out.kept C3.out (fun k hk e => ?_)
              have h1 : g2 = k := by simpa [OwnS] using hk
              have h2 : k = w.heap.size := e
              omega
            · intro g' hg'; cases hg'
              exact gt
            · rw [any_snoc HT.out]; exact M3.out
            · refine ((HR.out.c.trans C23.out).then CH.out fun i hi e => ?_).then C3.out fun i hi e => ?_
              · have := HR.out.own i e; omega
              · cases e; omega
          case measure => simp [intOf]; omega
      · have hbad : isBad L k = false := by
          rw [HB.out, HAH.out]
          cases hh : ah
          · simp; omega
          · exact absurd (.inr hh) hb
        have HX := Lib.hid (show faultsTo L (k + 1) = faultsTo L k by rw [faultsTo_succ, if_neg (by rw [hbad]; simp)])
        have hz : ¬ (f.t : Int) < (f.d : Int) := by omega
        obtain rfl : ah = false := by cases hh : ah; rfl; exact absurd (.inr hh) hb
        clear hbad hb
        obtain ⟨w3, hrun3, m3, c3⟩ := MapK.put HM2.out keyed_shot Try.underlying55 shv_inj (f.i, f.g) HKEY.out (by omega)
        simp only [shv] at hrun3
        have M3 := Lib.hid m3
        have C3 := Lib.hid c3
        clear m3 c3
        go_wp2
        go_roundw
        case rel =>
          refine ⟨k + 1, _, cap', m, by omega, by go_num, rfl, Lib.hid ⟨?_, ?_, HR.out.own, ?_, ?_⟩⟩
          · rw [HX.out]; exact HR.out.n
          · rw [HX.out]; exact (HR.out.row.kept CAB.out (fun _ _ e => e)).kept C3.out (fun k hk e => by cases e; have := HR.out.own _ hk; omega)
          · rw [any_snoc HT.out]; exact M3.out
          · refine (HR.out.c.trans CAB.out).then C3.out fun i hi e => ?_
            cases e; omega
        case measure => simp [intOf]; omega
    · obtain rfl : k = n := by omega
      go_wp2
      go_ret
      exact ⟨a', cap', by rw [HR.out.n]; rfl, HR.out.row, fun g hg => Nat.le_of_lt (HR.out.own g hg), HR.out.c⟩
end Go.Proofs.Ytpihlchocjdpmaa
