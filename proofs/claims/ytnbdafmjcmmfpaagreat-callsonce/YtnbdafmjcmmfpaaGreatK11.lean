import Derived.Test.YtnbdafmjcmmfpaaGreatK10
import Derived.Laws.StructEq
import Derived.Test.YtnbdafmjcmmfpaaGreatK02
import Derived.OrdersIn
import Derived.RegionTactic
import Derived.Test.YtnbdafmjcmmfpaaGreatK03
import Derived.BigQuiet
import Derived.Deep.QuietTactic
/-
  Configs and events held against themselves; of no floor: Note, Trace, Number.
-/
namespace Go.Proofs.YtnbdafmjcmmfpaaGreat
open Go.RowKit Verge
attribute [local go_sem] Oper.semAt_some
set_option linter.unusedVariables false
set_option linter.unusedSimpArgs false

theorem eqField {P : Program} (w : World) (d : Nat) (xs : Array Value) (f : Field) (fs : List Field) (k : IntKind) (x : Int) (hn : f.name ≠ "_") (hp : (part f.type xs f.offset).run P w = .ok (.int k x) w) (hu : P.underlying f.type = some (.int k)) :
    (Op.eqFields (d + 1) xs xs (f :: fs)).run P w = (Op.eqFields (d + 1) xs xs fs).run P w := by
  simp only [Op.eqFields, if_pos hn, Sem.run_bind, hp, Result.andThen_ok, run_equalIn_int w d f.type k k x x hu]
  simp
set_option maxRecDepth 100000 in
set_option maxHeartbeats 2000000 in
/-- alike to itself -/
theorem eqCf (x0 x1 x2 x3 x4 x5 : Int) (w : World) : (Op.equalIn 10000 30 (.agg #[.int .i64 x0, .int .i64 x1, .int .i64 x2, .int .i64 x3, .int .i64 x4, .int .i64 x5]) (.agg #[.int .i64 x0, .int .i64 x1, .int .i64 x2, .int .i64 x3, .int .i64 x4, .int .i64 x5])).run Tryz.prog w = .ok true w := by
  have u3 := Tryz.underlying36
  have a3 := Tryz.isAgg36
  have z3 := Tryz.sizeOf36
  have u4 := Tryz.underlying3
  have a4 := Tryz.isAgg3
  have z4 := Tryz.sizeOf3
  have u5 := Tryz.underlying26
  have a5 := Tryz.isAgg26
  have z5 := Tryz.sizeOf26
  have hS : Tryz.prog.underlying 30 = some (.struct (Tryz.prog.fieldsOf 30)) := by kernel_rfl
  have hp : Tryz.prog.stoodInHeld 30 = false := by kernel_rfl
  rw [show (10000 : Nat) = 9999 + 1 from rfl, run_equalIn_agg w 9999 30 _ _ hS hp]
  simp only [Program.fieldsOf, Tryz.underlying30]
  rw [show (9999 : Nat) = 9998 + 1 from rfl]
  rw [eqField w 9998 _ _ _ .i64 x0 (by decide) (by go_simp) u4]
  rw [eqField w 9998 _ _ _ .i64 x1 (by decide) (by go_simp) u4]
  rw [eqField w 9998 _ _ _ .i64 x2 (by decide) (by go_simp) u4]
  rw [eqField w 9998 _ _ _ .i64 x3 (by decide) (by go_simp) u4]
  rw [eqField w 9998 _ _ _ .i64 x4 (by decide) (by go_simp) u4]
  rw [eqField w 9998 _ _ _ .i64 x5 (by decide) (by go_simp) u4]
  rfl
set_option maxRecDepth 100000 in
set_option maxHeartbeats 2000000 in
/-- alike to itself -/
theorem eqEv (x0 x1 x2 x3 x4 x5 x6 x7 x8 x9 : Int) (w : World) : (Op.equalIn 10000 70 (.agg #[.int .i64 x0, .int .i64 x1, .int .i64 x2, .int .i64 x3, .int .u64 x4, .int .u64 x5, .int .u64 x6, .int .u64 x7, .int .u64 x8, .int .i64 x9]) (.agg #[.int .i64 x0, .int .i64 x1, .int .i64 x2, .int .i64 x3, .int .u64 x4, .int .u64 x5, .int .u64 x6, .int .u64 x7, .int .u64 x8, .int .i64 x9])).run Tryz.prog w = .ok true w := by
  have u3 := Tryz.underlying36
  have a3 := Tryz.isAgg36
  have z3 := Tryz.sizeOf36
  have u4 := Tryz.underlying3
  have a4 := Tryz.isAgg3
  have z4 := Tryz.sizeOf3
  have u5 := Tryz.underlying26
  have a5 := Tryz.isAgg26
  have z5 := Tryz.sizeOf26
  have hS : Tryz.prog.underlying 70 = some (.struct (Tryz.prog.fieldsOf 70)) := by kernel_rfl
  have hp : Tryz.prog.stoodInHeld 70 = false := by kernel_rfl
  rw [show (10000 : Nat) = 9999 + 1 from rfl, run_equalIn_agg w 9999 70 _ _ hS hp]
  simp only [Program.fieldsOf, Tryz.underlying70]
  rw [show (9999 : Nat) = 9998 + 1 from rfl]
  rw [eqField w 9998 _ _ _ .i64 x0 (by decide) (by go_simp) u4]
  rw [eqField w 9998 _ _ _ .i64 x1 (by decide) (by go_simp) u4]
  rw [eqField w 9998 _ _ _ .i64 x2 (by decide) (by go_simp) u4]
  rw [eqField w 9998 _ _ _ .i64 x3 (by decide) (by go_simp) u4]
  rw [eqField w 9998 _ _ _ .u64 x4 (by decide) (by go_simp) u3]
  rw [eqField w 9998 _ _ _ .u64 x5 (by decide) (by go_simp) u3]
  rw [eqField w 9998 _ _ _ .u64 x6 (by decide) (by go_simp) u3]
  rw [eqField w 9998 _ _ _ .u64 x7 (by decide) (by go_simp) u3]
  rw [eqField w 9998 _ _ _ .u64 x8 (by decide) (by go_simp) u3]
  rw [eqField w 9998 _ _ _ .i64 x9 (by decide) (by go_simp) u5]
  rfl
theorem note_nil (u : Ev) (w : World) :
    Calls Tryz.prog 65 #[.pointer none, .agg #[.int .i64 u.k, .int .i64 u.t, .int .i64 u.c, .int .i64 u.h, .int .u64 u.i, .int .u64 u.g, .int .u64 u.d, .int .u64 u.p, .int .u64 u.q, .int .i64 u.e]] w fun e w' => e = .returned (.tuple #[]) ∧ Ch Nil w w' := by
  go_enter Tryz.func65, Tryz.ntmps65
  go_wp2
  go_end0
  exact ⟨rfl, (Ch.refl _ _).alloc _⟩
/-- a row of events held against nil -/
theorem eqlN (w : World) : (binOp .eql 67 (.slice none 0 0) (.slice none 0 0)).run Tryz.prog w = .ok (.bool true) w := by
  have h : ∀ d, (Op.equalIn (d + 1) 67 (.slice none 0 0) (.slice none 0 0)).run Tryz.prog w = .ok true w := fun d => by
    simp [Op.equalIn, run_underlying Tryz.underlying67]
  simp only [binOp]
  simp [show Op.equal 67 (.slice none 0 0) (.slice none 0 0) = Op.equalIn (9999 + 1) 67 (.slice none 0 0) (.slice none 0 0) from rfl, h]
theorem eqlG (a : Addr) (n c : Nat) (w : World) : (binOp .eql 67 (.slice (some a) n c) (.slice none 0 0)).run Tryz.prog w = .ok (.bool false) w := by
  have h : ∀ d, (Op.equalIn (d + 1) 67 (.slice (some a) n c) (.slice none 0 0)).run Tryz.prog w = .ok false w := fun d => by
    simp [Op.equalIn, run_underlying Tryz.underlying67]
  simp only [binOp]
  simp [show Op.equal 67 (.slice (some a) n c) (.slice none 0 0) = Op.equalIn (9999 + 1) 67 (.slice (some a) n c) (.slice none 0 0) from rfl, h]
theorem clone_nil (w : World) :
    Calls Tryz.prog 56 #[.slice none 0 0] w fun e w' => e = .returned (.slice none 0 0) ∧ w = w' := by
  have hE := eqlN
  go_enter Tryz.func56, Tryz.ntmps56
  go_wp2
  go_ret
  exact ⟨rfl, rfl⟩
theorem trace_nil (w : World) :
    Calls Tryz.prog 28 #[.pointer none] w fun e w' => e = .returned (.slice none 0 0) ∧ Ch Nil w w' := by
  have hfld := fld9
  go_enter Tryz.func28, Tryz.ntmps28
  go_wp2_with fail
  refine (whole_nil _).mono ?_
  rintro e w1 ⟨rfl, c1⟩
  have C1 := Lib.hid c1
  clear c1
  go_wp2_with fail
  refine (clone_nil _).mono ?_
  rintro e w2 ⟨rfl, rfl⟩
  go_wp2
  go_ret
  exact ⟨rfl, C1.out⟩
theorem trace_new {w : World} {F : Fb} (h : IsF w F none 0 0) :
    Calls Tryz.prog 28 #[.pointer (some ⟨F.f, 0, none⟩)] w fun e w' => e = .returned (.slice none 0 0) ∧ Ch Nil w w' := by
  have hfld := fld9
  have H := Lib.hid h
  clear h
  go_enter Tryz.func28, Tryz.ntmps28
  go_wp2_with fail
  refine (whole_of H.out).mono ?_
  rintro e w1 ⟨rfl, c1⟩
  have C1 := Lib.hid c1
  clear c1
  go_wp2_with fail
  refine (clone_nil _).mono ?_
  rintro e w2 ⟨rfl, rfl⟩
  go_wp2
  go_ret
  exact ⟨rfl, C1.out⟩
end Go.Proofs.YtnbdafmjcmmfpaaGreat

/-
  A region that draws its order, in a round of a range over a function: its reading head in the text's order, its tail walked as anywhere.
-/
namespace Go.Proofs.YtnbdafmjcmmfpaaGreat
open Go.RowKit
set_option linter.unusedVariables false

/-- a round's frame carries out what is no defer statement as every frame does -/
theorem op_round {P : Program} {ops : Array Oper} {Q : Exit → Act → World → Prop} {l n i : Nat} {K K' : Act → World → Prop} (hK : ∀ a w, K a w → K' a w) (hL : ¬ LetsOut Q)
    (hd : ∀ (i : Nat) (o : Oper) c, ops[i]? = some o → o.op ≠ .defer c) {a : Act} {w : World} (h : wpOp P ops Q i K a w) : wpOpIn (Fence.wide.inRound l) n P ops Q i K' a w := by
  unfold wpOp at h
  unfold wpOpIn
  cases ho : ops[i]? with
  | none => rw [ho] at h; exact hK _ _ h
  | some o =>
    rw [ho] at h
    simp only at h ⊢
    split at h
    · rename_i hw
      rw [if_pos hw]
      rcases h with h | ⟨-, h⟩
      · refine ⟨fun _ _ => trivial, ?_⟩
        rw [Oper.semAt_eq _ _ _ (fun c => hd i o c ho)]
        unfold Oper.wp at h
        generalize (execOp a.eval o).run P w = r at h
        cases r with
        | ok x w' =>
          cases x with
          | value v => exact hK _ _ h
          | skip => exact hK _ _ h
          | defer d => exact hK _ _ h
          | enter f args =>
            refine ⟨fun h => (by cases h), CallsIn.inRound l (callsIn_wide.2 (Calls.mono h ?_))⟩
            intro e w'' he
            cases e with
            | returned v => exact hK _ _ he
            | panicked c => exact he
            | outgrown => exact he
          | row row args =>
            refine ⟨fun h => (by cases h), fun c cs _ => ?_⟩
            obtain ⟨v, w'', hr, hs⟩ := h c cs
            exact ⟨v, w'', hK _ _ hr, stepsIn_wide.2 hs⟩
          | _ => exact h.elim
        | halt x w' => cases x <;> first | exact h | exact h.elim
      · exact absurd h hL
    · rename_i hw
      rw [if_neg hw]
      exact ⟨fun _ _ => trivial, hK _ _ h⟩

theorem any_round {P : Program} {ops : Array Oper} {md : Region.Mode} {Q : Exit → Act → World → Prop} {l n : Nat} (hL : ¬ LetsOut Q) (hd : ∀ (i : Nat) (o : Oper) c, ops[i]? = some o → o.op ≠ .defer c) :
    ∀ (g : Nat) (listed : Array Bool) (a : Act) (w : World), wpAny P md ops Q g listed a w → wpAnyIn (Fence.wide.inRound l) n P md ops Q g listed a w
  | 0, _, _, _, h => h
  | g + 1, _, _, _, h => ⟨h.1, fun i hi => op_round (fun a' w' h' => any_round hL hd g _ a' w' h') hL hd (h.2 i hi)⟩

/-- no operation is a defer statement -/
def noDefer (ops : Array Oper) : Bool := ops.all fun o => match o.op with | .defer _ => false | _ => true
theorem noDefer_spec {ops : Array Oper} (h : noDefer ops = true) (i : Nat) (o : Oper) (c : Call) (ho : ops[i]? = some o) : o.op ≠ .defer c := by
  intro e
  obtain ⟨hi, hg⟩ := Array.getElem?_eq_some_iff.1 ho
  have := Array.all_eq_true.1 h i hi
  rw [hg, e] at this
  cases this

/-- append of one element, at a step of a region that draws its order -/
theorem step_row {P : Program} {w : World} {ops : Array Oper} {o : Oper} {act : Act} {K : Act → World → Prop} {Q : Exit → Act → World → Prop} {E : Prop} (hgd : o.guard = none) (s x : Operand) (t : TypeId)
    (ho : o.op = .call { callee := .builtin .append, args := #[s, x], argTypes := #[t, t] })
    (e : TypeId) (z : Value) (size bytes : Nat) (ht : P.underlying t = some (.slice e)) (hi : (P.info? e).map (fun i => (i.zero, i.size, i.bytes)) = some (some z, size, bytes))
    (hzs : z.cells.size = size) (hsz : 0 < size) (hby : bytes ≤ 1000)
    {a : Option Addr} {n cap : Nat} {f : Nat → Value} (hs : act.eval s = .slice a n cap) (hrow : Row w e size a n cap f) (hn : n ≤ 1000000)
    (B c : Nat) (news : List Value) (T : TypeId) (hx : act.eval x = .slice (some ⟨B, 0, none⟩) 1 c) (hl : news.length = size) (hb : w.heap[B]? = some (.cells news.toArray T (0, 0))) (h1 : ∀ u ∈ news, u.oneCell' = true)
    (f' : Nat → Value) (hf : ∀ i, i < n * size → f' i = f i) (hf2 : ∀ j u, news[j]? = some u → f' (n * size + j) = u) (H : Nat) (hH : w.heap.size = H)
    (h : ∀ g cap' w', Row w' e size (some ⟨g, 0, none⟩) (n + 1) cap' f' → Ch (OwnS a) w w' → (OwnS a g ∨ g = H) → g < w'.heap.size → K (act.put o.dst (.slice (some ⟨g, 0, none⟩) (n + 1) cap')) w') :
    if Region.wanted o (yielded ops act.tmps) = true then Oper.wp P o act w K Q else E := by
  obtain ⟨i, hi', he⟩ := Option.map_eq_some_iff.1 hi
  simp only [Prod.mk.injEq] at he
  obtain ⟨hz, hsize, hbytes⟩ := he
  have hlist : (List.range ((n + 1) * size)).map f' = (List.range (n * size)).map f ++ news := by
    apply List.ext_getElem
    · simp [hl, Nat.add_mul]
    · intro j hj1 hj2
      rw [List.getElem_map, List.getElem_range]
      by_cases hj : j < n * size
      · rw [List.getElem_append_left (by simpa using hj)]
        simp only [List.getElem_map, List.getElem_range]
        exact hf j hj
      · rw [List.getElem_append_right (by simpa using hj)]
        have hj3 : j - n * size < news.length := by
          simp [Nat.add_mul] at hj1; omega
        have := hf2 (j - n * size) _ (List.getElem?_eq_getElem hj3)
        rw [show n * size + (j - n * size) = j by omega] at this
        rw [this]
        congr 1
        simp
  have hob : (Value.slice a n cap).ownBlock = a.map (·.block) := by cases a <;> rfl
  refine step_append_lies w hgd s x t ho 0 e i z size bytes ht hi' hz hsize hbytes hzs hsz _ n _ hs hrow ⟨B, 0, none⟩ 1 c news hx (by omega) ?_ h1 (by omega) ?_ ?_ (Nat.zero_le _) H hH ?_
  · have := World.news_of_block hb
    simpa using this
  · simp only [maxLen]; omega
  · have : (n + 1) * bytes ≤ 1000001 * 1000 := Nat.mul_le_mul (by omega) hby
    omega
  · intro g cap' w1 hown hgrow hat hlt
    rw [hob] at hgrow hat
    refine h g cap' w1 ?_ (Ch.of_grown hgrow) hat hlt
    unfold Row
    rw [hlist]
    exact hown
end Go.Proofs.YtnbdafmjcmmfpaaGreat

/-
  Events in memory: rows of them; a floor's Note and Trace; the document's Events.
-/
namespace Go.Proofs.YtnbdafmjcmmfpaaGreat
open Go.RowKit Verge
attribute [local go_sem] Oper.semAt_some
set_option linter.unusedVariables false
set_option linter.unusedSimpArgs false

def evV (u : Ev) : List Value := [.int .i64 u.k, .int .i64 u.t, .int .i64 u.c, .int .i64 u.h, .int .u64 u.i, .int .u64 u.g, .int .u64 u.d, .int .u64 u.p, .int .u64 u.q, .int .i64 u.e]
def evc (u : Ev) (j : Nat) : Value := (evV u).getD j (.bool false)
theorem lt10 {j : Nat} (h : j < 10) : j = 0 ∨ j = 1 ∨ j = 2 ∨ j = 3 ∨ j = 4 ∨ j = 5 ∨ j = 6 ∨ j = 7 ∨ j = 8 ∨ j = 9 := by omega
theorem evV_get {u : Ev} {j : Nat} {v : Value} (h : (evV u)[j]? = some v) : j < 10 ∧ v = evc u j := by
  have hj : j < 10 := (List.getElem?_eq_some_iff.1 h).1
  exact ⟨hj, by unfold evc; rw [List.getD_eq_getElem?_getD, h]; rfl⟩
/-- the cells of a row of events -/
def ec (L : List Ev) (k : Nat) : Value := match L[k / 10]? with | some f => evc f (k % 10) | none => .bool false
theorem ec_at {L : List Ev} {i : Nat} {f : Ev} (h : L[i]? = some f) {j : Nat} (hj : j < 10) : ec L (i * 10 + j) = evc f j := by
  unfold ec
  rw [show (i * 10 + j) / 10 = i by omega, show (i * 10 + j) % 10 = j by omega, h]
theorem ec_left {L : List Ev} (M : List Ev) {k : Nat} (hk : k < L.length * 10) : ec (L ++ M) k = ec L k := by
  unfold ec
  rw [List.getElem?_append_left (by omega)]
theorem ec_snoc {L : List Ev} (f : Ev) {j : Nat} (hj : j < 10) : ec (L ++ [f]) (L.length * 10 + j) = evc f j := ec_at (by simp) hj
/-- where an event's ten cells lie -/
def IsEv (w : World) (b o : Nat) (u : Ev) : Prop := ∀ j, j < 10 → w.cell? ⟨b, o + j, none⟩ = some (evc u j)
/-- a slice that leads to a row of events -/
def ESrc (w : World) (a : Option Addr) (L : List Ev) : Prop := L = [] ∨ ∃ b o, a = some ⟨b, o, none⟩ ∧ ∀ i f, L[i]? = some f → IsEv w b (o + i * 10) f
/-- a row of events that the call owns -/
abbrev ERow (w : World) (a : Option Addr) (cap : Nat) (L : List Ev) : Prop := Row w 70 10 a L.length cap (ec L)
section
variable {w w' : World} {a : Option Addr} {L M : List Ev} {S : Nat → Prop} {cap b o : Nat} {u : Ev}
theorem IsEv.lt (h : IsEv w b o u) : b < w.heap.size := lt_of_cell (h 0 (by omega))
theorem IsEv.kept (h : IsEv w b o u) (c : Ch S w w') (hn : ¬ S b) : IsEv w' b o u := fun j hj => c.keeps (h j hj) hn
theorem IsEv.cells (h : IsEv w b o u) : w.cell? ⟨b, o, none⟩ = some (.int .i64 u.k) ∧ w.cell? ⟨b, o + 1, none⟩ = some (.int .i64 u.t) ∧ w.cell? ⟨b, o + 2, none⟩ = some (.int .i64 u.c) ∧ w.cell? ⟨b, o + 3, none⟩ = some (.int .i64 u.h) ∧ w.cell? ⟨b, o + 4, none⟩ = some (.int .u64 u.i) ∧ w.cell? ⟨b, o + 5, none⟩ = some (.int .u64 u.g) ∧ w.cell? ⟨b, o + 6, none⟩ = some (.int .u64 u.d) ∧ w.cell? ⟨b, o + 7, none⟩ = some (.int .u64 u.p) ∧ w.cell? ⟨b, o + 8, none⟩ = some (.int .u64 u.q) ∧ w.cell? ⟨b, o + 9, none⟩ = some (.int .i64 u.e) :=
  ⟨h 0 (by omega), h 1 (by omega), h 2 (by omega), h 3 (by omega), h 4 (by omega), h 5 (by omega), h 6 (by omega), h 7 (by omega), h 8 (by omega), h 9 (by omega)⟩
theorem ESrc.kept (h : ESrc w a L) (c : Ch S w w') (hn : ∀ k, OwnS a k → ¬ S k) : ESrc w' a L := by
  rcases h with h | ⟨b, o, rfl, h⟩
  · exact .inl h
  · exact .inr ⟨b, o, rfl, fun i f hf => (h i f hf).kept c (hn b rfl)⟩
theorem ESrc.form (h : ESrc w a L) (hp : 0 < L.length) : ∃ b o, a = some ⟨b, o, none⟩ ∧ b < w.heap.size ∧ ∀ i f, L[i]? = some f → IsEv w b (o + i * 10) f := by
  rcases h with h | ⟨b, o, e, h⟩
  · rw [h] at hp; simp at hp
  · obtain ⟨f, hf⟩ : ∃ f, L[0]? = some f := ⟨_, List.getElem?_eq_getElem hp⟩
    exact ⟨b, o, e, (h 0 f hf).lt, h⟩
theorem ERow.src (h : ERow w a cap L) : ESrc w a L := by
  by_cases hl : L = []
  · exact .inl hl
  · obtain ⟨g, rfl, -⟩ := h.form (List.length_pos_iff.2 hl)
    refine .inr ⟨g, 0, rfl, fun i f hf j hj => ?_⟩
    have hi := (List.getElem?_eq_some_iff.1 hf).1
    have := h.cell (i * 10 + j) (by omega)
    rw [ec_at hf hj] at this
    simpa using this
end
/-- a row of events made anew, as long as it is -/
theorem clone_of {w : World} {a : Addr} {n c : Nat} {L : List Ev} (h : ESrc w (some a) L) (hn : n = L.length) (hl : n ≤ 1000000) (hp : 0 < n) :
    Calls Tryz.prog 56 #[.slice (some a) n c] w fun e w' => ∃ a' c', e = .returned (.slice a' n c') ∧ ESrc w' a' L ∧ Ch Nil w w' := by
  have hE := eqlG
  obtain ⟨b, o, hab, hlt, hcell⟩ := h.form (by omega)
  cases hab
  have cA : Ch Nil w (w.alloc (Obj.cells #[] 70)) := (Ch.refl _ _).alloc _
  have r0 : Row (w.alloc (Obj.cells #[] 70)) 70 10 (some ⟨w.heap.size, 0, none⟩) 0 0 (ec []) := ⟨by simp, .inr ⟨w.heap.size, 0, #[], rfl, Nat.zero_le _, heap_alloc_new w _, Nat.le_refl _, Nat.zero_le _, rfl, rfl⟩⟩
  have R0 := Lib.hid r0
  have CA := Lib.hid cA
  have HN := Lib.hid hn
  have hi : (Tryz.prog.info? 70).map (fun i => (i.zero, i.size, decide (i.bytes ≤ 1000))) = some (some (.agg #[.int .i64 0, .int .i64 0, .int .i64 0, .int .i64 0, .int .u64 0, .int .u64 0, .int .u64 0, .int .u64 0, .int .u64 0, .int .i64 0]), 10, true) := by kernel_rfl
  obtain ⟨i, hi', he⟩ := Option.map_eq_some_iff.1 hi
  simp only [Prod.mk.injEq, decide_eq_true_eq] at he
  obtain ⟨hz, hsize, hby⟩ := he
  have HI := Lib.hid (And.intro hi' (And.intro hz (And.intro hsize hby)))
  have HCL := Lib.hid hcell
  have hpz : (0 : Int) < (n : Int) := by omega
  have hn0 : ¬ n = 0 := by omega
  clear h r0 cA hn hi hi' hz hsize hby hcell hlt
  go_enter Tryz.func56, Tryz.ntmps56
  go_wp2_with (at_builtin; refine wpList_append_lies _ rfl _ _ _ rfl 0 70 i _ 10 i.bytes Tryz.underlying67 HI.out.1 HI.out.2.1 HI.out.2.2.1 rfl rfl (by omega) _ 0 _ rfl R0.out ⟨b, o, none⟩ n c ((List.range (n * 10)).map (ec L)) rfl (by simp) ?_ ?_ (by omega) (by simp only [maxLen]; omega) (by have h1 := HI.out.2.2.2; have h2 : (0 + n) * i.bytes ≤ 1000000 * 1000 := Nat.mul_le_mul (by omega) h1; omega) (Nat.zero_le _) _ rfl ?_)
  · intro j u hu
    rw [List.getElem?_map] at hu
    by_cases hj : j < n * 10
    · rw [List.getElem?_range hj] at hu
      simp only [Option.map_some, Option.some.injEq] at hu
      subst hu
      obtain ⟨f, hf⟩ : ∃ f, L[j / 10]? = some f := ⟨_, List.getElem?_eq_getElem (by have := HN.out; omega)⟩
      have h1 := CA.out.keeps (HCL.out (j / 10) f hf (j % 10) (by omega)) (fun e => e)
      rw [show o + j / 10 * 10 + j % 10 = o + j by omega] at h1
      have hadd : (⟨b, o, none⟩ : Addr).add j = ⟨b, o + j, none⟩ := by unfold Addr.add; split <;> simp_all
      rw [hadd, h1]
      unfold ec
      rw [hf]
    · rw [List.getElem?_eq_none (by simp; omega)] at hu; simp at hu
  · intro u hu
    simp only [List.mem_map, List.mem_range] at hu
    obtain ⟨j, hj, rfl⟩ := hu
    obtain ⟨f, hf⟩ : ∃ f, L[j / 10]? = some f := ⟨_, List.getElem?_eq_getElem (by have := HN.out; omega)⟩
    unfold ec
    rw [hf]
    rcases lt10 (show j % 10 < 10 by omega) with e | e | e | e | e | e | e | e | e | e <;> simp [e, evc, evV, Value.oneCell']
  · intro g cap' w1 hown hgrow hat hlt2
    have row : Row w1 70 10 (some ⟨g, 0, none⟩) L.length cap' (ec L) := by
      have e0 := HN.out
      subst e0
      have := hown
      first | exact this | (simp only [Nat.zero_add, List.nil_append, List.range_zero, List.map_nil, Nat.zero_mul] at this; exact this)
    have NX := Lib.hid (And.intro (ERow.src row) (CA.out.then (Ch.of_grown hgrow) (fun k hk e => by
      have e' : some w.heap.size = some k := e
      cases e'; omega)))
    clear hown hgrow hat hlt2 row
    go_wp2
    go_ret
    exact ⟨some ⟨g, 0, none⟩, cap', by simp, NX.out.1, NX.out.2⟩
section
variable {w : World} {F : Fb} {a : Option Addr} {tc : Nat} {L : List Ev}
theorem trace_of (h : IsF w F a L.length tc) (r : ERow w a tc L) (ha : L = [] → a = none ∧ tc = 0) (n : Nat) (hn : n = L.length) (hl : n ≤ 1000000) :
    Calls Tryz.prog 28 #[.pointer (some ⟨F.f, 0, none⟩)] w fun e w' => ∃ a' c', e = .returned (.slice a' n c') ∧ ESrc w' a' L ∧ Ch Nil w w' := by
  by_cases h0 : L = []
  · obtain ⟨rfl, rfl⟩ := ha h0
    subst h0
    simp only [List.length_nil] at h hn
    subst hn
    exact (trace_new h).mono fun e w' ⟨he, c⟩ => ⟨none, 0, he, .inl rfl, c⟩
  · have hp : 0 < n := by rw [hn]; exact List.length_pos_iff.2 h0
    obtain ⟨g, rfl, -⟩ := r.form (by omega)
    rw [← hn] at h
    have hfld := fld9
    have H := Lib.hid h
    have SR := Lib.hid (ERow.src r)
    have HN := Lib.hid hn
    clear h r ha h0 hn
    go_enter Tryz.func28, Tryz.ntmps28
    go_wp2_with fail
    refine (whole_of H.out).mono ?_
    rintro e w1 ⟨rfl, c1⟩
    have C1 := Lib.hid c1
    clear c1
    go_wp2_with fail
    refine (clone_of (SR.out.kept C1.out (fun _ _ e => e)) HN.out hl hp).mono ?_
    rintro e w2 ⟨a', c', rfl, s2, c2⟩
    have S2 := Lib.hid s2
    have C2 := Lib.hid (C1.out.trans c2)
    clear s2 c2
    go_wp2
    go_ret
    exact ⟨a', c', rfl, S2.out, C2.out⟩
end
end Go.Proofs.YtnbdafmjcmmfpaaGreat

/-
  A floor as the statement on its acts sees it; Note.
-/
namespace Verge
/-- what is counted, whether it is closed, its time, its trace -/
structure St where
  i : Nat
  b : Nat
  cl : Bool
  t : Nat
  L : List Ev
/-- an act: its kind, on, an event -/
structure Ax where
  k : Int
  on : Bool
  u : Ev
end Verge
namespace Go.Proofs.YtnbdafmjcmmfpaaGreat
open Go.RowKit Verge
attribute [local go_sem] Oper.semAt_some
set_option linter.unusedVariables false
set_option linter.unusedSimpArgs false

structure Fl (w : World) (F : Fb) (s : St) (a : Option Addr) (tc : Nat) : Prop where
  fl : IsF w F a s.L.length tc
  pc : IsB w F.cl s.cl
  pi : IsJ w F.ins 0 (s.i : Nat)
  pb : IsJ w F.bz 0 (s.b : Nat)
  pn : IsU w F.nw 0 (s.t : Nat)
  tr : ERow w a tc s.L
  ta : s.L = [] → a = none ∧ tc = 0
  o : ∃ lo, Ord lo F
  tb : ∀ k, OwnS a k → F.f < k
/-- what a floor's calls may turn -/
def FS (F : Fb) (a : Option Addr) : Nat → Prop := fun k => k = F.cl ∨ k = F.ins ∨ k = F.bz ∨ k = F.nw ∨ k = F.f ∨ OwnS a k
section
variable {S : Nat → Prop} {w w' : World} {F : Fb} {s : St} {a : Option Addr} {tc : Nat}
theorem Ord.ids {lo : Nat} (o : Ord lo F) : lo ≤ F.cl ∧ F.cl < F.ins ∧ F.ins < F.bz ∧ F.bz < F.nw ∧ F.nw < F.f := by
  have := o.o1; have := o.o2; have := o.o3; have := o.o4; have := o.o5; have := o.o6; omega
theorem Fl.kept (h : Fl w F s a tc) (c : Ch S w w') (hn : ∀ k, FS F a k → ¬ S k) : Fl w' F s a tc :=
  ⟨h.fl.kept c (hn _ (by simp [FS])), h.pc.kept c (hn _ (by simp [FS])), h.pi.kept c (hn _ (by simp [FS])), h.pb.kept c (hn _ (by simp [FS])), h.pn.kept c (hn _ (by simp [FS])), h.tr.kept c (fun k hk => hn k (by simp [FS, hk])), h.ta, h.o, h.tb⟩
theorem Fl.quiet (h : Fl w F s a tc) (c : Ch Nil w w') : Fl w' F s a tc := h.kept c (fun _ _ e => e)
theorem Fl.lt (h : Fl w F s a tc) {k : Nat} (hk : FS F a k) : k < w.heap.size := by
  rcases hk with rfl | rfl | rfl | rfl | rfl | hk
  · exact h.pc.lt
  · exact h.pi.lt
  · exact h.pb.lt
  · exact h.pn.lt
  · exact h.fl.lt
  · exact h.tr.lt k hk
theorem Fl.up_i {v : Nat} (h : Fl w F s a tc) (c : Ch (One F.ins) w w') (j : IsJ w' F.ins 0 (v : Nat)) : Fl w' F { s with i := v } a tc ∧ Ch (FS F a) w w' := by
  obtain ⟨lo, o⟩ := h.o
  obtain ⟨o1, o2, o3, o4, o5⟩ := o.ids
  refine ⟨⟨h.fl.kept c (fun e => by have e' : F.f = F.ins := e; omega), h.pc.kept c (fun e => by have e1 : F.cl = F.ins := e; omega), j, h.pb.kept c (fun e => by have e1 : F.bz = F.ins := e; omega), h.pn.kept c (fun e => by have e1 : F.nw = F.ins := e; omega), h.tr.kept c (fun k hk e => by have := h.tb k hk; have e' : k = F.ins := e; omega), h.ta, h.o, h.tb⟩, c.mono (fun k _ e => by have e' : k = F.ins := e; simp [FS, e'])⟩
theorem Fl.up_b {v : Nat} (h : Fl w F s a tc) (c : Ch (One F.bz) w w') (j : IsJ w' F.bz 0 (v : Nat)) : Fl w' F { s with b := v } a tc ∧ Ch (FS F a) w w' := by
  obtain ⟨lo, o⟩ := h.o
  obtain ⟨o1, o2, o3, o4, o5⟩ := o.ids
  refine ⟨⟨h.fl.kept c (fun e => by have e' : F.f = F.bz := e; omega), h.pc.kept c (fun e => by have e1 : F.cl = F.bz := e; omega), h.pi.kept c (fun e => by have e1 : F.ins = F.bz := e; omega), j, h.pn.kept c (fun e => by have e1 : F.nw = F.bz := e; omega), h.tr.kept c (fun k hk e => by have := h.tb k hk; have e' : k = F.bz := e; omega), h.ta, h.o, h.tb⟩, c.mono (fun k _ e => by have e' : k = F.bz := e; simp [FS, e'])⟩
theorem Fl.up_c {v : Bool} (h : Fl w F s a tc) (c : Ch (One F.cl) w w') (j : IsB w' F.cl v) : Fl w' F { s with cl := v } a tc ∧ Ch (FS F a) w w' := by
  obtain ⟨lo, o⟩ := h.o
  obtain ⟨o1, o2, o3, o4, o5⟩ := o.ids
  refine ⟨⟨h.fl.kept c (fun e => by have e' : F.f = F.cl := e; omega), j, h.pi.kept c (fun e => by have e1 : F.ins = F.cl := e; omega), h.pb.kept c (fun e => by have e1 : F.bz = F.cl := e; omega), h.pn.kept c (fun e => by have e1 : F.nw = F.cl := e; omega), h.tr.kept c (fun k hk e => by have := h.tb k hk; have e' : k = F.cl := e; omega), h.ta, h.o, h.tb⟩, c.mono (fun k _ e => by have e' : k = F.cl := e; simp [FS, e'])⟩
theorem Fl.up_t {v : Nat} (h : Fl w F s a tc) (c : Ch (One F.nw) w w') (j : IsU w' F.nw 0 (v : Nat)) : Fl w' F { s with t := v } a tc ∧ Ch (FS F a) w w' := by
  obtain ⟨lo, o⟩ := h.o
  obtain ⟨o1, o2, o3, o4, o5⟩ := o.ids
  refine ⟨⟨h.fl.kept c (fun e => by have e' : F.f = F.nw := e; omega), h.pc.kept c (fun e => by have e1 : F.cl = F.nw := e; omega), h.pi.kept c (fun e => by have e1 : F.ins = F.nw := e; omega), h.pb.kept c (fun e => by have e1 : F.bz = F.nw := e; omega), j, h.tr.kept c (fun k hk e => by have := h.tb k hk; have e' : k = F.nw := e; omega), h.ta, h.o, h.tb⟩, c.mono (fun k _ e => by have e' : k = F.nw := e; simp [FS, e'])⟩

set_option maxHeartbeats 8000000 in
set_option maxRecDepth 100000 in
theorem note_fl (h : Fl w F s a tc) (hl : s.L.length ≤ 100000) (u : Ev) :
    Calls Tryz.prog 65 #[.pointer (some ⟨F.f, 0, none⟩), .agg #[.int .i64 u.k, .int .i64 u.t, .int .i64 u.c, .int .i64 u.h, .int .u64 u.i, .int .u64 u.g, .int .u64 u.d, .int .u64 u.p, .int .u64 u.q, .int .i64 u.e]] w fun e w' => ∃ a' tc', e = .returned (.tuple #[]) ∧ Fl w' F { s with L := s.L ++ [u] } a' tc' ∧ Ch (FS F a) w w' ∧ ∀ k, OwnS a' k → OwnS a k ∨ w.heap.size ≤ k := by
  have cA : Ch Nil w (w.alloc (Obj.cells #[.int .i64 u.k, .int .i64 u.t, .int .i64 u.c, .int .i64 u.h, .int .u64 u.i, .int .u64 u.g, .int .u64 u.d, .int .u64 u.p, .int .u64 u.q, .int .i64 u.e] 70)) := (Ch.refl _ _).alloc _
  have bx : IsVs (w.alloc (Obj.cells #[.int .i64 u.k, .int .i64 u.t, .int .i64 u.c, .int .i64 u.h, .int .u64 u.i, .int .u64 u.g, .int .u64 u.d, .int .u64 u.p, .int .u64 u.q, .int .i64 u.e] 70)) w.heap.size [.int .i64 u.k, .int .i64 u.t, .int .i64 u.c, .int .i64 u.h, .int .u64 u.i, .int .u64 u.g, .int .u64 u.d, .int .u64 u.p, .int .u64 u.q, .int .i64 u.e] := IsVs.new w [.int .i64 u.k, .int .i64 u.t, .int .i64 u.c, .int .i64 u.h, .int .u64 u.i, .int .u64 u.g, .int .u64 u.d, .int .u64 u.p, .int .u64 u.q, .int .i64 u.e] 70
  have FA := Lib.hid (h.quiet cA)
  have LTA := Lib.hid (fun k (hk : FS F a k) => h.lt hk)
  have CA := Lib.hid cA
  obtain ⟨L, hL⟩ : ∃ L, L = s.L := ⟨_, rfl⟩
  obtain ⟨nl, hnl⟩ : ∃ nl, nl = L.length := ⟨_, rfl⟩
  have HLS := Lib.hid hL
  have HNL := Lib.hid hnl
  have hLn : nl ≤ 1000000 := by rw [hnl, hL]; omega
  clear h cA hL hnl hl
  go_enter Tryz.func65, Tryz.ntmps65
  go_upto_region 2 with (fail)
  generalize w.alloc (Obj.cells #[.int .i64 u.k, .int .i64 u.t, .int .i64 u.c, .int .i64 u.h, .int .u64 u.i, .int .u64 u.g, .int .u64 u.d, .int .u64 u.p, .int .u64 u.q, .int .i64 u.e] 70) = W at FA bx CA ⊢
  obtain ⟨B, hB⟩ : ∃ B, B = w.heap.size := ⟨_, rfl⟩
  rw [← hB] at bx ⊢
  have HB := Lib.hid hB
  have nab : ¬ OwnS a B := fun e => by have := LTA.out B (by simp [FS, e]); omega
  have nar : ¬ OwnS a F.f := fun e => by have := FA.out.tb _ e; omega
  have nbb : ¬ B = F.f := fun e => by have := LTA.out F.f (by simp [FS]); omega
  have y := (bx.kept (show Ch Nil W W.drew from (Ch.refl _ _).drew) (fun e => e)).cells10
  have R8 := Lib.hid (FA.out.quiet (show Ch Nil W W.drew from (Ch.refl _ _).drew))
  have CW := Lib.hid (CA.out.trans (show Ch Nil W W.drew from (Ch.refl _ _).drew))
  clear bx FA hB
  refine wp_region_held_drew (S := fun w' => w'.cell? ⟨B, 0, none⟩ = some (.int .i64 u.k) ∧ w'.cell? ⟨B, 1, none⟩ = some (.int .i64 u.t) ∧ w'.cell? ⟨B, 2, none⟩ = some (.int .i64 u.c) ∧ w'.cell? ⟨B, 3, none⟩ = some (.int .i64 u.h) ∧ w'.cell? ⟨B, 4, none⟩ = some (.int .u64 u.i) ∧ w'.cell? ⟨B, 5, none⟩ = some (.int .u64 u.g) ∧ w'.cell? ⟨B, 6, none⟩ = some (.int .u64 u.d) ∧ w'.cell? ⟨B, 7, none⟩ = some (.int .u64 u.p) ∧ w'.cell? ⟨B, 8, none⟩ = some (.int .u64 u.q) ∧ w'.cell? ⟨B, 9, none⟩ = some (.int .i64 u.e)) (by kernel_rfl) y (fun hHeld => ?_)
  clear y
  generalize W.drew = X at *
  have cX : Ch Nil X (X.alloc (.cells #[.int .i64 u.k, .int .i64 u.t, .int .i64 u.c, .int .i64 u.h, .int .u64 u.i, .int .u64 u.g, .int .u64 u.d, .int .u64 u.p, .int .u64 u.q, .int .i64 u.e] 70)) := (Ch.refl _ _).alloc _
  have c1 := (show X.cell? ⟨F.f, 14, none⟩ = some (.slice a nl tc) from by have := R8.out.fl.c 14 _ rfl; rw [← HLS.out, ← HNL.out] at this; exact this)
  have c2 := cX.keeps c1 (fun e => e)
  have S2 : (X.alloc (.cells #[.int .i64 u.k, .int .i64 u.t, .int .i64 u.c, .int .i64 u.h, .int .u64 u.i, .int .u64 u.g, .int .u64 u.d, .int .u64 u.p, .int .u64 u.q, .int .i64 u.e] 70)).cell? ⟨B, 0, none⟩ = some (.int .i64 u.k) ∧ (X.alloc (.cells #[.int .i64 u.k, .int .i64 u.t, .int .i64 u.c, .int .i64 u.h, .int .u64 u.i, .int .u64 u.g, .int .u64 u.d, .int .u64 u.p, .int .u64 u.q, .int .i64 u.e] 70)).cell? ⟨B, 1, none⟩ = some (.int .i64 u.t) ∧ (X.alloc (.cells #[.int .i64 u.k, .int .i64 u.t, .int .i64 u.c, .int .i64 u.h, .int .u64 u.i, .int .u64 u.g, .int .u64 u.d, .int .u64 u.p, .int .u64 u.q, .int .i64 u.e] 70)).cell? ⟨B, 2, none⟩ = some (.int .i64 u.c) ∧ (X.alloc (.cells #[.int .i64 u.k, .int .i64 u.t, .int .i64 u.c, .int .i64 u.h, .int .u64 u.i, .int .u64 u.g, .int .u64 u.d, .int .u64 u.p, .int .u64 u.q, .int .i64 u.e] 70)).cell? ⟨B, 3, none⟩ = some (.int .i64 u.h) ∧ (X.alloc (.cells #[.int .i64 u.k, .int .i64 u.t, .int .i64 u.c, .int .i64 u.h, .int .u64 u.i, .int .u64 u.g, .int .u64 u.d, .int .u64 u.p, .int .u64 u.q, .int .i64 u.e] 70)).cell? ⟨B, 4, none⟩ = some (.int .u64 u.i) ∧ (X.alloc (.cells #[.int .i64 u.k, .int .i64 u.t, .int .i64 u.c, .int .i64 u.h, .int .u64 u.i, .int .u64 u.g, .int .u64 u.d, .int .u64 u.p, .int .u64 u.q, .int .i64 u.e] 70)).cell? ⟨B, 5, none⟩ = some (.int .u64 u.g) ∧ (X.alloc (.cells #[.int .i64 u.k, .int .i64 u.t, .int .i64 u.c, .int .i64 u.h, .int .u64 u.i, .int .u64 u.g, .int .u64 u.d, .int .u64 u.p, .int .u64 u.q, .int .i64 u.e] 70)).cell? ⟨B, 6, none⟩ = some (.int .u64 u.d) ∧ (X.alloc (.cells #[.int .i64 u.k, .int .i64 u.t, .int .i64 u.c, .int .i64 u.h, .int .u64 u.i, .int .u64 u.g, .int .u64 u.d, .int .u64 u.p, .int .u64 u.q, .int .i64 u.e] 70)).cell? ⟨B, 7, none⟩ = some (.int .u64 u.p) ∧ (X.alloc (.cells #[.int .i64 u.k, .int .i64 u.t, .int .i64 u.c, .int .i64 u.h, .int .u64 u.i, .int .u64 u.g, .int .u64 u.d, .int .u64 u.p, .int .u64 u.q, .int .i64 u.e] 70)).cell? ⟨B, 8, none⟩ = some (.int .u64 u.q) ∧ (X.alloc (.cells #[.int .i64 u.k, .int .i64 u.t, .int .i64 u.c, .int .i64 u.h, .int .u64 u.i, .int .u64 u.g, .int .u64 u.d, .int .u64 u.p, .int .u64 u.q, .int .i64 u.e] 70)).cell? ⟨B, 9, none⟩ = some (.int .i64 u.e) := ⟨cX.keeps hHeld.1 (fun e => e), cX.keeps hHeld.2.1 (fun e => e), cX.keeps hHeld.2.2.1 (fun e => e), cX.keeps hHeld.2.2.2.1 (fun e => e), cX.keeps hHeld.2.2.2.2.1 (fun e => e), cX.keeps hHeld.2.2.2.2.2.1 (fun e => e), cX.keeps hHeld.2.2.2.2.2.2.1 (fun e => e), cX.keeps hHeld.2.2.2.2.2.2.2.1 (fun e => e), cX.keeps hHeld.2.2.2.2.2.2.2.2.1 (fun e => e), cX.keeps hHeld.2.2.2.2.2.2.2.2.2 (fun e => e)⟩
  refine take_at (v := ?_) 0 (some 6) rfl (by kernel_rfl) (by kernel_rfl) (by kernel_rfl) (by kernel_rfl) (fun _ _ _ h => h) (Or.inl ⟨by rfl, ?_⟩) (by assumption) ?_
  rotate_left
  · intro w hSw; (try dsimp only at hSw); go_simp; try (with_reducible rfl)
  (try simp only [Act.put, List.setIfInBounds_toArray, List.set_cons_zero, List.set_cons_succ])
  refine take_at (v := ?_) 1 (some 7) rfl (by kernel_rfl) (by kernel_rfl) (by kernel_rfl) (by kernel_rfl) (fun _ _ _ h => h) (Or.inl ⟨by rfl, ?_⟩) (by assumption) ?_
  rotate_left
  · intro w hSw; (try dsimp only at hSw); go_simp; try (with_reducible rfl)
  (try simp only [Act.put, List.setIfInBounds_toArray, List.set_cons_zero, List.set_cons_succ])
  refine take_at (v := ?_) 2 (some 8) rfl (by kernel_rfl) (by kernel_rfl) (by kernel_rfl) (by kernel_rfl) (fun _ _ _ h => h) (Or.inl ⟨by rfl, ?_⟩) (by assumption) ?_
  rotate_left
  · intro w hSw; (try dsimp only at hSw); go_simp; try (with_reducible rfl)
  (try simp only [Act.put, List.setIfInBounds_toArray, List.set_cons_zero, List.set_cons_succ])
  refine take_at (v := ?_) 3 (some 9) rfl (by kernel_rfl) (by kernel_rfl) (by kernel_rfl) (by kernel_rfl) (fun _ _ _ h => h) (Or.inl ⟨by rfl, ?_⟩) (by assumption) ?_
  rotate_left
  · intro w hSw; (try dsimp only at hSw); go_simp; try (with_reducible rfl)
  (try simp only [Act.put, List.setIfInBounds_toArray, List.set_cons_zero, List.set_cons_succ])
  refine take_at (v := ?_) 5 (some 11) rfl (by kernel_rfl) (by kernel_rfl) (by kernel_rfl) (by kernel_rfl) (fun _ _ _ h => h) (Or.inl ⟨by rfl, ?_⟩) (by assumption) ?_
  rotate_left
  · intro w hSw; (try dsimp only at hSw); go_simp; try (with_reducible rfl)
  (try simp only [Act.put, List.setIfInBounds_toArray, List.set_cons_zero, List.set_cons_succ])
  refine wpAnyH_ready (rs := [4, 6]) (by kernel_rfl) (by simp) ?_
  refine AllReadyH.cons rfl (fun K hK => ?_) ?_
  go_simp
  refine hK.out _ _ hHeld (fun hh => ?_)
  clear hK K hh
  (try simp only [Act.put, List.setIfInBounds_toArray, List.set_cons_zero, List.set_cons_succ])
  refine wpAnyH_ready (rs := [6]) (by kernel_rfl) (by simp) ?_
  refine AllReadyH.cons rfl (fun K hK => ?_) AllReadyH.nil
  go_simp
  refine hK.out _ _ S2 (fun hh => ?_)
  clear hK K hh
  (try simp only [Act.put, List.setIfInBounds_toArray, List.set_cons_zero, List.set_cons_succ])
  refine ?tail1
  rotate_left
  refine AllReadyH.cons rfl (fun K hK => ?_) AllReadyH.nil
  go_simp
  refine hK.out _ _ S2 (fun hh => ?_)
  clear hK K hh
  (try simp only [Act.put, List.setIfInBounds_toArray, List.set_cons_zero, List.set_cons_succ])
  refine wpAnyH_ready (rs := [4]) (by kernel_rfl) (by simp) ?_
  refine AllReadyH.cons rfl (fun K hK => ?_) AllReadyH.nil
  go_simp
  refine hK.out _ _ S2 (fun hh => ?_)
  clear hK K hh
  (try simp only [Act.put, List.setIfInBounds_toArray, List.set_cons_zero, List.set_cons_succ])
  exact ?tail1
  have R5 : Hid (Row (X.alloc (.cells #[.int .i64 u.k, .int .i64 u.t, .int .i64 u.c, .int .i64 u.h, .int .u64 u.i, .int .u64 u.g, .int .u64 u.d, .int .u64 u.p, .int .u64 u.q, .int .i64 u.e] 70)) 70 10 a nl tc (ec L)) := Lib.hid (by have := Row.kept (by have := R8.out.tr; rw [← HLS.out] at this; exact this : ERow X a tc L) cX (fun _ _ e => e); rw [← HNL.out] at this; exact this)
  have V1 : Hid (∀ i, i < nl * 10 → ec (L ++ [u]) i = ec L i) := Lib.hid fun i hi => ec_left _ (by rw [← HNL.out]; exact hi)
  have V2 : Hid (∀ (j : Nat) (v : Value), (evV u)[j]? = some v → ec (L ++ [u]) (nl * 10 + j) = v) := Lib.hid fun j v hv => by
    obtain ⟨hj, rfl⟩ := evV_get hv
    rw [HNL.out]; exact ec_snoc _ hj
  refine wpAnyH_ready (rs := [7]) (by kernel_rfl) (by simp) ?_
  refine AllReadyH.cons rfl (fun K hK => ?_) AllReadyH.nil
  refine step_row rfl _ _ _ rfl 70 (.agg #[.int .i64 0, .int .i64 0, .int .i64 0, .int .i64 0, .int .u64 0, .int .u64 0, .int .u64 0, .int .u64 0, .int .u64 0, .int .i64 0]) 10 80 Tryz.underlying67 (by kernel_rfl) rfl (by omega) (by omega) rfl R5.out hLn X.heap.size 1 (evV u) 70 rfl rfl (heap_alloc_new X _) (by simp [evV, Value.oneCell']) (ec (L ++ [u])) V1.out V2.out _ rfl ?_
  intro g6 cap6 w9 row6 ch6 at6 lt6
  have S3 : w9.cell? ⟨B, 0, none⟩ = some (.int .i64 u.k) ∧ w9.cell? ⟨B, 1, none⟩ = some (.int .i64 u.t) ∧ w9.cell? ⟨B, 2, none⟩ = some (.int .i64 u.c) ∧ w9.cell? ⟨B, 3, none⟩ = some (.int .i64 u.h) ∧ w9.cell? ⟨B, 4, none⟩ = some (.int .u64 u.i) ∧ w9.cell? ⟨B, 5, none⟩ = some (.int .u64 u.g) ∧ w9.cell? ⟨B, 6, none⟩ = some (.int .u64 u.d) ∧ w9.cell? ⟨B, 7, none⟩ = some (.int .u64 u.p) ∧ w9.cell? ⟨B, 8, none⟩ = some (.int .u64 u.q) ∧ w9.cell? ⟨B, 9, none⟩ = some (.int .i64 u.e) := ⟨ch6.keeps S2.1 nab, ch6.keeps S2.2.1 nab, ch6.keeps S2.2.2.1 nab, ch6.keeps S2.2.2.2.1 nab, ch6.keeps S2.2.2.2.2.1 nab, ch6.keeps S2.2.2.2.2.2.1 nab, ch6.keeps S2.2.2.2.2.2.2.1 nab, ch6.keeps S2.2.2.2.2.2.2.2.1 nab, ch6.keeps S2.2.2.2.2.2.2.2.2.1 nab, ch6.keeps S2.2.2.2.2.2.2.2.2.2 nab⟩
  have c3 := ch6.keeps c2 nar
  have z3 := (((R8.out.fl.b).kept cX (fun e => e)).kept ch6 nar).fz 14
  have C9 := Lib.hid ((cX.mono fun _ _ e => e.elim).trans ch6)
  have AT : Hid (OwnS a g6 ∨ X.heap.size ≤ g6) := Lib.hid (by rcases at6 with h | h; exact .inl h; exact .inr (by (try simp at h); omega))
  have ROW := Lib.hid row6
  refine hK.out _ _ S3 (fun hh => ?_)
  clear hK K hh ch6 row6 at6 lt6 R5 S2 c2 c1 hHeld cX
  (try simp only [Act.put, List.setIfInBounds_toArray, List.set_cons_zero, List.set_cons_succ])
  refine take_at (v := ?_) 8 (some 14) rfl (by kernel_rfl) (by kernel_rfl) (by kernel_rfl) (by kernel_rfl) (fun _ _ _ h => h) (Or.inl ⟨by rfl, ?_⟩) (by assumption) ?_
  rotate_left
  · intro w hSw; (try dsimp only at hSw); go_simp; try (with_reducible rfl)
  (try simp only [Act.put, List.setIfInBounds_toArray, List.set_cons_zero, List.set_cons_succ])
  refine take_at (v := ?_) 9 (some 15) rfl (by kernel_rfl) (by kernel_rfl) (by kernel_rfl) (by kernel_rfl) (fun _ _ _ h => h) (Or.inl ⟨by rfl, ?_⟩) (by assumption) ?_
  rotate_left
  · intro w hSw; (try dsimp only at hSw); go_simp; try (with_reducible rfl)
  (try simp only [Act.put, List.setIfInBounds_toArray, List.set_cons_zero, List.set_cons_succ])
  refine wpAnyH_ready (rs := [10]) (by kernel_rfl) (by simp) ?_
  refine AllReadyH.cons rfl (fun K hK => ?_) AllReadyH.nil
  go_simp
  have cS : Ch (One F.f) w9 (w9.setCell ⟨F.f, 14, none⟩ (.slice (some ⟨g6, 0, none⟩) (nl + 1) cap6)) := (Ch.refl _ _).setB 14 _
  have S4 : (w9.setCell ⟨F.f, 14, none⟩ (.slice (some ⟨g6, 0, none⟩) (nl + 1) cap6)).cell? ⟨B, 0, none⟩ = some (.int .i64 u.k) ∧ (w9.setCell ⟨F.f, 14, none⟩ (.slice (some ⟨g6, 0, none⟩) (nl + 1) cap6)).cell? ⟨B, 1, none⟩ = some (.int .i64 u.t) ∧ (w9.setCell ⟨F.f, 14, none⟩ (.slice (some ⟨g6, 0, none⟩) (nl + 1) cap6)).cell? ⟨B, 2, none⟩ = some (.int .i64 u.c) ∧ (w9.setCell ⟨F.f, 14, none⟩ (.slice (some ⟨g6, 0, none⟩) (nl + 1) cap6)).cell? ⟨B, 3, none⟩ = some (.int .i64 u.h) ∧ (w9.setCell ⟨F.f, 14, none⟩ (.slice (some ⟨g6, 0, none⟩) (nl + 1) cap6)).cell? ⟨B, 4, none⟩ = some (.int .u64 u.i) ∧ (w9.setCell ⟨F.f, 14, none⟩ (.slice (some ⟨g6, 0, none⟩) (nl + 1) cap6)).cell? ⟨B, 5, none⟩ = some (.int .u64 u.g) ∧ (w9.setCell ⟨F.f, 14, none⟩ (.slice (some ⟨g6, 0, none⟩) (nl + 1) cap6)).cell? ⟨B, 6, none⟩ = some (.int .u64 u.d) ∧ (w9.setCell ⟨F.f, 14, none⟩ (.slice (some ⟨g6, 0, none⟩) (nl + 1) cap6)).cell? ⟨B, 7, none⟩ = some (.int .u64 u.p) ∧ (w9.setCell ⟨F.f, 14, none⟩ (.slice (some ⟨g6, 0, none⟩) (nl + 1) cap6)).cell? ⟨B, 8, none⟩ = some (.int .u64 u.q) ∧ (w9.setCell ⟨F.f, 14, none⟩ (.slice (some ⟨g6, 0, none⟩) (nl + 1) cap6)).cell? ⟨B, 9, none⟩ = some (.int .i64 u.e) := ⟨cS.keeps S3.1 nbb, cS.keeps S3.2.1 nbb, cS.keeps S3.2.2.1 nbb, cS.keeps S3.2.2.2.1 nbb, cS.keeps S3.2.2.2.2.1 nbb, cS.keeps S3.2.2.2.2.2.1 nbb, cS.keeps S3.2.2.2.2.2.2.1 nbb, cS.keeps S3.2.2.2.2.2.2.2.1 nbb, cS.keeps S3.2.2.2.2.2.2.2.2.1 nbb, cS.keeps S3.2.2.2.2.2.2.2.2.2 nbb⟩
  refine hK.out _ _ S4 (fun hh => ?_)
  clear hK K hh
  (try simp only [Act.put, List.setIfInBounds_toArray, List.set_cons_zero, List.set_cons_succ])
  refine wpAnyH_done (by kernel_rfl) ?_ _
  have C3 := Lib.hid c3
  have CS := Lib.hid cS
  clear S3 S4 c3 z3 cS
  go_wp2
  go_end0
  obtain ⟨lo, o⟩ := R8.out.o
  obtain ⟨o1, o2, o3, o4, o5⟩ := o.ids
  have hXs : w.heap.size ≤ X.heap.size := CW.out.size
  have FX := Lib.hid (fun k (hk : FS F a k) => R8.out.lt hk)
  have gf : F.f < g6 := by
    rcases AT.out with h | h
    · exact R8.out.tb _ h
    · have := FX.out F.f (by simp [FS]); omega
  have K1 := R8.out
  have n1 : ∀ {x}, x ≤ F.f → ¬ OwnS a x := fun {x} hx e => by have := R8.out.tb _ e; omega
  have eL : s.L = L := HLS.out.symm
  refine ⟨some ⟨g6, 0, none⟩, cap6, rfl, ⟨?_, (K1.pc.kept C9.out (n1 (by omega))).kept CS.out (fun e => by have e' : F.cl = F.f := e; omega), (K1.pi.kept C9.out (n1 (by omega))).kept CS.out (fun e => by have e' : F.ins = F.f := e; omega), (K1.pb.kept C9.out (n1 (by omega))).kept CS.out (fun e => by have e' : F.bz = F.f := e; omega), (K1.pn.kept C9.out (n1 (by omega))).kept CS.out (fun e => by have e' : F.nw = F.f := e; omega), ?_, fun e => by simp at e, R8.out.o, fun k hk => by cases hk; exact gf⟩, ?_, fun k hk => ?_⟩
  · have := (K1.fl.kept C9.out (n1 (Nat.le_refl _))).setAt 14 (.slice (some ⟨g6, 0, none⟩) (nl + 1) cap6)
    show IsVs _ _ (flV F (some ⟨g6, 0, none⟩) (s.L ++ [u]).length cap6)
    rw [List.length_append, eL, ← HNL.out]
    exact this
  · show Row _ _ _ _ (s.L ++ [u]).length _ (ec (s.L ++ [u]))
    rw [eL, List.length_append, ← HNL.out]
    exact Row.kept ROW.out CS.out (fun k hk e => by cases hk; have e' : g6 = F.f := e; omega)
  · exact ((CW.out.mono fun _ _ e => e.elim).then C9.out (fun k _ e => by simp [FS, e])).then CS.out (fun k _ e => by have e' : k = F.f := e; simp [FS, e'])
  · cases hk
    rcases AT.out with h | h
    · exact .inl h
    · exact .inr (by dsimp only; omega)
end
end Go.Proofs.YtnbdafmjcmmfpaaGreat
