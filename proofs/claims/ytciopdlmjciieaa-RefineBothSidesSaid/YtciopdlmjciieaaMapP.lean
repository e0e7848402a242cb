import Derived.Test.YtciopdlmjciieaaRanksOf
import Derived.Maps.OwnSet
import Derived.Maps.OwnOps
import Derived.Maps.Views
import Derived.DeepKeys4
namespace Go.Proofs.Ytciopdlmjciieaa
open Go.RowKit
set_option linter.unusedVariables false

/-! Maps whose keys are pairs of numbers. -/
theorem keyed2 : Go.Maps.Keyed Try.prog 70 := Go.Maps.Keyed.of_law (deep_law_laid (m := 5) (by kernel_rfl) (by decide) (of_decide_eq_true (by kernel_rfl)) (by kernel_rfl) (by rw [Try.underlying70]))
abbrev kP (i j : Nat) : Value := .agg #[.int .i64 (i : Int), .int .i64 (j : Int)]
theorem wfI_nat {j : Nat} (h : j ≤ 100000) : (Lit.int .i64 (j : Int)).wf = true := by
  have h1 : IntKind.i64.min = -9223372036854775808 := by decide
  have h2 : IntKind.i64.max = 9223372036854775807 := by decide
  show (decide (IntKind.i64.min ≤ (j : Int)) && decide ((j : Int) ≤ IntKind.i64.max)) = true
  rw [h1, h2]
  simp
  omega
theorem lits_one (d : Nat) {i : Nat} (hi : i ≤ 100) : Try.prog.keyLits (d + 1) 3 [.int .i64 (i : Int)] = some [.int .i64 (i : Int)] := by
  unfold Program.keyLits
  rw [Try.underlying3]
  simp [wfI_nat (j := i) (by omega)]
theorem cells2 : Try.prog.cellsOf 70 = 2 := by kernel_rfl
theorem cells1 : Try.prog.cellsOf 3 = 1 := by kernel_rfl
theorem size2 : Try.prog.types.size + 1 = Try.prog.types.size - 1 + 1 + 1 := by have : 0 < Try.prog.types.size := of_decide_eq_true (by kernel_rfl); omega
theorem key_ex {i j : Nat} (hi : i ≤ 100) (hj : j ≤ 100) : ∃ kl, keyOf Try.prog 70 (kP i j) = some kl := by
  unfold keyOf
  rw [Try.underlying70]
  have h1 : Try.prog.keyType 70 = true := by kernel_rfl
  have h2 : (kP i j).formed Try.prog 70 = true := by
    unfold Value.formed
    rw [Try.underlying70, cells2]
    rfl
  have h3 : ∃ ls, Try.prog.keyLits (Try.prog.types.size + 1) 70 (kP i j).cells.toList = some ls := by
    rw [size2]
    unfold Program.keyLits
    rw [Try.underlying70]
    have e : (kP i j).cells.toList = [Value.int .i64 (i : Int), .int .i64 (j : Int)] := rfl
    rw [e]
    simp [cells2, cells1, List.range_succ, lits_one _ hi, lits_one _ hj]
  obtain ⟨ls, h3⟩ := h3
  rw [h3]
  simp [h1, h2]
theorem key_ne {i j i' j' : Nat} {k k' : Lit} (h : keyOf Try.prog 70 (kP i j) = some k) (h' : keyOf Try.prog 70 (kP i' j') = some k') (hne : ¬ (i = i' ∧ j = j')) : k ≠ k' := fun e => by
  subst e
  have := keyed2.inj h h'
  injection this with this
  simp at this
  exact hne ⟨by omega, by omega⟩

/-- A map from pairs to Booleans that the call has made: at (i, j) it holds S i j. -/
def InM (w : World) (b n : Nat) (S : Nat → Nat → Bool) : Prop :=
  ∃ D : DataW Unit, w.ownsMap Try.prog 70 (plainElem Try.prog 4) b n D ∧ Maps.Tidy D ∧ ∀ i j k, i ≤ 100 → j ≤ 100 → keyOf Try.prog 70 (kP i j) = some k → D.atKey k (.lit (.bool false)) = .lit (.bool (S i j))
/-- A map from pairs to numbers. -/
def RkM (w : World) (b n : Nat) (S : Nat → Nat → Option Int) : Prop :=
  ∃ D : DataW Unit, w.ownsMap Try.prog 70 (plainElem Try.prog 3) b n D ∧ Maps.Tidy D ∧ ∀ i j k, i ≤ 100 → j ≤ 100 → keyOf Try.prog 70 (kP i j) = some k → D.atKey k (.lit (.int .i64 0)) = .lit (.int .i64 ((S i j).getD 0)) ∧ Maps.has D k = (S i j).isSome
def put2 {α : Type} (S : Nat → Nat → α) (i j : Nat) (x : α) : Nat → Nat → α := fun a b => if a = i ∧ b = j then x else S a b
section
variable {w w' : World} {b n : Nat}
theorem InM.lt {S : Nat → Nat → Bool} (h : InM w b n S) : b < w.heap.size := by obtain ⟨D, h1, -⟩ := h; exact h1.lt
theorem RkM.lt {S : Nat → Nat → Option Int} (h : RkM w b n S) : b < w.heap.size := by obtain ⟨D, h1, -⟩ := h; exact h1.lt
theorem InM.of_block {S : Nat → Nat → Bool} (h : InM w b n S) (hb : w'.heap[b]? = w.heap[b]?) : InM w' b n S := by
  obtain ⟨D, ⟨es, clock, h1, h2⟩, h3⟩ := h
  exact ⟨D, ⟨es, clock, hb.trans h1, h2⟩, h3⟩
theorem RkM.of_block {S : Nat → Nat → Option Int} (h : RkM w b n S) (hb : w'.heap[b]? = w.heap[b]?) : RkM w' b n S := by
  obtain ⟨D, ⟨es, clock, h1, h2⟩, h3⟩ := h
  exact ⟨D, ⟨es, clock, hb.trans h1, h2⟩, h3⟩
theorem InM.later {S : Nat → Nat → Bool} (h : InM w b n S) (hb : Below w.heap.size w w') : InM w' b n S := h.of_block (hb.block b h.lt)
theorem RkM.later {S : Nat → Nat → Option Int} (h : RkM w b n S) (hb : Below w.heap.size w w') : RkM w' b n S := h.of_block (hb.block b h.lt)
theorem inM_made (w : World) : InM (w.alloc (.map #[] 0)) w.heap.size 0 (fun _ _ => false) :=
  ⟨.map [], World.ownsMap_made _ _ _ _, Maps.tidy_empty, fun i j k _ _ _ => rfl⟩
theorem rkM_made (w : World) : RkM (w.alloc (.map #[] 0)) w.heap.size 0 (fun _ _ => none) :=
  ⟨.map [], World.ownsMap_made _ _ _ _, Maps.tidy_empty, fun i j k _ _ _ => ⟨rfl, rfl⟩⟩
theorem plainElem_bool_inv {P : Program} {e : TypeId} (he : P.underlying e = some .bool) {v : Value} {x : Bool} {ps : List MemPlace} (h : plainElem (H := Unit) P e v = some (.lit (.bool x), ps)) : v = .bool x := by
  unfold plainElem at h
  rw [he] at h
  cases v <;> simp at h
  rw [h.1]
theorem zeroB (w : World) : (zeroValue 4).run Try.prog w = .ok (.bool false) w := by kernel_rfl
theorem zeroI (w : World) : (zeroValue 3).run Try.prog w = .ok (.int .i64 0) w := by kernel_rfl
set_option maxRecDepth 100000 in
theorem InM.look {S : Nat → Nat → Bool} (h : InM w b n S) {i j : Nat} (hi : i ≤ 100) (hj : j ≤ 100) : (Instr.lookup 68 (.map (some b)) (kP i j) false).run Try.prog w = .ok (.bool (S i j)) w := by
  obtain ⟨D, hown, hT, hD⟩ := h
  obtain ⟨k, hk⟩ := key_ex hi hj
  obtain ⟨v, ps, hrun, hv⟩ := hown.lookup keyed2 Try.underlying68 (zeroB w) (plainElem_bool Try.underlying4 false) hk
  rw [hD i j k hi hj hk] at hv
  rw [← plainElem_bool_inv Try.underlying4 hv]
  exact hrun
set_option maxRecDepth 100000 in
theorem RkM.look {S : Nat → Nat → Option Int} (h : RkM w b n S) {i j : Nat} (hi : i ≤ 100) (hj : j ≤ 100) : (Instr.lookup 75 (.map (some b)) (kP i j) true).run Try.prog w = .ok (.tuple #[.int .i64 ((S i j).getD 0), .bool (S i j).isSome]) w := by
  obtain ⟨D, hown, hT, hD⟩ := h
  obtain ⟨k, hk⟩ := key_ex hi hj
  obtain ⟨v, ps, hrun, hv⟩ := hown.look_ok keyed2 Try.underlying75 (zeroI w) (plainElem_int Try.underlying3 (by decide)) hk
  rw [(hD i j k hi hj hk).1] at hv
  obtain ⟨c, rfl, hc, -⟩ := plainElem_int_inv Try.underlying3 hv
  simp only [Prod.mk.injEq] at hc
  have := hc.1
  injection this with this
  injection this with _ this
  rw [(hD i j k hi hj hk).2, ← this] at hrun
  exact hrun
set_option maxRecDepth 100000 in
theorem InM.put {S : Nat → Nat → Bool} (h : InM w b n S) (hn : n ≤ 4000) {i j : Nat} (hi : i ≤ 100) (hj : j ≤ 100) :
    ∃ w', (Instr.mapUpdate 68 (.map (some b)) (kP i j) (.bool true)).run Try.prog w = .ok () w' ∧ InM w' b (n + 1) (put2 S i j true) ∧ w.mapTurned w' b := by
  obtain ⟨D, hown, hT, hD⟩ := h
  obtain ⟨k, hk⟩ := key_ex hi hj
  have hkl : WideAt.IsKeyLit k := keyed2.key hk
  obtain ⟨w', hrun, h1, h2⟩ := hown.store keyed2 Try.underlying68 (by unfold maxLen; omega) hk (plainElem_bool Try.underlying4 true)
  refine ⟨w', hrun, ⟨_, h1, hT.put hkl _, fun i' j' k' hi' hj' hk' => ?_⟩, h2⟩
  unfold put2
  by_cases he : i' = i ∧ j' = j
  · obtain ⟨rfl, rfl⟩ := he
    rw [hk] at hk'
    injection hk' with hk'
    subst hk'
    rw [Maps.atKey_put_same hT.isMap hkl, if_pos ⟨rfl, rfl⟩]
  · rw [Maps.atKey_put_other (key_ne hk' hk he), hD i' j' k' hi' hj' hk', if_neg he]
set_option maxRecDepth 100000 in
theorem RkM.put {S : Nat → Nat → Option Int} (h : RkM w b n S) (hn : n ≤ 4000) {i j : Nat} (hi : i ≤ 100) (hj : j ≤ 100) {x : Int} (h0 : 0 ≤ x) (h1 : x ≤ 2000) :
    ∃ w', (Instr.mapUpdate 75 (.map (some b)) (kP i j) (.int .i64 x)).run Try.prog w = .ok () w' ∧ RkM w' b (n + 1) (put2 S i j (some x)) ∧ w.mapTurned w' b := by
  obtain ⟨D, hown, hT, hD⟩ := h
  obtain ⟨k, hk⟩ := key_ex hi hj
  have hkl : WideAt.IsKeyLit k := keyed2.key hk
  have hx : (Lit.int .i64 x).wf = true := by
    obtain ⟨m, rfl⟩ : ∃ m : Nat, x = m := ⟨x.toNat, by omega⟩
    exact wfI_nat (by omega)
  obtain ⟨w', hrun, h1, h2⟩ := hown.store keyed2 Try.underlying75 (by unfold maxLen; omega) hk (plainElem_int Try.underlying3 hx)
  refine ⟨w', hrun, ⟨_, h1, hT.put hkl _, fun i' j' k' hi' hj' hk' => ?_⟩, h2⟩
  unfold put2
  by_cases he : i' = i ∧ j' = j
  · obtain ⟨rfl, rfl⟩ := he
    rw [hk] at hk'
    injection hk' with hk'
    subst hk'
    rw [Maps.atKey_put_same hT.isMap hkl, Maps.has_put_same hT.isMap hkl, if_pos ⟨rfl, rfl⟩]
    exact ⟨rfl, rfl⟩
  · rw [Maps.atKey_put_other (key_ne hk' hk he), Maps.has_put_other (key_ne hk' hk he), if_neg he]
    exact hD i' j' k' hi' hj' hk'
end
theorem turned_block {w w' : World} {b k : Nat} (h : w.mapTurned w' b) (hk : k ≠ b) : w'.heap[k]? = w.heap[k]? := by
  obtain ⟨es, clock, es', clock', hb, rfl⟩ := h
  exact ChangeMaps.heap_setBlock_other hb _ hk
theorem turned_size {w w' : World} {b : Nat} (h : w.mapTurned w' b) : w'.heap.size = w.heap.size := by
  obtain ⟨es, clock, es', clock', hb, rfl⟩ := h
  simp [ChangeMaps.setBlock]
theorem turned_ne {w w' : World} {b : Nat} (h : w.mapTurned w' b) {a : Addr} {v : Value} (hc : w.cell? a = some v) : a.block ≠ b := by
  obtain ⟨es, clock, es', clock', hb, rfl⟩ := h
  intro he
  unfold World.cell? at hc
  rw [he, hb] at hc
  simp at hc
theorem turned_cell {w w' : World} {b : Nat} (h : w.mapTurned w' b) {a : Addr} {v : Value} (hc : w.cell? a = some v) : w'.cell? a = some v :=
  (World.cell?_of_block (turned_block h (turned_ne h hc))).trans hc
theorem turned_row {w w' : World} {b : Nat} (h : w.mapTurned w' b) {B : Nat} {t : TypeId} {s : Nat} {v : Value} {n : Nat} {xs : List Value} (hr : w.ownsRow B t s v n xs) : w'.ownsRow B t s v n xs := by
  obtain ⟨h0, h1 | ⟨g, cap, cur, h1, h2, h3, h4⟩⟩ := hr
  · exact ⟨h0, .inl h1⟩
  · refine ⟨h0, .inr ⟨g, cap, cur, h1, h2, ?_, h4⟩⟩
    obtain ⟨es, clock, es', clock', hb, rfl⟩ := h
    rw [ChangeMaps.heap_setBlock_other hb _ (by intro he; subst he; rw [hb] at h3; cases h3)]
    exact h3
theorem turned_below {w wr w' : World} {b B : Nat} (h : wr.mapTurned w' b) (hb : Below B w wr) (hB : B ≤ b) : Below B w w' := by
  obtain ⟨es, clock, es', clock', he, rfl⟩ := h
  exact hb.trans ⟨rfl, rfl, rfl, by simp [ChangeMaps.setBlock], fun k hk => ChangeMaps.heap_setBlock_other he _ (by omega)⟩
theorem IntsCells.turned {w w' : World} {b : Nat} (h : w.mapTurned w' b) {a : Option Addr} {l : List Int} (hc : IntsCells w a l) : IntsCells w' a l := fun j hj => by
  obtain ⟨g, off, e, h1⟩ := hc j hj
  exact ⟨g, off, e, turned_cell h h1⟩
theorem EdgesCells.turned {w w' : World} {b : Nat} (h : w.mapTurned w' b) {a : Option Addr} {l : List E} (hc : EdgesCells w a l) : EdgesCells w' a l := fun j hj => by
  obtain ⟨g, off, e, h1, h2, h3⟩ := hc j hj
  exact ⟨g, off, e, turned_cell h h1, turned_cell h h2, turned_cell h h3⟩

theorem turned_frozen {w w' : World} {b : Nat} (h : w.mapTurned w' b) {a : Addr} (ha : a.block ≠ b) : w'.frozen? a = w.frozen? a := World.frozen?_of_block (turned_block h ha)
theorem IntsAt.turned {w w' : World} {b : Nat} (h : w.mapTurned w' b) {v : Value} {l : List Int} (hc : IntsAt w v l) : IntsAt w' v l := by
  obtain ⟨a, c, e, hm, hc⟩ := hc
  exact ⟨a, c, e, hm, hc.turned h⟩
end Go.Proofs.Ytciopdlmjciieaa
