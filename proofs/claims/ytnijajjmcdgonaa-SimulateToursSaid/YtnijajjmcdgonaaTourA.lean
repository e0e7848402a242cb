import Derived.Test.YtnijajjmcdgonaaWalkB
import Derived.Maps.OwnSet
import Derived.Maps.OwnOps
import Derived.Maps.Views
namespace Go.Proofs.Ytnijajjmcdgonaa
open Go.RowKit
set_option linter.unusedVariables false

/-! What is left of a tour: a map that the call has made, with true at some numbers. -/
theorem keyedInt : Go.Maps.Keyed Try.prog 3 := Go.Maps.int_keyed (q := .i64) Try.underlying3
abbrev wfI (i : Int) : Prop := (Lit.int .i64 i).wf = true
theorem wfI_nat {j : Nat} (h : j ≤ 100000) : wfI (j : Int) := by
  have h1 : IntKind.i64.min = -9223372036854775808 := by decide
  have h2 : IntKind.i64.max = 9223372036854775807 := by decide
  show (decide (IntKind.i64.min ≤ (j : Int)) && decide ((j : Int) ≤ IntKind.i64.max)) = true
  rw [h1, h2]
  simp
  omega
/-- How many of the first numbers are there. -/
def cnt (S : Int → Bool) : Nat → Nat
  | 0 => 0
  | m + 1 => cnt S m + (if S (m : Int) then 1 else 0)
def addS (S : Int → Bool) (k : Int) : Int → Bool := fun i => if i = k then true else S i
def delS (S : Int → Bool) (k : Int) : Int → Bool := fun i => if i = k then false else S i
theorem cnt_same {S T : Int → Bool} : ∀ {m : Nat}, (∀ j : Nat, j < m → S j = T j) → cnt S m = cnt T m
  | 0, _ => rfl
  | m + 1, h => by
    unfold cnt
    rw [cnt_same fun j hj => h j (by omega), h m (by omega)]
theorem cnt_none : ∀ m : Nat, cnt (fun _ => false) m = 0
  | 0 => rfl
  | m + 1 => by unfold cnt; rw [cnt_none m]; rfl
theorem cnt_add {S : Int → Bool} {k : Nat} (hS : S k = false) : ∀ {m : Nat}, k < m → cnt (addS S k) m = cnt S m + 1
  | m + 1, h => by
    unfold cnt
    by_cases hk : k = m
    · subst hk
      rw [cnt_same (S := addS S k) (T := S) fun j hj => by unfold addS; rw [if_neg (by omega)]]
      simp [addS, hS]
    · rw [cnt_add hS (by omega)]
      have : addS S k m = S m := by unfold addS; rw [if_neg (by omega)]
      rw [this]
      omega
theorem cnt_del {S : Int → Bool} {k : Nat} (hS : S k = true) : ∀ {m : Nat}, k < m → cnt (delS S k) m + 1 = cnt S m
  | m + 1, h => by
    unfold cnt
    by_cases hk : k = m
    · subst hk
      rw [cnt_same (S := delS S k) (T := S) fun j hj => by unfold delS; rw [if_neg (by omega)]]
      simp [delS, hS]
    · have h1 := cnt_del hS (m := m) (by omega)
      have : delS S k m = S m := by unfold delS; rw [if_neg (by omega)]
      rw [this]
      omega
theorem cnt_le (S : Int → Bool) : ∀ m : Nat, cnt S m ≤ m
  | 0 => Nat.le_refl _
  | m + 1 => by unfold cnt; have := cnt_le S m; split <;> omega
theorem cnt_zero {S : Int → Bool} : ∀ {m : Nat}, cnt S m = 0 → ∀ j : Nat, j < m → S j = false
  | m + 1, h, j, hj => by
    unfold cnt at h
    by_cases hk : j = m
    · subst hk
      cases hs : S j
      · rfl
      · rw [hs] at h; simp at h
    · exact cnt_zero (m := m) (by omega) j (by omega)
theorem cnt_pos {S : Int → Bool} : ∀ {m : Nat}, 0 < cnt S m → ∃ j : Nat, j < m ∧ S j = true
  | m + 1, h => by
    unfold cnt at h
    cases hs : S (m : Int)
    · rw [hs] at h
      obtain ⟨j, h1, h2⟩ := cnt_pos (S := S) (m := m) (by simpa using h)
      exact ⟨j, by omega, h2⟩
    · exact ⟨m, by omega, hs⟩

def LeftIn (w : World) (b n : Nat) (S : Int → Bool) (m : Nat) : Prop :=
  ∃ D : DataW Unit, w.ownsMap Try.prog 3 (plainElem Try.prog 4) b n D ∧ Maps.Tidy D ∧ (∀ i, wfI i → D.atKey (.int .i64 i) (.lit (.bool false)) = .lit (.bool (S i)) ∧ Maps.has D (.int .i64 i) = S i) ∧ (∀ i, S i = true → ∃ j : Nat, j < m ∧ i = j) ∧ Maps.size D = cnt S m
theorem LeftIn.lt {w : World} {b n : Nat} {S : Int → Bool} {m : Nat} (h : LeftIn w b n S m) : b < w.heap.size := by
  obtain ⟨D, h1, -⟩ := h
  exact h1.lt
theorem LeftIn.of_block {w w' : World} {b n : Nat} {S : Int → Bool} {m : Nat} (h : LeftIn w b n S m) (hb : w'.heap[b]? = w.heap[b]?) : LeftIn w' b n S m := by
  obtain ⟨D, ⟨es, clock, h1, h2⟩, h3⟩ := h
  exact ⟨D, ⟨es, clock, hb.trans h1, h2⟩, h3⟩
theorem LeftIn.mono {w : World} {b n n' : Nat} {S : Int → Bool} {m : Nat} (h : LeftIn w b n S m) (hn : n ≤ n') : LeftIn w b n' S m := by
  obtain ⟨D, h1, h2⟩ := h
  exact ⟨D, h1.mono hn, h2⟩
theorem LeftIn.later {w w' : World} {b n : Nat} {S : Int → Bool} {m : Nat} (h : LeftIn w b n S m) (hb : Below w.heap.size w w') : LeftIn w' b n S m := h.of_block (hb.block b h.lt)
theorem LeftIn.isMap {w : World} {b n : Nat} {S : Int → Bool} {m : Nat} (h : LeftIn w b n S m) : ∃ es clock, w.heap[b]? = some (.map es clock) := by
  obtain ⟨D, ⟨es, clock, h1, h2⟩, h3⟩ := h
  exact ⟨es, clock, h1⟩
theorem left_made (w : World) (m : Nat) : LeftIn (w.alloc (.map #[] 0)) w.heap.size 0 (fun _ => false) m :=
  ⟨.map [], World.ownsMap_made _ _ _ _, Maps.tidy_empty, fun i _ => ⟨rfl, rfl⟩, fun i h => (by cases h), (by rw [cnt_none]; rfl)⟩
theorem plainElem_bool_inv {P : Program} {e : TypeId} (he : P.underlying e = some .bool) {v : Value} {x : Bool} {ps : List MemPlace} (h : plainElem (H := Unit) P e v = some (.lit (.bool x), ps)) : v = .bool x := by
  unfold plainElem at h
  rw [he] at h
  cases v <;> simp at h
  rw [h.1]
theorem zeroB (w : World) : (zeroValue 4).run Try.prog w = .ok (.bool false) w := by kernel_rfl
theorem keyI {i : Int} (h : wfI i) : keyOf Try.prog 3 (.int .i64 i) = some (.int .i64 i) := Go.Maps.keyOf_int_mk Try.underlying3 h
theorem LeftIn.look {w : World} {b n : Nat} {S : Int → Bool} {m : Nat} (h : LeftIn w b n S m) (hm : m ≤ 4000) (i : Int) : (Instr.lookup 91 (.map (some b)) (.int .i64 i) false).run Try.prog w = .ok (.bool (S i)) w := by
  obtain ⟨D, hown, hT, hD, hS, hsz⟩ := h
  by_cases hw : wfI i
  · obtain ⟨v, ps, hrun, hv⟩ := hown.lookup keyedInt Try.underlying91 (zeroB w) (plainElem_bool Try.underlying4 false) (keyI hw)
    rw [(hD i hw).1] at hv
    rw [← plainElem_bool_inv Try.underlying4 hv]
    exact hrun
  · have hsi : S i = false := by
      cases hs : S i
      · rfl
      · obtain ⟨j, hj, rfl⟩ := hS i hs
        exact absurd (wfI_nat (by omega)) hw
    rw [hsi]
    obtain ⟨es, clock, hb, F, -, -⟩ := hown
    have hks : ∀ x ∈ es.toList, ∃ a, x.key = .int .i64 a ∧ wfI a := by
      intro x hx
      obtain ⟨y, hy⟩ := F.reads x hx
      have h1 := WideElems.rd_key hy
      have h2 : mapKey Try.prog 3 x.key = some y.1 := by simpa [keyOf, Try.underlying3] using h1
      cases hk : x.key <;> rw [hk] at h2 <;> simp [mapKey, Try.underlying3] at h2
      obtain ⟨⟨rfl, h3⟩, h4⟩ := h2
      exact ⟨_, rfl, h3⟩
    have hf : Instr.findNow (.int .i64) (.int .i64 i) es.toList 0 = some none := by
      rcases MapKept.findNow_spec (d := .int .i64) (k := .int .i64 i) rfl es.toList 0 (fun x hx => by obtain ⟨a, h1, h2⟩ := hks x hx; rw [h1]; rfl) with ⟨h1, -⟩ | ⟨j, e, h1, h2, h3⟩
      · exact h1
      · obtain ⟨a, h4, h5⟩ := hks e (List.mem_of_getElem? h2)
        rw [h4] at h3
        injection h3 with _ h3
        subst h3
        exact absurd h5 hw
    simp [Instr.lookup, run_underlying Try.underlying91, MapKept.run_getObj_map hb, MapKept.run_checkKey (d := .int .i64) Try.underlying3 (show MapKept.IsKey (.int .i64) (.int .i64 i) from rfl), MapKept.run_findKey Try.underlying3 hf, zeroB w, Result.andThen]
theorem LeftIn.len {w : World} {b n : Nat} {S : Int → Bool} {m : Nat} (h : LeftIn w b n S m) (ty : TypeId) : (Builtin.len_ #[91] ty #[.map (some b)]).run Try.prog w = .ok (.int .i64 (cnt S m : Nat)) w := by
  obtain ⟨D, hown, hT, hD, hS, hsz⟩ := h
  rw [hown.len Try.underlying91 ty, hsz]
theorem lit_ne {i k : Int} (h : i ≠ k) : (Lit.int .i64 i) ≠ Lit.int .i64 k := fun e => h (by injection e)
/-- One number more. -/
theorem LeftIn.put {w : World} {b n : Nat} {S : Int → Bool} {m : Nat} (h : LeftIn w b n S m) (hn : n ≤ 4000) {k : Nat} (hk : k < m) (hm : m ≤ 4000) (hS0 : S k = false) :
    ∃ w', (Instr.mapUpdate 91 (.map (some b)) (.int .i64 k) (.bool true)).run Try.prog w = .ok () w' ∧ LeftIn w' b (n + 1) (addS S k) m ∧ w.mapTurned w' b := by
  obtain ⟨D, hown, hT, hD, hS, hsz⟩ := h
  have hw := wfI_nat (j := k) (by omega)
  have hkl : WideAt.IsKeyLit (Lit.int .i64 (k : Int)) := keyedInt.key (keyI hw)
  obtain ⟨w', hrun, h1, h2⟩ := hown.store keyedInt Try.underlying91 (by unfold maxLen; omega) (keyI hw) (plainElem_bool Try.underlying4 true)
  refine ⟨w', hrun, ⟨_, h1, hT.put hkl _, fun i hi => ?_, fun i hi => ?_, ?_⟩, h2⟩
  · by_cases he : i = k
    · subst he
      rw [Maps.atKey_put_same hT.isMap hkl, Maps.has_put_same hT.isMap hkl]
      simp [addS]
    · rw [Maps.atKey_put_other (lit_ne he), Maps.has_put_other (lit_ne he), (hD i hi).1, (hD i hi).2]
      simp [addS, he]
  · unfold addS at hi
    by_cases he : i = k
    · exact ⟨k, hk, he⟩
    · rw [if_neg he] at hi
      exact hS i hi
  · rw [Maps.size_put hT, (hD k hw).2, hS0, cnt_add hS0 hk, hsz]
    rfl
/-- One number fewer. -/
theorem LeftIn.del {w : World} {b n : Nat} {S : Int → Bool} {m : Nat} (h : LeftIn w b n S m) {k : Nat} (hk : k < m) (hm : m ≤ 4000) (ty : TypeId) :
    ∃ w', (Builtin.delete_ #[91, 3] ty #[.map (some b), .int .i64 k]).run Try.prog w = .ok (.tuple #[]) w' ∧ LeftIn w' b n (delS S k) m ∧ w.mapTurned w' b := by
  obtain ⟨D, hown, hT, hD, hS, hsz⟩ := h
  have hw := wfI_nat (j := k) (by omega)
  obtain ⟨w', hrun, h1, h2⟩ := hown.drop keyedInt Try.underlying91 (keyI hw) ty
  refine ⟨w', hrun, ⟨_, h1, hT.del _, fun i hi => ?_, fun i hi => ?_, ?_⟩, h2⟩
  · by_cases he : i = k
    · subst he
      rw [Maps.atKey_del_same, Maps.has_del_same]
      simp [delS]
    · rw [Maps.atKey_del_other (lit_ne he), Maps.has_del_other (lit_ne he), (hD i hi).1, (hD i hi).2]
      simp [delS, he]
  · unfold delS at hi
    by_cases he : i = k
    · rw [if_pos he] at hi; cases hi
    · rw [if_neg he] at hi
      exact hS i hi
  · have h3 := Maps.size_del (k := .int .i64 (k : Int)) hT
    rw [(hD k hw).2, hsz] at h3
    cases hs : S k
    · rw [hs] at h3
      have : cnt (delS S k) m = cnt S m := cnt_same fun j hj => by
        unfold delS
        by_cases he : (j : Int) = k
        · rw [if_pos he, he, hs]
        · rw [if_neg he]
      rw [this]
      simpa using h3
    · rw [hs] at h3
      have := cnt_del hs hk
      simp at h3
      omega
end Go.Proofs.Ytnijajjmcdgonaa
