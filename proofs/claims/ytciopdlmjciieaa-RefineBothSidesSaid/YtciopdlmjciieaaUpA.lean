import Derived.Test.YtciopdlmjciieaaRound
namespace Go.Proofs.Ytciopdlmjciieaa
open Go.RowKit Go.Shelf
set_option linter.unusedVariables false

/-- Whether from an upper state a path can be gone along. -/
def canS (p : P2) : List Int → Nat → Bool
  | [], _ => true
  | s :: r, u => anyP (fun v => canS p r v.toNat) (upRow p u) && decide (gi p.ul u = gi p.ll s.toNat)
/-- The first upper path. -/
def upR (p : P2) : List Int → List Int → Option (List Int)
  | _, [] => some []
  | next, s :: r => match next.find? (fun u => canS p (s :: r) u.toNat) with
    | none => none
    | some u => (upR p (upRow p u.toNat) r).map (u :: ·)

/-- slices.Backward. -/
theorem backward_any (a : Option Addr) (len cap : Nat) (w : World) : Calls Try.prog 61 #[.slice a len cap] w fun e w' => e = .returned (.func (.func 71) #[] #[.pointer (some ⟨w.heap.size, 0, none⟩)]) ∧ w' = w.alloc (.cells #[.slice a len cap] 22) := by
  go_enter Try.func61, Try.ntmps61
  go_wp2
  go_ret
  exact ⟨rfl, rfl⟩

theorem infoBRow : (Try.prog.info? 93).map (fun i => (i.zero, i.size, i.bytes)) = some (some (.slice none 0 0), 1, 24) := by kernel_rfl
/-- What upperPath keeps: the rows from i on are done. -/
structure UI (w W : World) (H0 H1 T H3 M0 px N2 len i : Nat) (p : P2) (l : List Int) (vp : Value) : Prop where
  c0 : W.cell? ⟨H0, 0, none⟩ = some (.pointer (some ⟨px, 0, none⟩))
  c1 : W.cell? ⟨H1, 0, none⟩ = some vp
  c3 : W.cell? ⟨H3, 0, none⟩ = some (.slice (some ⟨T, 0, none⟩) (len + 1) (len + 1))
  tr : ∃ rv : Nat → Value, W.rowIs (T) 93 (len + 1) rv ∧ (∀ j, ∃ a m c, rv j = .slice a m c) ∧ ∀ j, i ≤ j → j ≤ len → ∃ g, rv j = .slice (some ⟨g, 0, none⟩) N2 N2 ∧ M0 ≤ g ∧ ∀ u, u < N2 → W.cell? ⟨g, u, none⟩ = some (.bool (canS p (l.drop j) u))
  bw : Below w.heap.size w W
  sz : M0 ≤ W.heap.size
  q : w.heap.size ≤ T ∧ T < M0 ∧ H0 ≠ T ∧ H1 ≠ T ∧ H3 ≠ T ∧ w.heap.size ≤ M0 ∧ H0 < M0 ∧ H1 < M0 ∧ H3 < M0
theorem UI.later {w W W' : World} {H0 H1 T H3 M0 px N2 len i : Nat} {p : P2} {l : List Int} {vp : Value} (h : UI w W H0 H1 T H3 M0 px N2 len i p l vp) (hb : Below W.heap.size W W') : UI w W' H0 H1 T H3 M0 px N2 len i p l vp := by
  obtain ⟨rv, h1, h2, h3⟩ := h.tr
  refine ⟨Below.keeps hb h.c0 (Nat.le_refl _), Below.keeps hb h.c1 (Nat.le_refl _), Below.keeps hb h.c3 (Nat.le_refl _), ⟨rv, h1.of_block (hb.block _ h1.lt), h2, fun j a b => ?_⟩, h.bw.trans (hb.mono h.bw.size), Nat.le_trans h.sz hb.size, h.q⟩
  obtain ⟨g, e1, e2, e3⟩ := h3 j a b
  exact ⟨g, e1, e2, fun u hu => Below.keeps hb (e3 u hu) (Nat.le_refl _)⟩
/-- It speaks of cells alone, but for what lies below. -/
theorem UI.own {w W W' : World} {H0 H1 T H3 M0 px N2 len i : Nat} {p : P2} {l : List Int} {vp : Value} {row : Option Nat} (h : UI w W H0 H1 T H3 M0 px N2 len i p l vp) (hg : W.grownBy W' row) (hr : ∀ r, row = some r → w.heap.size ≤ r ∧ ∃ o : Obj, W.heap[r]? = some o ∧ o.isCells = false) : UI w W' H0 H1 T H3 M0 px N2 len i p l vp := by
  have kc : ∀ b i v, W.cell? ⟨b, i, none⟩ = some v → W'.cell? ⟨b, i, none⟩ = some v := fun b i v hv => cell_kept hv hg (fun r e => (hr r e).2)
  obtain ⟨rv, h1, h2, h3⟩ := h.tr
  refine ⟨kc _ _ _ h.c0, kc _ _ _ h.c1, kc _ _ _ h.c3, ⟨rv, h1.of_block (hg.block _ h1.lt (fun e => ?_)), h2, fun j a b => ?_⟩, h.bw.grown hg h.bw.size (fun q e => (hr q e).1), Nat.le_trans h.sz hg.size, h.q⟩
  · obtain ⟨-, o, ho, hc⟩ := hr _ e.symm
    obtain ⟨c, h4, -⟩ := h1
    rw [h4] at ho
    injection ho with ho
    subst ho
    exact absurd hc (by simp [Obj.isCells])
  · obtain ⟨g, e1, e2, e3⟩ := h3 j a b
    exact ⟨g, e1, e2, fun u hu => kc _ _ _ (e3 u hu)⟩
/-- A row that is not yet done is set. -/
theorem UI.other {w W : World} {H0 H1 T H3 M0 px N2 len i : Nat} {p : P2} {l : List Int} {vp : Value} (h : UI w W H0 H1 T H3 M0 px N2 len i p l vp) {j : Nat} (hj : j < i) (a : Option Addr) (m c : Nat) : UI w (W.setCell ⟨T, j, none⟩ (.slice a m c)) H0 H1 T H3 M0 px N2 len i p l vp := by
  have kc : ∀ b k v, b ≠ T → W.cell? ⟨b, k, none⟩ = some v → (W.setCell ⟨T, j, none⟩ (.slice a m c)).cell? ⟨b, k, none⟩ = some v := fun b k v hb hv =>
    (World.cell?_setCell_other _ _ _ _ (by intro e; injection e with e; omega)).trans hv
  obtain ⟨rv, h1, h2, h3⟩ := h.tr
  refine ⟨kc _ _ _ h.q.2.2.1 h.c0, kc _ _ _ h.q.2.2.2.1 h.c1, kc _ _ _ h.q.2.2.2.2.1 h.c3, ⟨_, h1.set j _, fun k => ?_, fun k h4 h5 => ?_⟩, h.bw.setCell (p := ⟨T, j, none⟩) h.q.1 _, by simp [World.setCell]; exact h.sz, h.q⟩
  · show ∃ a' m' c', (if k = j then _ else rv k) = _
    by_cases e : k = j
    · exact ⟨a, m, c, if_pos e⟩
    · obtain ⟨a', m', c', e'⟩ := h2 k
      exact ⟨a', m', c', (if_neg e).trans e'⟩
  · obtain ⟨g, e1, e2, e3⟩ := h3 k h4 h5
    exact ⟨g, (if_neg (by omega)).trans e1, e2, fun u hu => kc _ _ _ (by have := h.q; omega) (e3 u hu)⟩
/-- The next row is done. -/
theorem UI.fin {w W : World} {H0 H1 T H3 M0 px N2 len i : Nat} {p : P2} {l : List Int} {vp : Value} (h : UI w W H0 H1 T H3 M0 px N2 len (i + 1) p l vp) {g : Nat} (hi : i ≤ len) (hg : M0 ≤ g) (hT : W.cell? ⟨T, i, none⟩ = some (.slice (some ⟨g, 0, none⟩) N2 N2))
    (hc : ∀ u, u < N2 → W.cell? ⟨g, u, none⟩ = some (.bool (canS p (l.drop i) u))) : UI w W H0 H1 T H3 M0 px N2 len i p l vp := by
  obtain ⟨rv, h1, h2, h3⟩ := h.tr
  refine ⟨h.c0, h.c1, h.c3, ⟨rv, h1, h2, fun j h4 h5 => ?_⟩, h.bw, h.sz, h.q⟩
  by_cases e : j = i
  · subst e
    have := h1.cell (i := j) (by omega)
    rw [hT] at this
    injection this with this
    exact ⟨g, this.symm, hg, hc⟩
  · exact h3 j (by omega) h5
theorem UI.row {w W : World} {H0 H1 T H3 M0 px N2 len i : Nat} {p : P2} {l : List Int} {vp : Value} (h : UI w W H0 H1 T H3 M0 px N2 len i p l vp) {j : Nat} (h1 : i ≤ j) (h2 : j ≤ len) : ∃ g, M0 ≤ g ∧ W.cell? ⟨T, j, none⟩ = some (.slice (some ⟨g, 0, none⟩) N2 N2) ∧ ∀ u, u < N2 → W.cell? ⟨g, u, none⟩ = some (.bool (canS p (l.drop j) u)) := by
  obtain ⟨rv, h3, -, h4⟩ := h.tr
  obtain ⟨g, e1, e2, e3⟩ := h4 j h1 h2
  exact ⟨g, e2, by rw [← e1]; exact h3.cell (by omega), e3⟩
theorem UI.cell {w W : World} {H0 H1 T H3 M0 px N2 len i : Nat} {p : P2} {l : List Int} {vp : Value} (h : UI w W H0 H1 T H3 M0 px N2 len i p l vp) (j : Nat) (h2 : j ≤ len) : (∃ a m c, W.cell? ⟨T, j, none⟩ = some (.slice a m c)) ∧ W.frozen? ⟨T, j, none⟩ = false := by
  obtain ⟨rv, h3, h4, -⟩ := h.tr
  obtain ⟨a, m, c, e⟩ := h4 j
  exact ⟨⟨a, m, c, by rw [← e]; exact h3.cell (by omega)⟩, h3.frozen j⟩
theorem Below.setBoth {M : Nat} {W WA : World} (h : Below M W WA) (a : Addr) (v : Value) : Below M (W.setCell a v) (WA.setCell a v) :=
  ⟨h.os, h.tape, h.output, by simp [World.setCell]; exact h.size, fun k hk => by
    by_cases e : a.block = k
    · simp only [World.setCell, Array.getElem?_modify, if_pos e]
      rw [h.block k hk]
    · rw [Deep.blk_setCell_other _ _ _ _ (fun x => e x.symm), Deep.blk_setCell_other _ _ _ _ (fun x => e x.symm)]
      exact h.block k hk⟩
end Go.Proofs.Ytciopdlmjciieaa
