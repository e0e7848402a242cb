import Derived.Test.YtciopdlmjciieaaIsSim
namespace Go.Proofs.Ytciopdlmjciieaa
open Go.RowKit
set_option linter.unusedVariables false

/-- A list of rows of numbers that a call has made. -/
structure OL (w : World) (B : Nat) (v : Value) (L : List (List Int)) : Prop where
  ex : ∃ vs : List Value, w.ownsRow B 22 1 v L.length vs ∧ ∀ (i : Nat) (l : List Int), L[i]? = some l → ∃ g c, vs[i]? = some (Value.slice (some ⟨g, 0, none⟩) l.length c) ∧ ownInts w B (.slice (some ⟨g, 0, none⟩) l.length c) l ∧ v.ownBlock ≠ some g
section
variable {w w' W : World} {B : Nat} {v v' : Value} {L : List (List Int)}
theorem OL.nil (w : World) (B : Nat) : OL w B (.slice none 0 0) [] := ⟨[], World.ownsRow_nil _ _ _ _, fun i l h => by simp at h⟩
theorem OL.later (h : OL w B v L) (hb : Below w.heap.size w w') : OL w' B v L := by
  obtain ⟨vs, h1, h2⟩ := h.ex
  refine ⟨vs, ownsRow_later h1 hb, fun i l hl => ?_⟩
  obtain ⟨g, c, e1, e2, e3⟩ := h2 i l hl
  exact ⟨g, c, e1, ownsRow_later e2 hb, e3⟩
theorem OL.form (h : OL w B v L) : ∃ a c, v = .slice a L.length c := by
  obtain ⟨vs, h1, -⟩ := h.ex
  exact row_form h1
theorem OL.len (h : OL w B v L) : L.length ≤ maxLen := by
  obtain ⟨vs, h1, -⟩ := h.ex
  rcases h1.2 with ⟨-, h⟩ | ⟨g, cap, cur, -, -, -, h2, h3, -⟩
  · rw [h]; exact Nat.zero_le _
  · exact Nat.le_trans h2 h3
/-- Behind an append of one row that is newer than the rest. -/
theorem OL.push (h : OL w B v L) (hb : Below w.heap.size w W) {vs : List Value} (hvs : ∀ (i : Nat) (l : List Int), L[i]? = some l → ∃ g c, vs[i]? = some (Value.slice (some ⟨g, 0, none⟩) l.length c) ∧ ownInts w B (.slice (some ⟨g, 0, none⟩) l.length c) l ∧ v.ownBlock ≠ some g) (hn : vs.length = L.length)
    {l : List Int} {g c : Nat} (hl : ownInts W w.heap.size (.slice (some ⟨g, 0, none⟩) l.length c) l) (hB : B ≤ w.heap.size) (hg : W.grownBy w' v.ownBlock)
    (ho : w'.ownsRow B 22 1 v' (L.length + 1) (vs ++ [Value.slice (some ⟨g, 0, none⟩) l.length c])) (hat : v'.ownBlock = v.ownBlock ∨ v'.ownBlock = some W.heap.size) : OL w' B v' (L ++ [l]) := by
  obtain ⟨vs0, h1, -⟩ := h.ex
  have hvl : ∀ k, v.ownBlock = some k → k < w.heap.size := fun k hk => (h1.lt k hk).2
  refine ⟨vs ++ [Value.slice (some ⟨g, 0, none⟩) l.length c], by simpa using ho, fun i l' hl' => ?_⟩
  by_cases hi : i < L.length
  · rw [List.getElem?_append_left hi] at hl'
    obtain ⟨g', c', e1, e2, e3⟩ := hvs i l' hl'
    have hlt := (e2.lt g' rfl).2
    refine ⟨g', c', by rw [List.getElem?_append_left (by omega)]; exact e1, World.ownsRow.kept (ownsRow_later e2 hb) hg (.inr fun e => e3 e.symm), ?_⟩
    rcases hat with h4 | h4
    · rw [h4]; exact e3
    · rw [h4]; intro e; injection e with e; have := hb.size; omega
  · have hii : i = L.length := by
      have := (List.getElem?_eq_some_iff.1 hl').1
      simp at this; omega
    subst hii
    simp at hl'
    subst hl'
    have hlt := hl.lt g rfl
    refine ⟨g, c, by rw [← hn]; simp, World.ownsRow.kept (row_mono hl hB) hg (.inr fun e => ?_), ?_⟩
    · have := hvl g e.symm; omega
    · rcases hat with h4 | h4
      · rw [h4]; intro e; have := hvl g e; omega
      · rw [h4]; intro e; injection e with e; omega
/-- How its rows are read. -/
def RowsV (w : World) (v : Value) (L : List (List Int)) : Prop := ∃ a cap, v = .slice a L.length cap ∧ L.length ≤ maxLen ∧ ∀ (i : Nat) (l : List Int), L[i]? = some l → ∃ b off g c, a = some ⟨b, off, none⟩ ∧ w.cell? ⟨b, off + i, none⟩ = some (.slice (some ⟨g, 0, none⟩) l.length c) ∧ IntsAt w (.slice (some ⟨g, 0, none⟩) l.length c) l
theorem OL.at (h : OL w B v L) : RowsV w v L := by
  have hlen := h.len
  obtain ⟨vs, h1, h2⟩ := h.ex
  rcases h1.2 with ⟨hv, hL⟩ | ⟨g0, cap, cur, hv, -, -, -⟩
  · refine ⟨none, 0, by rw [hv, hL], hlen, fun i l hl => ?_⟩
    rw [List.length_eq_zero_iff.1 hL] at hl
    simp at hl
  · refine ⟨some ⟨g0, 0, none⟩, cap, hv, hlen, fun i l hl => ?_⟩
    obtain ⟨g, c, e1, e2, e3⟩ := h2 i l hl
    refine ⟨g0, 0, g, c, rfl, ?_, IntsAt.of_own e2⟩
    have := h1.cells (g := g0) (by rw [hv]; rfl) i _ e1
    have hadd : (⟨g0, 0, none⟩ : Addr).add i = ⟨g0, 0 + i, none⟩ := by unfold Addr.add; split <;> simp_all
    rwa [hadd] at this
theorem RowsV.later (h : RowsV w v L) (hb : Below w.heap.size w w') : RowsV w' v L := by
  obtain ⟨a, cap, e, hm, h⟩ := h
  refine ⟨a, cap, e, hm, fun i l hl => ?_⟩
  obtain ⟨b, off, g, c, e1, e2, e3⟩ := h i l hl
  exact ⟨b, off, g, c, e1, Below.keeps hb e2 (Nat.le_refl _), e3.later hb⟩
end

/-- The pairs of a row, of a table, whose rank is none. -/
def simRow (s : Nat) (r : List Int) : Nat → List (List Int)
  | 0 => []
  | u + 1 => simRow s r u ++ (if gi r u = -1 then [[(s : Int), (u : Int)]] else [])
def simL (R : Nat → List Int) (n : Nat) : Nat → List (List Int)
  | 0 => []
  | s + 1 => simL R n s ++ simRow s (R s) n
theorem simRow_len (s : Nat) (r : List Int) (u : Nat) : (simRow s r u).length ≤ u := by
  induction u with
  | zero => simp [simRow]
  | succ u ih => rw [simRow, List.length_append]; split <;> simp <;> omega
theorem simL_len (R : Nat → List Int) (n s : Nat) : (simL R n s).length ≤ s * n := by
  induction s with
  | zero => simp [simL]
  | succ s ih => rw [simL, List.length_append, Nat.succ_mul]; have := simRow_len s (R s) n; omega
end Go.Proofs.Ytciopdlmjciieaa
