import Derived.Test.YtciopdlmjciieaaSort
namespace Go.Proofs.Ytciopdlmjciieaa
open Go.RowKit
set_option linter.unusedVariables false

/-- A pair of graphs with their labels. -/
structure P2 where
  lo : G
  up : G
  ll : List Int
  ul : List Int
/-- A pair that is given by value. -/
def PairV (w : World) (v : Value) (p : P2) : Prop := ∃ i1 e1 i2 e2 l1 l2, v = .agg #[.int .i64 p.lo.n, i1, e1, .int .i64 p.up.n, i2, e2, l1, l2] ∧
  IntsAt w i1 p.lo.init ∧ EdgesAt w e1 p.lo.edges ∧ IntsAt w i2 p.up.init ∧ EdgesAt w e2 p.up.edges ∧ IntsAt w l1 p.ll ∧ IntsAt w l2 p.ul
theorem PairV.later {w w' : World} {v : Value} {p : P2} (h : PairV w v p) (hb : Below w.heap.size w w') : PairV w' v p := by
  obtain ⟨i1, e1, i2, e2, l1, l2, rfl, h1, h2, h3, h4, h5, h6⟩ := h
  exact ⟨_, _, _, _, _, _, rfl, h1.later hb, h2.later hb, h3.later hb, h4.later hb, h5.later hb, h6.later hb⟩
structure PairOk (p : P2) : Prop where
  lo : graphOk p.lo
  up : graphOk p.up
  l40 : p.lo.n ≤ 40
  u40 : p.up.n ≤ 40
  ll : (p.ll.length : Int) = p.lo.n
  ul : (p.ul.length : Int) = p.up.n
/-- The states to which steps lead from a state, in the order of the steps. -/
def nb : List E → Nat → List Int
  | [], _ => []
  | e :: r, s => if e.f = (s : Int) then e.t :: nb r s else nb r s
theorem nb_len : ∀ (l : List E) (s : Nat), (nb l s).length ≤ l.length
  | [], s => Nat.le_refl _
  | e :: r, s => by have := nb_len r s; unfold nb; split; (simp; exact this); (simp; omega)
theorem nb_app (l : List E) (e : E) (s : Nat) : nb (l ++ [e]) s = if e.f = (s : Int) then nb l s ++ [e.t] else nb l s := by
  induction l with
  | nil => simp [nb]
  | cons a r ih =>
    simp only [List.cons_append, nb]
    rw [ih]
    by_cases h1 : a.f = (s : Int)
    · rw [if_pos h1, if_pos h1]; split <;> simp
    · rw [if_neg h1, if_neg h1]
theorem mem_nb {l : List E} {s : Nat} {t : Int} : t ∈ nb l s ↔ ∃ e ∈ l, e.f = (s : Int) ∧ e.t = t := by
  induction l with
  | nil => simp [nb]
  | cons a r ih =>
    unfold nb
    by_cases h1 : a.f = (s : Int)
    · rw [if_pos h1]
      simp only [List.mem_cons, ih]
      constructor
      · rintro (rfl | ⟨e, he, h⟩)
        · exact ⟨a, .inl rfl, h1, rfl⟩
        · exact ⟨e, .inr he, h⟩
      · rintro ⟨e, rfl | he, h2, h3⟩
        · exact .inl h3.symm
        · exact .inr ⟨e, he, h2, h3⟩
    · rw [if_neg h1]
      simp only [List.mem_cons, ih]
      constructor
      · rintro ⟨e, he, h⟩; exact ⟨e, .inr he, h⟩
      · rintro ⟨e, rfl | he, h2, h3⟩
        · exact absurd h2 h1
        · exact ⟨e, he, h2, h3⟩
def lowRow (p : P2) (s : Nat) : List Int := nb p.lo.edges s
def srt (l : List Int) : List Int := l.mergeSort fun x y => decide (x ≤ y)
/-- A state itself and those to which steps lead, ascending, each once. -/
def upRow (p : P2) (u : Nat) : List Int := Lib.compact (srt (nb p.up.edges u ++ [(u : Int)]))

theorem mem_compact {zs : List Int} {x : Int} : x ∈ Lib.compact zs ↔ x ∈ zs := by
  unfold Lib.compact Lib.compactUpTo
  simp only [List.mem_map, List.mem_filter, List.mem_range]
  constructor
  · rintro ⟨j, ⟨hj, -⟩, rfl⟩
    simp [List.getElem!_eq_getElem?_getD, List.getElem?_eq_getElem hj]
  · intro h
    obtain ⟨j, hj, rfl⟩ := List.getElem_of_mem h
    have key : ∀ j (hj : j < zs.length), ∃ i, (i < zs.length ∧ Lib.keeps zs.toArray i = true) ∧ zs.toArray[i]! = zs[j] := by
      intro j
      induction j with
      | zero => intro hj; exact ⟨0, ⟨hj, Lib.keeps_lt_one _ 0 (by omega)⟩, by simp [List.getElem!_eq_getElem?_getD, List.getElem?_eq_getElem hj]⟩
      | succ j ih =>
        intro hj
        by_cases hk : Lib.keeps zs.toArray (j + 1) = true
        · exact ⟨j + 1, ⟨hj, hk⟩, by simp [List.getElem!_eq_getElem?_getD, List.getElem?_eq_getElem hj]⟩
        · obtain ⟨i, hi, he⟩ := ih (by omega)
          refine ⟨i, hi, ?_⟩
          rw [he]
          unfold Lib.keeps at hk
          simp [List.getElem!_eq_getElem?_getD, List.getElem?_eq_getElem hj, List.getElem?_eq_getElem (show j < zs.length by omega)] at hk
          exact hk.symm
    exact key j hj
theorem compact_len (zs : List Int) : (Lib.compact zs).length ≤ zs.length := by
  unfold Lib.compact Lib.compactUpTo
  rw [List.length_map]
  exact Nat.le_trans (List.length_filter_le _ _) (by simp)
theorem srt_len (l : List Int) : (srt l).length = l.length := List.length_mergeSort _
theorem mem_upRow {p : P2} {u : Nat} {v : Int} : v ∈ upRow p u ↔ v = (u : Int) ∨ ∃ e ∈ p.up.edges, e.f = (u : Int) ∧ e.t = v := by
  unfold upRow srt
  rw [mem_compact, List.mem_mergeSort, List.mem_append, mem_nb]
  simp only [List.mem_singleton]
  exact Or.comm
theorem upRow_len (p : P2) (u : Nat) : (upRow p u).length ≤ p.up.edges.length + 1 := by
  unfold upRow
  refine Nat.le_trans (compact_len _) ?_
  rw [srt_len, List.length_append]
  have := nb_len p.up.edges u
  simp; omega

/-- A pair in memory, with the rows of its steps. -/
structure PX (w : World) (px : Nat) (p : P2) (i1 e1 i2 e2 l1 l2 : Option Addr) (c1 d1 c2 d2 k1 k2 TL TU N1 N2 : Nat) : Prop where
  q0 : w.cell? ⟨px, 0, none⟩ = some (.int .i64 p.lo.n)
  q1 : w.cell? ⟨px, 1, none⟩ = some (.slice i1 p.lo.init.length c1)
  q2 : w.cell? ⟨px, 2, none⟩ = some (.slice e1 p.lo.edges.length d1)
  q3 : w.cell? ⟨px, 3, none⟩ = some (.int .i64 p.up.n)
  q4 : w.cell? ⟨px, 4, none⟩ = some (.slice i2 p.up.init.length c2)
  q5 : w.cell? ⟨px, 5, none⟩ = some (.slice e2 p.up.edges.length d2)
  q6 : w.cell? ⟨px, 6, none⟩ = some (.slice l1 p.ll.length k1)
  q7 : w.cell? ⟨px, 7, none⟩ = some (.slice l2 p.ul.length k2)
  q8 : w.cell? ⟨px, 8, none⟩ = some (.slice (some ⟨TL, 0, none⟩) N1 N1)
  q9 : w.cell? ⟨px, 9, none⟩ = some (.slice (some ⟨TU, 0, none⟩) N2 N2)
theorem PX.under {w w' : World} {px B : Nat} {p : P2} {i1 e1 i2 e2 l1 l2 : Option Addr} {c1 d1 c2 d2 k1 k2 TL TU N1 N2 : Nat} (h : PX w px p i1 e1 i2 e2 l1 l2 c1 d1 c2 d2 k1 k2 TL TU N1 N2) (hp : w'.heap[px]? = w.heap[px]?) : PX w' px p i1 e1 i2 e2 l1 l2 c1 d1 c2 d2 k1 k2 TL TU N1 N2 := by
  have ne : ∀ i, w'.cell? ⟨px, i, none⟩ = w.cell? ⟨px, i, none⟩ := fun i => World.cell?_of_block hp
  exact ⟨(ne _).trans h.q0, (ne _).trans h.q1, (ne _).trans h.q2, (ne _).trans h.q3, (ne _).trans h.q4, (ne _).trans h.q5, (ne _).trans h.q6, (ne _).trans h.q7, (ne _).trans h.q8, (ne _).trans h.q9⟩
theorem PX.lt {w : World} {px : Nat} {p : P2} {i1 e1 i2 e2 l1 l2 : Option Addr} {c1 d1 c2 d2 k1 k2 TL TU N1 N2 : Nat} (h : PX w px p i1 e1 i2 e2 l1 l2 c1 d1 c2 d2 k1 k2 TL TU N1 N2) : px < w.heap.size := cell_lt h.q0
theorem PX.later {w w' : World} {px : Nat} {p : P2} {i1 e1 i2 e2 l1 l2 : Option Addr} {c1 d1 c2 d2 k1 k2 TL TU N1 N2 : Nat} (h : PX w px p i1 e1 i2 e2 l1 l2 c1 d1 c2 d2 k1 k2 TL TU N1 N2) (hb : Below w.heap.size w w') : PX w' px p i1 e1 i2 e2 l1 l2 c1 d1 c2 d2 k1 k2 TL TU N1 N2 :=
  h.under (B := 0) (hb.block px h.lt)
/-- All that is read of a pair. -/
structure PairX (w : World) (px : Nat) (p : P2) (N1 N2 : Nat) : Prop where
  ex : ∃ i1 e1 i2 e2 l1 l2 c1 d1 c2 d2 k1 k2 TL TU, PX w px p i1 e1 i2 e2 l1 l2 c1 d1 c2 d2 k1 k2 TL TU N1 N2 ∧
    IntsCells w i1 p.lo.init ∧ EdgesCells w e1 p.lo.edges ∧ IntsCells w i2 p.up.init ∧ EdgesCells w e2 p.up.edges ∧ IntsCells w l1 p.ll ∧ IntsCells w l2 p.ul ∧ RowsAt w TL N1 (lowRow p) ∧ RowsAt w TU N2 (upRow p)
  n1 : p.lo.n = N1
  n2 : p.up.n = N2
theorem PairX.later {w w' : World} {px : Nat} {p : P2} {N1 N2 : Nat} (h : PairX w px p N1 N2) (hb : Below w.heap.size w w') : PairX w' px p N1 N2 := by
  obtain ⟨i1, e1, i2, e2, l1, l2, c1, d1, c2, d2, k1, k2, TL, TU, h0, h1, h2, h3, h4, h5, h6, h7, h8⟩ := h.ex
  exact ⟨⟨i1, e1, i2, e2, l1, l2, c1, d1, c2, d2, k1, k2, TL, TU, h0.later hb, h1.later hb, h2.later hb, h3.later hb, h4.later hb, h5.later hb, h6.later hb, h7.later hb, h8.later hb⟩, h.n1, h.n2⟩

/-- slices.Compact of a row of the call's own. -/
theorem compact_own (B : Nat) (l : List Int) (v : Value) (w : World) (h : ownInts w B v l) (h0 : l ≠ []) (hl : l.length ≤ 100000) :
    Calls Try.prog 51 #[v] w fun e w' => ∃ v', e = .returned v' ∧ ownInts w' B v' (Lib.compact l) ∧ w.grownBy w' v.ownBlock ∧ v'.ownBlock = v.ownBlock := by
  rcases h.2 with ⟨-, h1⟩ | ⟨g, cap, cur, rfl, hB, hg, hn, hm, hs, ht⟩
  · exact absurd (List.length_eq_zero_iff.1 h1) h0
  · have hH : Go.Sort.Holds (Value.int .i64) w g 0 l.toArray := holds_of_blockI hg (by rw [Nat.mul_one] at ht; exact ht)
    refine (Any.slices_Compact_int laysCompact g 0 cap l w hH (by omega) hn).mono ?_
    rintro e w' ⟨rfl, q, rfl⟩
    have hlen : (Lib.compact l ++ List.replicate (l.length - (Lib.compact l).length) 0).length = l.length := by
      have := compact_len l; simp; omega
    have h2 := ownsRow_sortedI (w := w) (base := B) (n := q) (os := #[]) hlen hB hg hn hm hs
    have h3 := grownBy_sortedI (w := w) (g := g) (n := q) (os := #[]) (Lib.compact l ++ List.replicate (l.length - (Lib.compact l).length) 0).toArray
    rw [Go.Sort.grow_empty] at h2 h3
    refine ⟨_, rfl, ?_, h3, rfl⟩
    rcases h2.2 with ⟨h4, -⟩ | ⟨g', cap', cur', h4, hB', hg', hn', hm', hs', ht'⟩
    · cases h4
    · injection h4 with h4 h5 h6
      injection h4 with h4
      injection h4 with h4
      subst h4 h6
      have hc := compact_len l
      refine ⟨by simp, .inr ⟨g, cap, cur', rfl, hB', hg', by omega, hm', hs', ?_⟩⟩
      have : cur'.toList.take ((Lib.compact l).length * 1) = (cur'.toList.take (l.length * 1)).take ((Lib.compact l).length * 1) := by
        rw [List.take_take]; congr 1; omega
      rw [this, ht', List.map_append, Nat.mul_one, List.take_append_of_le_length (by simp), List.take_of_length_le (by simp)]
end Go.Proofs.Ytciopdlmjciieaa
