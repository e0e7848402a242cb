import Derived.Test.YtnijajjmcdgonaaMathH
import Derived.Test.YtnijajjmcdgonaaCovB
import Derived.Test.YtnijajjmcdgonaaWalkV
import Derived.Deep.LoopGhost
import Derived.Test.YtnijajjmcdgonaaWalkU
namespace Go.Proofs.Ytnijajjmcdgonaa
open Go.RowKit
set_option linter.unusedVariables false

theorem row_mono {w : World} {B B' : Nat} {t : TypeId} {s : Nat} {v : Value} {n : Nat} {xs : List Value} (h : w.ownsRow B t s v n xs) (hB : B' ≤ B) : w.ownsRow B' t s v n xs := by
  obtain ⟨h0, h | ⟨g, cap, cur, h1, h2, h3⟩⟩ := h
  · exact ⟨h0, .inl h⟩
  · exact ⟨h0, .inr ⟨g, cap, cur, h1, Nat.le_trans hB h2, h3⟩⟩
theorem row_set {w : World} {B : Nat} {t : TypeId} {s : Nat} {v : Value} {n : Nat} {xs : List Value} (h : w.ownsRow B t s v n xs) {a : Addr} (ha : v.ownBlock = none ∨ v.ownBlock ≠ some a.block) (u : Value) : (w.setCell a u).ownsRow B t s v n xs := by
  obtain ⟨h0, h | ⟨g, cap, cur, h1, h2, h3, h4⟩⟩ := h
  · exact ⟨h0, .inl h⟩
  · refine ⟨h0, .inr ⟨g, cap, cur, h1, h2, ?_, h4⟩⟩
    have hne : g ≠ a.block := by
      rcases ha with ha | ha
      · rw [h1] at ha; simp [Value.ownBlock] at ha
      · rw [h1] at ha; simp [Value.ownBlock] at ha; exact ha
    rw [Deep.blk_setCell_other w a u g hne]
    exact h3
theorem row_cell {w : World} {B : Nat} {t : TypeId} {g n c : Nat} {xs : List Value} (h : w.ownsRow B t 1 (.slice (some ⟨g, 0, none⟩) n c) n xs) {j : Nat} {u : Value} (hj : xs[j]? = some u) : w.cell? ⟨g, j, none⟩ = some u := by
  obtain ⟨h0, h | ⟨g', cap, cur, h1, h2, h3, h4, h5, h6, h7⟩⟩ := h
  · simp at h
  · injection h1 with h1
    injection h1 with h1
    injection h1 with h1
    subst h1
    have hlt := (List.getElem?_eq_some_iff.1 hj).1
    rw [← h7, List.getElem?_take_of_lt (by rw [h0] at hlt; simpa using hlt)] at hj
    have h8 : cur[j]? = some u := by rw [← Array.getElem?_toList]; exact hj
    unfold World.cell?
    simp only [h3]
    simpa using h8

def gb (l : List Bool) (j : Nat) : Bool := l[j]?.getD false
/-- How many are false. -/
abbrev cntF (l : List Bool) : Nat := l.count false
theorem cntF_set {l : List Bool} {j : Nat} (hj : j < l.length) (h : gb l j = false) : cntF (l.set j true) + 1 = cntF l := by
  have h1 : l[j] = false := by unfold gb at h; rw [List.getElem?_eq_getElem hj] at h; simpa using h
  have hp : 0 < l.count false := List.count_pos_iff.2 (h1 ▸ List.getElem_mem hj)
  unfold cntF
  rw [List.count_set hj]
  simp [h1]
  omega
theorem gb_set (l : List Bool) (j i : Nat) (hj : j < l.length) : gb (l.set j true) i = (gb l i || decide (i = j)) := by
  unfold gb
  by_cases h : i = j
  · subst h; simp [hj]
  · rw [List.getElem?_set_ne (by omega)]; simp [h]
/-- What has been seen. -/
def seenS (sL : List Bool) (s : Int) : Prop := 0 ≤ s ∧ gb sL s.toNat = true
theorem seenS_set {sL : List Bool} {t : Int} (h0 : 0 ≤ t) (ht : t.toNat < sL.length) (s : Int) : seenS (sL.set t.toNat true) s ↔ seenS sL s ∨ s = t := by
  unfold seenS
  rw [gb_set _ _ _ ht]
  simp only [Bool.or_eq_true, decide_eq_true_eq]
  constructor
  · rintro ⟨h1, h2 | h2⟩
    · exact .inl ⟨h1, h2⟩
    · exact .inr (by omega)
  · rintro (⟨h1, h2⟩ | rfl)
    · exact ⟨h1, .inl h2⟩
    · exact ⟨h0, .inr rfl⟩

/-- Walks in a row of a call's own, their steps in rows of their own. -/
structure OX (w : World) (Br Bs : Nat) (v : Value) (l : List W3) : Prop where
  row : ∃ xs, w.ownsRow Br 39 3 v l.length xs ∧ ∀ j, j < l.length → ∃ a c, xs[j * 3]? = some (.int .i64 (gw l j).first) ∧ xs[j * 3 + 1]? = some (.slice a (gw l j).steps.length c) ∧ xs[j * 3 + 2]? = some (.bool (gw l j).stuck) ∧ ownInts w Bs (.slice a (gw l j).steps.length c) (gw l j).steps
theorem OX.nil (w : World) (Br Bs : Nat) : OX w Br Bs (.slice none 0 0) [] := ⟨⟨[], World.ownsRow_nil _ _ _ _, fun j hj => by simp at hj⟩⟩
theorem OX.later {w w' : World} {Br Bs : Nat} {v : Value} {l : List W3} (h : OX w Br Bs v l) (hb : Below w.heap.size w w') : OX w' Br Bs v l := by
  obtain ⟨xs, h1, h2⟩ := h.row
  refine ⟨⟨xs, ownsRow_later h1 hb, fun j hj => ?_⟩⟩
  obtain ⟨a, c, e0, e1, e2, e3⟩ := h2 j hj
  exact ⟨a, c, e0, e1, e2, ownsRow_later e3 hb⟩
theorem OX.lower {w : World} {Br Br' Bs : Nat} {v : Value} {l : List W3} (h : OX w Br Bs v l) (hB : Br' ≤ Br) : OX w Br' Bs v l := by
  obtain ⟨xs, h1, h2⟩ := h.row
  exact ⟨⟨xs, row_mono h1 hB, h2⟩⟩
theorem OX.lt {w : World} {Br Bs : Nat} {v : Value} {l : List W3} (h : OX w Br Bs v l) : ∀ k, v.ownBlock = some k → Br ≤ k ∧ k < w.heap.size := by
  obtain ⟨xs, h1, h2⟩ := h.row
  exact h1.lt
/-- A flag that is set changes no walk. -/
theorem OX.set {w : World} {Br Bs Bb : Nat} {v : Value} {l : List W3} (h : OX w Br Bs v l) {gs N c : Nat} {ys : List Value} (hs : w.ownsRow Bb 4 1 (.slice (some ⟨gs, 0, none⟩) N c) N ys) (q : Nat) (u : Value) : OX (w.setCell ⟨gs, q, none⟩ u) Br Bs v l := by
  obtain ⟨xs, h1, h2⟩ := h.row
  refine ⟨⟨xs, row_set (a := ⟨gs, q, none⟩) h1 (row_apart h1 hs (by decide)) u, fun j hj => ?_⟩⟩
  obtain ⟨a, c, e0, e1, e2, e3⟩ := h2 j hj
  exact ⟨a, c, e0, e1, e2, row_set (a := ⟨gs, q, none⟩) e3 (row_apart e3 hs (by decide)) u⟩
theorem OX.at {w : World} {Br Bs : Nat} {v : Value} {l : List W3} (h : OX w Br Bs v l) (hm : ∀ j, j < l.length → (gw l j).steps.length ≤ maxLen) : WalksAt w v l := by
  obtain ⟨xs, h1, h2⟩ := h.row
  obtain ⟨hlen, h1⟩ := h1
  rcases h1 with ⟨rfl, h0⟩ | ⟨g, cap, cur, rfl, hB, hg, hn, hmm, hs, ht⟩
  · exact ⟨none, 0, by rw [h0], by rw [h0]; exact Nat.zero_le _, fun j hj => by omega⟩
  · have key : ∀ j u, j < l.length * 3 → xs[j]? = some u → w.cell? ⟨g, 0 + j, none⟩ = some u := by
      intro j u hj hu
      rw [← ht, List.getElem?_take_of_lt hj] at hu
      have h3 : cur[j]? = some u := by rw [← Array.getElem?_toList]; exact hu
      unfold World.cell?
      simp only [hg, Nat.zero_add]
      simpa using h3
    refine ⟨_, _, rfl, Nat.le_trans hn hmm, fun j hj => ?_⟩
    obtain ⟨a, c, e0, e1, e2, e3⟩ := h2 j hj
    exact ⟨g, 0, a, c, rfl, key _ _ (by omega) e0, key _ _ (by omega) e1, key _ _ (by omega) e2, hm j hj, (own_cells e3).2.1⟩
/-- Behind an append to another row of walks. -/
theorem OX.grown {w w' : World} {Br Bs : Nat} {v : Value} {l : List W3} (h : OX w Br Bs v l) {vN : Value} {B2 n : Nat} {ys : List Value} (hn : w.ownsRow B2 39 3 vN n ys) (hg : w.grownBy w' vN.ownBlock) (hne : v.ownBlock = none ∨ v.ownBlock ≠ vN.ownBlock) : OX w' Br Bs v l := by
  obtain ⟨xs, h1, h2⟩ := h.row
  refine ⟨⟨xs, h1.kept hg hne, fun j hj => ?_⟩⟩
  obtain ⟨a, c, e0, e1, e2, e3⟩ := h2 j hj
  exact ⟨a, c, e0, e1, e2, World.ownsRow.kept e3 hg (row_apart e3 hn (by decide))⟩
/-- One walk more. -/
theorem OX.more {w w' : World} {Br Bs : Nat} {v v' : Value} {l : List W3} {x : W3} {a : Option Addr} {c : Nat} {xs : List Value} (hx1 : w.ownsRow Br 39 3 v l.length xs)
    (hx2 : ∀ j, j < l.length → ∃ a c, xs[j * 3]? = some (.int .i64 (gw l j).first) ∧ xs[j * 3 + 1]? = some (.slice a (gw l j).steps.length c) ∧ xs[j * 3 + 2]? = some (.bool (gw l j).stuck) ∧ ownInts w Bs (.slice a (gw l j).steps.length c) (gw l j).steps)
    (ho : ownInts w Bs (.slice a x.steps.length c) x.steps) (hg : w.grownBy w' v.ownBlock) (hr : w'.ownsRow Br 39 3 v' (l.length + 1) (xs ++ [.int .i64 x.first, .slice a x.steps.length c, .bool x.stuck])) : OX w' Br Bs v' (l ++ [x]) := by
  have hxl : xs.length = l.length * 3 := hx1.1
  have hkeep : ∀ {a : Option Addr} {n c : Nat} {L : List Int}, ownInts w Bs (.slice a n c) L → ownInts w' Bs (.slice a n c) L := fun h =>
    World.ownsRow.kept h hg (row_apart h hx1 (by decide))
  refine ⟨⟨_, by rw [List.length_append]; exact hr, fun j hj => ?_⟩⟩
  rw [List.length_append] at hj
  have hj' : j < l.length + 1 := hj
  by_cases hjk : j < l.length
  · rw [gw_app_lt hjk]
    obtain ⟨a', c', e0, e1, e2, e3⟩ := hx2 j hjk
    refine ⟨a', c', ?_, ?_, ?_, hkeep e3⟩
    · rw [List.getElem?_append_left (by omega)]; exact e0
    · rw [List.getElem?_append_left (by omega)]; exact e1
    · rw [List.getElem?_append_left (by omega)]; exact e2
  · obtain rfl : j = l.length := by omega
    rw [gw_app_at]
    refine ⟨a, c, ?_, ?_, ?_, hkeep ho⟩
    · rw [List.getElem?_append_right (by omega), hxl]; simp
    · rw [List.getElem?_append_right (by omega), hxl]; simp
    · rw [List.getElem?_append_right (by omega), hxl]; simp

/-- What least keeps in memory besides its walks. -/
structure LZ (w wr : World) (N gs : Nat) (ve : Value) (sL : List Bool) : Prop where
  g2 : wr.cell? ⟨w.heap.size, 2, none⟩ = some ve
  r0 : wr.cell? ⟨w.heap.size + 1, 0, none⟩ = some (.int .i64 0)
  r1 : wr.cell? ⟨w.heap.size + 1, 1, none⟩ = some (.slice none 0 0)
  r2 : wr.cell? ⟨w.heap.size + 1, 2, none⟩ = some (.bool false)
  rf : ∀ i, wr.frozen? ⟨w.heap.size + 1, i, none⟩ = false
  sb : wr.ownsRow (w.heap.size + 2) 4 1 (.slice (some ⟨gs, 0, none⟩) N N) N (sL.map Value.bool)
  sl : sL.length = N
  bw : Below w.heap.size w wr
  lt : w.heap.size + 2 ≤ wr.heap.size
theorem LZ.later {w wr wr' : World} {N gs : Nat} {ve : Value} {sL : List Bool} (h : LZ w wr N gs ve sL) (hb : Below wr.heap.size wr wr') : LZ w wr' N gs ve sL :=
  ⟨Below.keeps hb h.g2 (Nat.le_refl _), Below.keeps hb h.r0 (Nat.le_refl _), Below.keeps hb h.r1 (Nat.le_refl _), Below.keeps hb h.r2 (Nat.le_refl _), fun i => Below.keepsF hb (h.rf i) (by have := cell_lt h.r0; exact this), ownsRow_later h.sb hb, h.sl, h.bw.trans (hb.mono h.bw.size), Nat.le_trans h.lt hb.size⟩
theorem LZ.ge {w wr : World} {N gs : Nat} {ve : Value} {sL : List Bool} (h : LZ w wr N gs ve sL) : w.heap.size + 2 ≤ gs ∧ gs < wr.heap.size := h.sb.lt gs rfl
theorem LZ.cell {w wr : World} {N gs : Nat} {ve : Value} {sL : List Bool} (h : LZ w wr N gs ve sL) {j : Nat} (hj : j < N) : wr.cell? ⟨gs, j, none⟩ = some (.bool (gb sL j)) := by
  refine row_cell h.sb ?_
  have hl := h.sl
  unfold gb
  rw [List.getElem?_map, List.getElem?_eq_getElem (by omega)]
  rfl
theorem LZ.see {w wr : World} {N gs : Nat} {ve : Value} {sL : List Bool} (h : LZ w wr N gs ve sL) (j : Nat) : LZ w (wr.setCell ⟨gs, j, none⟩ (.bool true)) N gs ve (sL.set j true) := by
  have hg := h.ge
  have ne : ∀ b i, b ≤ w.heap.size + 1 → (wr.setCell ⟨gs, j, none⟩ (.bool true)).cell? ⟨b, i, none⟩ = wr.cell? ⟨b, i, none⟩ := fun b i hb => World.cell?_setCell_other _ _ _ _ (by intro h; injection h with h1; omega)
  refine ⟨(ne _ 2 (by omega)).trans h.g2, (ne _ 0 (by omega)).trans h.r0, (ne _ 1 (by omega)).trans h.r1, (ne _ 2 (by omega)).trans h.r2, fun i => (World.frozen?_setCell _ _ _ _).trans (h.rf i), ?_, by rw [List.length_set]; exact h.sl, h.bw.setCell (by show w.heap.size ≤ gs; omega) _, by simp [World.setCell]; exact h.lt⟩
  rw [List.map_set]
  exact (World.ownsRow.stored h.sb j (.bool true)).1
/-- Behind an append to a row of walks. -/
theorem LZ.grown {w wr w' : World} {N gs : Nat} {ve : Value} {sL : List Bool} (h : LZ w wr N gs ve sL) {vN : Value} {B2 n : Nat} {ys : List Value} (hn : wr.ownsRow B2 39 3 vN n ys) (hB : w.heap.size + 2 ≤ B2) (hg : wr.grownBy w' vN.ownBlock) : LZ w w' N gs ve sL := by
  have hb : Below (w.heap.size + 2) wr w' := Below.grown (Below.refl _ _) hg h.lt (fun j hj => by have := (hn.lt j hj).1; omega)
  have ne : ∀ b i, b ≤ w.heap.size + 1 → w'.cell? ⟨b, i, none⟩ = wr.cell? ⟨b, i, none⟩ := fun b i hl => hb.cell (p := ⟨b, i, none⟩) (by show b < _; omega)
  exact ⟨(ne _ 2 (by omega)).trans h.g2, (ne _ 0 (by omega)).trans h.r0, (ne _ 1 (by omega)).trans h.r1, (ne _ 2 (by omega)).trans h.r2, fun i => (hb.frozen (p := ⟨w.heap.size + 1, i, none⟩) (by show w.heap.size + 1 < _; omega)).trans (h.rf i),
    World.ownsRow.kept h.sb hg (row_apart h.sb hn (by decide)), h.sl, h.bw.trans (hb.mono (by omega)), Nat.le_trans h.lt hb.size⟩
theorem OX.form {w : World} {Br Bs : Nat} {v : Value} {l : List W3} (h : OX w Br Bs v l) : ∃ a c, v = .slice a l.length c := by
  obtain ⟨xs, h1, -⟩ := h.row
  exact row_form h1
/-- A walk of the row: its cells, and its steps in a row of their own. -/
theorem OX.get {w : World} {Br Bs : Nat} {a : Option Addr} {n cap : Nat} {l : List W3} (h : OX w Br Bs (.slice a n cap) l) {j : Nat} (hj : j < l.length) :
    ∃ b off aw cs, a = some ⟨b, off, none⟩ ∧ w.cell? ⟨b, off + j * 3, none⟩ = some (.int .i64 (gw l j).first) ∧ w.cell? ⟨b, off + j * 3 + 1, none⟩ = some (.slice aw (gw l j).steps.length cs) ∧ w.cell? ⟨b, off + j * 3 + 2, none⟩ = some (.bool (gw l j).stuck) ∧ ownInts w Bs (.slice aw (gw l j).steps.length cs) (gw l j).steps := by
  obtain ⟨xs, h1, h2⟩ := h.row
  obtain ⟨hlen, h1⟩ := h1
  rcases h1 with ⟨h1, h0⟩ | ⟨g, cap', cur, h1, hB, hg, hn, hmm, hs, ht⟩
  · omega
  · injection h1 with e1 e2 e3
    subst e1
    have key : ∀ j u, j < l.length * 3 → xs[j]? = some u → w.cell? ⟨g, 0 + j, none⟩ = some u := by
      intro j u hj hu
      rw [← ht, List.getElem?_take_of_lt hj] at hu
      have h3 : cur[j]? = some u := by rw [← Array.getElem?_toList]; exact hu
      unfold World.cell?
      simp only [hg, Nat.zero_add]
      simpa using h3
    obtain ⟨a, c, e0, e1, e2, e3⟩ := h2 j hj
    exact ⟨g, 0, a, c, rfl, key _ _ (by omega) e0, key _ _ (by omega) e1, key _ _ (by omega) e2, e3⟩
/-- A block of three cells that is no row's stays none when the row grows by a walk with other steps. -/
theorem apart_grown {w w' : World} {B px n : Nat} {vN v' : Value} {xs : List Value} {y : W3} {a aw : Option Addr} {c cs m : Nat} {x0 x2 : Value} (hx1 : w.ownsRow B 39 3 vN n xs) (hg : w.grownBy w' vN.ownBlock)
    (hr : w'.ownsRow B 39 3 v' (n + 1) (xs ++ [.int .i64 y.first, .slice a y.steps.length c, .bool y.stuck])) (hp : w.heap[px]? = some (.cells #[x0, .slice aw m cs, x2] 39 (0, 0))) (hm : y.steps.length ≠ m) (hne : vN.ownBlock ≠ some px) : v'.ownBlock ≠ some px := by
  intro hv
  have hpl := (Array.getElem?_eq_some_iff.1 hp).1
  have hpp := hg.block px hpl (fun h => hne h.symm)
  rw [hp] at hpp
  obtain ⟨hlen, h | ⟨g, cap, cur, h1, h2, h3, h4, h5, h6, h7⟩⟩ := hr
  · rw [h.1] at hv; cases hv
  · rw [h1] at hv
    simp [Value.ownBlock] at hv
    subst hv
    rw [hpp] at h3
    injection h3 with h3
    injection h3 with h3 h8
    subst h3
    have hc : cap = 1 := by simp at h6; omega
    have hn0 : n = 0 := by omega
    subst hn0
    have hxs : xs = [] := by have := hx1.1; simpa using this
    subst hxs
    simp at h7
    omega
/-- The walk that is gone on from, in a block of its own, its steps in a row of their own. -/
structure XB (wr : World) (Bs px : Nat) (f : Int) (aw : Option Addr) (cs : Nat) (st : Bool) (L : List Int) : Prop where
  hp : wr.heap[px]? = some (.cells #[.int .i64 f, .slice aw L.length cs, .bool st] 39 (0, 0))
  ow : ownInts wr Bs (.slice aw L.length cs) L
theorem XB.lt {wr : World} {Bs px : Nat} {f : Int} {aw : Option Addr} {cs : Nat} {st : Bool} {L : List Int} (h : XB wr Bs px f aw cs st L) : px < wr.heap.size := (Array.getElem?_eq_some_iff.1 h.hp).1
theorem XB.c0 {wr : World} {Bs px : Nat} {f : Int} {aw : Option Addr} {cs : Nat} {st : Bool} {L : List Int} (h : XB wr Bs px f aw cs st L) : wr.cell? ⟨px, 0, none⟩ = some (.int .i64 f) := by simp [World.cell?, h.hp]
theorem XB.c1 {wr : World} {Bs px : Nat} {f : Int} {aw : Option Addr} {cs : Nat} {st : Bool} {L : List Int} (h : XB wr Bs px f aw cs st L) : wr.cell? ⟨px, 1, none⟩ = some (.slice aw L.length cs) := by simp [World.cell?, h.hp]
theorem XB.later {wr w' : World} {Bs px : Nat} {f : Int} {aw : Option Addr} {cs : Nat} {st : Bool} {L : List Int} (h : XB wr Bs px f aw cs st L) (hb : Below wr.heap.size wr w') : XB w' Bs px f aw cs st L :=
  ⟨(hb.block px h.lt).trans h.hp, ownsRow_later h.ow hb⟩
theorem XB.set {w : World} {Bs px : Nat} {f : Int} {aw : Option Addr} {cs : Nat} {st : Bool} {L : List Int} (h : XB w Bs px f aw cs st L) {Bb gs N c : Nat} {ys : List Value} (hs : w.ownsRow Bb 4 1 (.slice (some ⟨gs, 0, none⟩) N c) N ys) (hne : px ≠ gs) (q : Nat) (u : Value) : XB (w.setCell ⟨gs, q, none⟩ u) Bs px f aw cs st L :=
  ⟨(Deep.blk_setCell_other w ⟨gs, q, none⟩ u px hne).trans h.hp, row_set (a := ⟨gs, q, none⟩) h.ow (row_apart h.ow hs (by decide)) u⟩
theorem XB.grown {w w' : World} {Bs px : Nat} {f : Int} {aw : Option Addr} {cs : Nat} {st : Bool} {L : List Int} (h : XB w Bs px f aw cs st L) {vN : Value} {B2 n : Nat} {ys : List Value} (hn : w.ownsRow B2 39 3 vN n ys) (hg : w.grownBy w' vN.ownBlock) (hne : vN.ownBlock ≠ some px) : XB w' Bs px f aw cs st L :=
  ⟨(hg.block px h.lt (fun e => hne e.symm)).trans h.hp, World.ownsRow.kept h.ow hg (row_apart h.ow hn (by decide))⟩
theorem XB.made {w : World} {Bs : Nat} {f : Int} {aw : Option Addr} {cs : Nat} {st : Bool} {L : List Int} (h : ownInts w Bs (.slice aw L.length cs) L) : XB (w.alloc (Obj.cells #[.int .i64 f, .slice aw L.length cs, .bool st] 39)) Bs w.heap.size f aw cs st L :=
  ⟨by show (w.heap.push _)[w.heap.size]? = _; simp, ownsRow_later h ((Below.refl _ _).alloc (Nat.le_refl _) _)⟩
end Go.Proofs.Ytnijajjmcdgonaa
