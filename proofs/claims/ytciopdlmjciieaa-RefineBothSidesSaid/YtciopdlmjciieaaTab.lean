import Derived.Test.YtciopdlmjciieaaOwnG
import Derived.Test.YtciopdlmjciieaaStd
namespace Go.Proofs.Ytciopdlmjciieaa
open Go.RowKit
set_option linter.unusedVariables false

theorem infoRow : (Try.prog.info? 22).map (fun i => (i.zero, i.size, i.bytes)) = some (some (.slice none 0 0), 1, 24) := by kernel_rfl

/-- A function of numbers, at one of them another value. -/
def upd {α : Type} (F : Nat → α) (j : Nat) (x : α) : Nat → α := fun i => if i = j then x else F i
theorem upd_same {α : Type} (F : Nat → α) (j : Nat) (x : α) : upd F j x j = x := by simp [upd]
theorem upd_other {α : Type} (F : Nat → α) {j i : Nat} (x : α) (h : i ≠ j) : upd F j x i = F i := by simp [upd, h]

/-- Rows of numbers of a call's own, no two of them in one block, in a table of its own. -/
structure Tab (w : World) (B T n : Nat) (F : Nat → List Int) : Prop where
  ex : ∃ rv : Nat → Value, w.rowIs T 22 n rv ∧ (∀ j, j < n → ownInts w B (rv j) (F j)) ∧ ∀ i j, i < n → j < n → i ≠ j → (rv i).ownBlock = none ∨ (rv i).ownBlock ≠ (rv j).ownBlock
theorem Tab.lt {w : World} {B T n : Nat} {F : Nat → List Int} (h : Tab w B T n F) : T < w.heap.size := by
  obtain ⟨rv, h1, -⟩ := h.ex
  exact h1.lt
theorem Tab.later {w w' : World} {B T n : Nat} {F : Nat → List Int} (h : Tab w B T n F) (hb : Below w.heap.size w w') : Tab w' B T n F := by
  obtain ⟨rv, h1, h2, h3⟩ := h.ex
  exact ⟨rv, h1.of_block (hb.block T h1.lt), fun j hj => ownsRow_later (h2 j hj) hb, h3⟩
theorem Tab.frozen {w : World} {B T n : Nat} {F : Nat → List Int} (h : Tab w B T n F) (j : Nat) : w.frozen? ⟨T, j, none⟩ = false := by
  obtain ⟨rv, h1, -⟩ := h.ex
  exact h1.frozen j
theorem Tab.congr {w : World} {B T n : Nat} {F F' : Nat → List Int} (h : Tab w B T n F) (e : ∀ j, j < n → F j = F' j) : Tab w B T n F' := by
  obtain ⟨rv, h1, h2, h3⟩ := h.ex
  exact ⟨rv, h1, fun j hj => by rw [← e j hj]; exact h2 j hj, h3⟩
theorem Tab.lower {w : World} {B B' T n : Nat} {F : Nat → List Int} (h : Tab w B T n F) (hB : B' ≤ B) : Tab w B' T n F := by
  obtain ⟨rv, h1, h2, h3⟩ := h.ex
  exact ⟨rv, h1, fun j hj => row_mono (h2 j hj) hB, h3⟩
/-- Each row: its cell, and that it is a row of the call's own. -/
theorem Tab.get {w : World} {B T n : Nat} {F : Nat → List Int} (h : Tab w B T n F) {j : Nat} (hj : j < n) : ∃ a c, w.cell? ⟨T, j, none⟩ = some (.slice a (F j).length c) ∧ ownInts w B (.slice a (F j).length c) (F j) := by
  obtain ⟨rv, h1, h2, h3⟩ := h.ex
  obtain ⟨a, c, e⟩ := own_form (h2 j hj)
  have h4 := h2 j hj
  rw [e] at h4
  exact ⟨a, c, by rw [h1.cell hj, e], h4⟩
theorem own_block_ne {w : World} {B T n g : Nat} {v : Value} {l : List Int} {rv : Nat → Value} (h : ownInts w B v l) (h1 : w.rowIs T 22 n rv) : v.ownBlock = none ∨ v.ownBlock ≠ some T := by
  rcases h.2 with ⟨rfl, -⟩ | ⟨g, cap, cur, rfl, -, hg, -⟩
  · exact .inl rfl
  · right
    intro he
    simp [Value.ownBlock] at he
    subst he
    obtain ⟨c, hb, -⟩ := h1
    rw [hg] at hb
    injection hb with hb
    injection hb with h1 h2
    exact absurd h2 (by decide)
/-- A store elsewhere, below all rows. -/
theorem Tab.set_below {w : World} {B T n : Nat} {F : Nat → List Int} (h : Tab w B T n F) {a : Addr} (ha : T ≠ a.block) (hB : a.block < B) (u : Value) : Tab (w.setCell a u) B T n F := by
  obtain ⟨rv, h1, h2, h3⟩ := h.ex
  exact ⟨rv, h1.setOther ha u, fun j hj => ownsRow_setCell_below (h2 j hj) hB u, h3⟩
/-- Growth that changes only one block from some place on, above all rows. -/
theorem Tab.grown {w w' : World} {B T n : Nat} {F : Nat → List Int} {row : Option Nat} (h : Tab w B T n F) (hg : w.grownBy w' row) (hT : row ≠ some T) (hr : ∀ v l, ownInts w B v l → v.ownBlock = none ∨ v.ownBlock ≠ row) : Tab w' B T n F := by
  obtain ⟨rv, h1, h2, h3⟩ := h.ex
  exact ⟨rv, h1.of_block (hg.block T h1.lt (fun e => hT e.symm)), fun j hj => World.ownsRow.kept (h2 j hj) hg (hr _ _ (h2 j hj)), h3⟩
/-- A row changed in its place. -/
theorem Tab.inplace {w w' : World} {B T n : Nat} {F : Nat → List Int} (h : Tab w B T n F) {j : Nat} (hj : j < n) {v : Value} (hv : w.cell? ⟨T, j, none⟩ = some v) {l' : List Int} (hg : w.grownBy w' v.ownBlock) (ho : ownInts w' B v l') : Tab w' B T n (upd F j l') := by
  obtain ⟨rv, h1, h2, h3⟩ := h.ex
  have hvj : rv j = v := by have := h1.cell hj; rw [hv] at this; injection this with this; exact this.symm
  have hne := own_block_ne (g := 0) (h2 j hj) h1
  rw [hvj] at hne
  refine ⟨rv, h1.of_block (hg.block T h1.lt ?_), fun i hi => ?_, h3⟩
  · rintro e
    rcases hne with h | h
    · rw [h] at e; cases e
    · exact h e.symm
  · by_cases e : i = j
    · subst e; rw [upd_same, hvj]; exact ho
    · rw [upd_other _ _ e]
      refine World.ownsRow.kept (h2 i hi) hg ?_
      rw [← hvj]
      exact h3 i j hi hj e
/-- A row put in the place of another one, which it was or which it came of, or a new one. -/
theorem Tab.put {w w' : World} {B T n : Nat} {F : Nat → List Int} (h : Tab w B T n F) {j : Nat} (hj : j < n) {v v' : Value} (hv : w.cell? ⟨T, j, none⟩ = some v) {l' : List Int} (hg : w.grownBy w' v.ownBlock) (ho : ownInts w' B v' l')
    (hat : v'.ownBlock = v.ownBlock ∨ ∃ k, v'.ownBlock = some k ∧ w.heap.size ≤ k) : Tab (w'.setCell ⟨T, j, none⟩ v') B T n (upd F j l') := by
  obtain ⟨rv, h1, h2, h3⟩ := h.ex
  have hvj : rv j = v := by have := h1.cell hj; rw [hv] at this; injection this with this; exact this.symm
  have hne := own_block_ne (g := 0) (h2 j hj) h1
  rw [hvj] at hne
  have h1' : w'.rowIs T 22 n rv := h1.of_block (hg.block T h1.lt (by
    rintro e
    rcases hne with h | h
    · rw [h] at e; cases e
    · exact h e.symm))
  have hap : ∀ i, i < n → i ≠ j → ((rv i).ownBlock = none ∨ (rv i).ownBlock ≠ v'.ownBlock) := fun i hi e => by
    rcases hat with h | ⟨k, h, hk⟩
    · rw [h, ← hvj]; exact h3 i j hi hj e
    · rw [h]
      refine .inr fun e2 => ?_
      have := ((h2 i hi).lt k e2).2
      omega
  have hap' : ∀ i, i < n → i ≠ j → (v'.ownBlock = none ∨ v'.ownBlock ≠ (rv i).ownBlock) := fun i hi e => by
    rcases hap i hi e with h | h
    · rcases hx : v'.ownBlock with _ | k
      · exact .inl rfl
      · rw [h]; exact .inr (by simp)
    · exact .inr fun e2 => h e2.symm
  refine ⟨upd rv j v', ?_, fun i hi => ?_, fun i k hi hk hik => ?_⟩
  · exact (h1'.set j v').congr fun i hi => rfl
  · by_cases e : i = j
    · subst e; rw [upd_same, upd_same]
      exact row_set ho (own_block_ne (g := 0) ho h1') _
    · rw [upd_other _ _ e, upd_other _ _ e]
      have h5 := World.ownsRow.kept (h2 i hi) hg (by rw [← hvj]; exact h3 i j hi hj e)
      exact row_set h5 (own_block_ne (g := 0) h5 h1') _
  · by_cases e : i = j
    · subst e
      rw [upd_same, upd_other _ _ (fun e => hik e.symm)]
      exact hap' k hk (fun e => hik e.symm)
    · by_cases e2 : k = j
      · subst e2
        rw [upd_same, upd_other _ _ e]
        exact hap i hi e
      · rw [upd_other _ _ e, upd_other _ _ e2]
        exact h3 i k hi hk hik
theorem Tab.nil {w : World} {B T n : Nat} (h : w.rowIs T 22 n (fun _ => .slice none 0 0)) : Tab w B T n (fun _ => []) :=
  ⟨_, h, fun j hj => World.ownsRow_nil _ _ _ _, fun i j hi hj hij => .inl rfl⟩

/-- Rows of numbers that can be read. -/
def RowsAt (w : World) (T n : Nat) (F : Nat → List Int) : Prop := ∀ j, j < n → ∃ a c, w.cell? ⟨T, j, none⟩ = some (.slice a (F j).length c) ∧ (F j).length ≤ maxLen ∧ IntsCells w a (F j)
theorem RowsAt.later {w w' : World} {T n : Nat} {F : Nat → List Int} (h : RowsAt w T n F) (hb : Below w.heap.size w w') : RowsAt w' T n F := fun j hj => by
  obtain ⟨a, c, h1, h2, h3⟩ := h j hj
  exact ⟨a, c, Below.keeps hb h1 (Nat.le_refl _), h2, h3.later hb⟩
theorem Tab.at {w : World} {B T n : Nat} {F : Nat → List Int} (h : Tab w B T n F) : RowsAt w T n F := fun j hj => by
  obtain ⟨a, c, h1, h2⟩ := h.get hj
  exact ⟨a, c, h1, (own_cells h2).2.2, (own_cells h2).2.1⟩
theorem RowsAt.congr {w : World} {T n : Nat} {F F' : Nat → List Int} (h : RowsAt w T n F) (e : ∀ j, j < n → F j = F' j) : RowsAt w T n F' := fun j hj => by
  rw [← e j hj]; exact h j hj
end Go.Proofs.Ytciopdlmjciieaa
