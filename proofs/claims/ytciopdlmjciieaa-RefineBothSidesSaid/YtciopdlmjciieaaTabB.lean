import Derived.Test.YtciopdlmjciieaaKeep
namespace Go.Proofs.Ytciopdlmjciieaa
open Go.RowKit
set_option linter.unusedVariables false

/-- Two tables of rows of numbers of a call's own, no two rows in one block. -/
structure Tab2 (w : World) (B T1 T2 n : Nat) (F1 F2 : Nat → List Int) : Prop where
  ex : ∃ r1 r2 : Nat → Value, w.rowIs T1 22 n r1 ∧ w.rowIs T2 22 n r2 ∧ (∀ j, j < n → ownInts w B (r1 j) (F1 j)) ∧ (∀ j, j < n → ownInts w B (r2 j) (F2 j)) ∧
    (∀ i j, i < n → j < n → i ≠ j → (r1 i).ownBlock = none ∨ (r1 i).ownBlock ≠ (r1 j).ownBlock) ∧ (∀ i j, i < n → j < n → i ≠ j → (r2 i).ownBlock = none ∨ (r2 i).ownBlock ≠ (r2 j).ownBlock) ∧
    (∀ i j, i < n → j < n → (r1 i).ownBlock = none ∨ (r1 i).ownBlock ≠ (r2 j).ownBlock) ∧ T1 ≠ T2
section
variable {w w' : World} {B T1 T2 n : Nat} {F1 F2 : Nat → List Int}
theorem ob_swap {a b : Option Nat} (h : a = none ∨ a ≠ b) : b = none ∨ b ≠ a := by
  rcases h with h | h
  · subst h
    cases b with
    | none => exact .inl rfl
    | some k => exact .inr (by simp)
  · exact .inr fun e => h e.symm
theorem Tab2.later (h : Tab2 w B T1 T2 n F1 F2) (hb : Below w.heap.size w w') : Tab2 w' B T1 T2 n F1 F2 := by
  obtain ⟨r1, r2, h1, h2, h3, h4, h5, h6, h7, h8⟩ := h.ex
  exact ⟨r1, r2, h1.of_block (hb.block T1 h1.lt), h2.of_block (hb.block T2 h2.lt), fun j hj => ownsRow_later (h3 j hj) hb, fun j hj => ownsRow_later (h4 j hj) hb, h5, h6, h7, h8⟩
theorem Tab2.congr {F1' F2' : Nat → List Int} (h : Tab2 w B T1 T2 n F1 F2) (e1 : ∀ j, j < n → F1 j = F1' j) (e2 : ∀ j, j < n → F2 j = F2' j) : Tab2 w B T1 T2 n F1' F2' := by
  obtain ⟨r1, r2, h1, h2, h3, h4, h5⟩ := h.ex
  exact ⟨r1, r2, h1, h2, fun j hj => by rw [← e1 j hj]; exact h3 j hj, fun j hj => by rw [← e2 j hj]; exact h4 j hj, h5⟩
theorem Tab2.lt1 (h : Tab2 w B T1 T2 n F1 F2) : T1 < w.heap.size := by obtain ⟨r1, r2, h1, -⟩ := h.ex; exact h1.lt
theorem Tab2.lt2 (h : Tab2 w B T1 T2 n F1 F2) : T2 < w.heap.size := by obtain ⟨r1, r2, -, h2, -⟩ := h.ex; exact h2.lt
theorem Tab2.fz1 (h : Tab2 w B T1 T2 n F1 F2) (j : Nat) : w.frozen? ⟨T1, j, none⟩ = false := by obtain ⟨r1, r2, h1, -⟩ := h.ex; exact h1.frozen j
theorem Tab2.fz2 (h : Tab2 w B T1 T2 n F1 F2) (j : Nat) : w.frozen? ⟨T2, j, none⟩ = false := by obtain ⟨r1, r2, -, h2, -⟩ := h.ex; exact h2.frozen j
theorem Tab2.get1 (h : Tab2 w B T1 T2 n F1 F2) {j : Nat} (hj : j < n) : ∃ a c, w.cell? ⟨T1, j, none⟩ = some (.slice a (F1 j).length c) ∧ ownInts w B (.slice a (F1 j).length c) (F1 j) := by
  obtain ⟨r1, r2, h1, h2, h3, h4, h5⟩ := h.ex
  obtain ⟨a, c, e⟩ := own_form (h3 j hj)
  have h4 := h3 j hj
  rw [e] at h4
  exact ⟨a, c, by rw [h1.cell hj, e], h4⟩
theorem Tab2.get2 (h : Tab2 w B T1 T2 n F1 F2) {j : Nat} (hj : j < n) : ∃ a c, w.cell? ⟨T2, j, none⟩ = some (.slice a (F2 j).length c) ∧ ownInts w B (.slice a (F2 j).length c) (F2 j) := by
  obtain ⟨r1, r2, h1, h2, h3, h4, h5⟩ := h.ex
  obtain ⟨a, c, e⟩ := own_form (h4 j hj)
  have h5 := h4 j hj
  rw [e] at h5
  exact ⟨a, c, by rw [h2.cell hj, e], h5⟩
theorem Tab2.swap (h : Tab2 w B T1 T2 n F1 F2) : Tab2 w B T2 T1 n F2 F1 := by
  obtain ⟨r1, r2, h1, h2, h3, h4, h5, h6, h7, h8⟩ := h.ex
  exact ⟨r2, r1, h2, h1, h4, h3, h6, h5, fun i j hi hj => ob_swap (h7 j i hj hi), fun e => h8 e.symm⟩
theorem rowIs_ne {g n : Nat} {rv : Nat → Value} {v : Value} {l : List Int} (h : ownInts w B v l) (h1 : w.rowIs T1 22 n rv) : v.ownBlock = none ∨ v.ownBlock ≠ some T1 := own_block_ne (g := 0) h h1
/-- A new row put into the first table. -/
theorem Tab2.put1 (h : Tab2 w B T1 T2 n F1 F2) (hb : Below w.heap.size w w') {j : Nat} (hj : j < n) {v' : Value} {l' : List Int} (ho : ownInts w' w.heap.size v' l') (hB : B ≤ w.heap.size) :
    Tab2 (w'.setCell ⟨T1, j, none⟩ v') B T1 T2 n (upd F1 j l') F2 := by
  obtain ⟨r1, r2, h1, h2, h3, h4, h5, h6, h7, h8⟩ := (h.later hb).ex
  obtain ⟨q1, q2, p1, p2, p3, p4, p5, p6, p7, p8⟩ := h.ex
  have hcell1 : ∀ i, i < n → r1 i = q1 i := fun i hi => by
    have a1 := h1.cell hi
    have a2 := Below.keeps hb (p1.cell hi) (Nat.le_refl _)
    rw [a1] at a2; injection a2
  have hcell2 : ∀ i, i < n → r2 i = q2 i := fun i hi => by
    have a1 := h2.cell hi
    have a2 := Below.keeps hb (p2.cell hi) (Nat.le_refl _)
    rw [a1] at a2; injection a2
  have new : ∀ v l, ownInts w B v l → v.ownBlock = none ∨ v.ownBlock ≠ v'.ownBlock := fun v l hv => by
    rcases hx : v.ownBlock with _ | q
    · exact .inl rfl
    · refine .inr fun e => ?_
      have a1 := (hv.lt q hx).2
      have a2 := (ho.lt q e.symm).1
      omega
  have ho' : ownInts w' B v' l' := row_mono ho hB
  refine ⟨upd r1 j v', r2, ?_, h2.setOther (fun e => h8 e.symm) _, fun i hi => ?_, fun i hi => ?_, fun i k hi hk hik => ?_, h6, fun i k hi hk => ?_, h8⟩
  · exact (h1.set j v').congr fun i hi => rfl
  · by_cases e : i = j
    · subst e; rw [upd_same, upd_same]; exact row_set ho' (rowIs_ne (g := 0) ho' h1) _
    · rw [upd_other _ _ e, upd_other _ _ e]; exact row_set (h3 i hi) (rowIs_ne (g := 0) (h3 i hi) h1) _
  · exact row_set (h4 i hi) (rowIs_ne (g := 0) (h4 i hi) h1) _
  · by_cases e : i = j
    · subst e
      rw [upd_same, upd_other _ _ (fun e => hik e.symm), hcell1 k hk]
      exact ob_swap (new _ _ (p3 k hk))
    · by_cases e2 : k = j
      · subst e2
        rw [upd_same, upd_other _ _ e, hcell1 i hi]
        exact new _ _ (p3 i hi)
      · rw [upd_other _ _ e, upd_other _ _ e2]; exact h5 i k hi hk hik
  · by_cases e : i = j
    · subst e
      rw [upd_same, hcell2 k hk]
      exact ob_swap (new _ _ (p4 k hk))
    · rw [upd_other _ _ e]; exact h7 i k hi hk
theorem Tab2.put2 (h : Tab2 w B T1 T2 n F1 F2) (hb : Below w.heap.size w w') {j : Nat} (hj : j < n) {v' : Value} {l' : List Int} (ho : ownInts w' w.heap.size v' l') (hB : B ≤ w.heap.size) :
    Tab2 (w'.setCell ⟨T2, j, none⟩ v') B T1 T2 n F1 (upd F2 j l') := (h.swap.put1 hb hj ho hB).swap
/-- A number stored into a row of the first table. -/
theorem Tab2.set1 (h : Tab2 w B T1 T2 n F1 F2) {j : Nat} (hj : j < n) {g m c : Nat} (hv : w.cell? ⟨T1, j, none⟩ = some (.slice (some ⟨g, 0, none⟩) m c)) (u : Nat) (x : Int) :
    Tab2 (w.setCell ⟨g, u, none⟩ (.int .i64 x)) B T1 T2 n (upd F1 j ((F1 j).set u x)) F2 := by
  obtain ⟨r1, r2, h1, h2, h3, h4, h5, h6, h7, h8⟩ := h.ex
  have hr : r1 j = .slice (some ⟨g, 0, none⟩) m c := by have := h1.cell hj; rw [hv] at this; injection this with this; exact this.symm
  have hg : (r1 j).ownBlock = some g := by rw [hr]; rfl
  have hoj := h3 j hj
  have hm : m = (F1 j).length := by
    obtain ⟨a, c', e⟩ := own_form hoj
    rw [hr] at e; injection e
  have n1 : g ≠ T1 := fun e => by
    rcases rowIs_ne (g := 0) hoj h1 with h | h
    · rw [hg] at h; cases h
    · rw [hg, e] at h; exact h rfl
  have n2 : g ≠ T2 := fun e => by
    rcases rowIs_ne (g := 0) hoj h2 with h | h
    · rw [hg] at h; cases h
    · rw [hg, e] at h; exact h rfl
  refine ⟨r1, r2, h1.setOther (fun e => n1 e.symm) _, h2.setOther (fun e => n2 e.symm) _, fun i hi => ?_, fun i hi => ?_, h5, h6, h7, h8⟩
  · by_cases e : i = j
    · subst e
      rw [upd_same, hr]
      rw [hr, hm] at hoj
      rw [hm]
      exact own_store' hoj u x
    · rw [upd_other _ _ e]
      refine row_set (h3 i hi) ?_ _
      have := h5 i j hi hj e
      rw [hg] at this
      exact this
  · refine row_set (h4 i hi) ?_ _
    have := ob_swap (h7 j i hj hi)
    rw [hg] at this
    exact this
theorem Tab2.set2 (h : Tab2 w B T1 T2 n F1 F2) {j : Nat} (hj : j < n) {g m c : Nat} (hv : w.cell? ⟨T2, j, none⟩ = some (.slice (some ⟨g, 0, none⟩) m c)) (u : Nat) (x : Int) :
    Tab2 (w.setCell ⟨g, u, none⟩ (.int .i64 x)) B T1 T2 n F1 (upd F2 j ((F2 j).set u x)) := (h.swap.set1 hj hv u x).swap
theorem Tab2.nil (h1 : w.rowIs T1 22 n (fun _ => .slice none 0 0)) (h2 : w.rowIs T2 22 n (fun _ => .slice none 0 0)) (hne : T1 ≠ T2) : Tab2 w B T1 T2 n (fun _ => []) (fun _ => []) :=
  ⟨_, _, h1, h2, fun j hj => World.ownsRow_nil _ _ _ _, fun j hj => World.ownsRow_nil _ _ _ _, fun i j hi hj hij => .inl rfl, fun i j hi hj hij => .inl rfl, fun i j hi hj => .inl rfl, hne⟩
theorem Tab2.row1 (h : Tab2 w B T1 T2 n F1 F2) {j m : Nat} (hj : j < n) (hl : (F1 j).length = m) (hm : 0 < m) : ∃ g c, w.cell? ⟨T1, j, none⟩ = some (.slice (some ⟨g, 0, none⟩) m c) ∧ ownInts w B (.slice (some ⟨g, 0, none⟩) m c) (F1 j) := by
  obtain ⟨a, c, h1, h2⟩ := h.get1 hj
  obtain ⟨g, c', e, -, -⟩ := own_ptr h2 (by omega)
  rw [hl] at h1 h2 e
  rw [e] at h1 h2
  exact ⟨g, c', h1, h2⟩
theorem Tab2.row2 (h : Tab2 w B T1 T2 n F1 F2) {j m : Nat} (hj : j < n) (hl : (F2 j).length = m) (hm : 0 < m) : ∃ g c, w.cell? ⟨T2, j, none⟩ = some (.slice (some ⟨g, 0, none⟩) m c) ∧ ownInts w B (.slice (some ⟨g, 0, none⟩) m c) (F2 j) :=
  h.swap.row1 hj hl hm
theorem Tab2.apart (h : Tab2 w B T1 T2 n F1 F2) {i j g1 g2 m1 m2 c1 c2 : Nat} (hi : i < n) (hj : j < n) (h1 : w.cell? ⟨T1, i, none⟩ = some (.slice (some ⟨g1, 0, none⟩) m1 c1)) (h2 : w.cell? ⟨T2, j, none⟩ = some (.slice (some ⟨g2, 0, none⟩) m2 c2)) : g1 ≠ g2 := by
  obtain ⟨r1, r2, p1, p2, -, -, -, -, p7, -⟩ := h.ex
  have e1 : r1 i = .slice (some ⟨g1, 0, none⟩) m1 c1 := by have := p1.cell hi; rw [h1] at this; injection this with this; exact this.symm
  have e2 : r2 j = .slice (some ⟨g2, 0, none⟩) m2 c2 := by have := p2.cell hj; rw [h2] at this; injection this with this; exact this.symm
  have := p7 i j hi hj
  rw [e1, e2] at this
  rcases this with h | h
  · simp [Value.ownBlock] at h
  · intro e; apply h; rw [e]; rfl
theorem Tab2.at1 (h : Tab2 w B T1 T2 n F1 F2) : RowsAt w T1 n F1 := fun j hj => by
  obtain ⟨a, c, h1, h2⟩ := h.get1 hj
  exact ⟨a, c, h1, (own_cells h2).2.2, (own_cells h2).2.1⟩
theorem Tab2.at2 (h : Tab2 w B T1 T2 n F1 F2) : RowsAt w T2 n F2 := fun j hj => by
  obtain ⟨a, c, h1, h2⟩ := h.get2 hj
  exact ⟨a, c, h1, (own_cells h2).2.2, (own_cells h2).2.1⟩
end
end Go.Proofs.Ytciopdlmjciieaa
