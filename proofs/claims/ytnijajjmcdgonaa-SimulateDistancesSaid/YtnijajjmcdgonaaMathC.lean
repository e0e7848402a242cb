import Derived.Test.YtnijajjmcdgonaaMathB
import Derived.Test.YtnijajjmcdgonaaWalkW
namespace Go.Proofs.Ytnijajjmcdgonaa
open Go.RowKit
set_option linter.unusedVariables false

theorem stepsErr_append (g : G) (i : Int) : ∀ (l : List Int) (s t : Int), stepsErr g s l = (t, 0) → ¬ (i < 0 ∨ (g.edges.length : Int) ≤ i) → (ge g.edges i.toNat).f = t → stepsErr g s (l ++ [i]) = ((ge g.edges i.toNat).t, 0)
  | [], s, t, h, h1, h2 => by
    have : s = t := by simpa [stepsErr] using h
    subst this
    rw [List.nil_append, stepsErr_next h1 h2]; rfl
  | j :: r, s, t, h, h1, h2 => by
    rw [List.cons_append]
    by_cases hj : j < 0 ∨ (g.edges.length : Int) ≤ j
    · rw [stepsErr_out hj] at h; cases h
    · by_cases hc : (ge g.edges j.toNat).f = s
      · rw [stepsErr_next hj hc] at h ⊢
        exact stepsErr_append g i r _ t h h1 h2
      · rw [stepsErr_clash hj hc] at h; cases h

/-- A walk by a seed is accepted, and ends where it is. -/
theorem walkK_ok {g : G} {l : List Int} (hF : Fine g l) {seed : Int} (hs : 1 ≤ seed ∧ seed < 2147483647) (first : Int) : ∀ k, stepsErr g first (walkK g l seed first k).2 = ((walkK g l seed first k).1, 0)
  | 0 => rfl
  | k + 1 => by
    have ih := walkK_ok hF hs first k
    by_cases hc : sumTo g l (walkK g l seed first k).1 g.edges.length = 0
    · rw [walkK_stuck hc]; exact ih
    · obtain ⟨n, h1, h2, h3⟩ := pick_step hF hs (walkK g l seed first k).1 (k + 2) hc
      rw [walkK, if_neg hc]
      show stepsErr g first ((walkK g l seed first k).2 ++ [_]) = (_, 0)
      rw [h2]
      exact stepsErr_append g n _ _ _ ih (by omega) (by rw [show ((n : Int)).toNat = n from by omega]; exact h3.1)

theorem first_in {g : G} {seed : Int} (hs : 1 ≤ seed ∧ seed < 2147483647) (hI : g.init.length ≠ 0) : walkFirst g seed ∈ g.init := by
  unfold walkFirst
  have h1 := Int.emod_nonneg (it 1 seed) (show (g.init.length : Int) ≠ 0 by omega)
  have h2 := Int.emod_lt_of_pos (it 1 seed) (show (0 : Int) < (g.init.length : Int) by omega)
  exact gi_mem (by omega)

theorem accepted {g : G} {l : List Int} (hF : Fine g l) {seed X : Int} (hs : 1 ≤ seed ∧ seed < 2147483647) (hX : 0 ≤ X ∧ X ≤ 300) (hI : g.init.length ≠ 0) :
    (ckW g (walkFirst g seed) (walkK g l seed (walkFirst g seed) X.toNat).2).2 = 0 := by
  have hl := walkK_len g l seed (walkFirst g seed) X.toNat
  unfold ckW
  rw [if_neg (by omega), if_pos (first_in hs hI), walkK_ok hF hs]

/-- No step with a weight: the sum is 0, and the other way round. -/
theorem sel_nil {g : G} {l : List Int} (s : Int) (hF : Fine g l) : ∀ k, k ≤ g.edges.length → ((selTo g l s k).length = 0 ↔ sumTo g l s k = 0)
  | 0, _ => by simp [selTo, sumTo]
  | k + 1, hk => by
    have ih := sel_nil s hF k (by omega)
    have hb := sumTo_bd hF s k (by omega)
    by_cases h : chosen g l s k
    · rw [selTo_yes h, sumTo_yes h]
      have := h.2
      constructor
      · intro h2; simp at h2
      · intro h2; omega
    · rw [selTo_no h, sumTo_no h]; exact ih

theorem gi_nums (n : Int) : ∀ (k j : Nat), j < k → gi (nums n k) j = it (j + 1) n
  | 0, j, h => by omega
  | k + 1, j, h => by
    have hl := nums_len n k
    unfold gi nums
    by_cases hj : j < k
    · rw [List.getElem?_append_left (by omega)]; exact gi_nums n k j hj
    · have : j = k := by omega
      subst this
      rw [← hl]; simp [hl]
end Go.Proofs.Ytnijajjmcdgonaa
