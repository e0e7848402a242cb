import Derived.Test.YtnijajjmcdgonaaMathA
namespace Go.Proofs.Ytnijajjmcdgonaa
open Go.RowKit
set_option linter.unusedVariables false

theorem it_nonneg (n : Int) (h0 : 0 ≤ n) (h1 : n < 2147483647) (k : Nat) : 0 ≤ it k n := (it_bd n h0 h1 k).1

/-- What is chosen is a step from the state, with a weight. -/
theorem pick_step {g : G} {l : List Int} (hF : Fine g l) {seed : Int} (hs : 1 ≤ seed ∧ seed < 2147483647) (s : Int) (k : Nat) (h : ¬ sumTo g l s g.edges.length = 0) :
    ∃ n : Nat, n < g.edges.length ∧ pickL g l (selTo g l s g.edges.length) (it k seed % sumTo g l s g.edges.length) = n ∧ chosen g l s n := by
  have hb := sumTo_bd hF s g.edges.length (Nat.le_refl _)
  have h1 := Int.emod_nonneg (it k seed) h
  have h2 := Int.emod_lt_of_pos (it k seed) (show 0 < sumTo g l s g.edges.length by omega)
  have hm := pickL_mem g l (selTo g l s g.edges.length) (it k seed % sumTo g l s g.edges.length) h1 (by rw [wsum_sel]; exact h2)
  exact mem_sel hm

/-- Each step of a walk is a step of the graph, with a weight. -/
theorem walkK_steps {g : G} {l : List Int} (hF : Fine g l) {seed : Int} (hs : 1 ≤ seed ∧ seed < 2147483647) (first : Int) : ∀ (k : Nat) (i : Int), i ∈ (walkK g l seed first k).2 →
    ∃ n : Nat, n < g.edges.length ∧ i = n ∧ 0 < gi l (ge g.edges n).a.toNat
  | 0, i, h => by simp [walkK] at h
  | k + 1, i, h => by
    by_cases hc : sumTo g l (walkK g l seed first k).1 g.edges.length = 0
    · rw [walkK_stuck hc] at h
      exact walkK_steps hF hs first k i h
    · rw [walkK, if_neg hc] at h
      simp only [List.mem_append, List.mem_singleton] at h
      rcases h with h | h
      · exact walkK_steps hF hs first k i h
      · obtain ⟨n, h1, h2, h3⟩ := pick_step hF hs (walkK g l seed first k).1 (k + 2) hc
        exact ⟨n, h1, h.trans h2, h3.2⟩

theorem walkK_prefix (g : G) (l : List Int) (seed first : Int) (k : Nat) : (walkK g l seed first (k + 1)).2.take (walkK g l seed first k).2.length = (walkK g l seed first k).2 := by
  by_cases hc : sumTo g l (walkK g l seed first k).1 g.edges.length = 0
  · rw [walkK_stuck hc, List.take_length]
  · rw [walkK, if_neg hc]; simp

theorem walkK_mono (g : G) (l : List Int) (seed first : Int) (k : Nat) : (walkK g l seed first k).2.length ≤ (walkK g l seed first (k + 1)).2.length := by
  by_cases hc : sumTo g l (walkK g l seed first k).1 g.edges.length = 0
  · rw [walkK_stuck hc]; exact Nat.le_refl _
  · rw [walkK, if_neg hc]; simp
end Go.Proofs.Ytnijajjmcdgonaa
