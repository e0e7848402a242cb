import Derived.Test.YtnijajjmcdgonaaWalkG
namespace Go.Proofs.Ytnijajjmcdgonaa
open Go.RowKit
set_option linter.unusedVariables false

/-- The weight of a step, by its number. -/
def wte (g : G) (l : List Int) (i : Int) : Int := gi l (ge g.edges i.toNat).a.toNat
def wsum (g : G) (l : List Int) : List Int → Int
  | [] => 0
  | i :: r => wte g l i + wsum g l r
theorem wsum_append (g : G) (l : List Int) (x : Int) : ∀ p, wsum g l (p ++ [x]) = wsum g l p + wte g l x
  | [] => by simp [wsum]
  | i :: r => by simp [wsum, wsum_append g l x r]; omega
theorem wsum_sel (g : G) (l : List Int) (s : Int) : ∀ k, wsum g l (selTo g l s k) = sumTo g l s k
  | 0 => rfl
  | k + 1 => by
    by_cases h : chosen g l s k
    · rw [selTo_yes h, sumTo_yes h, wsum_append, wsum_sel g l s k]; rfl
    · rw [selTo_no h, sumTo_no h, wsum_sel g l s k]
theorem mem_sel {g : G} {l : List Int} {s : Int} : ∀ {k : Nat} {i : Int}, i ∈ selTo g l s k → ∃ n : Nat, n < k ∧ i = n ∧ chosen g l s n
  | 0, i, h => by simp [selTo] at h
  | k + 1, i, h => by
    by_cases hc : chosen g l s k
    · rw [selTo_yes hc] at h
      simp only [List.mem_append, List.mem_singleton] at h
      rcases h with h | rfl
      · obtain ⟨n, a, b, c⟩ := mem_sel h
        exact ⟨n, by omega, b, c⟩
      · exact ⟨k, by omega, rfl, hc⟩
    · rw [selTo_no hc] at h
      obtain ⟨n, a, b, c⟩ := mem_sel h
      exact ⟨n, by omega, b, c⟩
/-- The first step at which the weights so far are more than a number. -/
def pickL (g : G) (l : List Int) : List Int → Int → Int
  | [], _ => 0
  | i :: r, n => if n < wte g l i then i else pickL g l r (n - wte g l i)
theorem pickL_mem (g : G) (l : List Int) : ∀ (p : List Int) (n : Int), 0 ≤ n → n < wsum g l p → pickL g l p n ∈ p
  | [], n, h0, h => by simp [wsum] at h; omega
  | i :: r, n, h0, h => by
    unfold pickL
    by_cases hc : n < wte g l i
    · rw [if_pos hc]; exact List.mem_cons_self ..
    · rw [if_neg hc]; exact List.mem_cons_of_mem _ (pickL_mem g l r _ (by omega) (by simp [wsum] at h; omega))

/-- Where a walk is after k steps, and the steps. -/
def walkK (g : G) (l : List Int) (seed first : Int) : Nat → Int × List Int
  | 0 => (first, [])
  | k + 1 =>
    if sumTo g l (walkK g l seed first k).1 g.edges.length = 0 then walkK g l seed first k
    else
      let i := pickL g l (selTo g l (walkK g l seed first k).1 g.edges.length) (it (k + 2) seed % sumTo g l (walkK g l seed first k).1 g.edges.length)
      ((ge g.edges i.toNat).t, (walkK g l seed first k).2 ++ [i])
theorem walkK_stuck {g : G} {l : List Int} {seed first : Int} {k : Nat} (h : sumTo g l (walkK g l seed first k).1 g.edges.length = 0) : walkK g l seed first (k + 1) = walkK g l seed first k := by
  rw [walkK, if_pos h]
theorem walkK_stuck_add {g : G} {l : List Int} {seed first : Int} {k : Nat} (h : sumTo g l (walkK g l seed first k).1 g.edges.length = 0) : ∀ j, walkK g l seed first (k + j) = walkK g l seed first k
  | 0 => rfl
  | j + 1 => by
    have ih := walkK_stuck_add h j
    rw [← Nat.add_assoc, walkK_stuck (by rw [ih]; exact h), ih]
theorem walkK_len (g : G) (l : List Int) (seed first : Int) : ∀ k, (walkK g l seed first k).2.length ≤ k
  | 0 => by simp [walkK]
  | k + 1 => by
    have := walkK_len g l seed first k
    unfold walkK
    split
    · omega
    · simp; omega

theorem ownsRow_later {w w' : World} {base : Nat} {e : TypeId} {size : Nat} {v : Value} {n : Nat} {xs : List Value} (h : w.ownsRow base e size v n xs) (hb : Below w.heap.size w w') : w'.ownsRow base e size v n xs := by
  obtain ⟨h0, h⟩ := h
  refine ⟨h0, ?_⟩
  rcases h with h | ⟨g, cap, cur, h1, h2, h3, h4⟩
  · exact .inl h
  · exact .inr ⟨g, cap, cur, h1, h2, (hb.block g (Array.getElem?_eq_some_iff.1 h3).1).trans h3, h4⟩
theorem own_form {w : World} {B : Nat} {v : Value} {l : List Int} (h : ownInts w B v l) : ∃ a c, v = .slice a l.length c := by
  obtain ⟨_, h⟩ := h
  rcases h with ⟨h, h0⟩ | ⟨g, cap, cur, h, _⟩
  · exact ⟨none, 0, by rw [h, h0]⟩
  · exact ⟨_, _, h⟩
theorem own_mono {w : World} {B B' : Nat} {v : Value} {l : List Int} (h : ownInts w B v l) (hB : B' ≤ B) : ownInts w B' v l := by
  obtain ⟨h0, h⟩ := h
  refine ⟨h0, ?_⟩
  rcases h with h | ⟨g, cap, cur, h1, h2, h3⟩
  · exact .inl h
  · exact .inr ⟨g, cap, cur, h1, by omega, h3⟩
theorem own_cells {w : World} {B : Nat} {a : Option Addr} {n c : Nat} {l : List Int} (h : ownInts w B (.slice a n c) l) : n = l.length ∧ IntsCells w a l ∧ l.length ≤ maxLen := by
  obtain ⟨a', c', e, hm, hc⟩ := IntsAt.of_own h
  injection e with e1 e2 e3
  subst e1
  exact ⟨e2, hc, hm⟩
theorem drop_at {l : List Int} {j : Nat} (h : j < l.length) : l.drop j = gi l j :: l.drop (j + 1) := by
  rw [List.drop_eq_getElem_cons h]; simp [gi, List.getElem?_eq_getElem h]
theorem gi_mem {l : List Int} {j : Nat} (h : j < l.length) : gi l j ∈ l := by
  simp [gi, List.getElem?_eq_getElem h]
end Go.Proofs.Ytnijajjmcdgonaa
