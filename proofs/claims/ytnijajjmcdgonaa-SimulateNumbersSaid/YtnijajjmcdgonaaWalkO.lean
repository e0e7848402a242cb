import Derived.Test.YtnijajjmcdgonaaWalkN
import Derived.Test.YtnijajjmcdgonaaWalkC
namespace Go.Proofs.Ytnijajjmcdgonaa
open Go.RowKit
set_option linter.unusedVariables false

/-- Two lists that are equal. -/
theorem equal_yes (x y : Value) (l : List Int) (w : World) (hx : IntsAt w x l) (hy : IntsAt w y l) :
    Calls Try.prog 14 #[x, y] w fun e w' => e = .returned (.bool true) ∧ Below w.heap.size w w' := by
  refine (equalInts_any x y l l w hx hy).mono ?_
  rintro e w' ⟨rfl, n, rfl⟩
  exact ⟨by rw [decide_eq_true rfl], below_drewN (Below.refl _ _) n⟩

theorem lit_ints (w : World) (l : List Int) (t : TypeId) (hl : l.length ≤ 10) : IntsAt (w.alloc (.cells (l.map (Value.int .i64)).toArray t)) (.slice (some ⟨w.heap.size, 0, none⟩) l.length l.length) l := by
  refine ⟨_, _, rfl, by unfold maxLen; omega, fun j hj => ⟨_, _, rfl, ?_⟩⟩
  rw [World.cell?_alloc_at _ _ _ _ rfl]
  simp [gi, List.getElem?_eq_getElem hj]

theorem lit1 (w : World) (a : Int) (t : TypeId) (k : Nat) (hk : k = w.heap.size) : IntsAt (w.alloc (.cells #[.int .i64 a] t)) (.slice (some ⟨k, 0, none⟩) 1 1) [a] := by
  subst hk; exact lit_ints w [a] t (by simp)
theorem lit2 (w : World) (a b : Int) (t : TypeId) (k : Nat) (hk : k = w.heap.size) : IntsAt (w.alloc (.cells #[.int .i64 a, .int .i64 b] t)) (.slice (some ⟨k, 0, none⟩) 2 2) [a, b] := by
  subst hk; exact lit_ints w [a, b] t (by simp)
theorem lit3 (w : World) (a b c : Int) (t : TypeId) (k : Nat) (hk : k = w.heap.size) : IntsAt (w.alloc (.cells #[.int .i64 a, .int .i64 b, .int .i64 c] t)) (.slice (some ⟨k, 0, none⟩) 3 3) [a, b, c] := by
  subst hk; exact lit_ints w [a, b, c] t (by simp)

/-- The first number of a list of a call's own is replaced. -/
theorem own_head {w : World} {B : Nat} {v : Value} {a : Int} {l : List Int} (h : ownInts w B v (a :: l)) :
    ∃ g cap, v = .slice (some ⟨g, 0, none⟩) (l.length + 1) cap ∧ B ≤ g ∧ g < w.heap.size ∧ w.cell? ⟨g, 0, none⟩ = some (.int .i64 a) ∧ w.frozen? ⟨g, 0, none⟩ = false ∧ ∀ u, IntsAt (w.setCell ⟨g, 0, none⟩ (.int .i64 u)) v (u :: l) := by
  have hI := IntsAt.of_own h
  obtain ⟨hlen, h⟩ := h
  rcases h with ⟨rfl, h0⟩ | ⟨g, cap, cur, rfl, hB, hg, hn, hm, hs, ht⟩
  · simp at h0
  · obtain ⟨a', c', e1, hml, hc⟩ := hI
    injection e1 with e1 e2 e3
    subst e1 e3
    have h0 := hc 0 (by simp)
    obtain ⟨b, off, e, h0⟩ := h0
    injection e with e
    injection e with e1 e2 e3
    subst e1 e2
    have hc0 : w.cell? ⟨g, 0, none⟩ = some (.int .i64 a) := by simpa [gi] using h0
    refine ⟨g, cap, rfl, hB, cell_lt hc0, hc0, ?_, fun u => ⟨_, _, rfl, by simpa using hml, fun j hj => ⟨g, 0, rfl, ?_⟩⟩⟩
    · unfold World.frozen?
      simp [hg]
    · rcases j with _ | j
      · exact (World.cell?_setCell_same _ _ _ hc0).trans (by simp [gi])
      · obtain ⟨b, off, e, hj'⟩ := hc (j + 1) (by simpa using hj)
        injection e with e
        injection e with e1 e2 e3
        subst e1 e2
        rw [World.cell?_setCell_other _ _ _ _ (by intro h; injection h with h1 h2; omega), hj']
        simp [gi]

theorem fineEx (x : Int) (hx : 0 ≤ x ∧ x ≤ 1) : Fine exG (x :: ones 11) := by
  refine ⟨exG_ok, by decide, by simp [ones], fun k hk => ?_⟩
  rcases k with _ | k
  · simp [gi, wtOk]; omega
  · have h11 : k < 11 := by simp [ones] at hk; omega
    have e : gi (x :: ones 11) (k + 1) = 1 := by
      unfold gi ones
      rw [List.getElem?_cons_succ, List.getElem?_replicate, if_pos h11]; rfl
    rw [e]; unfold wtOk; omega

theorem first_ex : walkFirst exG 1 = 0 := by unfold walkFirst; rfl
theorem walk_ex1 : (walkK exG (ones 12) 1 0 2).2 = [0, 2] ∧ sumTo exG (ones 12) (walkK exG (ones 12) 1 0 2).1 exG.edges.length = 2 := by decide +kernel
theorem walk_ex0 : (walkK exG (0 :: ones 11) 1 0 2).2 = [1] ∧ sumTo exG (0 :: ones 11) (walkK exG (0 :: ones 11) 1 0 2).1 exG.edges.length = 0 := by decide +kernel
theorem nums_ex : nums 1 2 = [48271, 182605794] := by decide +kernel

theorem walkOf_ex1 (vg vl : Value) (w : World) (hg : GraphAt w vg exG) (hl : IntsAt w vl (ones 12)) :
    Calls Try.prog 17 #[vg, vl, .agg #[.int .i64 1, .int .i64 2]] w fun e w' =>
      ∃ v, e = .returned (.tuple #[.agg #[.int .i64 0, v, .bool false], .int .i64 0]) ∧ IntsAt w' v [0, 2] ∧ Below w.heap.size w w' := by
  refine (walkOf_ok exG (ones 12) 1 2 vg vl w hg hl (fineEx 1 ⟨by decide, by decide⟩) ⟨by decide, by decide⟩ ⟨by decide, by decide⟩ (by decide)).mono ?_
  rw [first_ex]
  rintro e w' ⟨v, rfl, ho, hb⟩
  have h2 : (2 : Int).toNat = 2 := rfl
  rw [h2] at ho ⊢
  rw [walk_ex1.1] at ho
  rw [walk_ex1.2]
  exact ⟨v, rfl, IntsAt.of_own ho, hb⟩
theorem walkOf_ex0 (vg vl : Value) (w : World) (hg : GraphAt w vg exG) (hl : IntsAt w vl (0 :: ones 11)) :
    Calls Try.prog 17 #[vg, vl, .agg #[.int .i64 1, .int .i64 2]] w fun e w' =>
      ∃ v, e = .returned (.tuple #[.agg #[.int .i64 0, v, .bool true], .int .i64 0]) ∧ IntsAt w' v [1] ∧ Below w.heap.size w w' := by
  refine (walkOf_ok exG (0 :: ones 11) 1 2 vg vl w hg hl (fineEx 0 ⟨by decide, by decide⟩) ⟨by decide, by decide⟩ ⟨by decide, by decide⟩ (by decide)).mono ?_
  rw [first_ex]
  rintro e w' ⟨v, rfl, ho, hb⟩
  have h2 : (2 : Int).toNat = 2 := rfl
  rw [h2] at ho ⊢
  rw [walk_ex0.1] at ho
  rw [walk_ex0.2]
  exact ⟨v, rfl, IntsAt.of_own ho, hb⟩
end Go.Proofs.Ytnijajjmcdgonaa
