import Derived.Test.YtnijajjmcdgonaaWalkB
namespace Go.Proofs.Ytnijajjmcdgonaa
open Go.RowKit
set_option linter.unusedVariables false

set_option maxHeartbeats 400000 in
theorem seedErr_any (n : Int) (w : World) :
    Calls Try.prog 12 #[.int .i64 n] w fun e w' => e = .returned (.int .i64 (if seedOk n then 0 else 3)) ∧ w' = w := by
  have hb : between n 1 2147483646 = seedOk n := by unfold between seedOk; rw [decide_eq_decide]; omega
  have HB := Lib.hid hb; clear hb
  cases h : seedOk n
  all_goals
    have HS := Lib.hid h; clear h
    go_enter Try.func12, Try.ntmps12
    go_wp2_with fail
    refine (between_any _ _ _ _).mono ?_
    rw [HB.out, HS.out]
    rintro e w' ⟨rfl, rfl⟩
    go_wp2
    go_ret
    exact ⟨rfl, rfl⟩

set_option maxHeartbeats 400000 in
theorem numbersOf_seed (n c : Int) (w : World) (hs : seedOk n = false) :
    Calls Try.prog 11 #[.int .i64 n, .int .i64 c] w fun e w' => e = .returned (.tuple #[.slice none 0 0, .int .i64 3]) ∧ w' = w := by
  have HS := Lib.hid hs; clear hs
  go_enter Try.func11, Try.ntmps11
  go_wp2_with fail
  refine (isSeed_any _ _).mono ?_
  rw [HS.out]
  rintro e w1 ⟨rfl, rfl⟩
  go_wp2
  go_ret2
  exact ⟨rfl, rfl⟩

set_option maxHeartbeats 400000 in
theorem numbersOf_count (n c : Int) (w : World) (hs : seedOk n = true) (hc : between c 0 300 = false) :
    Calls Try.prog 11 #[.int .i64 n, .int .i64 c] w fun e w' => e = .returned (.tuple #[.slice none 0 0, .int .i64 2]) ∧ w' = w := by
  have HS := Lib.hid hs; clear hs
  have hc' : c < 0 ∨ 300 < c := by unfold between at hc; simp at hc; omega
  clear hc
  rcases hc' with hc' | hc'
  all_goals
    go_enter Try.func11, Try.ntmps11
    go_wp2_with fail
    refine (isSeed_any _ _).mono ?_
    rw [HS.out]
    rintro e w1 ⟨rfl, rfl⟩
    go_wp2
    all_goals
      go_ret2
      exact ⟨rfl, rfl⟩

/-- The law, from what awake answers. -/
def AwakeSaid : Prop := ∀ w : World, Calls Try.prog 10 #[] w fun e w' => e = .returned (.bool true) ∧ Below w.heap.size w w'

set_option maxHeartbeats 1000000 in
set_option maxRecDepth 100000 in
theorem simNumbers_walk (hAw : AwakeSaid) (n c : Int) (w : World) :
    Calls Try.prog 3 #[.int .i64 n, .int .i64 c] w fun e w' => e = .returned (.bool true) ∧ Below w.heap.size w w' := by
  cases hs : seedOk n
  · have HS := Lib.hid hs; clear hs
    go_enter Try.func3, Try.ntmps3
    go_wp2_with fail
    refine (hAw _).mono ?_
    rintro e w1 ⟨rfl, hb1⟩
    go_wp2_with fail
    refine (numbersOf_seed _ _ _ HS.out).mono ?_
    rintro e w2 ⟨rfl, rfl⟩
    go_wp2_with fail
    refine (seedErr_any _ _).mono ?_
    rw [HS.out]
    rintro e w2 ⟨rfl, rfl⟩
    go_wp2
    go_ret
    exact ⟨rfl, hb1⟩
  · cases hc : between c 0 300
    · have HS := Lib.hid hs; clear hs
      have HC := Lib.hid hc; clear hc
      go_enter Try.func3, Try.ntmps3
      go_wp2_with fail
      refine (hAw _).mono ?_
      rintro e w1 ⟨rfl, hb1⟩
      go_wp2_with fail
      refine (numbersOf_count _ _ _ HS.out HC.out).mono ?_
      rintro e w2 ⟨rfl, rfl⟩
      go_wp2_with fail
      refine (seedErr_any _ _).mono ?_
      rw [HS.out]
      rintro e w2 ⟨rfl, rfl⟩
      go_wp2_with fail
      refine (between_any _ _ _ _).mono ?_
      rw [HC.out]
      rintro e w2 ⟨rfl, rfl⟩
      go_wp2
      go_ret
      exact ⟨rfl, hb1⟩
    · have HS := Lib.hid hs; clear hs
      have HC := Lib.hid hc; clear hc
      have hs' : 1 ≤ n ∧ n < 2147483647 := by have := HS.out; unfold seedOk at this; simpa using this
      have hc' : 0 ≤ c ∧ c ≤ 300 := by have := HC.out; unfold between at this; simpa using this
      go_enter Try.func3, Try.ntmps3
      go_wp2_with fail
      refine (hAw _).mono ?_
      rintro e w1 ⟨rfl, hb1⟩
      go_wp2_with fail
      refine (numbersOf_ok _ _ _ hs' hc').mono ?_
      rintro e w2 ⟨v, rfl, hown2, hb2⟩
      go_wp2_with fail
      refine (seedErr_any _ _).mono ?_
      rw [HS.out]
      rintro e w2' ⟨rfl, rfl⟩
      go_wp2_with fail
      refine (between_any _ _ _ _).mono ?_
      rw [HC.out]
      rintro e w2' ⟨rfl, rfl⟩
      go_wp2_with fail
      refine (numbers_ok _ _ _ hs' ⟨hc'.1, by omega⟩).mono ?_
      rintro e w3 ⟨u, rfl, hown3, hb3⟩
      go_wp2_with fail
      refine (equalInts_any _ _ _ _ _ ((IntsAt.of_own hown2).later hb3) (IntsAt.of_own hown3)).mono ?_
      rintro e w4 ⟨rfl, q, rfl⟩
      rw [decide_eq_true rfl]
      go_wp2
      go_ret
      exact ⟨rfl, below_drewN ((hb1.trans (hb2.mono hb1.size)).trans (hb3.mono (Nat.le_trans hb1.size hb2.size))) q⟩
end Go.Proofs.Ytnijajjmcdgonaa
