import Derived.Test.YtnijajjmcdgonaaRows
import Derived.WalkKit
import Derived.WalkSpells
import Derived.WalkLawsBesides
import Derived.BigQuiet
import Derived.Deep.QuietTactic
import Derived.Lib.Hide
namespace Go.Proofs.Ytnijajjmcdgonaa
open Go.RowKit
set_option linter.unusedVariables false

theorem ret_bool {a b : Bool} (h : a = b) : Ending.returned (.bool a) = .returned (.bool b) := by rw [h]
theorem ret_int {k : IntKind} {a b : Int} (h : a = b) : Ending.returned (.int k a) = .returned (.int k b) := by rw [h]

def seedOk (n : Int) : Bool := decide (1 ≤ n ∧ n < 2147483647)

set_option maxHeartbeats 400000 in
theorem isSeed_any (n : Int) (w : World) :
    Calls Try.prog 41 #[.int .i64 n] w fun e w' => e = .returned (.bool (seedOk n)) ∧ w' = w := by
  have hs : ∀ b, decide (1 ≤ n ∧ n < 2147483647) = b → b = seedOk n := fun b h => by rw [← h]; rfl
  by_cases h1 : 1 ≤ n
  · by_cases h2 : n < 2147483647
    · have H := Lib.hid (hs true (by simp; omega)); clear hs
      go_enter Try.func41, Try.ntmps41
      go_wp2
      go_ret
      exact ⟨ret_bool H.out, rfl⟩
    · have H := Lib.hid (hs false (by simp; omega)); clear hs
      go_enter Try.func41, Try.ntmps41
      go_wp2
      go_ret
      exact ⟨ret_bool H.out, rfl⟩
  · have H := Lib.hid (hs false (by simp; omega)); clear hs
    go_enter Try.func41, Try.ntmps41
    go_wp2
    go_ret
    exact ⟨ret_bool H.out, rfl⟩

def between (x a b : Int) : Bool := decide (a ≤ x ∧ x ≤ b)
set_option maxHeartbeats 400000 in
theorem between_any (x a b : Int) (w : World) :
    Calls Try.prog 13 #[.int .i64 x, .int .i64 a, .int .i64 b] w fun e w' => e = .returned (.bool (between x a b)) ∧ w' = w := by
  have hs : ∀ r, decide (a ≤ x ∧ x ≤ b) = r → r = between x a b := fun r h => by rw [← h]; rfl
  by_cases h1 : a ≤ x
  · by_cases h2 : x ≤ b
    · have H := Lib.hid (hs true (by simp; omega)); clear hs
      go_enter Try.func13, Try.ntmps13
      go_wp2
      go_ret
      exact ⟨ret_bool H.out, rfl⟩
    · have H := Lib.hid (hs false (by simp; omega)); clear hs
      go_enter Try.func13, Try.ntmps13
      go_wp2
      go_ret
      exact ⟨ret_bool H.out, rfl⟩
  · have H := Lib.hid (hs false (by simp; omega)); clear hs
    go_enter Try.func13, Try.ntmps13
    go_wp2
    go_ret
    exact ⟨ret_bool H.out, rfl⟩

/-- One step of the numbers of a seed. -/
def nx (n : Int) : Int := (n * 48271) % 2147483647
theorem nx_bd (n : Int) : 0 ≤ nx n ∧ nx n < 2147483647 := by unfold nx; omega

set_option maxHeartbeats 400000 in
theorem next_any (b off : Nat) (n : Int) (w : World) (h0 : 0 ≤ n) (h1 : n < 2147483647) (hc : w.cell? ⟨b, off, none⟩ = some (.int .i64 n)) (hf : w.frozen? ⟨b, off, none⟩ = false) :
    Calls Try.prog 42 #[.pointer (some ⟨b, off, none⟩)] w fun e w' => e = .returned (.int .i64 (nx n)) ∧ w' = w.setCell ⟨b, off, none⟩ (.int .i64 (nx n)) := by
  go_enter Try.func42, Try.ntmps42
  go_wp2
  go_ret
  exact ⟨rfl, rfl⟩
end Go.Proofs.Ytnijajjmcdgonaa
