import Derived.Test.YtciopdlmjciieaaMathS
namespace Go.Proofs.Ytciopdlmjciieaa
open Go.RowKit
set_option linter.unusedVariables false

theorem compare_lt {a b : Int} (h : a < b) (w : World) : Calls Try.prog 54 #[.int .i64 a, .int .i64 b] w fun e w' => e = .returned (.int .i64 (-1)) ∧ w' = w := by
  have := compare_any a b w
  unfold cmpI at this
  rwa [if_pos h] at this
theorem compare_eq (a : Int) (w : World) : Calls Try.prog 54 #[.int .i64 a, .int .i64 a] w fun e w' => e = .returned (.int .i64 0) ∧ w' = w := by
  have := compare_any a a w
  unfold cmpI at this
  rwa [if_neg (by omega), if_neg (by omega)] at this

set_option maxHeartbeats 800000 in
set_option maxRecDepth 100000 in
/-- slices.Compare of two lists of two numbers, the first before the second. -/
theorem compareL_lt (a0 a1 b0 b1 : Int) (x y : Value) (w : World) (hx : IntsAt w x [a0, a1]) (hy : IntsAt w y [b0, b1]) (h : a0 < b0 ∨ a0 = b0 ∧ a1 < b1) :
    Calls Try.prog 32 #[x, y] w fun e w' => e = .returned (.int .i64 (-1)) ∧ w' = w := by
  obtain ⟨ax, cx, rfl, -, hcx⟩ := hx
  obtain ⟨ay, cy, rfl, -, hcy⟩ := hy
  obtain ⟨bx, ox, rfl, x0⟩ := hcx 0 (by simp)
  obtain ⟨bx', ox', e, x1⟩ := hcx 1 (by simp)
  injection e with e; injection e with e1 e2 _; subst e1 e2
  obtain ⟨by', oy, rfl, y0⟩ := hcy 0 (by simp)
  obtain ⟨by2, oy2, e, y1⟩ := hcy 1 (by simp)
  injection e with e; injection e with e1 e2 _; subst e1 e2
  have x0' : w.cell? ⟨bx, ox, none⟩ = some (.int .i64 a0) := x0
  have x1' : w.cell? ⟨bx, ox + 1, none⟩ = some (.int .i64 a1) := x1
  have y0' : w.cell? ⟨by', oy, none⟩ = some (.int .i64 b0) := y0
  have y1' : w.cell? ⟨by', oy + 1, none⟩ = some (.int .i64 b1) := y1
  clear x0 x1 y0 y1 hcx hcy
  have l1 : ([a0, a1] : List Int).length = 2 := rfl
  have l2 : ([b0, b1] : List Int).length = 2 := rfl
  rw [l1, l2]
  go_enter Try.func32, Try.ntmps32
  go_upto_region 2 with (fail)
  go_loop [11] (fun i => ∃ k : Nat, k ≤ 1 ∧ i = .int .i64 k ∧ Hid (k = 1 → a0 = b0 ∧ a1 < b1)) (fun i => 2 - (intOf i).toNat)
  case atStart => exact ⟨0, by omega, rfl, fun h => by omega⟩
  case round =>
    obtain ⟨k, hk, rfl, hq⟩ := hrel
    rcases k with _ | k
    · by_cases hlt : a0 < b0
      · go_wp2_with fail
        refine (compare_lt hlt _).mono ?_
        rintro e w1 ⟨rfl, rfl⟩
        go_wp2
        go_ret
        exact ⟨rfl, rfl⟩
      · have hh : Hid (a0 = b0 ∧ a1 < b1) := by unfold Hid; omega
        obtain ⟨he, -⟩ := hh.out
        subst he
        go_wp2_with fail
        refine (compare_eq _ _).mono ?_
        rintro e w1 ⟨rfl, rfl⟩
        go_wp2
        exact ⟨⟨1, by omega, by go_num, fun _ => hh.out⟩, by simp [intOf]⟩
    · have hk0 : k = 0 := by omega
      subst hk0
      obtain ⟨he, h1⟩ := hq.out rfl
      subst he
      go_wp2_with fail
      refine (compare_lt h1 _).mono ?_
      rintro e w1 ⟨rfl, rfl⟩
      go_wp2
      go_ret
      exact ⟨rfl, rfl⟩
end Go.Proofs.Ytciopdlmjciieaa
