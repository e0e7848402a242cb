import Derived.Test.YtnijajjmcdgonaaWalkB
import Derived.Deep.RegionWith
import Derived.Handy
import Derived.StillTailTactics
namespace Go.Proofs.Ytnijajjmcdgonaa
open Go.RowKit
set_option linter.unusedVariables false

def cmpI (a b : Int) : Int := if a < b then -1 else if b < a then 1 else 0

set_option maxHeartbeats 400000 in
theorem compare_any (a b : Int) (w : World) :
    Calls Try.prog 67 #[.int .i64 a, .int .i64 b] w fun e w' => e = .returned (.int .i64 (cmpI a b)) ∧ w' = w := by
  have hs : ∀ r, (if a < b then -1 else if b < a then 1 else 0) = r → r = cmpI a b := fun r h => by rw [← h]; rfl
  have ha : (a != a) = false := by simp
  have hb : (b != b) = false := by simp
  by_cases h1 : a < b
  · have H := Lib.hid (hs (-1) (by rw [if_pos h1])); clear hs
    go_enter Try.func67, Try.ntmps67
    go_wp2
    go_ret
    exact ⟨ret_int H.out, rfl⟩
  · by_cases h2 : b < a
    · have H := Lib.hid (hs 1 (by rw [if_neg h1, if_pos h2])); clear hs
      go_enter Try.func67, Try.ntmps67
      go_wp2
      go_ret
      exact ⟨ret_int H.out, rfl⟩
    · have H := Lib.hid (hs 0 (by rw [if_neg h1, if_neg h2])); clear hs
      go_enter Try.func67, Try.ntmps67
      go_wp2
      go_ret
      exact ⟨ret_int H.out, rfl⟩

/-- The first of three that is not 0. -/
def or3 (a b c : Int) : Int := if a ≠ 0 then a else if b ≠ 0 then b else c

set_option maxHeartbeats 800000 in
theorem or3_any (k : Nat) (a b c : Int) (w : World) (h0 : w.cell? ⟨k, 0, none⟩ = some (.int .i64 a)) (h1 : w.cell? ⟨k, 1, none⟩ = some (.int .i64 b)) (h2 : w.cell? ⟨k, 2, none⟩ = some (.int .i64 c)) :
    Calls Try.prog 66 #[.slice (some ⟨k, 0, none⟩) 3 3] w fun e w' => e = .returned (.int .i64 (or3 a b c)) ∧ w' = w := by
  have hs : ∀ r, or3 a b c = r → r = or3 a b c := fun r h => by rw [← h]
  by_cases ha : a = 0
  · have Ha : (a != 0) = false := by simpa using ha
    by_cases hb : b = 0
    · have Hb : (b != 0) = false := by simpa using hb
      by_cases hc : c = 0
      · have Hc : (c != 0) = false := by simpa using hc
        have H := Lib.hid (hs 0 (by simp [or3, ha, hb, hc])); clear hs ha hb hc
        go_enter Try.func66, Try.ntmps66
        go_wp2
        go_rounds 4
        go_ret
        exact ⟨ret_int H.out, rfl⟩
      · have Hc : (c != 0) = true := by simpa using hc
        have H := Lib.hid (hs c (by simp [or3, ha, hb])); clear hs ha hb hc
        go_enter Try.func66, Try.ntmps66
        go_wp2
        go_rounds 4
        go_ret
        exact ⟨ret_int H.out, rfl⟩
    · have Hb : (b != 0) = true := by simpa using hb
      have H := Lib.hid (hs b (by simp [or3, ha, hb])); clear hs ha hb
      go_enter Try.func66, Try.ntmps66
      go_wp2
      go_rounds 4
      go_ret
      exact ⟨ret_int H.out, rfl⟩
  · have Ha : (a != 0) = true := by simpa using ha
    have H := Lib.hid (hs a (by simp [or3, ha])); clear hs ha
    go_enter Try.func66, Try.ntmps66
    go_wp2
    go_rounds 4
    go_ret
    exact ⟨ret_int H.out, rfl⟩

/-- An edge as three numbers: from, to, by. -/
structure E where
  f : Int
  t : Int
  a : Int
deriving DecidableEq, Inhabited
def cmpE (x y : E) : Int := or3 (cmpI x.f y.f) (cmpI x.t y.t) (cmpI x.a y.a)
abbrev vE (x : E) : Value := .agg #[.int .i64 x.f, .int .i64 x.t, .int .i64 x.a]

set_option maxHeartbeats 2000000 in
set_option maxRecDepth 100000 in
theorem compareEdges_any (x y : E) (w : World) :
    Calls Try.prog 62 #[vE x, vE y] w fun e w' => e = .returned (.int .i64 (cmpE x y)) ∧ Below w.heap.size w w' := by
  obtain ⟨x0, x1, x2⟩ := x
  obtain ⟨y0, y1, y2⟩ := y
  go_enter Try.func62, Try.ntmps62
  go_wp2_with fail
  refine wp_region_still_tail 15 (by kernel_rfl) (by kernel_rfl) ?_
  change wpStill _ _ (World.drew _) (fun a' => wpList _ _ _ _ a' (World.drew _)) _ _
  simp only [List.take_succ_cons, List.take_zero, List.drop_succ_cons, List.drop_zero]
  repeat (first | still_step | still_call (compare_any _ _ _))
  try refine wpStill_nil ?_
  go_wp2_with fail
  refine (or3_any _ (cmpI x0 y0) (cmpI x1 y1) (cmpI x2 y2) _ ?_ ?_ ?_).mono ?_
  · exact World.cell?_alloc_at _ _ _ _ (by simp)
  · exact World.cell?_alloc_at _ _ _ _ (by simp)
  · exact World.cell?_alloc_at _ _ _ _ (by simp)
  rintro e w' ⟨rfl, rfl⟩
  go_wp2
  go_ret
  exact ⟨rfl, ((((Below.refl _ _).alloc (Nat.le_refl _) _).alloc (by simp) _).alloc (by simp; omega) _).drew⟩
end Go.Proofs.Ytnijajjmcdgonaa
