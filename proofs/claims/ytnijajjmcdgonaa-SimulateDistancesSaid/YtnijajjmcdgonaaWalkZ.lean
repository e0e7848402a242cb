import Derived.Test.YtnijajjmcdgonaaWalkY
import Derived.Deep.RegionHeld3
namespace Go.Proofs.Ytnijajjmcdgonaa
open Go.RowKit
set_option linter.unusedVariables false

theorem walk_form {w : World} {v : Value} {x : W3} (h : WalkAt w v x) : ∃ a c, v = .agg #[.int .i64 x.first, .slice a x.steps.length c, .bool x.stuck] ∧ IntsCells w a x.steps ∧ x.steps.length ≤ maxLen := by
  obtain ⟨vs, rfl, ⟨a, c, rfl, hm, hc⟩⟩ := h
  exact ⟨a, c, rfl, hc, hm⟩

set_option maxHeartbeats 2000000 in
set_option maxRecDepth 100000 in
theorem ownWalk_own (x : W3) (v : Value) (w : World) (hx : WalkAt w v x) (hr : x.steps.length ≤ 100000) :
    Calls Try.prog 25 #[v] w fun e w' => ∃ a c, e = .returned (.agg #[.int .i64 x.first, .slice a x.steps.length c, .bool x.stuck]) ∧ ownInts w' w.heap.size (.slice a x.steps.length c) x.steps ∧ Below w.heap.size w w' := by
  obtain ⟨a, c, rfl, hc, hm⟩ := walk_form hx
  clear hx
  unfold maxLen at hm
  go_enter Try.func25, Try.ntmps25
  go_wp2_with fail
  have hb0 : Below w.heap.size w ((w.alloc (Obj.cells #[Value.int IntKind.i64 x.first, Value.slice a x.steps.length c, Value.bool x.stuck] 39)).alloc (Obj.cells #[.int .i64 0, .slice none 0 0, .bool false] 39)) := ((Below.refl _ _).alloc (Nat.le_refl _) _).alloc (by simp) _
  have q0 : ((w.alloc (Obj.cells #[Value.int IntKind.i64 x.first, Value.slice a x.steps.length c, Value.bool x.stuck] 39)).alloc (Obj.cells #[.int .i64 0, .slice none 0 0, .bool false] 39)).cell? ⟨w.heap.size, 0, none⟩ = some (.int .i64 x.first) := by rw [World.cell?_alloc_past _ _ _ (by simp), World.cell?_alloc_at _ _ _ _ rfl]; rfl
  have q1 : ((w.alloc (Obj.cells #[Value.int IntKind.i64 x.first, Value.slice a x.steps.length c, Value.bool x.stuck] 39)).alloc (Obj.cells #[.int .i64 0, .slice none 0 0, .bool false] 39)).cell? ⟨w.heap.size, 1, none⟩ = some (.slice a x.steps.length c) := by rw [World.cell?_alloc_past _ _ _ (by simp), World.cell?_alloc_at _ _ _ _ rfl]; rfl
  have q2 : ((w.alloc (Obj.cells #[Value.int IntKind.i64 x.first, Value.slice a x.steps.length c, Value.bool x.stuck] 39)).alloc (Obj.cells #[.int .i64 0, .slice none 0 0, .bool false] 39)).cell? ⟨w.heap.size, 2, none⟩ = some (.bool x.stuck) := by rw [World.cell?_alloc_past _ _ _ (by simp), World.cell?_alloc_at _ _ _ _ rfl]; rfl
  have r0 : ((w.alloc (Obj.cells #[Value.int IntKind.i64 x.first, Value.slice a x.steps.length c, Value.bool x.stuck] 39)).alloc (Obj.cells #[.int .i64 0, .slice none 0 0, .bool false] 39)).cell? ⟨w.heap.size + 1, 0, none⟩ = some (.int .i64 0) := by rw [World.cell?_alloc_at _ _ _ _ (by simp)]; rfl
  have r1 : ((w.alloc (Obj.cells #[Value.int IntKind.i64 x.first, Value.slice a x.steps.length c, Value.bool x.stuck] 39)).alloc (Obj.cells #[.int .i64 0, .slice none 0 0, .bool false] 39)).cell? ⟨w.heap.size + 1, 1, none⟩ = some (.slice none 0 0) := by rw [World.cell?_alloc_at _ _ _ _ (by simp)]; rfl
  have r2 : ((w.alloc (Obj.cells #[Value.int IntKind.i64 x.first, Value.slice a x.steps.length c, Value.bool x.stuck] 39)).alloc (Obj.cells #[.int .i64 0, .slice none 0 0, .bool false] 39)).cell? ⟨w.heap.size + 1, 2, none⟩ = some (.bool false) := by rw [World.cell?_alloc_at _ _ _ _ (by simp)]; rfl
  have rf : ∀ i, ((w.alloc (Obj.cells #[Value.int IntKind.i64 x.first, Value.slice a x.steps.length c, Value.bool x.stuck] 39)).alloc (Obj.cells #[.int .i64 0, .slice none 0 0, .bool false] 39)).frozen? ⟨w.heap.size + 1, i, none⟩ = false := fun i => World.frozen?_alloc_at _ _ _ _ (by simp)
  have hsz : w.heap.size + 1 < ((w.alloc (Obj.cells #[Value.int IntKind.i64 x.first, Value.slice a x.steps.length c, Value.bool x.stuck] 39)).alloc (Obj.cells #[.int .i64 0, .slice none 0 0, .bool false] 39)).heap.size := by simp
  replace hc := hc.later hb0
  generalize ((w.alloc (Obj.cells #[Value.int IntKind.i64 x.first, Value.slice a x.steps.length c, Value.bool x.stuck] 39)).alloc (Obj.cells #[.int .i64 0, .slice none 0 0, .bool false] 39)) = wb at *
  have HI : Hid (IntsAt wb (.slice a x.steps.length c) x.steps) := ⟨_, _, rfl, by unfold maxLen; omega, hc⟩
  have HR0 := Lib.hid r0; have HR1 := Lib.hid r1; have HR2 := Lib.hid r2; have HRF := Lib.hid rf
  clear hc r0 r1 r2 rf
  go_region_held3 (fun w' => w'.cell? ⟨w.heap.size, 0, none⟩ = some (.int .i64 x.first) ∧ w'.cell? ⟨w.heap.size, 1, none⟩ = some (.slice a x.steps.length c) ∧ w'.cell? ⟨w.heap.size, 2, none⟩ = some (.bool x.stuck))
    ((first | exact ⟨q0, q1, q2⟩ | exact ⟨a0, a1, a2⟩ | (refine ⟨?_, ?_, ?_⟩; (focus (refine Eq.trans ?_ a0; go_simp; done)); (focus (refine Eq.trans ?_ a1; go_simp; done)); (focus (refine Eq.trans ?_ a2; go_simp; done))) | (refine ⟨?_, ?_, ?_⟩ <;> (go_simp; done))))
    (first
      | (go_at_call 19; refine (ownInts_any x.steps _ _ (HI.out.later (Below.refl _ _).drew) hr).mono ?_; rintro e wA ⟨vA, rfl, oA, hA⟩; obtain ⟨aA, cA, rfl⟩ := own_form oA; have hbA : Below wb.heap.size wb wA := Below.trans (b := wb.drew) (Below.refl _ _).drew hA; have a0 := Below.keeps hbA q0 (Nat.le_refl _); have a1 := Below.keeps hbA q1 (Nat.le_refl _); have a2 := Below.keeps hbA q2 (Nat.le_refl _); have s0 := Below.keeps hbA HR0.out (Nat.le_refl _); have s1 := Below.keeps hbA HR1.out (Nat.le_refl _); have s2 := Below.keeps hbA HR2.out (Nat.le_refl _); have t0 := Below.keepsF hbA (HRF.out 0) hsz; have t1 := Below.keepsF hbA (HRF.out 1) hsz; have t2 := Below.keepsF hbA (HRF.out 2) hsz))
  have hbw := hb0.trans (hbA.mono hb0.size)
  have oI : ownInts wA wb.heap.size (.slice aA x.steps.length cA) x.steps := oA
  have hws : w.heap.size ≤ wb.heap.size := by omega
  clear oA hA hbA hb0 q0 q1 q2
  go_wp2
  refine bodyPost_ret (v := .agg #[.int .i64 x.first, .slice aA x.steps.length cA, .bool x.stuck]) (by simp [results, Try.results25, go_sem, s0, s1, s2]) rfl ⟨_, _, rfl, ?_, ?_⟩
  · exact own_mono (ownsRow_setCell_below (ownsRow_setCell_below (ownsRow_setCell_below oI hsz _) hsz _) hsz _) hws
  · exact ((hbw.setCell (Nat.le_succ _) _).setCell (Nat.le_succ _) _).setCell (Nat.le_succ _) _

theorem ownWalk_any (x : W3) (v : Value) (w : World) (hx : WalkAt w v x) (hr : x.steps.length ≤ 100000) :
    Calls Try.prog 25 #[v] w fun e w' => ∃ v', e = .returned v' ∧ WalkAt w' v' x ∧ Below w.heap.size w w' := by
  refine (ownWalk_own x v w hx hr).mono ?_
  rintro e w' ⟨a, c, rfl, h1, h2⟩
  exact ⟨_, rfl, ⟨_, rfl, IntsAt.of_own h1⟩, h2⟩

def shortB (n : Nat) : Bool := decide (¬ (60 < n ∧ n ≤ 300) ∧ ¬ 302 < n)
set_option maxHeartbeats 800000 in
set_option maxRecDepth 100000 in
theorem short_one (x : W3) (k : Nat) (a : Option Addr) (c : Nat) (w : World) (hn : x.steps.length ≤ maxLen) (h1 : w.cell? ⟨k, 1, none⟩ = some (.slice a x.steps.length c)) :
    Calls Try.prog 26 #[.slice (some ⟨k, 0, none⟩) 1 1] w fun e w' => e = .returned (.bool (shortB x.steps.length)) ∧ w' = w := by
  unfold maxLen at hn
  have hfin : ∀ r : Bool, (r = true ↔ ¬ (60 < x.steps.length ∧ x.steps.length ≤ 300) ∧ ¬ 302 < x.steps.length) → Hid (r = shortB x.steps.length) := fun r h => by
    unfold Hid shortB
    cases r
    · exact (decide_eq_false fun h' => by have := h.2 h'; cases this).symm
    · exact (decide_eq_true (h.1 rfl)).symm
  by_cases d1 : 60 < x.steps.length
  · have e1 : decide ((60 : Int) < (x.steps.length : Int)) = true := decide_eq_true (by omega)
    by_cases d2 : x.steps.length ≤ 300
    · have e2 : decide ((x.steps.length : Int) ≤ 300) = true := decide_eq_true (by omega)
      have HX := hfin false ⟨fun h => (by cases h), fun h => absurd ⟨d1, d2⟩ h.1⟩
      clear hfin d1 d2
      go_enter Try.func26, Try.ntmps26
      go_wp2
      go_rounds 2
      go_ret
      exact ⟨ret_bool HX.out, rfl⟩
    · have e2 : decide ((x.steps.length : Int) ≤ 300) = false := decide_eq_false (by omega)
      by_cases d3 : 302 < x.steps.length
      · have e3 : decide ((302 : Int) < (x.steps.length : Int)) = true := decide_eq_true (by omega)
        have HX := hfin false ⟨fun h => (by cases h), fun h => absurd d3 h.2⟩
        clear hfin d1 d2 d3
        go_enter Try.func26, Try.ntmps26
        go_wp2
        go_rounds 2
        go_ret
        exact ⟨ret_bool HX.out, rfl⟩
      · have e3 : decide ((302 : Int) < (x.steps.length : Int)) = false := decide_eq_false (by omega)
        have HX := hfin true ⟨fun _ => ⟨fun h => d2 h.2, d3⟩, fun _ => rfl⟩
        clear hfin d1 d2 d3
        go_enter Try.func26, Try.ntmps26
        go_wp2
        go_rounds 2
        go_ret
        exact ⟨ret_bool HX.out, rfl⟩
  · have e1 : decide ((60 : Int) < (x.steps.length : Int)) = false := decide_eq_false (by omega)
    have e3 : decide ((302 : Int) < (x.steps.length : Int)) = false := decide_eq_false (by omega)
    have HX := hfin true ⟨fun _ => ⟨fun h => d1 h.1, by omega⟩, fun _ => rfl⟩
    clear hfin d1
    go_enter Try.func26, Try.ntmps26
    go_wp2
    go_rounds 2
    go_ret
    exact ⟨ret_bool HX.out, rfl⟩
end Go.Proofs.Ytnijajjmcdgonaa
