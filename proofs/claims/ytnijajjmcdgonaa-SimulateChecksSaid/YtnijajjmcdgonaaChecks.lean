import Derived.Test.YtnijajjmcdgonaaWalkZ
import Derived.Test.YtnijajjmcdgonaaWalkU
import Derived.Test.YtnijajjmcdgonaaWalkC
namespace Go.Proofs.Ytnijajjmcdgonaa
open Go.RowKit
set_option linter.unusedVariables false

set_option maxHeartbeats 4000000 in
set_option maxRecDepth 100000 in
theorem simChecks_walk (hAw : AwakeSaid) (g : G) (x : W3) (vg vx : Value) (w : World) (hg : GraphAt w vg g) (hx : WalkAt w vx x) :
    Calls Try.prog 5 #[vg, vx] w fun e w' => e = .returned (.bool true) ∧ Below w.heap.size w w' := by
  obtain ⟨vi, ve, rfl, ⟨ai, ci, rfl, hmi, hci⟩, ⟨ae, ce, rfl, hme, hce⟩⟩ := hg
  obtain ⟨vs, rfl, ⟨aw, cs, rfl, hms, hcs⟩⟩ := hx
  have hC := CI.made w g x ai ci ae ce aw cs 34 39 hci hce hcs hmi hme hms
  clear hci hce hcs
  unfold maxLen at hmi hme hms
  go_enter Try.func5, Try.ntmps5
  go_wp2_with fail
  generalize ((w.alloc (Obj.cells #[Value.int IntKind.i64 g.n, Value.slice ai g.init.length ci, Value.slice ae g.edges.length ce] 34)).alloc (Obj.cells #[Value.int IntKind.i64 x.first, Value.slice aw x.steps.length cs, Value.bool x.stuck] 39)) = w0 at *
  refine (hAw _).mono ?_
  rintro e w1 ⟨rfl, hb1⟩
  replace hC := hC.later hb1
  clear hb1 w0
  have g0 := hC.gi.g0
  have g1 := hC.gi.g1
  have g2 := hC.gi.g2
  go_wp2_with fail
  refine (few_any g _ _ hC.graph).mono ?_
  rintro e w2 ⟨rfl, hb2⟩
  replace hC := hC.later hb2
  clear hb2 g0 g1 g2
  cases hf : fewB g
  · clear hf
    go_wp2
    go_ret
    exact ⟨rfl, hC.gi.bw⟩
  have hfw : g.n ≤ 20 ∧ g.init.length ≤ 22 ∧ g.edges.length ≤ 60 := by unfold fewB at hf; simpa using hf
  have HQ1 : Hid (g.init.length ≤ 100000) := Nat.le_trans hfw.2.1 (by decide)
  have HQ2 : Hid (g.edges.length ≤ 100000) := Nat.le_trans hfw.2.2 (by decide)
  clear hf hfw
  have x0 := hC.x0
  have x1 := hC.x1
  have x2 := hC.x2
  go_wp2_with fail
  have hbs : Below w2.heap.size w2 (w2.alloc (Obj.cells #[Value.int IntKind.i64 x.first, Value.slice aw x.steps.length cs, Value.bool x.stuck] 39)) := (Below.refl _ _).alloc (Nat.le_refl _) _
  have k1 : (w2.alloc (Obj.cells #[Value.int IntKind.i64 x.first, Value.slice aw x.steps.length cs, Value.bool x.stuck] 39)).cell? ⟨w2.heap.size, 1, none⟩ = some (.slice aw x.steps.length cs) := World.cell?_alloc_at _ _ _ _ rfl
  replace hC := hC.later hbs
  clear hbs x0 x1 x2
  generalize (w2.alloc (Obj.cells #[Value.int IntKind.i64 x.first, Value.slice aw x.steps.length cs, Value.bool x.stuck] 39)) = w3 at *
  refine (short_one x _ aw cs _ hC.ms k1).mono ?_
  rintro e w4 ⟨rfl, rfl⟩
  clear k1
  cases hs : shortB x.steps.length
  · clear hs
    go_wp2
    go_ret
    exact ⟨rfl, hC.gi.bw⟩
  have hsl : x.steps.length ≤ 302 := by unfold shortB at hs; simp at hs; omega
  have HQ3 : Hid (x.steps.length ≤ 100000) := Nat.le_trans hsl (by decide)
  clear hs hsl
  go_wp2_with fail
  have g0 := hC.gi.g0
  have g1 := hC.gi.g1
  have g2 := hC.gi.g2
  have x0 := hC.x0
  have x1 := hC.x1
  have x2 := hC.x2
  have HC := Lib.hid hC
  clear hC
  go_region_held3 (fun w' => w'.cell? ⟨w.heap.size, 0, none⟩ = some (.int .i64 g.n) ∧ w'.cell? ⟨w.heap.size, 1, none⟩ = some (.slice ai g.init.length ci) ∧ w'.cell? ⟨w.heap.size, 2, none⟩ = some (.slice ae g.edges.length ce) ∧ w'.cell? ⟨w.heap.size + 1, 0, none⟩ = some (.int .i64 x.first) ∧ w'.cell? ⟨w.heap.size + 1, 1, none⟩ = some (.slice aw x.steps.length cs) ∧ w'.cell? ⟨w.heap.size + 1, 2, none⟩ = some (.bool x.stuck) ∧ Below w4.heap.size w4 w')
    ((refine (fun hB : Below w4.heap.size w4 _ => ⟨Below.keeps hB g0 (Nat.le_refl _), Below.keeps hB g1 (Nat.le_refl _), Below.keeps hB g2 (Nat.le_refl _), Below.keeps hB x0 (Nat.le_refl _), Below.keeps hB x1 (Nat.le_refl _), Below.keeps hB x2 (Nat.le_refl _), hB⟩) ?_; (repeat (first | with_reducible exact Below.refl _ _ | with_reducible assumption | with_reducible refine Below.drew ?_))))
    (first
      | (go_at_call 18; refine (ownGraph_any g _ _ (HC.out.graph.later (Below.refl _ _).drew) HQ1.out HQ2.out).mono ?_; rintro e wA ⟨vA, rfl, gA, hA⟩; have hbA : Below w4.heap.size w4 wA := Below.trans (b := w4.drew) (Below.refl _ _).drew hA)
      | (go_at_call 25; refine (ownWalk_any x _ _ (HC.out.walk.later hbA) HQ3.out).mono ?_; rintro e wB ⟨vB, rfl, gB, hB'⟩; have hbB : Below w4.heap.size w4 wB := hbA.trans (hB'.mono hbA.size))
      | (go_at_call 24; refine (checkWalk_any g x _ _ _ (gA.later hB') gB).mono ?_; rintro e wC ⟨rfl, hC'⟩; have hbC : Below w4.heap.size w4 wC := hbB.trans (hC'.mono hbB.size)))
  have hC := HC.out.later hbC
  clear HC hbA hbB hbC gA gB hA hB' hC' g0 g1 g2 x0 x1 x2
  have g0 := hC.gi.g0
  have g1 := hC.gi.g1
  have g2 := hC.gi.g2
  have x0 := hC.x0
  have x1 := hC.x1
  have x2 := hC.x2
  go_wp2_with fail
  refine (refCheck_any g x _ _ _ hC.graph hC.walk).mono ?_
  rintro e wD ⟨rfl, hbD⟩
  replace hC := hC.later hbD
  clear hbD g0 g1 g2 x0 x1 x2
  have he2 : ((ckA g x).2 == (ckA g x).2) = true := by simp
  have he1 : ((ckA g x).1 == (ckA g x).1) = true := by simp
  go_wp2
  go_ret
  exact ⟨rfl, hC.gi.bw⟩
end Go.Proofs.Ytnijajjmcdgonaa
