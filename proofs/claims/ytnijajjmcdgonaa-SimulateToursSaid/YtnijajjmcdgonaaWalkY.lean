import Derived.Test.YtnijajjmcdgonaaWalkX
namespace Go.Proofs.Ytnijajjmcdgonaa
open Go.RowKit
set_option linter.unusedVariables false

/-- What CheckWalk answers. -/
noncomputable def ckA (g : G) (x : W3) : Int × Int := if isG g = true then ckW g x.first x.steps else (0, 5)

set_option maxHeartbeats 2000000 in
set_option maxRecDepth 100000 in
theorem checkWalk_any (g : G) (x : W3) (vg vx : Value) (w : World) (hg : GraphAt w vg g) (hx : WalkAt w vx x) :
    Calls Try.prog 24 #[vg, vx] w fun e w' => e = .returned (.tuple #[.int .i64 (ckA g x).1, .int .i64 (ckA g x).2]) ∧ Below w.heap.size w w' := by
  obtain ⟨vi, ve, rfl, ⟨ai, ci, rfl, hmi, hci⟩, ⟨ae, ce, rfl, hme, hce⟩⟩ := hg
  obtain ⟨vs, rfl, ⟨aw, cs, rfl, hms, hcs⟩⟩ := hx
  have hC := CI.made w g x ai ci ae ce aw cs 34 39 hci hce hcs hmi hme hms
  clear hci hce hcs
  unfold maxLen at hmi hme hms
  cases hi : isG g
  · have HX : Hid (Ending.returned (.tuple #[.int .i64 0, .int .i64 5]) = .returned (.tuple #[.int .i64 (ckA g x).1, .int .i64 (ckA g x).2])) := by unfold Hid ckA; rw [if_neg (by simp [hi])]
    have HE : Hid (gErr g = 5) := by unfold Hid; rw [gErr_isG, if_neg (by simp [hi])]
    clear hi
    go_enter Try.func24, Try.ntmps24
    go_wp2_with fail
    generalize ((w.alloc (Obj.cells #[Value.int IntKind.i64 g.n, Value.slice ai g.init.length ci, Value.slice ae g.edges.length ce] 34)).alloc (Obj.cells #[Value.int IntKind.i64 x.first, Value.slice aw x.steps.length cs, Value.bool x.stuck] 39)) = w0 at *
    refine (checkGraph_any g _ _ hC.graph).mono ?_
    rw [HE.out]
    rintro e w1 ⟨rfl, hb1⟩
    have hC1 := hC.later hb1
    clear hC hb1
    go_wp2
    go_ret2
    exact ⟨HX.out, hC1.gi.bw⟩
  · have HX : Hid (Ending.returned (.tuple #[.int .i64 (ckW g x.first x.steps).1, .int .i64 (ckW g x.first x.steps).2]) = .returned (.tuple #[.int .i64 (ckA g x).1, .int .i64 (ckA g x).2])) := by unfold Hid ckA; rw [if_pos hi]
    have HE : Hid (gErr g = 0) := by unfold Hid; rw [gErr_isG, if_pos hi]
    clear hi
    go_enter Try.func24, Try.ntmps24
    go_wp2_with fail
    generalize ((w.alloc (Obj.cells #[Value.int IntKind.i64 g.n, Value.slice ai g.init.length ci, Value.slice ae g.edges.length ce] 34)).alloc (Obj.cells #[Value.int IntKind.i64 x.first, Value.slice aw x.steps.length cs, Value.bool x.stuck] 39)) = w0 at *
    refine (checkGraph_any g _ _ hC.graph).mono ?_
    rw [HE.out]
    rintro e w1 ⟨rfl, hb1⟩
    have hC1 := hC.later hb1
    clear hC hb1
    have g0 := hC1.gi.g0
    have g1 := hC1.gi.g1
    have g2 := hC1.gi.g2
    have x0 := hC1.x0
    have x1 := hC1.x1
    have x2 := hC1.x2
    go_wp2_with fail
    refine (checkSteps_any g x _ _ _ hC1.graph hC1.walk).mono ?_
    rintro e w2 ⟨rfl, hb2⟩
    have hC2 := hC1.later hb2
    clear hC1 hb2 g0 g1 g2 x0 x1 x2
    go_wp2
    go_ret2
    exact ⟨HX.out, hC2.gi.bw⟩

set_option maxHeartbeats 3000000 in
set_option maxRecDepth 100000 in
theorem refCheck_any (g : G) (x : W3) (vg vx : Value) (w : World) (hg : GraphAt w vg g) (hx : WalkAt w vx x) :
    Calls Try.prog 27 #[vg, vx] w fun e w' => e = .returned (.tuple #[.int .i64 (ckA g x).1, .int .i64 (ckA g x).2]) ∧ Below w.heap.size w w' := by
  obtain ⟨vi, ve, rfl, ⟨ai, ci, rfl, hmi, hci⟩, ⟨ae, ce, rfl, hme, hce⟩⟩ := hg
  obtain ⟨vs, rfl, ⟨aw, cs, rfl, hms, hcs⟩⟩ := hx
  have hC := CI.made w g x ai ci ae ce aw cs 34 39 hci hce hcs hmi hme hms
  clear hci hce hcs
  unfold maxLen at hmi hme hms
  have hfin : ∀ p : Int × Int, ckA g x = p → Hid (Ending.returned (.tuple #[.int .i64 p.1, .int .i64 p.2]) = .returned (.tuple #[.int .i64 (ckA g x).1, .int .i64 (ckA g x).2])) := fun p h => by unfold Hid; rw [h]
  go_enter Try.func27, Try.ntmps27
  go_wp2_with fail
  generalize ((w.alloc (Obj.cells #[Value.int IntKind.i64 g.n, Value.slice ai g.init.length ci, Value.slice ae g.edges.length ce] 34)).alloc (Obj.cells #[Value.int IntKind.i64 x.first, Value.slice aw x.steps.length cs, Value.bool x.stuck] 39)) = w0 at *
  refine (isGraph_any g _ _ hC.graph).mono ?_
  rintro e w1 ⟨rfl, hb1⟩
  have hC1 := hC.later hb1
  clear hC hb1
  cases hi : isG g
  · have HX := hfin (0, 5) (by unfold ckA; rw [if_neg (by simp [hi])])
    clear hi hfin
    go_wp2
    go_ret2
    exact ⟨HX.out, hC1.gi.bw⟩
  have hA : ckA g x = ckW g x.first x.steps := by unfold ckA; rw [if_pos hi]
  clear hi
  have g1 := hC1.gi.g1
  have x0 := hC1.x0
  have x1 := hC1.x1
  by_cases h3 : 300 < x.steps.length
  · have HX := hfin (0, 2) (by rw [hA]; unfold ckW; rw [if_pos h3])
    have hd : decide ((300 : Int) < (x.steps.length : Int)) = true := decide_eq_true (by omega)
    clear hfin h3 hA
    go_wp2
    go_ret2
    exact ⟨HX.out, hC1.gi.bw⟩
  have hd : decide ((300 : Int) < (x.steps.length : Int)) = false := decide_eq_false (by omega)
  by_cases hin : x.first ∈ g.init
  · have hck : ckA g x = stepsErr g x.first x.steps := by rw [hA]; unfold ckW; rw [if_neg h3, if_pos hin]
    have HCK := Lib.hid hck; clear hck
    have HIN := Lib.hid hin; clear hin hA
    go_wp2_with fail
    refine (holds_any g.init x.first _ _ ⟨_, _, rfl, hC1.mi, hC1.gi.hi⟩).mono ?_
    rw [decide_eq_true HIN.out]
    rintro e w2 ⟨rfl, rfl⟩
    go_wp2
    have HC := Lib.hid hC1
    clear hC1 g1 x0 x1
    go_loopw [6, 7] (fun s i wr => ∃ (k : Nat) (st : Int), k ≤ x.steps.length ∧ i = .int .i64 k ∧ s = .int .i64 st ∧ Hid (stepsErr g x.first x.steps = stepsErr g st (x.steps.drop k)) ∧ CI w wr g x ai ci ae ce aw cs) (fun _ i _ => x.steps.length - (intOf i).toNat)
    case atStart => exact ⟨0, _, Nat.zero_le _, rfl, rfl, by unfold Hid; rw [List.drop_zero], HC.out⟩
    case round =>
      clear HC
      obtain ⟨k, st, hk, rfl, rfl, hst, hC⟩ := hrel
      have x1 := hC.x1
      have g2 := hC.gi.g2
      by_cases hlt : k < x.steps.length
      · obtain ⟨b, o, e1, c1⟩ := hC.hs k hlt
        subst e1
        have hst2 : Hid (ckA g x = stepsErr g st (gi x.steps k :: x.steps.drop (k + 1))) := by unfold Hid; rw [HCK.out, hst.out, drop_at hlt]
        clear hst
        have hk0 : (0 : Int) ≤ (k : Int) := by omega
        have hk1 : (k : Int) < (x.steps.length : Int) := by omega
        have hwE : IntKind.i64.wrap ((g.edges.length : Int) - 1) = (g.edges.length : Int) - 1 := IntWalk.i64_in _ (by omega)
        have HF := Lib.hid hfin; clear hfin
        by_cases d1 : 0 ≤ gi x.steps k ∧ gi x.steps k ≤ (g.edges.length : Int) - 1
        · have hno : ¬ (gi x.steps k < 0 ∨ (g.edges.length : Int) ≤ gi x.steps k) := by omega
          obtain ⟨n, hn⟩ := Int.eq_ofNat_of_zero_le (show 0 ≤ gi x.steps k by omega)
          have hnl : n < g.edges.length := by omega
          have hn2 : (gi x.steps k).toNat = n := by omega
          obtain ⟨be, oe, ee, k0, k1, -⟩ := hC.gi.he n hnl
          subst ee
          have hn0 : (0 : Int) ≤ (n : Int) := by omega
          have hn1 : (n : Int) < (g.edges.length : Int) := by omega
          rw [hn] at c1 d1
          have D1 := Lib.hid d1
          by_cases d3 : (ge g.edges n).f = st
          · have HS : Hid (stepsErr g x.first x.steps = stepsErr g (ge g.edges n).t (x.steps.drop (k + 1))) := by
              unfold Hid; rw [← HCK.out, hst2.out, stepsErr_next hno (by rw [hn2]; exact d3), hn2]
            have hne : ((ge g.edges n).f != st) = false := by simp [d3]
            clear hn hn2 hno d1 d3 hst2
            go_wp2_with fail
            go_quiet ((go_at_call 13; exact Calls.quiet_of_same (between_yes _ D1.out)))
            go_wp2_with fail
            have hC2 := hC.later (below_drewN (Below.refl _ _) nq)
            have c1' : (wr.drewN nq).cell? ⟨b, o + k, none⟩ = some (.int .i64 (n : Int)) := by simpa using c1
            have k0' : (wr.drewN nq).cell? ⟨be, oe + n * 3, none⟩ = some (.int .i64 (ge g.edges n).f) := by simpa using k0
            have k1' : (wr.drewN nq).cell? ⟨be, oe + n * 3 + 1, none⟩ = some (.int .i64 (ge g.edges n).t) := by simpa using k1
            clear x1 g2 c1 k0 k1 hC
            generalize wr.drewN nq = w4 at *
            have x1 := hC2.x1
            have g2 := hC2.gi.g2
            go_quiet (fail)
            go_wp2_with fail
            go_quiet (fail)
            go_wp2_with fail
            exact ⟨⟨k + 1, _, by omega, by go_num, rfl, HS, hC2.later (by repeat (first | exact below_drewN (Below.refl _ _) _ | (refine below_drewN ?_ _)))⟩, by simp [intOf]; omega⟩
          · have HX := HF.out (0, 14) (hst2.out.trans (stepsErr_clash hno (by rw [hn2]; exact d3)))
            have hne : ((ge g.edges n).f != st) = true := by simpa using d3
            clear hn hn2 hno d1 d3 hst2
            go_wp2_with fail
            go_quiet ((go_at_call 13; exact Calls.quiet_of_same (between_yes _ D1.out)))
            go_wp2_with fail
            have hC2 := hC.later (below_drewN (Below.refl _ _) nq)
            have c1' : (wr.drewN nq).cell? ⟨b, o + k, none⟩ = some (.int .i64 (n : Int)) := by simpa using c1
            have k0' : (wr.drewN nq).cell? ⟨be, oe + n * 3, none⟩ = some (.int .i64 (ge g.edges n).f) := by simpa using k0
            clear x1 g2 c1 k0 k1 hC
            generalize wr.drewN nq = w4 at *
            have x1 := hC2.x1
            have g2 := hC2.gi.g2
            go_quiet (fail)
            go_wp2
            go_ret2
            exact ⟨HX.out, (hC2.later (below_drewN (Below.refl _ _) _)).gi.bw⟩
        · have HX := HF.out (0, 3) (hst2.out.trans (stepsErr_out (by omega)))
          have D1 := Lib.hid d1
          clear hst2 d1
          go_wp2_with fail
          go_quiet ((go_at_call 13; exact Calls.quiet_of_same (between_no _ D1.out)))
          go_wp2
          go_ret2
          exact ⟨HX.out, (hC.later (below_drewN (Below.refl _ _) _)).gi.bw⟩
      · have hkk : k = x.steps.length := by omega
        subst hkk
        have HX := hfin (st, 0) (by rw [HCK.out, hst.out, List.drop_length]; rfl)
        have HF := Lib.hid hfin; clear hfin
        clear hst
        go_wp2
        go_ret2
        exact ⟨HX.out, hC.gi.bw⟩
  · have HX := hfin (0, 10) (by rw [hA]; unfold ckW; rw [if_neg h3, if_neg hin])
    have HIN := Lib.hid hin; clear hin hfin hA
    go_wp2_with fail
    refine (holds_any g.init x.first _ _ ⟨_, _, rfl, hC1.mi, hC1.gi.hi⟩).mono ?_
    rw [decide_eq_false HIN.out]
    rintro e w2 ⟨rfl, rfl⟩
    go_wp2
    go_ret2
    exact ⟨HX.out, hC1.gi.bw⟩
end Go.Proofs.Ytnijajjmcdgonaa
