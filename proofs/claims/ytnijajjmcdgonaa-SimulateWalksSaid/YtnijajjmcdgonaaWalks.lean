import Derived.Test.YtnijajjmcdgonaaWalkAny
import Derived.Test.YtnijajjmcdgonaaRefWalk
import Derived.Test.YtnijajjmcdgonaaWalkY
import Derived.Test.YtnijajjmcdgonaaWalkZ
namespace Go.Proofs.Ytnijajjmcdgonaa
open Go.RowKit
set_option linter.unusedVariables false

theorem WC.walk {w : World} {B m : Nat} {R : W3} {a : Option Addr} {c : Nat} (h : WC w B m R.first R.steps R.stuck a c) (hm : R.steps.length ≤ maxLen) : WalkAt w (.agg #[.int .i64 R.first, .slice a R.steps.length c, .bool R.stuck]) R :=
  ⟨_, rfl, _, _, rfl, hm, h.hl⟩
theorem zero_walk {w : World} {R : W3} (h : R = ⟨0, [], false⟩) : WalkAt w (.agg #[.int .i64 0, .slice none 0 0, .bool false]) R := by
  rw [h]
  exact ⟨_, rfl, none, 0, rfl, Nat.zero_le _, fun j hj => by simp at hj⟩
theorem wk_zero {g : G} {l : List Int} {seed X : Int} {R : W3} (hR : R = wkRes g l seed X) (h : wkErr g l seed X ≠ 0) : R = ⟨0, [], false⟩ := by
  rw [hR]; unfold wkRes; rw [if_neg h]
theorem wk_len {g : G} {l : List Int} {seed X : Int} {R : W3} (hR : R = wkRes g l seed X) : R.steps.length ≤ 300 := by
  rw [hR]; unfold wkRes
  by_cases h : wkErr g l seed X = 0
  · obtain ⟨-, -, hX, -⟩ := wk_parts h
    rw [if_pos h]
    have := walkK_len g l seed (walkFirst g seed) X.toNat
    show (walkK g l seed (walkFirst g seed) X.toNat).2.length ≤ 300
    omega
  · rw [if_neg h]; exact Nat.zero_le _
theorem wk_ok {g : G} {l : List Int} {seed X : Int} {R : W3} (hR : R = wkRes g l seed X) (h : wkErr g l seed X = 0) : (ckA g R).2 = 0 := by
  obtain ⟨hF, hs, hX, hI⟩ := wk_parts h
  obtain ⟨hi, -⟩ := wk_fine h
  rw [hR]
  unfold wkRes ckA
  rw [if_pos hi, if_pos h]
  exact accepted hF hs hX hI

set_option maxHeartbeats 8000000 in
set_option maxRecDepth 100000 in
theorem simWalks_walk (hAw : AwakeSaid) (g : G) (l : List Int) (seed X : Int) (vg vl : Value) (w : World) (hg : GraphAt w vg g) (hl : IntsAt w vl l) :
    Calls Try.prog 4 #[vg, vl, .agg #[.int .i64 seed, .int .i64 X]] w fun e w' => e = .returned (.bool true) ∧ Below w.heap.size w w' := by
  obtain ⟨vi, ve, rfl, ⟨ai, ci, rfl, hmi, hci⟩, ⟨ae, ce, rfl, hme, hce⟩⟩ := hg
  obtain ⟨al, cl, rfl⟩ := ints_form2 hl
  have hB := BI.made w g l seed X ai ci ae ce al cl 34 36 hci hce hl hmi hme
  have hml := ints_max hl
  clear hci hce hl
  obtain ⟨R, hR⟩ : ∃ R, R = wkRes g l seed X := ⟨_, rfl⟩
  obtain ⟨E, hE⟩ : ∃ E, E = wkErr g l seed X := ⟨_, rfl⟩
  have HRE := Lib.hid (And.intro hR hE)
  have HML : Hid (R.steps.length ≤ 300) := wk_len hR
  clear hR hE
  unfold maxLen at hmi hme hml
  go_enter Try.func4, Try.ntmps4
  go_wp2_with fail
  generalize ((w.alloc (Obj.cells #[Value.int IntKind.i64 g.n, Value.slice ai g.init.length ci, Value.slice ae g.edges.length ce] 34)).alloc (Obj.cells #[Value.int IntKind.i64 seed, Value.int IntKind.i64 X] 36)) = w0 at *
  refine (hAw _).mono ?_
  rintro e w1 ⟨rfl, hb1⟩
  replace hB := hB.later hb1
  clear hb1 w0
  have g0 := hB.gi.g0
  have g1 := hB.gi.g1
  have g2 := hB.gi.g2
  go_wp2_with fail
  refine (few_any g _ _ hB.graph).mono ?_
  rintro e w2 ⟨rfl, hb2⟩
  replace hB := hB.later hb2
  clear hb2 g0 g1 g2
  cases hf : fewB g
  · clear hf
    go_wp2
    go_ret
    exact ⟨rfl, hB.gi.bw⟩
  have HF := Lib.hid hf
  clear hf
  by_cases h14 : 14 < l.length
  · have hd : decide ((14 : Int) < (l.length : Int)) = true := decide_eq_true (by omega)
    go_wp2
    go_ret
    exact ⟨rfl, hB.gi.bw⟩
  have hd : decide ((14 : Int) < (l.length : Int)) = false := decide_eq_false (by omega)
  have HQ3 : Hid (l.length ≤ 100000) := by unfold Hid; omega
  clear h14
  go_wp2_with fail
  clear hd
  have HQ1 : Hid (g.init.length ≤ 100000) := by have hfw := HF.out; unfold fewB at hfw; simp at hfw; unfold Hid; omega
  have HQ2 : Hid (g.edges.length ≤ 100000) := by have hfw := HF.out; unfold fewB at hfw; simp at hfw; unfold Hid; omega
  have g0 := hB.gi.g0
  have g1 := hB.gi.g1
  have g2 := hB.gi.g2
  have s0 := hB.s0
  have s1 := hB.s1
  have HB := Lib.hid hB
  clear hB
  go_cut [7, 8] (fun s7 s8 wx => ∃ (m : Nat) (a : Option Addr) (c : Nat), s7 = .pointer (some ⟨m, 0, none⟩) ∧ s8 = .int .i64 E ∧ WC wx w2.heap.size m R.first R.steps R.stuck a c ∧ Below w2.heap.size w2 wx)
  case first =>
    go_region_held3 (fun w' => w'.cell? ⟨w.heap.size, 0, none⟩ = some (.int .i64 g.n) ∧ w'.cell? ⟨w.heap.size, 1, none⟩ = some (.slice ai g.init.length ci) ∧ w'.cell? ⟨w.heap.size, 2, none⟩ = some (.slice ae g.edges.length ce) ∧ w'.cell? ⟨w.heap.size + 1, 0, none⟩ = some (.int .i64 seed) ∧ w'.cell? ⟨w.heap.size + 1, 1, none⟩ = some (.int .i64 X) ∧ Below w2.heap.size w2 w')
      ((refine (fun hB : Below w2.heap.size w2 _ => ⟨Below.keeps hB g0 (Nat.le_refl _), Below.keeps hB g1 (Nat.le_refl _), Below.keeps hB g2 (Nat.le_refl _), Below.keeps hB s0 (Nat.le_refl _), Below.keeps hB s1 (Nat.le_refl _), hB⟩) ?_; (repeat (first | with_reducible exact Below.refl _ _ | with_reducible assumption | with_reducible refine Below.drew ?_ | (with_reducible refine Below.alloc ?_ ?_ _) | (with_reducible refine Below.setCell ?_ ?_ _))); all_goals (first | exact Nat.le_refl _ | exact hbC.size | exact hbB.size | exact hbA.size | (simp; done))))
      (first
        | (go_at_call 18; refine (ownGraph_any g _ _ (HB.out.graph.later ?_) HQ1.out HQ2.out).mono ?_; (focus ((repeat (first | with_reducible exact Below.refl _ _ | with_reducible assumption | with_reducible refine Below.drew ?_ | (with_reducible refine Below.alloc ?_ ?_ _) | (with_reducible refine Below.setCell ?_ ?_ _))); all_goals (first | exact Nat.le_refl _ | (simp; done)))); rintro e wA ⟨vA, rfl, gA, hA⟩; have hbA : Below w2.heap.size w2 wA := Below.trans (b := _) (by (repeat (first | with_reducible exact Below.refl _ _ | with_reducible assumption | with_reducible refine Below.drew ?_ | (with_reducible refine Below.alloc ?_ ?_ _) | (with_reducible refine Below.setCell ?_ ?_ _))); all_goals (first | exact Nat.le_refl _ | (simp; done))) (hA.mono (by first | exact Nat.le_refl _ | (simp; done))); (first | (have m0 := (carryD hA).1 0 _ rfl; have m1 := (carryD hA).1 1 _ rfl; have m2 := (carryD hA).1 2 _ rfl; have mf0 := (carryD hA).2 0; have mf1 := (carryD hA).2 1; have mf2 := (carryD hA).2 2; have mlt : _ < wA.heap.size := cell_lt m0) | (replace m0 := Below.keeps hA m0 (Nat.le_refl _); replace m1 := Below.keeps hA m1 (Nat.le_refl _); replace m2 := Below.keeps hA m2 (Nat.le_refl _); replace mf0 := Below.keepsF hA mf0 mlt; replace mf1 := Below.keepsF hA mf1 mlt; replace mf2 := Below.keepsF hA mf2 mlt; replace mlt : _ < wA.heap.size := cell_lt m0) | skip))
        | (go_at_call 19; refine (ownInts_any l _ _ (HB.out.hl.later ?_) HQ3.out).mono ?_; (focus ((repeat (first | with_reducible exact Below.refl _ _ | with_reducible assumption | with_reducible refine Below.drew ?_ | (with_reducible refine Below.alloc ?_ ?_ _) | (with_reducible refine Below.setCell ?_ ?_ _))); all_goals (first | exact Nat.le_refl _ | exact hbA.size | (simp; done)))); rintro e wB ⟨vB, rfl, oB, hB'⟩; have hbB : Below w2.heap.size w2 wB := Below.trans (b := _) (by (repeat (first | with_reducible exact Below.refl _ _ | with_reducible assumption | with_reducible refine Below.drew ?_ | (with_reducible refine Below.alloc ?_ ?_ _) | (with_reducible refine Below.setCell ?_ ?_ _))); all_goals (first | exact Nat.le_refl _ | exact hbA.size | (simp; done))) (hB'.mono (by first | exact hbA.size | (simp; exact Nat.le_succ_of_le hbA.size))); have gB : GraphAt wB vA g := gA.later (Below.trans (b := _) (by (repeat (first | with_reducible exact Below.refl _ _ | with_reducible assumption | with_reducible refine Below.drew ?_ | (with_reducible refine Below.alloc ?_ ?_ _) | (with_reducible refine Below.setCell ?_ ?_ _))); all_goals (first | exact Nat.le_refl _ | (simp; done))) (hB'.mono (by first | exact Nat.le_refl _ | (simp; done)))); (first | (have m0 := (carry hB').1 0 _ rfl; have m1 := (carry hB').1 1 _ rfl; have m2 := (carry hB').1 2 _ rfl; have mf0 := (carry hB').2 0; have mf1 := (carry hB').2 1; have mf2 := (carry hB').2 2; have mlt : _ < wB.heap.size := cell_lt m0) | (replace m0 := Below.keeps hB' m0 (Nat.le_refl _); replace m1 := Below.keeps hB' m1 (Nat.le_refl _); replace m2 := Below.keeps hB' m2 (Nat.le_refl _); replace mf0 := Below.keepsF hB' mf0 mlt; replace mf1 := Below.keepsF hB' mf1 mlt; replace mf2 := Below.keepsF hB' mf2 mlt; replace mlt : _ < wB.heap.size := cell_lt m0) | skip))
        | (go_at_call 17; refine (walkOf_any g l seed X R E HRE _ _ _ (gB.later ?_) ((IntsAt.of_own oB).later ?_)).mono ?_; (focus ((repeat (first | with_reducible exact Below.refl _ _ | with_reducible assumption | with_reducible refine Below.drew ?_ | (with_reducible refine Below.alloc ?_ ?_ _) | (with_reducible refine Below.setCell ?_ ?_ _))); all_goals (first | exact Nat.le_refl _ | (simp; done)))); (focus ((repeat (first | with_reducible exact Below.refl _ _ | with_reducible assumption | with_reducible refine Below.drew ?_ | (with_reducible refine Below.alloc ?_ ?_ _) | (with_reducible refine Below.setCell ?_ ?_ _))); all_goals (first | exact Nat.le_refl _ | (simp; done)))); rintro e wC ⟨vC, rfl, oC, hC⟩; obtain ⟨aC, cC, rfl⟩ := own_form oC; have hbC : Below w2.heap.size w2 wC := Below.trans (b := _) (by (repeat (first | with_reducible exact Below.refl _ _ | with_reducible assumption | with_reducible refine Below.drew ?_ | (with_reducible refine Below.alloc ?_ ?_ _) | (with_reducible refine Below.setCell ?_ ?_ _))); all_goals (first | exact Nat.le_refl _ | exact hbB.size | (simp; done))) (hC.mono (by first | exact hbB.size | (simp; exact Nat.le_succ_of_le hbB.size))); (first | (have m0 := (carry hC).1 0 _ rfl; have m1 := (carry hC).1 1 _ rfl; have m2 := (carry hC).1 2 _ rfl; have mf0 := (carry hC).2 0; have mf1 := (carry hC).2 1; have mf2 := (carry hC).2 2; have mlt : _ < wC.heap.size := cell_lt m0) | (replace m0 := Below.keeps hC m0 (Nat.le_refl _); replace m1 := Below.keeps hC m1 (Nat.le_refl _); replace m2 := Below.keeps hC m2 (Nat.le_refl _); replace mf0 := Below.keepsF hC mf0 mlt; replace mf1 := Below.keepsF hC mf1 mlt; replace mf2 := Below.keepsF hC mf2 mlt; replace mlt : _ < wC.heap.size := cell_lt m0) | skip)))
    all_goals (go_wp2_with fail; go_meet)
    all_goals first
      | exact ⟨_, _, _, rfl, rfl, wc_late _ hbC.size oC, hbC.alloc hbC.size _⟩
      | (have hq1 := hB'.size; have hq2 := hA.size; (try simp at hq1); (try simp at hq2); refine ⟨_, _, _, rfl, rfl, wc_early (B' := _) ?_ ?_ oC m0 m1 m2, ?_⟩; (focus (first | exact Nat.le_refl _ | exact hbA.size | exact hbB.size)); (focus (first | (simp; done) | (simp; omega) | omega)); (focus ((repeat (first | with_reducible exact Below.refl _ _ | with_reducible assumption | with_reducible refine Below.drew ?_ | (with_reducible refine Below.alloc ?_ ?_ _) | (with_reducible refine Below.setCell ?_ ?_ _))); all_goals (first | exact Nat.le_refl _ | exact hbB.size | exact hbA.size))))
  case rest =>
    obtain ⟨w5, e5⟩ : ∃ x, x = wc := ⟨_, rfl⟩
    subst e5
    obtain ⟨m, a, c, rfl, rfl, hWA, hb5⟩ := hcut
    have hB := HB.out.later hb5
    clear HB g0 g1 g2 s0 s1 hb5
    have g0 := hB.gi.g0
    have g1 := hB.gi.g1
    have g2 := hB.gi.g2
    have HM : Hid (R.steps.length ≤ maxLen) := by have := HML.out; unfold Hid maxLen; omega
    go_wp2_with fail
    refine (isGraph_any g _ _ hB.graph).mono ?_
    rintro e w6 ⟨rfl, hb6⟩
    replace hB := hB.later hb6
    replace hWA := hWA.later hb6
    clear hb6 g0 g1 g2
    have a0 := hWA.c0
    have a1 := hWA.c1
    have a2 := hWA.c2
    cases hi : isG g
    · have hk : wkErr g l seed X = 5 := by unfold wkErr; rw [if_pos hi]
      have hz := wk_zero HRE.out.1 (by rw [hk]; decide)
      obtain rfl : E = 5 := HRE.out.2.trans hk
      have HZ := Lib.hid hz
      clear hi hk hz
      go_wp2_with fail
      refine (same_yes R _ _ _ (hWA.walk HM.out) (zero_walk HZ.out)).mono ?_
      rintro e w7 ⟨rfl, hb7⟩
      go_wp2
      go_ret
      exact ⟨rfl, (hB.later hb7).gi.bw⟩
    have HI := Lib.hid hi
    clear hi
    go_wp2_with fail
    refine (weightsErr_any l _ _ hB.hl).mono ?_
    rintro e w6' ⟨rfl, rfl⟩
    by_cases hw : wErr l = 0
    · rw [hw]
      have HW := Lib.hid hw
      clear hw
      have s0 := hB.s0
      go_wp2_with fail
      refine (seedErr_any seed _).mono ?_
      rintro e w6' ⟨rfl, rfl⟩
      cases hs : seedOk seed
      · have hk : wkErr g l seed X = 3 := by unfold wkErr; rw [if_neg (by simp [HI.out]), if_neg (by simp [HW.out]), if_pos hs]
        have hz := wk_zero HRE.out.1 (by rw [hk]; decide)
        obtain rfl : E = 3 := HRE.out.2.trans hk
        have HZ := Lib.hid hz
        clear hs hk hz
        rw [if_neg (by simp)]
        go_wp2_with fail
        refine (same_yes R _ _ _ (hWA.walk HM.out) (zero_walk HZ.out)).mono ?_
        rintro e w7 ⟨rfl, hb7⟩
        go_wp2
        go_ret
        exact ⟨rfl, (hB.later hb7).gi.bw⟩
      rw [if_pos rfl]
      have HS := Lib.hid hs
      clear hs
      have s1 := hB.s1
      go_wp2_with fail
      by_cases hX : 0 ≤ X ∧ X ≤ 300
      · have HX0 := Lib.hid hX
        refine (between_yes _ HX0.out).mono ?_
        rintro e w63 ⟨rfl, rfl⟩
        have hbt : between X 0 300 = true := by unfold between; exact decide_eq_true hX
        have HBT := Lib.hid hbt
        clear hbt hX
        have g1 := hB.gi.g1
        by_cases hn : g.init.length = 0
        · have hk : wkErr g l seed X = 1 := by unfold wkErr; rw [if_neg (by simp [HI.out]), if_neg (by simp [HW.out]), if_neg (by simp [HS.out]), if_neg (by simp [HBT.out]), if_pos hn]
          have hz := wk_zero HRE.out.1 (by rw [hk]; decide)
          obtain rfl : E = 1 := HRE.out.2.trans hk
          have HZ := Lib.hid hz
          have hne : ((g.init.length : Int) == 0) = true := by rw [hn]; rfl
          clear hn hk hz
          go_wp2_with fail
          refine (same_yes R _ _ _ (hWA.walk HM.out) (zero_walk HZ.out)).mono ?_
          rintro e w7 ⟨rfl, hb7⟩
          go_wp2
          go_ret
          exact ⟨rfl, (hB.later hb7).gi.bw⟩
        have hk : wkErr g l seed X = 0 := by unfold wkErr; rw [if_neg (by simp [HI.out]), if_neg (by simp [HW.out]), if_neg (by simp [HS.out]), if_neg (by simp [HBT.out]), if_neg hn]
        have HOK := Lib.hid (wk_ok HRE.out.1 hk)
        obtain ⟨hF, hsd, -, -⟩ := wk_parts hk
        have hRw : R = ⟨walkFirst g seed, (walkK g l seed (walkFirst g seed) X.toNat).2, decide (sumTo g l (walkK g l seed (walkFirst g seed) X.toNat).1 g.edges.length = 0)⟩ := by rw [HRE.out.1]; unfold wkRes; rw [if_pos hk]
        obtain rfl : E = 0 := HRE.out.2.trans hk
        have HFN := Lib.hid hF
        have HSD := Lib.hid hsd
        have HN := Lib.hid hn
        have HRW := Lib.hid hRw
        have hne : ((g.init.length : Int) == 0) = false := by simp; intro h; rw [h] at hn; simp at hn
        clear hF hsd hn hRw hk
        go_wp2_with fail
        clear hne
        have g0 := hB.gi.g0
        have g2 := hB.gi.g2
        have HB := Lib.hid hB
        have HWA := Lib.hid hWA
        clear hB hWA
        go_region_held3 (fun w' => w'.cell? ⟨w.heap.size, 0, none⟩ = some (.int .i64 g.n) ∧ w'.cell? ⟨w.heap.size, 1, none⟩ = some (.slice ai g.init.length ci) ∧ w'.cell? ⟨w.heap.size, 2, none⟩ = some (.slice ae g.edges.length ce) ∧ w'.cell? ⟨w.heap.size + 1, 0, none⟩ = some (.int .i64 seed) ∧ w'.cell? ⟨w.heap.size + 1, 1, none⟩ = some (.int .i64 X) ∧ w'.cell? ⟨m, 0, none⟩ = some (.int .i64 R.first) ∧ w'.cell? ⟨m, 1, none⟩ = some (.slice a R.steps.length c) ∧ w'.cell? ⟨m, 2, none⟩ = some (.bool R.stuck) ∧ Below w63.heap.size w63 w')
          ((refine (fun hB : Below w63.heap.size w63 _ => ⟨Below.keeps hB g0 (Nat.le_refl _), Below.keeps hB g1 (Nat.le_refl _), Below.keeps hB g2 (Nat.le_refl _), Below.keeps hB s0 (Nat.le_refl _), Below.keeps hB s1 (Nat.le_refl _), Below.keeps hB a0 (Nat.le_refl _), Below.keeps hB a1 (Nat.le_refl _), Below.keeps hB a2 (Nat.le_refl _), hB⟩) ?_; (repeat (first | with_reducible exact Below.refl _ _ | with_reducible assumption | with_reducible refine Below.drew ?_))))
          (first
            | (go_at_call 23; refine (refWalk_any g l seed X _ _ _ (HB.out.graph.later (Below.refl _ _).drew) (HB.out.hl.later (Below.refl _ _).drew) HFN.out HSD.out HX0.out HN.out).mono ?_; rintro e wA ⟨vA, rfl, gA, hA⟩; have hbA : Below w63.heap.size w63 wA := Below.trans (b := w63.drew) (Below.refl _ _).drew hA; rw [← HRW.out] at gA)
            | (go_at_call 22; refine (same_yes R _ _ _ ((HWA.out.walk HM.out).later hbA) gA).mono ?_; rintro e wB ⟨rfl, hB'⟩; have hbB : Below w63.heap.size w63 wB := hbA.trans (hB'.mono hbA.size)))
        have hB := HB.out.later hbB
        have hWA := HWA.out.later hbB
        clear HB HWA hbA hbB gA hA hB' g0 g1 g2 s0 s1 a0 a1 a2
        go_wp2_with fail
        have g0 := hB.gi.g0
        have g1 := hB.gi.g1
        have g2 := hB.gi.g2
        have a0 := hWA.c0
        have a1 := hWA.c1
        have a2 := hWA.c2
        have HB := Lib.hid hB
        have HWA := Lib.hid hWA
        have HR3 : Hid (R.steps.length ≤ 100000) := Nat.le_trans HML.out (by decide)
        clear hB hWA
        go_region_held3 (fun w' => w'.cell? ⟨w.heap.size, 0, none⟩ = some (.int .i64 g.n) ∧ w'.cell? ⟨w.heap.size, 1, none⟩ = some (.slice ai g.init.length ci) ∧ w'.cell? ⟨w.heap.size, 2, none⟩ = some (.slice ae g.edges.length ce) ∧ w'.cell? ⟨m, 0, none⟩ = some (.int .i64 R.first) ∧ w'.cell? ⟨m, 1, none⟩ = some (.slice a R.steps.length c) ∧ w'.cell? ⟨m, 2, none⟩ = some (.bool R.stuck) ∧ Below wB.heap.size wB w')
          ((refine (fun hB : Below wB.heap.size wB _ => ⟨Below.keeps hB g0 (Nat.le_refl _), Below.keeps hB g1 (Nat.le_refl _), Below.keeps hB g2 (Nat.le_refl _), Below.keeps hB a0 (Nat.le_refl _), Below.keeps hB a1 (Nat.le_refl _), Below.keeps hB a2 (Nat.le_refl _), hB⟩) ?_; (repeat (first | with_reducible exact Below.refl _ _ | with_reducible assumption | with_reducible refine Below.drew ?_))))
          (first
            | (go_at_call 18; refine (ownGraph_any g _ _ (HB.out.graph.later (Below.refl _ _).drew) HQ1.out HQ2.out).mono ?_; rintro e wD ⟨vD, rfl, gD, hD⟩; have hbD : Below wB.heap.size wB wD := Below.trans (b := wB.drew) (Below.refl _ _).drew hD)
            | (go_at_call 25; refine (ownWalk_any R _ _ ((HWA.out.walk HM.out).later hbD) HR3.out).mono ?_; rintro e wF ⟨vF, rfl, gF, hF'⟩; have hbF : Below wB.heap.size wB wF := hbD.trans (hF'.mono hbD.size))
            | (go_at_call 24; refine (checkWalk_any g R _ _ _ (gD.later hF') gF).mono ?_; rintro e wG ⟨rfl, hG'⟩; have hbG : Below wB.heap.size wB wG := hbF.trans (hG'.mono hbF.size)))
        have hB := HB.out.later hbG
        clear HB HWA hbD hbF hbG gD gF hD hF' hG' g0 g1 g2 a0 a1 a2
        rw [HOK.out]
        go_wp2
        go_ret
        exact ⟨rfl, hB.gi.bw⟩
      · refine (between_no _ hX).mono ?_
        rintro e w6' ⟨rfl, rfl⟩
        have hk : wkErr g l seed X = 2 := by unfold wkErr; rw [if_neg (by simp [HI.out]), if_neg (by simp [HW.out]), if_neg (by simp [HS.out]), if_pos (by unfold between; exact decide_eq_false hX)]
        have hz := wk_zero HRE.out.1 (by rw [hk]; decide)
        obtain rfl : E = 2 := HRE.out.2.trans hk
        have HZ := Lib.hid hz
        clear hX hk hz
        go_wp2_with fail
        refine (same_yes R _ _ _ (hWA.walk HM.out) (zero_walk HZ.out)).mono ?_
        rintro e w7 ⟨rfl, hb7⟩
        go_wp2
        go_ret
        exact ⟨rfl, (hB.later hb7).gi.bw⟩
    · have hk : wkErr g l seed X = wErr l := by unfold wkErr; rw [if_neg (by simp [HI.out]), if_pos hw]
      have hz := wk_zero HRE.out.1 (by rw [hk]; exact hw)
      obtain rfl : E = wErr l := HRE.out.2.trans hk
      have HZ := Lib.hid hz
      have hq1 : (wErr l == 0) = false := by simpa using hw
      have hq2 : (wErr l != 0) = true := by simpa using hw
      have hq3 : (wErr l == wErr l) = true := by simp
      clear hw hk hz
      go_wp2_with fail
      refine (same_yes R _ _ _ (hWA.walk HM.out) (zero_walk HZ.out)).mono ?_
      rintro e w7 ⟨rfl, hb7⟩
      go_wp2
      go_ret
      exact ⟨rfl, (hB.later hb7).gi.bw⟩
end Go.Proofs.Ytnijajjmcdgonaa
