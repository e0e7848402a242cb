/-
  PROVED HERE: 'Rows.SimulateDistancesSaid': called with any graph and number, in whatever memory, SimulateDistances returns true, and nothing that was there is changed.
  CONDITIONS: none beyond those that the row itself prints.
-/
import Derived.Test.YtnijajjmcdgonaaRows
import Derived.WalkKit
import Derived.ProofKit
import Derived.OpenShut
import Derived.Test.YtnijajjmcdgonaaWalkS
import Derived.Test.YtnijajjmcdgonaaOpenWs
import Derived.Test.YtnijajjmcdgonaaCovers
import Derived.Test.YtnijajjmcdgonaaLeastW
import Derived.Test.YtnijajjmcdgonaaRefLeast
import Derived.Test.YtnijajjmcdgonaaMathI
namespace Go.Proofs.Ytnijajjmcdgonaa
open Go.RowKit
set_option linter.unusedVariables false

set_option maxHeartbeats 8000000 in
set_option maxRecDepth 100000 in
theorem simDists_walk (hAw : AwakeSaid) (g : G) (t : Int) (vg : Value) (w : World) (hg : GraphAt w vg g) :
    Calls Try.prog 7 #[vg, .int .i64 t] w fun e w' => e = .returned (.bool true) ∧ Below w.heap.size w w' := by
  obtain ⟨vi, ve, rfl, ⟨ai, ci, rfl, hmi, hci⟩, ⟨ae, ce, rfl, hme, hce⟩⟩ := hg
  have hB := GI.made w g ai ci ae ce 34 hci hce
  have HMI := Lib.hid hmi
  have HME := Lib.hid hme
  clear hci hce
  unfold maxLen at hmi hme
  go_enter Try.func7, Try.ntmps7
  go_wp2_with fail
  generalize (w.alloc (Obj.cells #[Value.int IntKind.i64 g.n, Value.slice ai g.init.length ci, Value.slice ae g.edges.length ce] 34)) = w0 at *
  refine (hAw _).mono ?_
  rintro e w1 ⟨rfl, hb1⟩
  replace hB := hB.later hb1
  clear hb1 w0
  have g0 := hB.g0
  have g1 := hB.g1
  have g2 := hB.g2
  go_wp2_with fail
  refine (few_any g _ _ (hB.graph HMI.out HME.out)).mono ?_
  rintro e w2 ⟨rfl, hb2⟩
  replace hB := hB.later hb2
  clear hb2 g0 g1 g2
  cases hf : fewB g
  · clear hf
    go_wp2
    go_ret
    exact ⟨rfl, hB.bw⟩
  have hfw : g.n ≤ 20 ∧ g.init.length ≤ 22 ∧ g.edges.length ≤ 60 := by unfold fewB at hf; simpa using hf
  have HQ1 : Hid (g.init.length ≤ 100000) := Nat.le_trans hfw.2.1 (by decide)
  have HQ2 : Hid (g.edges.length ≤ 100000) := Nat.le_trans hfw.2.2 (by decide)
  clear hf hfw
  have g0 := hB.g0
  have g1 := hB.g1
  have g2 := hB.g2
  go_wp2_with fail
  refine (ownGraph_any g _ _ (hB.graph HMI.out HME.out) HQ1.out HQ2.out).mono ?_
  rintro e wA ⟨vA, rfl, gA, hA⟩
  replace hB := hB.later hA
  clear hA g0 g1 g2
  go_wp2_with fail
  refine (distIn_any g _ _ gA).mono ?_
  rintro e wB ⟨vD, rfl, oD, hDK, hB1⟩
  have HDK := Lib.hid hDK
  replace hB := hB.later hB1
  clear hB1 gA hDK
  have g0 := hB.g0
  have g1 := hB.g1
  have g2 := hB.g2
  obtain ⟨aD, cD, rfl⟩ := own_form oD
  go_wp2_with fail
  refine (ownGraph_any g _ _ (hB.graph HMI.out HME.out) HQ1.out HQ2.out).mono ?_
  rintro e wC ⟨vC, rfl, gC, hC⟩
  replace hB := hB.later hC
  have oD2 := ownsRow_later oD hC
  clear hC oD g0 g1 g2
  go_wp2_with fail
  refine (leastWalk_any g t _ _ gC).mono ?_
  rintro e wD ⟨f, L, r, a, c, rfl, oL, hLW, hD⟩
  replace hB := hB.later hD
  have HOD := Lib.hid (ownsRow_later oD2 hD)
  have HOL := Lib.hid oL
  have HLW := Lib.hid hLW
  clear hD oD2 oL hLW gC
  have g0 := hB.g0
  have g1 := hB.g1
  have g2 := hB.g2
  have hszD : w.heap.size < wD.heap.size := cell_lt g0
  go_wp2_with fail
  have hbX : Below wD.heap.size wD (wD.alloc (Obj.cells #[.int .i64 f, .slice a L.length c, .bool false] 39)) := (Below.refl _ _).alloc (Nat.le_refl _) _
  have x0 : (wD.alloc (Obj.cells #[.int .i64 f, .slice a L.length c, .bool false] 39)).cell? ⟨wD.heap.size, 0, none⟩ = some (.int .i64 f) := World.cell?_alloc_at _ _ _ _ rfl
  have x1 : (wD.alloc (Obj.cells #[.int .i64 f, .slice a L.length c, .bool false] 39)).cell? ⟨wD.heap.size, 1, none⟩ = some (.slice a L.length c) := World.cell?_alloc_at _ _ _ _ rfl
  have x2 : (wD.alloc (Obj.cells #[.int .i64 f, .slice a L.length c, .bool false] 39)).cell? ⟨wD.heap.size, 2, none⟩ = some (.bool false) := World.cell?_alloc_at _ _ _ _ rfl
  replace hB := hB.later hbX
  replace HOD := Lib.hid (ownsRow_later HOD.out hbX)
  replace HOL := Lib.hid (ownsRow_later HOL.out hbX)
  obtain ⟨px, hpx⟩ : ∃ px, px = wD.heap.size := ⟨_, rfl⟩
  rw [← hpx] at x0 x1 x2 ⊢
  clear hbX g0 g1 g2 hszD hpx
  generalize (wD.alloc (Obj.cells #[.int .i64 f, .slice a L.length c, .bool false] 39)) = w3 at *
  refine (isGraph_any g _ _ (hB.graph HMI.out HME.out)).mono ?_
  rintro e w4 ⟨rfl, hb4⟩
  replace hB := hB.later hb4
  replace HOD := Lib.hid (ownsRow_later HOD.out hb4)
  replace HOL := Lib.hid (ownsRow_later HOL.out hb4)
  replace x0 := Below.keeps hb4 x0 (Nat.le_refl _)
  replace x1 := Below.keeps hb4 x1 (Nat.le_refl _)
  replace x2 := Below.keeps hb4 x2 (Nat.le_refl _)
  clear hb4 w3
  cases hcg : isG g
  · have hE : gErr g = 5 := by rw [gErr_isG, hcg]; rfl
    have hd : dR g = [] := by unfold dR; rw [hcg]; rfl
    have h3 : r = 5 ∧ f = 0 ∧ L = [] := by
      rcases HLW.out with ⟨-, h1, h2⟩ | ⟨h, -⟩ | ⟨h, -⟩ | ⟨h, -⟩
      · injection h2 with e1 e2
        exact ⟨h1, e1, e2⟩
      all_goals (rw [hcg] at h; cases h)
    obtain ⟨rfl, rfl, rfl⟩ := h3
    rw [hE, hd]
    simp only [List.length_nil] at x1
    clear hE hd HLW HDK HOD HOL
    go_wp2_with fail
    refine (same_yes ⟨0, [], false⟩ _ _ _ ⟨_, rfl, ⟨_, _, rfl, by decide, fun j h => absurd h (Nat.not_lt_zero _)⟩⟩ ⟨_, rfl, ⟨_, _, rfl, by decide, fun j h => absurd h (Nat.not_lt_zero _)⟩⟩).mono ?_
    rintro e w5 ⟨rfl, hb5⟩
    have hbw := (hB.later hb5).bw
    go_wp2
    go_ret
    exact ⟨rfl, hbw⟩
  · have hE : gErr g = 0 := by rw [gErr_isG, hcg]; rfl
    have hd : dR g = dl g := by unfold dR; rw [hcg]; rfl
    have HOK := Lib.hid ((isG_iff g).1 hcg)
    have HDO := Lib.hid (HDK.out hcg)
    rw [hd] at HOD
    rw [hE, hd]
    have g0 := hB.g0
    have g1 := hB.g1
    have g2 := hB.g2
    clear hE hd HDK
    go_wp2_with fail
    refine (refDistances_any g _ _ (hB.graph HMI.out HME.out) HOK.out).mono ?_
    rintro e w5 ⟨vW, rfl, oW, -, hb5⟩
    obtain ⟨aW, cW, rfl⟩ := own_form oW
    replace hB := hB.later hb5
    replace HOD := Lib.hid (ownsRow_later HOD.out hb5)
    replace HOL := Lib.hid (ownsRow_later HOL.out hb5)
    have HOW := Lib.hid oW
    replace x0 := Below.keeps hb5 x0 (Nat.le_refl _)
    replace x1 := Below.keeps hb5 x1 (Nat.le_refl _)
    replace x2 := Below.keeps hb5 x2 (Nat.le_refl _)
    clear hb5 oW g0 g1 g2
    go_wp2_with fail
    refine (equalInts_any _ _ (dl g) (dl g) _ (IntsAt.of_own HOD.out) (IntsAt.of_own HOW.out)).mono ?_
    rintro e w6 ⟨rfl, nq, rfl⟩
    rw [decide_eq_true (rfl : dl g = dl g)]
    have hb6 := below_drewN (Below.refl w5.heap.size w5) nq
    replace hB := hB.later hb6
    replace HOL := Lib.hid (ownsRow_later HOL.out hb6)
    replace HOW := Lib.hid (ownsRow_later HOW.out hb6)
    replace x0 := Below.keeps hb6 x0 (Nat.le_refl _)
    replace x1 := Below.keeps hb6 x1 (Nat.le_refl _)
    replace x2 := Below.keeps hb6 x2 (Nat.le_refl _)
    clear hb6 HOD
    generalize w5.drewN nq = w6 at *
    have g0 := hB.g0
    have hn1 := HOK.out.1
    have hn2 := HOK.out.2.1
    have hwr : IntKind.i64.wrap (g.n - 1) = g.n - 1 := IntWalk.i64_in _ (by omega)
    go_wp2_with fail
    by_cases hr : 0 ≤ t ∧ t ≤ g.n - 1
    · refine (between_yes _ hr).mono ?_
      rintro e w7 ⟨rfl, rfl⟩
      have hr2 : t < g.n := by omega
      have hl : (dl g).length = g.n.toNat := HDO.out.len
      have hOW := HOW.out
      obtain ⟨aW', cW', eW, icW, hmW⟩ := ints_cell (IntsAt.of_own hOW)
      injection eW with eW1 eW2 eW3
      subst eW1 eW3
      obtain ⟨bW, oW, eW4, cW4⟩ := icW t.toNat (by omega)
      subst eW4
      have htl : t < ((dl g).length : Int) := by omega
      have HRG : Hid (0 ≤ t ∧ t < g.n) := ⟨hr.1, hr2⟩
      have ht0 := hr.1
      clear icW hmW hOW hl hr hr2 HOW eW2
      rcases HLW.out with ⟨h, -⟩ | ⟨-, h1, -⟩ | ⟨-, -, -, h1, h2, h3⟩ | ⟨-, -, -, ⟨d, h1, h2⟩, h3, -⟩
      · rw [hcg] at h; cases h
      · have := HRG.out; omega
      · injection h3 with e1 e2
        subst h2 e1 e2
        rw [lw_at HDO.out HRG.out.1 HRG.out.2 (lw_none h1)] at cW4
        simp only [List.length_nil] at x1
        clear HLW HOL h1
        go_wp2_with fail
        refine (same_yes ⟨0, [], false⟩ _ _ _ ⟨_, rfl, ⟨_, _, rfl, by decide, fun j h => absurd h (Nat.not_lt_zero _)⟩⟩ ⟨_, rfl, ⟨_, _, rfl, by decide, fun j h => absurd h (Nat.not_lt_zero _)⟩⟩).mono ?_
        rintro e w8 ⟨rfl, hb8⟩
        have hbw := (hB.later hb8).bw
        go_wp2
        go_ret
        exact ⟨rfl, hbw⟩
      · subst h3
        have HDD : Hid (IsDist g t (d : Int)) := lw_dist h1 h2
        have HLI := Lib.hid h1
        have hgd := lw_at HDO.out HRG.out.1 HRG.out.2 HDD.out
        rw [hgd] at cW4
        have hnd : ((d : Int) == -1) = false := by simp
        have HLL : Hid (L.length = d) := lw_len h1
        have g1 := hB.g1
        have g2 := hB.g2
        clear HLW h1 h2 hgd
        go_wp2_with fail
        have HB7 := Lib.hid hB
        have hbw7 := hB.bw
        clear hB
        go_region_held3 (fun w' => w'.cell? ⟨w.heap.size, 0, none⟩ = some (.int .i64 g.n) ∧ w'.cell? ⟨w.heap.size, 1, none⟩ = some (.slice ai g.init.length ci) ∧ w'.cell? ⟨w.heap.size, 2, none⟩ = some (.slice ae g.edges.length ce) ∧ w'.cell? ⟨px, 0, none⟩ = some (.int .i64 f) ∧ w'.cell? ⟨px, 1, none⟩ = some (.slice a L.length c) ∧ w'.cell? ⟨px, 2, none⟩ = some (.bool false) ∧ w'.cell? ⟨bW, oW + t.toNat, none⟩ = some (.int .i64 (d : Int)) ∧ Below w7.heap.size w7 w')
          ((refine (fun hB : Below w7.heap.size w7 _ => ⟨Below.keeps hB g0 (Nat.le_refl _), Below.keeps hB g1 (Nat.le_refl _), Below.keeps hB g2 (Nat.le_refl _), Below.keeps hB x0 (Nat.le_refl _), Below.keeps hB x1 (Nat.le_refl _), Below.keeps hB x2 (Nat.le_refl _), Below.keeps hB cW4 (Nat.le_refl _), hB⟩) ?_; (repeat (first | with_reducible exact Below.refl _ _ | with_reducible assumption | with_reducible refine Below.drew ?_ | (with_reducible refine Below.alloc ?_ ?_ _))); all_goals (first | exact Nat.le_refl _ | exact hbE.size | (simp; done))))
          (first
            | (go_at_call 37; refine (refLeast_any g t _ _ ((HB7.out.graph HMI.out HME.out).later ?_) HOK.out HRG.out.1 HRG.out.2 d HDD.out).mono ?_; (focus ((repeat (first | with_reducible exact Below.refl _ _ | with_reducible assumption | with_reducible refine Below.drew ?_ | (with_reducible refine Below.alloc ?_ ?_ _))); all_goals (first | exact Nat.le_refl _ | exact hbE.size | (simp; done)))); rintro e wE ⟨f2, S2, a2, c2, rfl, oS2, hLI2, hbE0⟩; have hbE : Below w7.heap.size w7 wE := Below.trans (b := _) (by (repeat (first | with_reducible exact Below.refl _ _ | with_reducible assumption | with_reducible refine Below.drew ?_ | (with_reducible refine Below.alloc ?_ ?_ _))); all_goals (first | exact Nat.le_refl _ | (simp; done))) (hbE0.mono (by first | exact Nat.le_refl _ | (simp; done))); have hq := leastIn_one HLI.out hLI2; injection hq with q1 q2; subst q1; subst q2; have wa2 : IntsAt wE (.slice a2 L.length c2) L := IntsAt.of_own oS2; have wa1 : IntsAt wE (.slice a L.length c) L := IntsAt.of_own (ownsRow_later HOL.out hbE))
            | (go_at_call 22; refine (same_yes ⟨f, L, false⟩ _ _ _ ⟨_, rfl, wa1.later ?_⟩ ⟨_, rfl, wa2.later ?_⟩).mono ?_; (focus ((repeat (first | with_reducible exact Below.refl _ _ | with_reducible refine Below.drew ?_ | (with_reducible refine Below.alloc ?_ ?_ _))); all_goals (first | exact Nat.le_refl _ | exact hbE.size | (simp; done)))); (focus ((repeat (first | with_reducible exact Below.refl _ _ | with_reducible refine Below.drew ?_ | (with_reducible refine Below.alloc ?_ ?_ _))); all_goals (first | exact Nat.le_refl _ | exact hbE.size | (simp; done)))); rintro e wS ⟨rfl, hbS0⟩; have hbS : Below w7.heap.size w7 wS := Below.trans (b := _) (by (repeat (first | with_reducible exact Below.refl _ _ | with_reducible assumption | with_reducible refine Below.drew ?_ | (with_reducible refine Below.alloc ?_ ?_ _))); all_goals (first | exact Nat.le_refl _ | (simp; done))) (hbS0.mono (by first | exact hbE.size | (simp; exact hbE.size)))))
        all_goals
          have hld : ((L.length : Int) == (d : Int)) = true := by rw [HLL.out]; simp
          have hbw := hbw7.trans (hbS.mono hbw7.size)
          rw [hld]
          go_wp2
          go_ret
          first | exact ⟨rfl, hbw⟩ | exact ⟨rfl, hbw.drew⟩
    · refine (between_no _ hr).mono ?_
      rintro e w7 ⟨rfl, rfl⟩
      have h3 : r = 3 ∧ f = 0 ∧ L = [] := by
        rcases HLW.out with ⟨h, -⟩ | ⟨-, -, h1, h2⟩ | ⟨-, h1, h2, -⟩ | ⟨-, h1, h2, -⟩
        · rw [hcg] at h; cases h
        · injection h2 with e1 e2
          exact ⟨h1, e1, e2⟩
        all_goals (exact absurd ⟨h1, by omega⟩ hr)
      obtain ⟨rfl, rfl, rfl⟩ := h3
      simp only [List.length_nil] at x1
      clear HLW HOL hr
      go_wp2_with fail
      refine (same_yes ⟨0, [], false⟩ _ _ _ ⟨_, rfl, ⟨_, _, rfl, by decide, fun j h => absurd h (Nat.not_lt_zero _)⟩⟩ ⟨_, rfl, ⟨_, _, rfl, by decide, fun j h => absurd h (Nat.not_lt_zero _)⟩⟩).mono ?_
      rintro e w8 ⟨rfl, hb8⟩
      have hbw := (hB.later hb8).bw
      go_wp2
      go_ret
      exact ⟨rfl, hbw⟩
end Go.Proofs.Ytnijajjmcdgonaa
namespace Go.Proofs.Ytnijajjmcdgonaa.simulateDistances
open Go.ChangeShapes Go.WideShapes Go.ChangeAt Go.RowKit
set_option linter.unusedVariables false

theorem own : ownKnob Try.prog.godebug = none := by kernel_rfl

set_option maxRecDepth 100000 in
theorem lifted (os : Os) (started : os.Started) (H : Type) (enc : TypeId × Value → H) :
    ReturnsInHanded {} Try.checked os 7 .any (Rows.simulateDistancesSpec.pre6 enc Try.prog Try.f7 Rows.simulateDistancesRow.domain false) (Rows.simulateDistancesSpec.post enc Try.prog Try.f7 false true false false) := by
  refine returnsInHanded_of_change (C := Try.checked) own started (by kernel_rfl) Try.func7
    (ChangeSpec.witness6 (enc := enc) (C := Try.checked) false ⟨#[], #[.agg #[.int .i64 0, .slice none 0 0, .slice none 0 0], .int .i64 0], []⟩ 8 (by kernel_rfl) (by kernel_rfl) (by kernel_rfl) (by kernel_rfl)) ?_
  intro W base args ds gs before hval0 hW hcnd _
  have hval : ∀ (j : Nat) t v, Try.f7.params[j]? = some t → args[j]? = some v → Value.okWide Try.prog W .any base t v := hval0
  have hW' := hW
  obtain ⟨p, q, hA0, hV, rfl, hfz, hnd⟩ := hW
  have hA : DataW.TrodAll enc Try.prog W 0 (fun _ => true) true Try.f7.params.toList args.toList ds p := hA0
  rw [Try.params7] at hA hval
  obtain ⟨v0, vs0, d0, ds0, p0, q0, hargs, rfl, rfl, h0, r0⟩ := trodAll_cons hA
  obtain ⟨v1, vs1, d1, ds1, p1, q1, rfl, rfl, rfl, h1, r1⟩ := trodAll_cons r0
  obtain ⟨rfl, rfl, rfl⟩ := trodAll_nil r1
  obtain rfl : args = #[v0, v1] := by cases args; simp_all
  obtain ⟨rfl, rfl⟩ := trodVars_none hV
  obtain ⟨g, hg⟩ := graph_open (hval 0 34 v0 rfl rfl) h0
  obtain ⟨a1, rfl, rfl, rfl, w1⟩ := open_int Try.underlying3 (hval 1 3 v1 rfl rfl) h1
  clear hA0 hval0
  simp only [List.append_nil] at hW'
  have hlt : ∀ y ∈ p0, y.block < W.heap.size := fun y hy => by simpa using hW'.lt y (by simpa using hy)
  refine (simDists_walk awake_true g a1 _ W hg).mono fun e W' ⟨he, hb⟩ => ?_
  subst he
  exact ⟨_, rfl, _, _, _, [], _, [], hW', trodAll_cons_mk (shut_bool Try.underlying4 _) trodAll_mk0,
    trodAll_cons_mk (Below.trod laidOut (by kernel_rfl) (of_decide_eq_true (by kernel_rfl)) h0 hb fun y hy => hlt y hy)
      (trodAll_cons_mk (shut_int Try.underlying3 w1) trodAll_mk0),
    rfl, hb.frame _, fun h => by cases h⟩

theorem over : Rows.simulateDistancesRow.holds Try.pinned (OpenSpec.ofChange Rows.simulateDistancesSpec) :=
  OpenClaim.holds_of_wide 7 Try.f7 rfl rfl rfl rfl rfl rfl rfl ⟨rfl, rfl, rfl, rfl, rfl⟩ rfl rfl rfl rfl rfl (by kernel_rfl) Try.func7 (by kernel_rfl)
    (of_decide_eq_true (by kernel_rfl)) (by unfold Func.isWrapper; first | (rw [if_pos (by decide +kernel)]; kernel_rfl) | (rw [if_neg (by decide +kernel)]; exact ⟨rfl, rfl⟩))
    (fun os started H enc _ => lifted os started H enc)

theorem proved : Rows.SimulateDistancesSaid :=
  over
#print axioms proved
end Go.Proofs.Ytnijajjmcdgonaa.simulateDistances
