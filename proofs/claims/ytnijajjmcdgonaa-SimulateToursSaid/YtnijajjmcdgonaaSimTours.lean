/-
  PROVED HERE: 'Rows.SimulateToursSaid': called with any graph and number, in whatever memory, SimulateTours returns true, and nothing that was there is changed.
  CONDITIONS: none beyond those that the row itself prints.
-/
import Derived.Test.YtnijajjmcdgonaaRows
import Derived.WalkKit
import Derived.ProofKit
import Derived.OpenShut
import Derived.Test.YtnijajjmcdgonaaWalkS
import Derived.Test.YtnijajjmcdgonaaOpenWs
import Derived.Test.YtnijajjmcdgonaaCovers
import Derived.Test.YtnijajjmcdgonaaTourD
namespace Go.Proofs.Ytnijajjmcdgonaa
open Go.RowKit
set_option linter.unusedVariables false
set_option linter.unusedSimpArgs false

/-- The first walks of a list. -/
theorem WalksAt.take {w : World} {a : Option Addr} {n c k c' : Nat} {l : List W3} (h : WalksAt w (.slice a n c) l) (hk : k ≤ l.length) : WalksAt w (.slice a k c') (l.take k) := by
  obtain ⟨a', c2, e, hm, hc⟩ := h
  injection e with e1 e2 e3
  subst e1
  have hl : (l.take k).length = k := by simp; omega
  refine ⟨_, _, by rw [hl], by rw [hl]; omega, fun j hj => ?_⟩
  rw [hl] at hj
  have hg : gw (l.take k) j = gw l j := by unfold gw; rw [List.getElem?_take_of_lt hj]
  rw [hg]
  exact hc j (by omega)
theorem gw_take {l : List W3} {k j : Nat} (hj : j < k) : gw (l.take k) j = gw l j := by unfold gw; rw [List.getElem?_take_of_lt hj]

set_option maxHeartbeats 12000000 in
set_option maxRecDepth 100000 in
theorem simTours_walk (hAw : AwakeSaid) (g : G) (t : Int) (vg : Value) (w : World) (hg : GraphAt w vg g) :
    Calls Try.prog 8 #[vg, .int .i64 t] w fun e w' => e = .returned (.bool true) ∧ Below w.heap.size w w' := by
  obtain ⟨vi, ve, rfl, ⟨ai, ci, rfl, hmi, hci⟩, ⟨ae, ce, rfl, hme, hce⟩⟩ := hg
  have hB := GI.made w g ai ci ae ce 34 hci hce
  have HMI := Lib.hid hmi
  have HME := Lib.hid hme
  clear hci hce
  unfold maxLen at hmi hme
  go_enter Try.func8, Try.ntmps8
  go_wp2_with fail
  generalize (w.alloc (Obj.cells #[Value.int IntKind.i64 g.n, Value.slice ai g.init.length ci, Value.slice ae g.edges.length ce] 34)) = w0 at *
  refine (hAw _).mono ?_
  rintro e w1 ⟨rfl, hb1⟩
  replace hB := hB.later hb1
  clear hb1 w0
  have g0 := hB.g0
  have g1 := hB.g1
  have g2 := hB.g2
  go_wp2_with fail
  refine (few_any g _ _ (hB.graph HMI.out HME.out)).mono ?_
  rintro e w2 ⟨rfl, hb2⟩
  replace hB := hB.later hb2
  clear hb2 g0 g1 g2
  cases hf : fewB g
  · clear hf
    go_wp2
    go_ret
    exact ⟨rfl, hB.bw⟩
  have hfw : g.n ≤ 20 ∧ g.init.length ≤ 22 ∧ g.edges.length ≤ 60 := by unfold fewB at hf; simpa using hf
  have HQ1 : Hid (g.init.length ≤ 100000) := Nat.le_trans hfw.2.1 (by decide)
  have HQ2 : Hid (g.edges.length ≤ 100000) := Nat.le_trans hfw.2.2 (by decide)
  have H60 : Hid (g.edges.length ≤ 60) := hfw.2.2
  clear hf hfw
  have g0 := hB.g0
  have g1 := hB.g1
  have g2 := hB.g2
  go_wp2_with fail
  refine (ownGraph_any g _ _ (hB.graph HMI.out HME.out) HQ1.out HQ2.out).mono ?_
  rintro e wA ⟨vA, rfl, gA, hA⟩
  replace hB := hB.later hA
  clear hA g0 g1 g2
  go_wp2_with fail
  refine (tourOf_any g t _ _ gA H60.out).mono ?_
  rintro e wB ⟨vO, l, r, rfl, hO, hTS, hB1⟩
  replace hB := hB.later hB1
  clear hB1 gA
  obtain ⟨aO, cO, rfl⟩ := hO.form
  have g0 := hB.g0
  have g1 := hB.g1
  have g2 := hB.g2
  have HO := Lib.hid hO
  have HTS := Lib.hid hTS
  clear hO hTS
  go_wp2_with fail
  refine (isGraph_any g _ _ (hB.graph HMI.out HME.out)).mono ?_
  rintro e w4 ⟨rfl, hb4⟩
  replace hB := hB.later hb4
  replace HO := Lib.hid (HO.out.later hb4)
  clear hb4 g0 g1 g2
  cases hcg : isG g
  · have h3 : r = 5 ∧ l = [] := by
      rcases HTS.out with ⟨-, h1, h2⟩ | ⟨h, -⟩ | ⟨h, -⟩ | ⟨h, -⟩
      · exact ⟨h1, h2⟩
      all_goals (rw [hcg] at h; cases h)
    obtain ⟨rfl, rfl⟩ := h3
    have hbw := hB.bw
    simp only [List.length_nil]
    clear HTS HO
    go_wp2
    go_ret
    exact ⟨rfl, hbw⟩
  · have HOK := Lib.hid ((isG_iff g).1 hcg)
    have HCG := Lib.hid hcg
    go_wp2_with fail
    by_cases hr : 1 ≤ t ∧ t ≤ 300
    · refine (between_yes _ hr).mono ?_
      rintro e w5 ⟨rfl, rfl⟩
      obtain ⟨hr1, hr2⟩ := hr
      have g0 := hB.g0
      have g1 := hB.g1
      have g2 := hB.g2
      go_wp2_with fail
      refine (refDistances_any g _ _ (hB.graph HMI.out HME.out) HOK.out).mono ?_
      rintro e w6 ⟨vW, rfl, oW, HDO, hb6⟩
      obtain ⟨aW, cW, rfl⟩ := own_form oW
      replace hB := hB.later hb6
      replace HO := Lib.hid (HO.out.later hb6)
      have HIW : Hid (IntsCells w6 aW (dl g)) := by
        obtain ⟨a, c, e, h1, -⟩ := ints_cell (IntsAt.of_own oW)
        injection e with e1 e2 e3
        subst e1
        exact h1
      clear hb6 oW g0 g1 g2
      have g0 := hB.g0
      have g1 := hB.g1
      have g2 := hB.g2
      go_wp2_with fail
      refine (refUnc_any g [] _ _ _ (hB.graph HMI.out HME.out) ⟨none, 0, rfl, Nat.zero_le _, fun j h => absurd h (Nat.not_lt_zero _)⟩ HOK.out (fun j h => absurd h (Nat.not_lt_zero _)) (by decide)).mono ?_
      rintro e w7 ⟨vU, rfl, iU, -, hb7⟩
      replace hB := hB.later hb7
      replace HO := Lib.hid (HO.out.later hb7)
      replace HIW := Lib.hid (HIW.out.later hb7)
      clear hb7 g0 g1 g2
      obtain ⟨aU, cU, rfl, icU, hmU⟩ := ints_cell iU
      obtain ⟨U, hU⟩ : ∃ U, U = uncK g (dl g) (covK g [] ([] : List W3).length).2 g.edges.length := ⟨_, rfl⟩
      rw [← hU] at icU hmU ⊢
      have HU := Lib.hid hU
      have HIU := Lib.hid icU
      clear hU iU icU hmU
      have HUL : Hid (U.length = cnt (Sof g []) g.edges.length) := by
        unfold Hid
        rw [HU.out]
        refine unc_cnt _ fun e he => ?_
        obtain ⟨-, h1⟩ := covK_count HOK.out (l := []) (fun k h => absurd h (Nat.not_lt_zero _)) (e := e) 0 (Nat.le_refl _)
        have h2 : gi (covK g [] ([] : List W3).length).2 e = 0 := by
          show gi (covK g [] 0).2 e = 0
          rw [h1]; simp [flat]
        rw [h2, Sof_iff]
        constructor
        · rintro ⟨e', -, a, b, -⟩
          have : e' = e := by omega
          subst this
          exact ⟨b, rfl⟩
        · rintro ⟨b, -⟩
          exact ⟨e, he, rfl, b, by simp⟩
      have HUM : Hid (∀ i, i ∈ U ↔ ∃ e : Nat, e < g.edges.length ∧ i = (e : Int) ∧ gi (dl g) (ge g.edges e).f.toNat ≠ -1) := fun i => by
        rw [HU.out, unc_mem]
        constructor
        · rintro ⟨e, a, b, c, -⟩; exact ⟨e, a, b, c⟩
        · rintro ⟨e, a, b, c⟩
          refine ⟨e, a, b, c, ?_⟩
          obtain ⟨-, h1⟩ := covK_count HOK.out (l := []) (fun k h => absurd h (Nat.not_lt_zero _)) (e := e) 0 (Nat.le_refl _)
          show gi (covK g [] 0).2 e = 0
          rw [h1]; simp [flat]
      have HB := Lib.hid hB
      have hUl : U.length ≤ 60 := by rw [HUL.out]; exact Nat.le_trans (cnt_le _ _) H60.out
      clear hB HU
      have HLD : Hid ((dl g).length = g.n.toNat) := HDO.out.len
      go_wp2_with fail
      go_loopw [9] (fun i wr => ∃ k : Nat, k ≤ U.length ∧ i = .int .i64 k ∧ Hid (∀ j, j < k → gi (dl g) (ge g.edges (gi U j).toNat).f.toNat + 1 ≤ t) ∧ GI w wr g ai ci ae ce ∧ OX wr wA.heap.size wA.heap.size (.slice aO l.length cO) l ∧ IntsCells wr aW (dl g) ∧ IntsCells wr aU U) (fun i _ => U.length - (intOf i).toNat)
      case atStart => exact ⟨0, Nat.zero_le _, rfl, fun j h => absurd h (Nat.not_lt_zero _), HB.out, HO.out, HIW.out, HIU.out⟩
      case round =>
        clear HB HO HIW HIU
        obtain ⟨k, hk, rfl, hlow, hB, hO, hIW, hIU⟩ := hrel
        by_cases hlt : k < U.length
        · have hlt' : (k : Int) < (U.length : Int) := by omega
          have hk0 : (0 : Int) ≤ (k : Int) := by omega
          obtain ⟨e, he, hue, hde⟩ := (HUM.out _).1 (gi_mem' hlt)
          obtain ⟨n0, hn0, hD0⟩ := dist_of HOK.out HDO.out he hde
          have hn60 : n0 ≤ 60 := Nat.le_trans (dist_le _ _ hD0) H60.out
          obtain ⟨q1, q2, q3, q4⟩ := edge_in' HOK.out he
          obtain ⟨bU, oU, eU, cU1⟩ := hIU k hlt
          obtain ⟨be, oe, ee, d0, d1, d2⟩ := hB.he e he
          obtain ⟨bW, oW, eW, cW1⟩ := hIW (ge g.edges e).f.toNat (by rw [HLD.out]; omega)
          have g2 := hB.g2
          subst eU ee eW
          rw [hue] at cU1
          rw [hn0] at cW1
          have he0 : (0 : Int) ≤ (e : Int) := by omega
          have he1 : (e : Int) < (g.edges.length : Int) := by omega
          have q2' : (ge g.edges e).f < ((dl g).length : Int) := by rw [HLD.out]; omega
          have hwr : IntKind.i64.wrap ((n0 : Int) + 1) = (n0 : Int) + 1 := IntWalk.i64_in _ (by omega)
          have hq0 : (0 : Int) ≤ (n0 : Int) := by omega
          have HUE := Lib.hid hue
          have HN0 := Lib.hid hn0
          have HB := Lib.hid hB
          have HO := Lib.hid hO
          have HIW := Lib.hid hIW
          have HIU := Lib.hid hIU
          clear hB hO hIW hIU hue hn0 hde hD0 d1 d2
          by_cases hgt : t < (n0 : Int) + 1
          · have hd : decide (t < (n0 : Int) + 1) = true := decide_eq_true hgt
            have h3 : r = 25 ∧ l = [] := by
              rcases HTS.out with ⟨h, -⟩ | ⟨-, h1, -⟩ | ⟨-, -, -, h1, h2⟩ | ⟨-, -, h1, -⟩
              · rw [HCG.out] at h; cases h
              · exact absurd ⟨hr1, hr2⟩ h1
              · exact ⟨h1, h2⟩
              · have := h1 e he
                rw [HN0.out] at this
                omega
            obtain ⟨rfl, rfl⟩ := h3
            simp only [List.length_nil] at HO ⊢
            clear hgt HTS hlow HIW HIU HO
            go_wp2_with fail
            go_quiet (fail)
            go_wp2_with fail
            go_ret
            exact ⟨rfl, below_drewN HB.out.bw _⟩
          · have hd : decide (t < (n0 : Int) + 1) = false := decide_eq_false hgt
            have hlow2 : Hid (∀ j, j < k + 1 → gi (dl g) (ge g.edges (gi U j).toNat).f.toNat + 1 ≤ t) := fun j hj => by
              by_cases hjk : j < k
              · exact hlow.out j hjk
              · obtain rfl : j = k := by omega
                rw [HUE.out]
                show gi (dl g) (ge g.edges e).f.toNat + 1 ≤ t
                rw [HN0.out]
                omega
            clear hgt hlow
            go_wp2_with fail
            go_quiet (fail)
            go_wp2_with fail
            go_roundw
            case rel => exact ⟨k + 1, by omega, by go_num, hlow2, HB.out.later (below_drewN (Below.refl _ _) _), HO.out.later (below_drewN (Below.refl _ _) _), HIW.out.later (below_drewN (Below.refl _ _) _), HIU.out.later (below_drewN (Below.refl _ _) _)⟩
            case measure => simp [intOf]; omega
        · have hkk : k = U.length := by omega
          subst hkk
          have h3 : r = 0 ∧ TourOk g t.toNat l := by
            rcases HTS.out with ⟨h, -⟩ | ⟨-, h1, -⟩ | ⟨-, -, ⟨e, he, h1⟩, -⟩ | ⟨-, -, -, h1, h2⟩
            · rw [HCG.out] at h; cases h
            · exact absurd ⟨hr1, hr2⟩ h1
            · exfalso
              obtain ⟨j, hj, hje⟩ := mem_gi.1 ((HUM.out (e : Int)).2 ⟨e, he, rfl, by omega⟩)
              have h2 := hlow.out j hj
              rw [hje] at h2
              have h4 : gi (dl g) (ge g.edges e).f.toNat + 1 ≤ t := h2
              omega
            · exact ⟨h1, h2⟩
          obtain ⟨rfl, hTOK⟩ := h3
          have HTOK := Lib.hid hTOK
          have hT300 : t.toNat ≤ 300 := by omega
          have HALL : Hid (∀ j, j < l.length → (ckW g (gw l j).first (gw l j).steps).2 = 0) := fun j hj => gw_ck hT300 (HTOK.out.ti.gw j hj)
          have hlU : l.length ≤ U.length := by rw [HUL.out]; exact HTOK.out.le
          have hl60 : l.length ≤ 60 := by omega
          have HSL : Hid (∀ j, j < l.length → (gw l j).steps.length ≤ 300) := fun j hj => Nat.le_trans (HTOK.out.ti.gw j hj).le hT300
          have HWS : Hid (wsErr g l = 0) := by
            unfold Hid wsErr
            rw [if_pos HCG.out, if_neg (by omega)]
            exact firstErr_none g l HALL.out
          have hWA : WalksAt wr (.slice aO l.length cO) l := OX.at hO fun j hj => by have := HSL.out j hj; unfold maxLen; omega
          have hcap := hO.cap
          have g0 := hB.g0
          have g1 := hB.g1
          have g2 := hB.g2
          have hd1 : decide ((U.length : Int) < (l.length : Int)) = false := decide_eq_false (by omega)
          have hd2 : ¬ U.length < l.length := by omega
          have HB := Lib.hid hB
          have HO := Lib.hid hO
          have HWA := Lib.hid hWA
          clear hlow hB hO hWA hTOK hlt hk hIW hIU HTS HUM HUL
          go_wp2_with fail
          refine (walksErr_any g l _ _ _ (HB.out.graph HMI.out HME.out) HWA.out).mono ?_
          rintro e w8 ⟨rfl, hb8⟩
          rw [HWS.out]
          have hB := HB.out.later hb8
          have hO := HO.out.later hb8
          have hWA := HWA.out.later hb8
          clear hb8 HB HO HWA g0 g1 g2 hd1 hd2 wr
          go_wp2_with fail
          go_loopw [10] (fun i wr => ∃ k : Nat, k ≤ l.length ∧ i = .int .i64 k ∧ GI w wr g ai ci ae ce ∧ OX wr wA.heap.size wA.heap.size (.slice aO l.length cO) l ∧ WalksAt wr (.slice aO l.length cO) l) (fun i _ => l.length - (intOf i).toNat)
          case atStart => exact ⟨0, Nat.zero_le _, rfl, hB, hO, hWA⟩
          case round =>
            clear hB hO hWA
            obtain ⟨k, hk, rfl, hB, hO, hWA⟩ := hrel
            by_cases hlt : k < l.length
            · have hlt' : (k : Int) < (l.length : Int) := by omega
              have hk0 : (0 : Int) ≤ (k : Int) := by omega
              have hgw := HTOK.out.ti.gw k hlt
              have hnew := HTOK.out.ti.new k hlt
              obtain ⟨b, off, aw, cs, ea, x0, x1, x2, ow⟩ := hO.get hlt
              subst ea
              obtain ⟨q, hq⟩ : ∃ q, (gw l k).steps.length = q + 1 := ⟨(gw l k).steps.length - 1, by have := hgw.ne; omega⟩
              obtain ⟨r0, r1⟩ := steps_in _ _ (by rw [hgw.ok] : (stepsErr g (gw l k).first (gw l k).steps).2 = 0) q (by omega)
              obtain ⟨e, he⟩ : ∃ e : Nat, gi (gw l k).steps q = (e : Int) := ⟨(gi (gw l k).steps q).toNat, by omega⟩
              have hqe : lastOf (gw l k) = (e : Int) := by unfold lastOf; rw [hq]; exact he
              rw [hqe] at hnew
              have hq300 : q + 1 ≤ 300 := by rw [← hq]; exact HSL.out k hlt
              have hqt : ¬ (t < ((q + 1 : Nat) : Int)) := by have := hgw.le; omega
              have hd3 : decide (t < (q : Int) + 1) = false := decide_eq_false (by omega)
              have hn0 : ((q : Int) + 1 == 0) = false := by simp; omega
              have hwr : IntKind.i64.wrap ((q : Int) + 1 - 1) = (q : Int) := by rw [IntWalk.i64_in _ (by omega)]; omega
              have HCNT : Hid ((covK g (l.take k) (l.take k).length).2.length = g.edges.length ∧ gi (covK g (l.take k) (l.take k).length).2 e = 0) := by
                obtain ⟨h1, h2⟩ := covK_count HOK.out (l := l.take k) (fun j hj => by rw [gw_take (by simp at hj; omega)]; exact HALL.out j (by simp at hj; omega)) (e := e) (l.take k).length (Nat.le_refl _)
                refine ⟨h1, ?_⟩
                rw [h2, List.take_length, List.count_eq_zero.2 hnew]
                rfl
              rw [hq] at x1
              have HOW := Lib.hid ow
              have HQ := Lib.hid hq
              have HE := Lib.hid he
              have HB := Lib.hid hB
              have HO := Lib.hid hO
              have HWA := Lib.hid hWA
              have hkc : k ≤ cO := by omega
              have hee0 : (0 : Int) ≤ (e : Int) := by omega
              have hee1 : (e : Int) < (g.edges.length : Int) := by omega
              clear hB hO hWA hgw hnew x0 x2 ow hq r0 r1 he hqe hqt
              go_wp2_with fail
              obtain ⟨w6, e6⟩ : ∃ x, x = wr := ⟨_, rfl⟩
              subst e6
              have g0 := HB.out.g0
              have g1 := HB.out.g1
              have g2 := HB.out.g2
              obtain ⟨EC, hEC⟩ : ∃ EC, EC = (covK g (l.take k) (l.take k).length).2 := ⟨_, rfl⟩
              rw [← hEC] at HCNT
              have HEC := Lib.hid hEC
              clear hEC
              go_cut [12] (fun p wx => ∃ (m : Nat) (aE : Option Addr) (cE : Nat), p = .pointer (some ⟨m, 0, none⟩) ∧ MC w6 wx m EC aE cE)
              case first =>
                have HGR : Hid (GraphAt w6 (.agg #[.int .i64 g.n, .slice ai g.init.length ci, .slice ae g.edges.length ce]) g) := HB.out.graph HMI.out HME.out
                have HWT : Hid (∀ c', WalksAt w6 (.slice (some ⟨b, off, none⟩) k c') (l.take k)) := fun c' => HWA.out.take hk
                have HAT : Hid (∀ j, j < (l.take k).length → (ckW g (gw (l.take k) j).first (gw (l.take k) j).steps).2 = 0) := fun j hj => by rw [gw_take (by simp at hj; omega)]; exact HALL.out j (by simp at hj; omega)
                have HT6 : Hid ((l.take k).length ≤ 60) := by unfold Hid; simp; omega
                clear HB HO HWA HTOK HALL HSL HWS HCNT HOW HQ HE x1 hwr hn0 hd3
                go_region_held3 (fun w' => w'.cell? ⟨w.heap.size, 0, none⟩ = some (.int .i64 g.n) ∧ w'.cell? ⟨w.heap.size, 1, none⟩ = some (.slice ai g.init.length ci) ∧ w'.cell? ⟨w.heap.size, 2, none⟩ = some (.slice ae g.edges.length ce) ∧ Below w6.heap.size w6 w')
                  ((refine (fun hB : Below w6.heap.size w6 _ => ⟨Below.keeps hB g0 (Nat.le_refl _), Below.keeps hB g1 (Nat.le_refl _), Below.keeps hB g2 (Nat.le_refl _), hB⟩) ?_; (repeat (first | with_reducible exact Below.refl _ _ | with_reducible assumption | with_reducible refine Below.drew ?_ | (with_reducible refine Below.alloc ?_ ?_ _) | (with_reducible refine Below.setCell ?_ ?_ _))); all_goals (first | exact Nat.le_refl _ | exact hbC.size | (simp; done) | (simp; omega) | (have hq := hbC.size; simp; omega))))
                  (first
                    | (go_at_call 32; refine (refCov_any g (l.take k) _ _ _ (HGR.out.later ?_) ((HWT.out _).later ?_) HOK.out HAT.out HT6.out).mono ?_; (focus ((repeat (first | with_reducible exact Below.refl _ _ | with_reducible assumption | with_reducible refine Below.drew ?_ | (with_reducible refine Below.alloc ?_ ?_ _) | (with_reducible refine Below.setCell ?_ ?_ _))); all_goals (first | exact Nat.le_refl _ | exact hbC.size | (simp; done) | (simp; omega) | (have hq := hbC.size; simp; omega)))); (focus ((repeat (first | with_reducible exact Below.refl _ _ | with_reducible assumption | with_reducible refine Below.drew ?_ | (with_reducible refine Below.alloc ?_ ?_ _) | (with_reducible refine Below.setCell ?_ ?_ _))); all_goals (first | exact Nat.le_refl _ | exact hbC.size | (simp; done) | (simp; omega) | (have hq := hbC.size; simp; omega)))); rintro e wC ⟨vS, vE, rfl, iS, iE, hC⟩; obtain ⟨aS, cS, rfl, -, -⟩ := ints_cell iS; rw [← HEC.out] at iE; obtain ⟨aE, cE, rfl, icE, -⟩ := ints_cell iE; have hbC : Below w6.heap.size w6 wC := Below.trans (b := _) (by ((repeat (first | with_reducible exact Below.refl _ _ | with_reducible assumption | with_reducible refine Below.drew ?_ | (with_reducible refine Below.alloc ?_ ?_ _))); all_goals (first | exact Nat.le_refl _ | (simp; done) | (simp; omega)))) (hC.mono (by first | exact Nat.le_refl _ | (simp; done) | (simp; omega))); (first | (apply yd_allocK (B := w6.heap.size) hC; (focus ((repeat (first | with_reducible exact Below.refl _ _ | with_reducible refine Below.drew ?_ | (with_reducible refine Below.alloc ?_ ?_ _))); all_goals (first | exact Nat.le_refl _ | (simp; done) | (simp; omega) | (have hq := hbC.size; simp; omega)))); (focus (first | exact Nat.le_refl _ | (simp; done) | (simp; omega))); intro yC; (try simp only [alloc_sizeL, drew_sizeL] at yC); have m0 := yC.c0; have m1 := yC.c1; have f0 := yC.fz 0; have f1 := yC.fz 1; have mlt := yC.lt) | skip))
                    | fail "other")
                all_goals (go_wp2_with fail; go_meet)
                all_goals first
                  | exact ⟨_, _, _, rfl, mc_late _ icE hbC⟩
                  | exact ⟨_, _, _, rfl, mc_early yC icE hbC⟩
              case rest =>
                obtain ⟨w7, e7⟩ : ∃ x, x = wc := ⟨_, rfl⟩
                subst e7
                obtain ⟨m, aE, cE, rfl, hM⟩ := hcut
                have HB2 := Lib.hid (HB.out.later hM.bw)
                have HO2 := Lib.hid (HO.out.later hM.bw)
                have HWA2 := Lib.hid (HWA.out.later hM.bw)
                obtain ⟨bE, oE, eE, cE1⟩ := hM.ic e (by rw [HCNT.out.1]; omega)
                subst eE
                have m1 := hM.c1
                rw [HCNT.out.2] at cE1
                rw [HCNT.out.1] at m1
                have y1 := Below.keeps hM.bw x1 (Nat.le_refl _)
                have hOW2 := ownsRow_later HOW.out hM.bw
                obtain ⟨bs, os, es, -⟩ := (own_cells hOW2).2.1 q (by rw [HQ.out]; omega)
                subst es
                have yq := own_cell hOW2 (k := q) (by rw [HQ.out]; omega)
                rw [HE.out] at yq
                have hq0 : (0 : Int) ≤ (q : Int) := by omega
                have hq1 : (q : Int) < (q : Int) + 1 := by omega
                clear hM HB HO HWA HOW x1 g0 g1 g2 hOW2
                go_wp2_with fail
                go_quiet (fail)
                go_wp2_with fail
                exact ⟨⟨k + 1, by omega, by go_num, HB2.out.later (below_drewN (Below.refl _ _) _), HO2.out.later (below_drewN (Below.refl _ _) _), HWA2.out.later (below_drewN (Below.refl _ _) _)⟩, by simp [intOf]; omega⟩
            · have hkk : k = l.length := by omega
              subst hkk
              have g0 := hB.g0
              have g1 := hB.g1
              have g2 := hB.g2
              have HUN : Hid (uncK g (dl g) (covK g l l.length).2 g.edges.length = []) := by
                refine unc_nil _ fun e he hh => ?_
                obtain ⟨h1, h2⟩ := hh
                obtain ⟨-, h3⟩ := covK_count HOK.out HALL.out (e := e) l.length (Nat.le_refl _)
                rw [h3, List.take_length] at h2
                have h4 := cnt_zero HTOK.out.all e he
                have h5 : (e : Int) ∉ flat l := List.count_eq_zero.1 (by omega)
                rw [Sof_iff.2 ⟨e, he, rfl, h1, h5⟩] at h4
                cases h4
              go_wp2_with fail
              refine (refUnc_any g l _ _ _ (hB.graph HMI.out HME.out) hWA HOK.out HALL.out hl60).mono ?_
              rintro e w9 ⟨v9, rfl, i9, -, hb9⟩
              rw [HUN.out] at i9
              obtain ⟨a9, c9, rfl, -, -⟩ := i9
              have hbw := (hB.later hb9).bw
              simp only [List.length_nil]
              clear hB hO hWA hb9
              go_wp2
              go_ret
              exact ⟨rfl, hbw⟩
    · refine (between_no _ hr).mono ?_
      rintro e w5 ⟨rfl, rfl⟩
      have h3 : r = 3 ∧ l = [] := by
        rcases HTS.out with ⟨h, -⟩ | ⟨-, -, h1, h2⟩ | ⟨-, h1, -⟩ | ⟨-, h1, -⟩
        · rw [hcg] at h; cases h
        · exact ⟨h1, h2⟩
        all_goals (exact absurd h1 hr)
      obtain ⟨rfl, rfl⟩ := h3
      have hbw := hB.bw
      simp only [List.length_nil]
      clear HTS HO hr
      go_wp2
      go_ret
      exact ⟨rfl, hbw⟩
end Go.Proofs.Ytnijajjmcdgonaa
namespace Go.Proofs.Ytnijajjmcdgonaa.simulateTours
open Go.ChangeShapes Go.WideShapes Go.ChangeAt Go.RowKit
set_option linter.unusedVariables false

theorem own : ownKnob Try.prog.godebug = none := by kernel_rfl

set_option maxRecDepth 100000 in
theorem lifted (os : Os) (started : os.Started) (H : Type) (enc : TypeId × Value → H) :
    ReturnsInHanded {} Try.checked os 8 .any (Rows.simulateToursSpec.pre6 enc Try.prog Try.f8 Rows.simulateToursRow.domain false) (Rows.simulateToursSpec.post enc Try.prog Try.f8 false true false false) := by
  refine returnsInHanded_of_change (C := Try.checked) own started (by kernel_rfl) Try.func8
    (ChangeSpec.witness6 (enc := enc) (C := Try.checked) false ⟨#[], #[.agg #[.int .i64 0, .slice none 0 0, .slice none 0 0], .int .i64 0], []⟩ 8 (by kernel_rfl) (by kernel_rfl) (by kernel_rfl) (by kernel_rfl)) ?_
  intro W base args ds gs before hval0 hW hcnd _
  have hval : ∀ (j : Nat) t v, Try.f8.params[j]? = some t → args[j]? = some v → Value.okWide Try.prog W .any base t v := hval0
  have hW' := hW
  obtain ⟨p, q, hA0, hV, rfl, hfz, hnd⟩ := hW
  have hA : DataW.TrodAll enc Try.prog W 0 (fun _ => true) true Try.f8.params.toList args.toList ds p := hA0
  rw [Try.params8] at hA hval
  obtain ⟨v0, vs0, d0, ds0, p0, q0, hargs, rfl, rfl, h0, r0⟩ := trodAll_cons hA
  obtain ⟨v1, vs1, d1, ds1, p1, q1, rfl, rfl, rfl, h1, r1⟩ := trodAll_cons r0
  obtain ⟨rfl, rfl, rfl⟩ := trodAll_nil r1
  obtain rfl : args = #[v0, v1] := by cases args; simp_all
  obtain ⟨rfl, rfl⟩ := trodVars_none hV
  obtain ⟨g, hg⟩ := graph_open (hval 0 34 v0 rfl rfl) h0
  obtain ⟨a1, rfl, rfl, rfl, w1⟩ := open_int Try.underlying3 (hval 1 3 v1 rfl rfl) h1
  clear hA0 hval0
  simp only [List.append_nil] at hW'
  have hlt : ∀ y ∈ p0, y.block < W.heap.size := fun y hy => by simpa using hW'.lt y (by simpa using hy)
  refine (simTours_walk awake_true g a1 _ W hg).mono fun e W' ⟨he, hb⟩ => ?_
  subst he
  exact ⟨_, rfl, _, _, _, [], _, [], hW', trodAll_cons_mk (shut_bool Try.underlying4 _) trodAll_mk0,
    trodAll_cons_mk (Below.trod laidOut (by kernel_rfl) (of_decide_eq_true (by kernel_rfl)) h0 hb fun y hy => hlt y hy)
      (trodAll_cons_mk (shut_int Try.underlying3 w1) trodAll_mk0),
    rfl, hb.frame _, fun h => by cases h⟩

theorem over : Rows.simulateToursRow.holds Try.pinned (OpenSpec.ofChange Rows.simulateToursSpec) :=
  OpenClaim.holds_of_wide 8 Try.f8 rfl rfl rfl rfl rfl rfl rfl ⟨rfl, rfl, rfl, rfl, rfl⟩ rfl rfl rfl rfl rfl (by kernel_rfl) Try.func8 (by kernel_rfl)
    (of_decide_eq_true (by kernel_rfl)) (by unfold Func.isWrapper; first | (rw [if_pos (by decide +kernel)]; kernel_rfl) | (rw [if_neg (by decide +kernel)]; exact ⟨rfl, rfl⟩))
    (fun os started H enc _ => lifted os started H enc)

theorem proved : Rows.SimulateToursSaid :=
  over
#print axioms proved
end Go.Proofs.Ytnijajjmcdgonaa.simulateTours
