import Derived.Test.YtnijajjmcdgonaaCovC
import Derived.Test.YtnijajjmcdgonaaWalkX
namespace Go.Proofs.Ytnijajjmcdgonaa
open Go.RowKit
set_option linter.unusedVariables false

set_option maxHeartbeats 12000000 in
set_option maxRecDepth 100000 in
theorem covOf_any (g : G) (l : List W3) (vg vl : Value) (w : World) (hg : GraphAt w vg g) (hl : WalksAt w vl l) :
    Calls Try.prog 28 #[vg, vl] w fun e w' => ∃ vS vE, e = .returned (.tuple #[.agg #[vS, vE], .int .i64 (wsErr g l)]) ∧ IntsAt w' vS (covR g l).1 ∧ IntsAt w' vE (covR g l).2 ∧ Below w.heap.size w w' := by
  have hg' := hg
  obtain ⟨vi, ve, rfl, hvi, ⟨ae, ce, rfl, hme, hce⟩⟩ := hg
  obtain ⟨aL, cL, rfl, hmL, hcL⟩ := hl
  obtain ⟨i0, hi, hz0, hz1, hz2⟩ := info_parts infoInt
  have HCL := Lib.hid hcL
  have HG := Lib.hid hg'
  have hend : ∀ c, wsErr g l = c → c ≠ 0 → Hid (wsErr g l = c ∧ covR g l = ([], [])) := fun c h h0 => ⟨h, by unfold covR; rw [if_neg (by rw [h]; exact h0)]⟩
  unfold maxLen at hmL
  clear hcL hg'
  go_enter Try.func28, Try.ntmps28
  go_wp2_with fail
  have hb0 : Below w.heap.size w ((w.alloc (Obj.cells #[.int .i64 g.n, vi, .slice ae g.edges.length ce] 34)).alloc (Obj.cells #[.slice none 0 0, .slice none 0 0] 57)) := ((Below.refl _ _).alloc (Nat.le_refl _) _).alloc (by simp) _
  have g0 : ((w.alloc (Obj.cells #[.int .i64 g.n, vi, .slice ae g.edges.length ce] 34)).alloc (Obj.cells #[.slice none 0 0, .slice none 0 0] 57)).cell? ⟨w.heap.size, 0, none⟩ = some (.int .i64 g.n) := by rw [World.cell?_alloc_past _ _ _ (by simp), World.cell?_alloc_at _ _ _ _ rfl]; rfl
  have g1 : ((w.alloc (Obj.cells #[.int .i64 g.n, vi, .slice ae g.edges.length ce] 34)).alloc (Obj.cells #[.slice none 0 0, .slice none 0 0] 57)).cell? ⟨w.heap.size, 1, none⟩ = some vi := by rw [World.cell?_alloc_past _ _ _ (by simp), World.cell?_alloc_at _ _ _ _ rfl]; rfl
  have g2 : ((w.alloc (Obj.cells #[.int .i64 g.n, vi, .slice ae g.edges.length ce] 34)).alloc (Obj.cells #[.slice none 0 0, .slice none 0 0] 57)).cell? ⟨w.heap.size, 2, none⟩ = some (.slice ae g.edges.length ce) := by rw [World.cell?_alloc_past _ _ _ (by simp), World.cell?_alloc_at _ _ _ _ rfl]; rfl
  have r0 : ((w.alloc (Obj.cells #[.int .i64 g.n, vi, .slice ae g.edges.length ce] 34)).alloc (Obj.cells #[.slice none 0 0, .slice none 0 0] 57)).cell? ⟨w.heap.size + 1, 0, none⟩ = some (.slice none 0 0) := by rw [World.cell?_alloc_at _ _ _ _ (by simp)]; rfl
  have r1 : ((w.alloc (Obj.cells #[.int .i64 g.n, vi, .slice ae g.edges.length ce] 34)).alloc (Obj.cells #[.slice none 0 0, .slice none 0 0] 57)).cell? ⟨w.heap.size + 1, 1, none⟩ = some (.slice none 0 0) := by rw [World.cell?_alloc_at _ _ _ _ (by simp)]; rfl
  have rf : ∀ i, ((w.alloc (Obj.cells #[.int .i64 g.n, vi, .slice ae g.edges.length ce] 34)).alloc (Obj.cells #[.slice none 0 0, .slice none 0 0] 57)).frozen? ⟨w.heap.size + 1, i, none⟩ = false := fun i => World.frozen?_alloc_at _ _ _ _ (by simp)
  have hsz : w.heap.size + 2 ≤ ((w.alloc (Obj.cells #[.int .i64 g.n, vi, .slice ae g.edges.length ce] 34)).alloc (Obj.cells #[.slice none 0 0, .slice none 0 0] 57)).heap.size := by simp
  generalize ((w.alloc (Obj.cells #[.int .i64 g.n, vi, .slice ae g.edges.length ce] 34)).alloc (Obj.cells #[.slice none 0 0, .slice none 0 0] 57)) = w0 at *
  refine (checkGraph_any g _ _ (HG.out.later hb0)).mono ?_
  rintro e w1 ⟨rfl, hb1⟩
  replace g0 := Below.keeps hb1 g0 (Nat.le_refl _)
  replace g1 := Below.keeps hb1 g1 (Nat.le_refl _)
  replace g2 := Below.keeps hb1 g2 (Nat.le_refl _)
  have hrl := cell_lt r0
  have hrl0 : w.heap.size + 1 < w0.heap.size := hrl
  replace r0 := Below.keeps hb1 r0 (Nat.le_refl _)
  replace r1 := Below.keeps hb1 r1 (Nat.le_refl _)
  replace rf : ∀ i, w1.frozen? ⟨w.heap.size + 1, i, none⟩ = false := fun i => Below.keepsF hb1 (rf i) hrl0
  replace hb0 := hb0.trans (hb1.mono hb0.size)
  replace hsz := Nat.le_trans hsz hb1.size
  clear hb1 hrl hrl0 w0
  have f0 := rf 0
  have f1 := rf 1
  have hz : ∀ (W : World) (v : Value), v = .slice none 0 0 → IntsAt W v [] := fun W v h => ⟨none, 0, h, Nat.zero_le _, fun j hj => by simp at hj⟩
  have HZ := Lib.hid hz
  clear hz
  cases hi' : isG g
  · have HX := hend 5 (by unfold wsErr; rw [if_neg (by simp [hi'])]) (by decide)
    have hge : gErr g = 5 := by rw [gErr_isG, if_neg (by simp [hi'])]
    rw [hge]
    clear hge hi' hend g0 g1 g2
    go_wp2
    refine bodyPost_ret (v := .tuple #[.agg #[.slice none 0 0, .slice none 0 0], .int .i64 5]) (by simp [results, Try.results28, go_sem, r0, r1]) rfl ⟨_, _, by rw [HX.out.1], by rw [HX.out.2]; exact HZ.out _ _ rfl, by rw [HX.out.2]; exact HZ.out _ _ rfl, ?_⟩
    repeat (first | with_reducible exact hb0 | (with_reducible refine Below.setCell ?_ ?_ _; rotate_left; (focus (show w.heap.size ≤ w.heap.size + 1; omega))))
  have hge : gErr g = 0 := by rw [gErr_isG, if_pos hi']
  rw [hge]
  clear hge
  have HI := Lib.hid hi'; clear hi'
  by_cases h60 : 60 < l.length
  · have HX := hend 2 (by unfold wsErr; rw [if_pos HI.out, if_pos h60]) (by decide)
    have hd : decide ((60 : Int) < (l.length : Int)) = true := decide_eq_true (by omega)
    clear hend g0 g1 g2
    go_wp2
    refine bodyPost_ret (v := .tuple #[.agg #[.slice none 0 0, .slice none 0 0], .int .i64 2]) (by simp [results, Try.results28, go_sem, r0, r1]) rfl ⟨_, _, by rw [HX.out.1], by rw [HX.out.2]; exact HZ.out _ _ rfl, by rw [HX.out.2]; exact HZ.out _ _ rfl, ?_⟩
    repeat (first | with_reducible exact hb0 | (with_reducible refine Below.setCell ?_ ?_ _; rotate_left; (focus (show w.heap.size ≤ w.heap.size + 1; omega))))
  have hd : decide ((60 : Int) < (l.length : Int)) = false := decide_eq_false (by omega)
  have hok := (isG_iff g).1 HI.out
  obtain ⟨N, hN⟩ : ∃ N : Nat, g.n = (N : Int) := ⟨g.n.toNat, by have := hok.1; omega⟩
  have hN4 : N ≤ 400 := by have := hok.2.1; omega
  have hel : g.edges.length ≤ 2000 := hok.2.2.2.1
  have HNN : Hid (g.n.toNat = N) := by unfold Hid; omega
  have HNG : Hid (g.n = N) := hN
  have HOK := Lib.hid hok
  have HG2 : Hid (GraphAt w (.agg #[.int .i64 N, vi, .slice ae g.edges.length ce]) g) := by have := HG.out; rw [hN] at this; exact this
  rw [hN] at g0
  have HR0 := Lib.hid r0; have HR1 := Lib.hid r1; have HRF := Lib.hid rf
  have HB0 := Lib.hid hb0
  clear hok hN HG r0 r1 rf f0 f1 hb0
  go_wp2_with fail
  clear hd
  have HC0 : Hid ((cov0 g).1 = List.replicate N 0 ∧ (cov0 g).2 = List.replicate g.edges.length 0) := by unfold Hid cov0; rw [HNN.out]; exact ⟨rfl, rfl⟩
  go_cut [7] (fun s5 wx => ∃ (m gS gE : Nat), s5 = .pointer (some ⟨m, 0, none⟩) ∧ CM wx w1.heap.size m gS gE N g.edges.length (cov0 g).1 (cov0 g).2 ∧ Below w1.heap.size w1 wx)
  case first =>
    go_region_held3 (fun w' => w'.cell? ⟨w.heap.size, 0, none⟩ = some (.int .i64 N) ∧ w'.cell? ⟨w.heap.size, 2, none⟩ = some (.slice ae g.edges.length ce) ∧ Below w1.heap.size w1 w')
      ((refine (fun hB : Below w1.heap.size w1 _ => ⟨Below.keeps hB g0 (Nat.le_refl _), Below.keeps hB g2 (Nat.le_refl _), hB⟩) ?_; (repeat (first | with_reducible exact Below.refl _ _ | with_reducible assumption | with_reducible refine Below.drew ?_ | (with_reducible refine Below.alloc ?_ ?_ _) | (with_reducible refine Below.setCell ?_ ?_ _))); all_goals (first | exact Nat.le_refl _ | exact hbE.size | exact hbS.size | (simp; done))))
      (first
        | (with_reducible refine upon_make 23 w1.heap.size 3 i0 (.int .i64 0) 1 Try.underlying23 hi hz0 hz1 .i64 .i64 N (by rw [hz2]; omega) (by unfold maxLen; omega) ?_ ?_; (focus (first | exact Nat.le_refl _ | exact hbE.size | (simp; done) | (have hq := hbE.size; simp; omega))); intro wS oS' grS; have hcS := Below.grown (Below.refl _ _) grS (Nat.le_refl _) (fun j hj => by cases hj); have hbS : Below w1.heap.size w1 wS := Below.trans (b := _) (by (repeat (first | with_reducible exact Below.refl _ _ | with_reducible assumption | with_reducible refine Below.drew ?_ | (with_reducible refine Below.alloc ?_ ?_ _))); all_goals (first | exact Nat.le_refl _ | exact hbE.size | (simp; done))) (hcS.mono (by first | exact Nat.le_refl _ | exact hbE.size | (simp; done) | (have hq := hbE.size; simp; omega))); have oS := own_zero oS'; have hgS := own_ge oS; (try simp only [alloc_size, drew_size] at oS); (try simp only [alloc_size, drew_size] at hgS); clear oS' grS; (first | (have hdE : Below wE.heap.size wE wS := Below.trans (b := _) (by (repeat (first | with_reducible exact Below.refl _ _ | with_reducible assumption | with_reducible refine Below.drew ?_ | (with_reducible refine Below.alloc ?_ ?_ _))); all_goals (first | exact Nat.le_refl _ | (simp; done))) (hcS.mono (by first | exact Nat.le_refl _ | (simp; done))); replace oE := ownsRow_later oE hdE; have hszE := hdE.size) | skip); (first | (have m0 := (carryD hcS).1 0 _ rfl; have m1 := (carryD hcS).1 1 _ rfl; have mf0 := (carryD hcS).2 0; have mf1 := (carryD hcS).2 1; have mlt : _ < wS.heap.size := cell_lt m0) | (have m0 := (carry hcS).1 0 _ rfl; have m1 := (carry hcS).1 1 _ rfl; have mf0 := (carry hcS).2 0; have mf1 := (carry hcS).2 1; have mlt : _ < wS.heap.size := cell_lt m0) | (replace m0 := Below.keeps hcS m0 (Nat.le_refl _); replace m1 := Below.keeps hcS m1 (Nat.le_refl _); replace mf0 := Below.keepsF hcS mf0 mlt; replace mf1 := Below.keepsF hcS mf1 mlt; replace mlt : _ < wS.heap.size := cell_lt m0) | skip))
        | (with_reducible refine upon_make 23 w1.heap.size 3 i0 (.int .i64 0) 1 Try.underlying23 hi hz0 hz1 .i64 .i64 g.edges.length (by rw [hz2]; omega) (by unfold maxLen; omega) ?_ ?_; (focus (first | exact Nat.le_refl _ | exact hbS.size | (simp; done) | (have hq := hbS.size; simp; omega))); intro wE oE' grE; have hcE := Below.grown (Below.refl _ _) grE (Nat.le_refl _) (fun j hj => by cases hj); have hbE : Below w1.heap.size w1 wE := Below.trans (b := _) (by (repeat (first | with_reducible exact Below.refl _ _ | with_reducible assumption | with_reducible refine Below.drew ?_ | (with_reducible refine Below.alloc ?_ ?_ _))); all_goals (first | exact Nat.le_refl _ | exact hbS.size | (simp; done))) (hcE.mono (by first | exact Nat.le_refl _ | exact hbS.size | (simp; done) | (have hq := hbS.size; simp; omega))); have oE := own_zero oE'; have hgE := own_ge oE; (try simp only [alloc_size, drew_size] at oE); (try simp only [alloc_size, drew_size] at hgE); clear oE' grE; (first | (have hdS : Below wS.heap.size wS wE := Below.trans (b := _) (by (repeat (first | with_reducible exact Below.refl _ _ | with_reducible assumption | with_reducible refine Below.drew ?_ | (with_reducible refine Below.alloc ?_ ?_ _))); all_goals (first | exact Nat.le_refl _ | (simp; done))) (hcE.mono (by first | exact Nat.le_refl _ | (simp; done))); replace oS := ownsRow_later oS hdS; have hszS := hdS.size) | skip); (first | (have m0 := (carryD hcE).1 0 _ rfl; have m1 := (carryD hcE).1 1 _ rfl; have mf0 := (carryD hcE).2 0; have mf1 := (carryD hcE).2 1; have mlt : _ < wE.heap.size := cell_lt m0) | (have m0 := (carry hcE).1 0 _ rfl; have m1 := (carry hcE).1 1 _ rfl; have mf0 := (carry hcE).2 0; have mf1 := (carry hcE).2 1; have mlt : _ < wE.heap.size := cell_lt m0) | (replace m0 := Below.keeps hcE m0 (Nat.le_refl _); replace m1 := Below.keeps hcE m1 (Nat.le_refl _); replace mf0 := Below.keepsF hcE mf0 mlt; replace mf1 := Below.keepsF hcE mf1 mlt; replace mlt : _ < wE.heap.size := cell_lt m0) | skip)))
    all_goals (go_wp2_with fail; go_meet)
    all_goals rw [HC0.out.1, HC0.out.2]
    all_goals
      have q0 : w1.drew.heap.size = w1.heap.size := rfl
      have q1 := hgS
      have q2 := hgE
      have q3 := hbS.size
      have q4 := hbE.size
      (try simp at q1)
      (try simp at q2)
      first
        | (refine ⟨_, _, _, rfl, cm_late _ ?_ oS oE ?_ (by simp) (by simp), ?_⟩; (focus (first | exact hbE.size | exact hbS.size)); (focus (first | (simp; omega) | omega)); (focus (first | exact hbE.alloc hbE.size _ | exact hbS.alloc hbS.size _)))
        | (refine ⟨_, _, _, rfl, cm_early ?_ oS oE ?_ (by simp) (by simp) m0 m1 rfl rfl, ?_⟩; (focus (first | (simp; done) | (simp; omega) | omega)); (focus (refine ⟨?_, ?_, ?_⟩ <;> (first | (simp; done) | (simp; omega) | omega))); (focus ((repeat (first | with_reducible exact Below.refl _ _ | with_reducible assumption | with_reducible refine Below.drew ?_ | (with_reducible refine Below.alloc ?_ ?_ _) | (with_reducible refine Below.setCell ?_ ?_ _))); all_goals (first | exact Nat.le_refl _ | exact hbE.size | exact hbS.size | (simp; done) | (simp; omega)))))
  case rest =>
    obtain ⟨w2, e2⟩ : ∃ x, x = wc := ⟨_, rfl⟩
    subst e2
    obtain ⟨m, gS, gE, rfl, hM, hb2⟩ := hcut
    have hK : KR w w2 vi w1.heap.size N ae g.edges.length ce m gS gE (covK g l 0).1 (covK g l 0).2 := by
      rw [covK_zero]
      exact ⟨Below.keeps hb2 g0 (Nat.le_refl _), Below.keeps hb2 g1 (Nat.le_refl _), Below.keeps hb2 g2 (Nat.le_refl _), Below.keeps hb2 HR0.out (Nat.le_refl _), Below.keeps hb2 HR1.out (Nat.le_refl _), fun i => Below.keepsF hb2 (HRF.out i) (by have := cell_lt HR0.out; exact this), hM, HB0.out.trans (hb2.mono HB0.out.size), hsz⟩
    clear hM hb2 g0 g1 g2 HR0 HR1 HRF HB0 HC0 hsz
    generalize w1.heap.size = B at *
    clear w1
    go_wp2_with fail
    have hnil : Hid (∀ j, j < 0 → (ckW g (gw l j).first (gw l j).steps).2 = 0) := fun j hj => by omega
    go_loopw [34] (fun i wr => ∃ k : Nat, k ≤ l.length ∧ i = .int .i64 k ∧ Hid (∀ j, j < k → (ckW g (gw l j).first (gw l j).steps).2 = 0) ∧ KR w wr vi B N ae g.edges.length ce m gS gE (covK g l k).1 (covK g l k).2) (fun i _ => l.length - (intOf i).toNat)
    case atStart => exact ⟨0, Nat.zero_le _, rfl, hnil, hK⟩
    case round =>
      clear hK hnil
      obtain ⟨k, hk, rfl, HALL, hK⟩ := hrel
      by_cases hlt : k < l.length
      · have hlt' : (k : Int) < (l.length : Int) := by omega
        have hk0 : (0 : Int) ≤ (k : Int) := by omega
        obtain ⟨bL, oL, aw, cs, eL, d0w, d1w, d2w, hml, hcsw⟩ := HCL.out k hlt
        subst eL
        have d0 := Below.keeps hK.bw d0w (Nat.le_refl _)
        have d1 := Below.keeps hK.bw d1w (Nat.le_refl _)
        have d2 := Below.keeps hK.bw d2w (Nat.le_refl _)
        have hcs := hcsw.later hK.bw
        have HCW := Lib.hid hcsw
        have hgl := (own_ge hK.cm.oS).2
        clear d0w d1w d2w hcsw
        have hbA : Below wr.heap.size wr (wr.alloc (Obj.cells #[.int .i64 (gw l k).first, .slice aw (gw l k).steps.length cs, .bool (gw l k).stuck] 39)) := (Below.refl _ _).alloc (Nat.le_refl _) _
        have HX : Hid (WalkAt (wr.alloc (Obj.cells #[.int .i64 (gw l k).first, .slice aw (gw l k).steps.length cs, .bool (gw l k).stuck] 39)) (.agg #[.int .i64 (gw l k).first, .slice aw (gw l k).steps.length cs, .bool (gw l k).stuck]) (gw l k)) := ⟨_, rfl, _, _, rfl, hml, hcs.later hbA⟩
        have HKA := Lib.hid (hK.later hbA)
        have x0 : (wr.alloc (Obj.cells #[.int .i64 (gw l k).first, .slice aw (gw l k).steps.length cs, .bool (gw l k).stuck] 39)).cell? ⟨wr.heap.size, 0, none⟩ = some (.int .i64 (gw l k).first) := World.cell?_alloc_at _ _ _ _ rfl
        have x1 : (wr.alloc (Obj.cells #[.int .i64 (gw l k).first, .slice aw (gw l k).steps.length cs, .bool (gw l k).stuck] 39)).cell? ⟨wr.heap.size, 1, none⟩ = some (.slice aw (gw l k).steps.length cs) := World.cell?_alloc_at _ _ _ _ rfl
        have hbA2 := Lib.hid (hK.bw.alloc hK.bw.size (Obj.cells #[.int .i64 (gw l k).first, .slice aw (gw l k).steps.length cs, .bool (gw l k).stuck] 39))
        clear hK hcs hbA
        have g0 := HKA.out.g0
        have g1 := HKA.out.g1
        have g2 := HKA.out.g2
        go_wp2_with fail
        refine (checkSteps_any g (gw l k) _ _ _ (HG2.out.later hbA2.out) HX.out).mono ?_
        rintro e w3 ⟨rfl, hb3⟩
        have HK := Lib.hid (HKA.out.later hb3)
        replace x0 := Below.keeps hb3 x0 (Nat.le_refl _)
        replace x1 := Below.keeps hb3 x1 (Nat.le_refl _)
        clear hb3 HKA g0 g1 g2 hbA2 HX d0 d1 d2
        by_cases hce0 : (ckW g (gw l k).first (gw l k).steps).2 = 0
        · rw [hce0]
          have HALL2 : Hid (∀ j, j < k + 1 → (ckW g (gw l j).first (gw l j).steps).2 = 0) := fun j hj => by
            by_cases hjk : j < k
            · exact HALL.out j hjk
            · obtain rfl : j = k := by omega
              exact hce0
          obtain ⟨hx1, hx2, hx3⟩ := ck_in hce0
          obtain ⟨bb, hbb, hcv⟩ := CV.walks' HOK.out hk HALL.out k (Nat.le_refl _)
          have hmem := hx2
          obtain ⟨jj, hjj, hjf⟩ := mem_gi.1 hx2
          have hin := HOK.out.2.2.2.2.1 jj hjj
          unfold initOk at hin
          rw [hjf] at hin
          have hf0 : 0 ≤ (gw l k).first := hin.1
          have hf1 : (gw l k).first < (N : Int) := by have := HNG.out; omega
          have hK := HK.out
          have hSl := hK.cm.lS
          have k0 := hK.cm.c0
          have tS := own_at hK.cm.oS (gw l k).first.toNat (by omega)
          have fS := own_frozen hK.cm.oS (gw l k).first.toNat
          have hle := gi_le_sum _ hcv.p1 (gw l k).first.toNat
          have hge := hcv.p1 (gw l k).first.toNat
          rw [hcv.s1] at hle
          have hwr : IntKind.i64.wrap (gi (covK g l k).1 (gw l k).first.toNat + 1) = gi (covK g l k).1 (gw l k).first.toNat + 1 := IntWalk.i64_in _ (by omega)
          have x1s : (w3.setCell ⟨gS, (gw l k).first.toNat, none⟩ (.int .i64 (gi (covK g l k).1 (gw l k).first.toNat + 1))).cell? ⟨wr.heap.size, 1, none⟩ = some (.slice aw (gw l k).steps.length cs) := (World.cell?_setCell_other _ _ _ _ (by intro h; injection h with h1; omega)).trans x1
          have hK2 : KR w (w3.setCell ⟨gS, (gw l k).first.toNat, none⟩ (.int .i64 (gi (covK g l k).1 (gw l k).first.toNat + 1))) vi B N ae g.edges.length ce m gS gE (cvK g (inc (covK g l k).1 (gw l k).first.toNat, (covK g l k).2) (gw l k).steps 0).1 (cvK g (inc (covK g l k).1 (gw l k).first.toNat, (covK g l k).2) (gw l k).steps 0).2 := by
            rw [cvK_zero]; exact hK.setS _ _
          have HX3 := Lib.hid hx3
          have HC1 : Hid (CV g (inc (covK g l k).1 (gw l k).first.toNat, (covK g l k).2) (k + bb + 1) bb) := hcv.first HOK.out hmem
          have HW : Hid (covK g l (k + 1) = cvK g (inc (covK g l k).1 (gw l k).first.toNat, (covK g l k).2) (gw l k).steps (gw l k).steps.length) := by unfold Hid; rw [covK_succ _ _ _ hlt]; rfl
          clear hK hcv hx2 hx3 hin hjf hjj hSl hle hge hce0 HK HALL x1
          go_wp2_with fail
          clear k0 tS fS hwr x0 x1s hgl
          generalize (w3.setCell ⟨gS, (gw l k).first.toNat, none⟩ (.int .i64 (gi (covK g l k).1 (gw l k).first.toNat + 1))) = w5 at *
          generalize (inc (covK g l k).1 (gw l k).first.toNat, (covK g l k).2) = c1 at *
          go_loopw [59] (fun i wr => ∃ j : Nat, j ≤ (gw l k).steps.length ∧ i = .int .i64 j ∧ KR w wr vi B N ae g.edges.length ce m gS gE (cvK g c1 (gw l k).steps j).1 (cvK g c1 (gw l k).steps j).2) (fun i _ => (gw l k).steps.length - (intOf i).toNat)
          case atStart => exact ⟨0, Nat.zero_le _, rfl, hK2⟩
          case round =>
            clear hK2
            obtain ⟨j, hj, rfl, hK⟩ := hrel
            by_cases hjl : j < (gw l k).steps.length
            · have hjl' : (j : Int) < ((gw l k).steps.length : Int) := by omega
              have hj0 : (0 : Int) ≤ (j : Int) := by omega
              obtain ⟨bs, os, es, cst⟩ := HCW.out.later hK.bw j hjl
              subst es
              obtain ⟨hi0, hi1⟩ := HX3.out j hjl
              obtain ⟨n, hn⟩ : ∃ n : Nat, gi (gw l k).steps j = (n : Int) := ⟨(gi (gw l k).steps j).toNat, by omega⟩
              have hnl : n < g.edges.length := by omega
              have hcvj := HC1.out.steps HOK.out HX3.out j hj
              have HSU : Hid (cvK g c1 (gw l k).steps (j + 1) = (inc (cvK g c1 (gw l k).steps j).1 (ge g.edges n).t.toNat, inc (cvK g c1 (gw l k).steps j).2 n)) := by
                unfold Hid; rw [cvK_succ _ _ _ _ hjl, hn]; rfl
              rw [hn] at cst
              clear hn hi0 hi1
              obtain ⟨q1, q2, q3, q4⟩ := edge_in' HOK.out hnl
              have hq4 : (ge g.edges n).t < (N : Int) := by have := HNG.out; omega
              have hSl := hK.cm.lS
              have hEl := hK.cm.lE
              have hle1 := gi_le_sum _ hcvj.p1 (ge g.edges n).t.toNat
              have hge1 := hcvj.p1 (ge g.edges n).t.toNat
              have hle2 := gi_le_sum _ hcvj.p2 n
              have hge2 := hcvj.p2 n
              rw [hcvj.s1] at hle1
              rw [hcvj.s2] at hle2
              clear hcvj
              generalize (cvK g c1 (gw l k).steps j).1 = S at *
              generalize (cvK g c1 (gw l k).steps j).2 = E at *
              have k1 := hK.cm.c1
              have tE := own_at hK.cm.oE n (by omega)
              have fE := own_frozen hK.cm.oE n
              have hnl' : (n : Int) < (g.edges.length : Int) := by omega
              have hn0 : (0 : Int) ≤ (n : Int) := by omega
              have hwE : IntKind.i64.wrap (gi E n + 1) = gi E n + 1 := IntWalk.i64_in _ (by omega)
              have hwS : IntKind.i64.wrap (gi S (ge g.edges n).t.toNat + 1) = gi S (ge g.edges n).t.toNat + 1 := IntWalk.i64_in _ (by omega)
              have HwS := Lib.hid hwS
              have HSl := Lib.hid hSl
              have hK3 : KR w (wr.setCell ⟨gE, n, none⟩ (.int .i64 (gi E n + 1))) vi B N ae g.edges.length ce m gS gE S (inc E n) := hK.setE n (gi E n + 1)
              clear hK hSl hEl hwS hle1 hge1 hle2 hge2
              go_wp2_with fail
              clear k1 tE fE cst hwE
              generalize (wr.setCell ⟨gE, n, none⟩ (.int .i64 (gi E n + 1))) = w6 at *
              have k0 := hK3.cm.c0
              have g2 := hK3.g2
              have tS := own_at hK3.cm.oS (ge g.edges n).t.toNat (by rw [HSl.out]; omega)
              have fS := own_frozen hK3.cm.oS (ge g.edges n).t.toNat
              obtain ⟨be, oe, ee, -, ct, -⟩ := hce.later hK3.bw n hnl
              subst ee
              have hwS := HwS.out
              have HK := Lib.hid hK3
              clear hK3
              refine wp_region_still_tail 12 (by kernel_rfl) (by kernel_rfl) ?_
              change wpStill _ _ (World.drew _) (fun a' => wpList _ _ _ _ a' (World.drew _)) _ _
              simp only [List.take_succ_cons, List.take_zero, List.drop_succ_cons, List.drop_zero]
              iterate 12 still_step
              refine wpStill_nil ?_
              have hK4 : KR w (w6.setCell ⟨gS, (ge g.edges n).t.toNat, none⟩ (.int .i64 (gi S (ge g.edges n).t.toNat + 1))).drew vi B N (some ⟨be, oe, none⟩) g.edges.length ce m gS gE (inc S (ge g.edges n).t.toNat) (inc E n) := HK.out.drew.setS _ _
              clear HK k0 g2 hwS
              go_wp2
              exact ⟨⟨j + 1, by omega, by go_num, by rw [HSU.out]; exact hK4⟩, by simp [intOf]; omega⟩
            · have hjj : j = (gw l k).steps.length := by omega
              subst hjj
              rw [← HW.out] at hK
              go_wp2
              exact ⟨⟨k + 1, by omega, by go_num, HALL2, hK⟩, by simp [intOf]; omega⟩
        · have hne : ((ckW g (gw l k).first (gw l k).steps).2 != 0) = true := by simpa using hce0
          have HX := hend (ckW g (gw l k).first (gw l k).steps).2 (by unfold wsErr; rw [if_pos HI.out, if_neg h60]; exact firstErr_at g l k hlt HALL.out hce0) hce0
          have r0 := HK.out.r0
          have r1 := HK.out.r1
          have f0 := HK.out.rf 0
          have f1 := HK.out.rf 1
          have hb0 := HK.out.bw
          clear hend HK x0 x1 hce0
          go_wp2
          refine bodyPost_ret (v := .tuple #[.agg #[.slice none 0 0, .slice none 0 0], .int .i64 (ckW g (gw l k).first (gw l k).steps).2]) (by simp [results, Try.results28, go_sem, r0, r1]) rfl ⟨_, _, by rw [HX.out.1], by rw [HX.out.2]; exact HZ.out _ _ rfl, by rw [HX.out.2]; exact HZ.out _ _ rfl, ?_⟩
          repeat (first | with_reducible exact hb0 | (with_reducible refine Below.setCell ?_ ?_ _; rotate_left; (focus (show w.heap.size ≤ w.heap.size + 1; omega))))
      · have hkk : k = l.length := by omega
        subst hkk
        have hw0 : wsErr g l = 0 := by unfold wsErr; rw [if_pos HI.out, if_neg h60]; exact firstErr_none g l HALL.out
        have HX : Hid (wsErr g l = 0 ∧ covR g l = covK g l l.length) := ⟨hw0, by unfold covR; rw [if_pos hw0]⟩
        have k0 := hK.cm.c0
        have k1 := hK.cm.c1
        have r0 := hK.r0
        have r1 := hK.r1
        have rf0 := hK.rf 0
        have rf1 := hK.rf 1
        have hB := hK.hB
        have hlS := hK.cm.lS
        have hlE := hK.cm.lE
        have oS := hK.cm.oS
        have oE := hK.cm.oE
        have bw := hK.bw
        have hmm := hK.cm.bm
        have HZ' : ∀ i j, (⟨m, i, none⟩ : Addr) ≠ ⟨w.heap.size + 1, j, none⟩ := fun i j h => by injection h with h1 h2; omega
        clear hK hend hw0 HALL
        go_wp2
        refine bodyPost_ret (v := .tuple #[.agg #[.slice (some ⟨gS, 0, none⟩) N N, .slice (some ⟨gE, 0, none⟩) g.edges.length g.edges.length], .int .i64 0]) (by simp [results, Try.results28, go_sem, r0, r1]) rfl ⟨_, _, by rw [HX.out.1], ?_, ?_, ?_⟩
        · rw [HX.out.2]
          refine row_ints (ownsRow_setCell_below (ownsRow_setCell_below oS ?_ _) ?_ _) hlS
          all_goals (show w.heap.size + 1 < B; omega)
        · rw [HX.out.2]
          refine row_ints (ownsRow_setCell_below (ownsRow_setCell_below oE ?_ _) ?_ _) hlE
          all_goals (show w.heap.size + 1 < B; omega)
        · exact (bw.setCell (by show w.heap.size ≤ w.heap.size + 1; omega) _).setCell (by show w.heap.size ≤ w.heap.size + 1; omega) _
end Go.Proofs.Ytnijajjmcdgonaa
