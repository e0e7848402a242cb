import Derived.Test.YtnijajjmcdgonaaCovF
import Derived.Test.YtnijajjmcdgonaaWalkP
import Derived.Test.YtnijajjmcdgonaaWalkC
namespace Go.Proofs.Ytnijajjmcdgonaa
open Go.RowKit
set_option linter.unusedVariables false

def sumK (L : List Int) (k : Nat) : Int := (L.take k).sum
theorem sumK_zero (L : List Int) : sumK L 0 = 0 := by simp [sumK]
theorem sumK_succ {L : List Int} {k : Nat} (h : k < L.length) : sumK L (k + 1) = sumK L k + gi L k := by
  unfold sumK gi
  rw [List.take_succ_eq_append_getElem h, List.getElem?_eq_getElem h, List.sum_append]
  simp
theorem sumK_all (L : List Int) : sumK L L.length = L.sum := by simp [sumK]
theorem sum_nonneg : ∀ (L : List Int), (∀ j, 0 ≤ gi L j) → 0 ≤ L.sum
  | [], _ => by simp
  | x :: r, h => by
    have h0 : 0 ≤ x := h 0
    have h1 := sum_nonneg r fun j => h (j + 1)
    simp; omega
theorem sumK_bd : ∀ (L : List Int), (∀ j, 0 ≤ gi L j) → ∀ k, 0 ≤ sumK L k ∧ sumK L k ≤ L.sum
  | [], _, k => by simp [sumK]
  | x :: r, h, 0 => by
    have := sum_nonneg (x :: r) h
    rw [sumK_zero]; omega
  | x :: r, h, k + 1 => by
    have h0 : 0 ≤ x := h 0
    have ih := sumK_bd r (fun j => h (j + 1)) k
    unfold sumK at ih ⊢
    simp
    omega

theorem GI.graph {w wr : World} {g : G} {ai : Option Addr} {ci : Nat} {ae : Option Addr} {ce : Nat} (h : GI w wr g ai ci ae ce) (mi : g.init.length ≤ maxLen) (me : g.edges.length ≤ maxLen) : GraphAt wr (.agg #[.int .i64 g.n, .slice ai g.init.length ci, .slice ae g.edges.length ce]) g :=
  ⟨_, _, rfl, ⟨_, _, rfl, mi, h.hi⟩, ⟨_, _, rfl, me, h.he⟩⟩

set_option maxHeartbeats 8000000 in
set_option maxRecDepth 100000 in
theorem simCovers_walk (hAw : AwakeSaid) (g : G) (l : List W3) (vg vl : Value) (w : World) (hg : GraphAt w vg g) (hl : WalksAt w vl l) :
    Calls Try.prog 6 #[vg, vl] w fun e w' => e = .returned (.bool true) ∧ Below w.heap.size w w' := by
  obtain ⟨vi, ve, rfl, ⟨ai, ci, rfl, hmi, hci⟩, ⟨ae, ce, rfl, hme, hce⟩⟩ := hg
  have hL0 := hl
  obtain ⟨aL, cL, rfl, hmL, -⟩ := hl
  have hB := GI.made w g ai ci ae ce 34 hci hce
  have hL := hL0.later (show Below w.heap.size w (w.alloc (Obj.cells #[Value.int IntKind.i64 g.n, Value.slice ai g.init.length ci, Value.slice ae g.edges.length ce] 34)) from (Below.refl _ _).alloc (Nat.le_refl _) _)
  have HMI := Lib.hid hmi
  have HME := Lib.hid hme
  clear hci hce hL0
  unfold maxLen at hmi hme hmL
  go_enter Try.func6, Try.ntmps6
  go_wp2_with fail
  generalize (w.alloc (Obj.cells #[Value.int IntKind.i64 g.n, Value.slice ai g.init.length ci, Value.slice ae g.edges.length ce] 34)) = w0 at *
  refine (hAw _).mono ?_
  rintro e w1 ⟨rfl, hb1⟩
  replace hB := hB.later hb1
  replace hL := hL.later hb1
  clear hb1 w0
  have g0 := hB.g0
  have g1 := hB.g1
  have g2 := hB.g2
  go_wp2_with fail
  refine (few_any g _ _ (hB.graph HMI.out HME.out)).mono ?_
  rintro e w2 ⟨rfl, hb2⟩
  replace hB := hB.later hb2
  replace hL := hL.later hb2
  clear hb2 g0 g1 g2
  cases hf : fewB g
  · clear hf
    go_wp2
    go_ret
    exact ⟨rfl, hB.bw⟩
  have hfw : g.n ≤ 20 ∧ g.init.length ≤ 22 ∧ g.edges.length ≤ 60 := by unfold fewB at hf; simpa using hf
  have HQ1 : Hid (g.init.length ≤ 100000) := Nat.le_trans hfw.2.1 (by decide)
  have HQ2 : Hid (g.edges.length ≤ 100000) := Nat.le_trans hfw.2.2 (by decide)
  clear hf hfw
  go_wp2_with fail
  refine (short_any l _ _ hL).mono ?_
  rintro e w2' ⟨r, rfl, rfl, hr⟩
  cases r
  · clear hr
    go_wp2
    go_ret
    exact ⟨rfl, hB.bw⟩
  have HR : Hid (l.length ≤ 62 ∧ ∀ j, j < l.length → (gw l j).steps.length ≤ 302) := hr.out rfl
  have h62 := HR.out.1
  clear hr
  have g0 := hB.g0
  have g1 := hB.g1
  have g2 := hB.g2
  go_wp2_with fail
  refine (ownGraph_any g _ _ (hB.graph HMI.out HME.out) HQ1.out HQ2.out).mono ?_
  rintro e w3 ⟨vA, rfl, gA, hb3⟩
  replace hB := hB.later hb3
  replace hL := hL.later hb3
  clear hb3 g0 g1 g2
  go_wp2_with fail
  refine (ownWalks_any l _ _ hL (by omega) (fun j hj => by have := HR.out.2 j hj; omega)).mono ?_
  rintro e w4 ⟨vB, rfl, lB, hb4⟩
  replace hB := hB.later hb4
  replace hL := hL.later hb4
  replace gA := gA.later hb4
  clear hb4
  go_wp2_with fail
  refine (covOf_any g l _ _ _ gA lB).mono ?_
  rintro e w5 ⟨vS, vE, rfl, iS, iE, hb5⟩
  replace hB := hB.later hb5
  replace hL := hL.later hb5
  clear hb5 gA lB
  obtain ⟨aS, cS, rfl, -, -⟩ := ints_cell iS
  obtain ⟨aE, cE, rfl, -, -⟩ := ints_cell iE
  have hbs : Below w5.heap.size w5 (w5.alloc (Obj.cells #[.slice aS (covR g l).1.length cS, .slice aE (covR g l).2.length cE] 57)) := (Below.refl _ _).alloc (Nat.le_refl _) _
  have t0 : (w5.alloc (Obj.cells #[.slice aS (covR g l).1.length cS, .slice aE (covR g l).2.length cE] 57)).cell? ⟨w5.heap.size, 0, none⟩ = some (.slice aS (covR g l).1.length cS) := World.cell?_alloc_at _ _ _ _ rfl
  have t1 : (w5.alloc (Obj.cells #[.slice aS (covR g l).1.length cS, .slice aE (covR g l).2.length cE] 57)).cell? ⟨w5.heap.size, 1, none⟩ = some (.slice aE (covR g l).2.length cE) := World.cell?_alloc_at _ _ _ _ rfl
  replace hB := hB.later hbs
  replace hL := hL.later hbs
  replace iS := iS.later hbs
  replace iE := iE.later hbs
  have g0 := hB.g0
  have g1 := hB.g1
  have g2 := hB.g2
  have T0 := Lib.hid t0
  have T1 := Lib.hid t1
  clear hbs t0 t1
  go_wp2_with fail
  refine (ownGraph_any g _ _ (hB.graph HMI.out HME.out) HQ1.out HQ2.out).mono ?_
  rintro e w6 ⟨vA, rfl, gA, hb6⟩
  replace hB := hB.later hb6
  replace hL := hL.later hb6
  replace iS := iS.later hb6
  replace iE := iE.later hb6
  replace T0 := Lib.hid (Below.keeps hb6 T0.out (Nat.le_refl _))
  replace T1 := Lib.hid (Below.keeps hb6 T1.out (Nat.le_refl _))
  clear hb6 g0 g1 g2
  go_wp2_with fail
  refine (ownWalks_any l _ _ hL (by omega) (fun j hj => by have := HR.out.2 j hj; omega)).mono ?_
  rintro e w7 ⟨vB, rfl, lB, hb7⟩
  replace hB := hB.later hb7
  replace hL := hL.later hb7
  replace gA := gA.later hb7
  replace iS := iS.later hb7
  replace iE := iE.later hb7
  replace T0 := Lib.hid (Below.keeps hb7 T0.out (Nat.le_refl _))
  replace T1 := Lib.hid (Below.keeps hb7 T1.out (Nat.le_refl _))
  clear hb7
  go_wp2_with fail
  refine (uncIn_any g l _ _ _ gA lB).mono ?_
  rintro e w8 ⟨vU, rfl, iU, hb8⟩
  replace hB := hB.later hb8
  replace hL := hL.later hb8
  replace iS := iS.later hb8
  replace iE := iE.later hb8
  replace T0 := Lib.hid (Below.keeps hb8 T0.out (Nat.le_refl _))
  replace T1 := Lib.hid (Below.keeps hb8 T1.out (Nat.le_refl _))
  clear hb8 gA lB
  obtain ⟨aU, cU, rfl, -, -⟩ := ints_cell iU
  have g0 := hB.g0
  have g1 := hB.g1
  have g2 := hB.g2
  go_wp2_with fail
  refine (walksErr_any g l _ _ _ (hB.graph HMI.out HME.out) hL).mono ?_
  rintro e w9 ⟨rfl, hb9⟩
  replace hB := hB.later hb9
  replace hL := hL.later hb9
  replace iS := iS.later hb9
  replace iE := iE.later hb9
  replace iU := iU.later hb9
  have t0 := Below.keeps hb9 T0.out (Nat.le_refl _)
  have t1 := Below.keeps hb9 T1.out (Nat.le_refl _)
  clear hb9 g0 g1 g2 T0 T1
  by_cases hw : wsErr g l = 0
  · obtain ⟨hi', h60, hall⟩ := wsErr_zero hw
    have hok := (isG_iff g).1 hi'
    have hcR : covR g l = covK g l l.length := by unfold covR; rw [if_pos hw]
    have hU : uncR g l = uncK g (dl g) (covK g l l.length).2 g.edges.length := by unfold uncR; rw [if_pos hw]
    obtain ⟨bb, hbb, hcv⟩ := CV.walks hok hall l.length (Nat.le_refl _)
    have HCV := Lib.hid hcv
    rw [hw]
    rw [hcR] at t0 t1 iS iE ⊢
    rw [hU] at iU ⊢
    have HOK := Lib.hid hok
    have HALL := Lib.hid hall
    have HIS := Lib.hid iS
    have HIE := Lib.hid iE
    have HIU := Lib.hid iU
    clear hw hi' hok hall hcR hU hcv iS iE iU
    have g0 := hB.g0
    have g1 := hB.g1
    have g2 := hB.g2
    go_wp2_with fail
    refine (refCov_any g l _ _ _ (hB.graph HMI.out HME.out) hL HOK.out HALL.out h60).mono ?_
    rintro e wA ⟨vS', vE', rfl, iS', iE', hbA⟩
    replace hB := hB.later hbA
    replace hL := hL.later hbA
    replace HIS := Lib.hid (HIS.out.later hbA)
    replace HIE := Lib.hid (HIE.out.later hbA)
    replace HIU := Lib.hid (HIU.out.later hbA)
    replace t0 := Below.keeps hbA t0 (Nat.le_refl _)
    replace t1 := Below.keeps hbA t1 (Nat.le_refl _)
    clear hbA g0 g1 g2
    obtain ⟨aS', cS', rfl, -, -⟩ := ints_cell iS'
    obtain ⟨aE', cE', rfl, -, -⟩ := ints_cell iE'
    have hbs : Below wA.heap.size wA (wA.alloc (Obj.cells #[.slice aS' (covK g l l.length).1.length cS', .slice aE' (covK g l l.length).2.length cE'] 57)) := (Below.refl _ _).alloc (Nat.le_refl _) _
    have u0 : (wA.alloc (Obj.cells #[.slice aS' (covK g l l.length).1.length cS', .slice aE' (covK g l l.length).2.length cE'] 57)).cell? ⟨wA.heap.size, 0, none⟩ = some (.slice aS' (covK g l l.length).1.length cS') := World.cell?_alloc_at _ _ _ _ rfl
    have u1 : (wA.alloc (Obj.cells #[.slice aS' (covK g l l.length).1.length cS', .slice aE' (covK g l l.length).2.length cE'] 57)).cell? ⟨wA.heap.size, 1, none⟩ = some (.slice aE' (covK g l l.length).2.length cE') := World.cell?_alloc_at _ _ _ _ rfl
    replace hB := hB.later hbs
    replace hL := hL.later hbs
    replace HIS := Lib.hid (HIS.out.later hbs)
    replace HIE := Lib.hid (HIE.out.later hbs)
    replace HIU := Lib.hid (HIU.out.later hbs)
    have HIS' := Lib.hid (iS'.later hbs)
    have HIE' := Lib.hid (iE'.later hbs)
    replace t0 := Below.keeps hbs t0 (Nat.le_refl _)
    replace t1 := Below.keeps hbs t1 (Nat.le_refl _)
    clear hbs iS' iE'
    go_wp2_with fail
    refine (equalInts_any _ _ _ _ _ HIS.out HIS'.out).mono ?_
    rw [decide_eq_true rfl]
    rintro e wB ⟨rfl, nB, rfl⟩
    have hd := below_drewN (Below.refl (wA.alloc (Obj.cells #[.slice aS' (covK g l l.length).1.length cS', .slice aE' (covK g l l.length).2.length cE'] 57)).heap.size (wA.alloc (Obj.cells #[.slice aS' (covK g l l.length).1.length cS', .slice aE' (covK g l l.length).2.length cE'] 57))) nB
    replace hB := hB.later hd
    replace hL := hL.later hd
    replace HIS := Lib.hid (HIS.out.later hd)
    replace HIE := Lib.hid (HIE.out.later hd)
    replace HIU := Lib.hid (HIU.out.later hd)
    replace t0 := Below.keeps hd t0 (Nat.le_refl _)
    replace t1 := Below.keeps hd t1 (Nat.le_refl _)
    replace HIE' := Lib.hid (HIE'.out.later hd)
    replace u1 := Below.keeps hd u1 (Nat.le_refl _)
    clear hd HIS' u0
    generalize (wA.alloc (Obj.cells #[.slice aS' (covK g l l.length).1.length cS', .slice aE' (covK g l l.length).2.length cE'] 57)).drewN nB = wB at *
    go_wp2_with fail
    refine (equalInts_any _ _ _ _ _ HIE.out HIE'.out).mono ?_
    rw [decide_eq_true rfl]
    rintro e wC ⟨rfl, nC, rfl⟩
    have hd := below_drewN (Below.refl wB.heap.size wB) nC
    replace hB := hB.later hd
    replace hL := hL.later hd
    replace HIS := Lib.hid (HIS.out.later hd)
    replace HIE := Lib.hid (HIE.out.later hd)
    replace HIU := Lib.hid (HIU.out.later hd)
    replace t0 := Below.keeps hd t0 (Nat.le_refl _)
    replace t1 := Below.keeps hd t1 (Nat.le_refl _)
    clear hd HIE' u1
    generalize wB.drewN nC = wC at *
    have g0 := hB.g0
    have g1 := hB.g1
    have g2 := hB.g2
    go_wp2_with fail
    refine (refUnc_any g l _ _ _ (hB.graph HMI.out HME.out) hL HOK.out HALL.out h60).mono ?_
    rintro e wD ⟨vU', rfl, iU', -, hd⟩
    replace hB := hB.later hd
    replace hL := hL.later hd
    replace HIS := Lib.hid (HIS.out.later hd)
    replace HIE := Lib.hid (HIE.out.later hd)
    replace HIU := Lib.hid (HIU.out.later hd)
    replace t0 := Below.keeps hd t0 (Nat.le_refl _)
    replace t1 := Below.keeps hd t1 (Nat.le_refl _)
    clear hd g0 g1 g2
    go_wp2_with fail
    refine (equalInts_any _ _ _ _ _ HIU.out iU').mono ?_
    rw [decide_eq_true rfl]
    rintro e wE ⟨rfl, nE, rfl⟩
    have hd := below_drewN (Below.refl wD.heap.size wD) nE
    replace hB := hB.later hd
    replace hL := hL.later hd
    replace HIS := Lib.hid (HIS.out.later hd)
    replace HIE := Lib.hid (HIE.out.later hd)
    replace HIU := Lib.hid (HIU.out.later hd)
    replace t0 := Below.keeps hd t0 (Nat.le_refl _)
    replace t1 := Below.keeps hd t1 (Nat.le_refl _)
    clear hd HIU iU'
    generalize wD.drewN nE = wE at *
    obtain ⟨aS2, cS2, eS, icS, hmS⟩ := ints_cell HIS.out
    injection eS with e1 e2 e3
    subst e1 e3
    obtain ⟨aE2, cE2, eE, icE, hmE⟩ := ints_cell HIE.out
    injection eE with e1' e2' e3'
    subst e1' e3'
    clear e2 e2' HIS HIE
    unfold maxLen at hmS hmE
    have hsS := sumK_bd _ HCV.out.p1
    have hsE := sumK_bd _ HCV.out.p2
    have hallS := sumK_all (covK g l l.length).1
    have hallE := sumK_all (covK g l l.length).2
    have s1 := HCV.out.s1
    have s2 := HCV.out.s2
    have HS := Lib.hid hsS
    have HE := Lib.hid hsE
    have HAS : Hid (sumK (covK g l l.length).1 (covK g l l.length).1.length = ((l.length + bb : Nat) : Int)) := hallS.trans s1
    have HAE : Hid (sumK (covK g l l.length).2 (covK g l l.length).2.length = (bb : Int)) := hallE.trans s2
    have HS1 := Lib.hid s1
    have HS2 := Lib.hid s2
    clear hsS hsE hallS hallE s1 s2 HCV
    generalize (covK g l l.length).1 = S at *
    generalize (covK g l l.length).2 = E at *
    go_wp2_with fail
    go_loop [11, 13] (fun v i => ∃ k : Nat, k ≤ S.length ∧ i = .int .i64 k ∧ v = .int .i64 (sumK S k)) (fun _ i => S.length - (intOf i).toNat)
    case atStart => exact ⟨0, Nat.zero_le _, rfl, by rw [sumK_zero]⟩
    case round =>
      obtain ⟨k, hk, rfl, rfl⟩ := hrel
      by_cases hlt : k < S.length
      · have hlt' : (k : Int) < (S.length : Int) := by omega
        have hk0 : (0 : Int) ≤ (k : Int) := by omega
        obtain ⟨b, o, e1, c1⟩ := icS k hlt
        subst e1
        have hx := HS.out (k + 1)
        have hy := HS.out k
        rw [HS1.out] at hx hy
        have hsu := sumK_succ hlt
        have hwr : IntKind.i64.wrap (sumK S k + gi S k) = sumK S k + gi S k := by rw [← hsu]; exact IntWalk.i64_in _ (by omega)
        have HSU := Lib.hid hsu
        clear hx hy hsu
        go_wp2
        exact ⟨⟨k + 1, by omega, by go_num, by rw [HSU.out]⟩, by simp [intOf]; omega⟩
      · have hkk : k = S.length := by omega
        subst hkk
        go_wp2_with fail
        go_loop [12, 14] (fun v i => ∃ k : Nat, k ≤ E.length ∧ i = .int .i64 k ∧ v = .int .i64 (sumK E k)) (fun _ i => E.length - (intOf i).toNat)
        case atStart => exact ⟨0, Nat.zero_le _, rfl, by rw [sumK_zero]⟩
        case round =>
          obtain ⟨k, hk, rfl, rfl⟩ := hrel
          by_cases hlt : k < E.length
          · have hlt' : (k : Int) < (E.length : Int) := by omega
            have hk0 : (0 : Int) ≤ (k : Int) := by omega
            obtain ⟨b, o, e1, c1⟩ := icE k hlt
            subst e1
            have hx := HE.out (k + 1)
            have hy := HE.out k
            rw [HS2.out] at hx hy
            have hsu := sumK_succ hlt
            have hwr : IntKind.i64.wrap (sumK E k + gi E k) = sumK E k + gi E k := by rw [← hsu]; exact IntWalk.i64_in _ (by omega)
            have HSU := Lib.hid hsu
            clear hx hy hsu
            go_wp2
            exact ⟨⟨k + 1, by omega, by go_num, by rw [HSU.out]⟩, by simp [intOf]; omega⟩
          · have hkk : k = E.length := by omega
            subst hkk
            have hwr : IntKind.i64.wrap ((l.length : Int) + (bb : Int)) = (l.length : Int) + (bb : Int) := IntWalk.i64_in _ (by omega)
            have heq : (((l.length + bb : Nat) : Int) == (l.length : Int) + (bb : Int)) = true := by simp
            have heq2 : ((l.length : Int) + (bb : Int) == (l.length : Int) + (bb : Int)) = true := by simp
            rw [HAS.out, HAE.out]
            go_wp2
            go_ret
            exact ⟨rfl, hB.bw⟩
  · have hcR : covR g l = ([], []) := by unfold covR; rw [if_neg hw]
    have hU : uncR g l = [] := by unfold uncR; rw [if_neg hw]
    have hne : (wsErr g l != 0) = true := by simpa using hw
    have heq : (wsErr g l == wsErr g l) = true := by simp
    rw [hcR] at t0 t1 iS iE ⊢
    rw [hU] at iU ⊢
    clear hw hcR hU
    simp only [List.length_nil] at t0 t1
    go_wp2
    go_ret
    exact ⟨rfl, hB.bw⟩
end Go.Proofs.Ytnijajjmcdgonaa
