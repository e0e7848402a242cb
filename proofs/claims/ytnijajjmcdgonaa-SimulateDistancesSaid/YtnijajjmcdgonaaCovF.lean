import Derived.Test.YtnijajjmcdgonaaCovE
import Derived.Test.YtnijajjmcdgonaaWalkY
namespace Go.Proofs.Ytnijajjmcdgonaa
open Go.RowKit
set_option linter.unusedVariables false

set_option maxHeartbeats 4000000 in
set_option maxRecDepth 100000 in
theorem uncIn_any (g : G) (l : List W3) (vg vl : Value) (w : World) (hg : GraphAt w vg g) (hl : WalksAt w vl l) :
    Calls Try.prog 30 #[vg, vl] w fun e w' => ∃ v, e = .returned (.tuple #[v, .int .i64 (wsErr g l)]) ∧ IntsAt w' v (uncR g l) ∧ Below w.heap.size w w' := by
  have hg' := hg
  obtain ⟨vi, ve, rfl, hvi, ⟨ae, ce, rfl, hme, hce⟩⟩ := hg
  obtain ⟨i0, hi, hz0, hz1, hz2⟩ := info_parts infoInt
  have HG := Lib.hid hg'
  have HL := Lib.hid hl
  clear hg' hl hvi
  unfold maxLen at hme
  go_enter Try.func30, Try.ntmps30
  go_wp2_with fail
  have hb0 : Below w.heap.size w (w.alloc (Obj.cells #[.int .i64 g.n, vi, .slice ae g.edges.length ce] 34)) := (Below.refl _ _).alloc (Nat.le_refl _) _
  have g0 : (w.alloc (Obj.cells #[.int .i64 g.n, vi, .slice ae g.edges.length ce] 34)).cell? ⟨w.heap.size, 0, none⟩ = some (.int .i64 g.n) := World.cell?_alloc_at _ _ _ _ rfl
  have g1 : (w.alloc (Obj.cells #[.int .i64 g.n, vi, .slice ae g.edges.length ce] 34)).cell? ⟨w.heap.size, 1, none⟩ = some vi := World.cell?_alloc_at _ _ _ _ rfl
  have g2 : (w.alloc (Obj.cells #[.int .i64 g.n, vi, .slice ae g.edges.length ce] 34)).cell? ⟨w.heap.size, 2, none⟩ = some (.slice ae g.edges.length ce) := World.cell?_alloc_at _ _ _ _ rfl
  generalize (w.alloc (Obj.cells #[.int .i64 g.n, vi, .slice ae g.edges.length ce] 34)) = w0 at *
  refine (covOf_any g l _ _ _ (HG.out.later hb0) (HL.out.later hb0)).mono ?_
  rintro e w2 ⟨vS, vE, rfl, iS, iE, hb2⟩
  replace g0 := Below.keeps hb2 g0 (Nat.le_refl _)
  replace g1 := Below.keeps hb2 g1 (Nat.le_refl _)
  replace g2 := Below.keeps hb2 g2 (Nat.le_refl _)
  replace hb0 := hb0.trans (hb2.mono hb0.size)
  obtain ⟨aS, cS, rfl, -, -⟩ := ints_cell iS
  obtain ⟨aE, cE, rfl, icE, hmE⟩ := ints_cell iE
  clear iS iE hb2 w0 hmE
  have hb3 : Below w2.heap.size w2 (w2.alloc (Obj.cells #[.slice aS (covR g l).1.length cS, .slice aE (covR g l).2.length cE] 57)) := (Below.refl _ _).alloc (Nat.le_refl _) _
  have t1 : (w2.alloc (Obj.cells #[.slice aS (covR g l).1.length cS, .slice aE (covR g l).2.length cE] 57)).cell? ⟨w2.heap.size, 1, none⟩ = some (.slice aE (covR g l).2.length cE) := World.cell?_alloc_at _ _ _ _ rfl
  by_cases hw : wsErr g l = 0
  · obtain ⟨hi', h60, hall⟩ := wsErr_zero hw
    have hok := (isG_iff g).1 hi'
    have HW := Lib.hid hw
    have HU : Hid (uncR g l = uncK g (dl g) (covK g l l.length).2 g.edges.length) := by unfold Hid uncR; rw [if_pos hw]
    have hcR : covR g l = covK g l l.length := by unfold covR; rw [if_pos hw]
    rw [hcR] at t1 hb3 icE ⊢
    have HOK := Lib.hid hok
    have HALL := Lib.hid hall
    have hel : g.edges.length ≤ 2000 := hok.2.2.2.1
    rw [hw]
    clear hw hi' hall hok hcR
    have g0' := Below.keeps hb3 g0 (Nat.le_refl _)
    have g1' := Below.keeps hb3 g1 (Nat.le_refl _)
    have g2' := Below.keeps hb3 g2 (Nat.le_refl _)
    have hb4 := hb0.trans (hb3.mono hb0.size)
    have icE' := icE.later hb3
    clear hb0 hb3 icE g0 g1 g2
    go_wp2_with fail
    refine (distancesIn_any g _ _ (HG.out.later hb4) HOK.out).mono ?_
    rintro e w3 ⟨vD, rfl, oD, HDK, hb5⟩
    obtain ⟨aD, cD, rfl, icD, hmD⟩ := ints_cell (IntsAt.of_own oD)
    have G2 := Lib.hid (Below.keeps hb5 g2' (Nat.le_refl _))
    have T1 := Lib.hid (Below.keeps hb5 t1 (Nat.le_refl _))
    have IE := Lib.hid (icE'.later hb5)
    have ID := Lib.hid icD
    have HB0 := Lib.hid (hb4.trans (hb5.mono hb4.size))
    have hlD : (dl g).length = g.n.toNat := HDK.out.len
    have hlE : (covK g l l.length).2.length = g.edges.length := by obtain ⟨b, -, h⟩ := CV.walks HOK.out HALL.out l.length (Nat.le_refl _); exact h.l2
    have HLD := Lib.hid hlD
    have HLE := Lib.hid hlE
    clear hlD hlE hb4 hb5 icE' icD oD hmD g0' g1' g2' t1
    have g2 := G2.out
    go_wp2_with fail
    clear g2
    have hO : ownInts w3 w3.heap.size (.slice none 0 0) (uncK g (dl g) (covK g l l.length).2 0) := World.ownsRow_nil _ _ _ _
    go_loopw [9, 26] (fun vo i wr => ∃ k : Nat, k ≤ g.edges.length ∧ i = .int .i64 k ∧ ownInts wr w3.heap.size vo (uncK g (dl g) (covK g l l.length).2 k) ∧ Below w3.heap.size w3 wr) (fun _ i _ => g.edges.length - (intOf i).toNat)
    case atStart => exact ⟨0, Nat.zero_le _, rfl, hO, Below.refl _ _⟩
    case round =>
      clear hO
      obtain ⟨k, hk, rfl, hO, hb⟩ := hrel
      by_cases hlt : k < g.edges.length
      · have hlt' : (k : Int) < (g.edges.length : Int) := by omega
        have hk0 : (0 : Int) ≤ (k : Int) := by omega
        obtain ⟨q1, q2, q3, q4⟩ := edge_in' HOK.out hlt
        obtain ⟨b, o, e1, c1, c2, c3⟩ := (hce.later (HB0.out.trans (hb.mono HB0.out.size))) k hlt
        subst e1
        have hbA : Below w3.heap.size w3 (wr.alloc (Obj.cells #[.int .i64 (ge g.edges k).f, .int .i64 (ge g.edges k).t, .int .i64 (ge g.edges k).a] 74)) := hb.alloc hb.size _
        have hOA := hO.alloc (Obj.cells #[.int .i64 (ge g.edges k).f, .int .i64 (ge g.edges k).t, .int .i64 (ge g.edges k).a] 74)
        have t1 := Below.keeps hbA T1.out (Nat.le_refl _)
        obtain ⟨bD, oD, eD, cD'⟩ := ID.out.later hbA (ge g.edges k).f.toNat (by rw [HLD.out]; omega)
        subst eD
        obtain ⟨bE, oE, eE, cE'⟩ := IE.out.later hbA k (by rw [HLE.out]; omega)
        subst eE
        have q2' : (ge g.edges k).f < ((dl g).length : Int) := by rw [HLD.out]; omega
        have hkE : (k : Int) < ((covK g l l.length).2.length : Int) := by rw [HLE.out]; omega
        have hun := uncK_len g (dl g) (covK g l l.length).2 k
        have x0 : (wr.alloc (Obj.cells #[.int .i64 (ge g.edges k).f, .int .i64 (ge g.edges k).t, .int .i64 (ge g.edges k).a] 74)).cell? ⟨wr.heap.size, 0, none⟩ = some (.int .i64 (ge g.edges k).f) := World.cell?_alloc_at _ _ _ _ rfl
        clear hO hb
        by_cases hA : gi (dl g) (ge g.edges k).f.toNat = -1
        · have hS : Hid (uncK g (dl g) (covK g l l.length).2 (k + 1) = uncK g (dl g) (covK g l l.length).2 k) := by unfold Hid; rw [uncK, if_neg (fun h => h.1 hA)]
          have hA' : (gi (dl g) (ge g.edges k).f.toNat != -1) = false := by simpa using hA
          clear hA
          go_wp2
          exact ⟨⟨k + 1, by omega, by go_num, by rw [hS.out]; exact hOA, hbA⟩, by simp [intOf]; omega⟩
        · have hA' : (gi (dl g) (ge g.edges k).f.toNat != -1) = true := by simpa using hA
          by_cases hB : gi (covK g l l.length).2 k = 0
          · have hS : Hid (uncK g (dl g) (covK g l l.length).2 (k + 1) = uncK g (dl g) (covK g l l.length).2 k ++ [(k : Int)]) := by unfold Hid; rw [uncK, if_pos ⟨hA, hB⟩]
            have hB' : (gi (covK g l l.length).2 k == 0) = true := by simpa using hB
            clear hA hB
            have HO := Lib.hid hOA
            have HB := Lib.hid hbA
            clear hOA hbA
            go_wp2_with (at_builtin; refine wpList_append_own _ rfl _ _ 23 rfl w3.heap.size 3 i0 (.int .i64 0) 1 8 Try.underlying23 hi hz0 hz1 hz2 rfl (by decide) _ _ _ rfl (HO.out.alloc _) ⟨wr.heap.size + 1, 0, none⟩ 1 1 [.int .i64 (k : Int)] rfl rfl ?c1 ?c2 ?c3 ?c4 ?c5 ?_)
            case c1 =>
              intro j u hj
              match j, hj with
              | 0, hj => simp at hj; subst hj; simp only [Addr.add]; exact World.cell?_alloc_at _ _ _ _ (by simp)
            case c2 => intro u hu; simp at hu; subst hu; rfl
            case c3 => unfold maxLen; omega
            case c4 => omega
            case c5 => have := HB.out.size; simp at this ⊢; omega
            · intro v' w' hown' hgrow _
              have hb' : Below w3.heap.size w3 w' := (HB.out.alloc HB.out.size _).grown hgrow (by have := HB.out.size; simp at this ⊢; omega) (fun j hj => (HO.out.lt j hj).1)
              have hO' : ownInts w' w3.heap.size v' (uncK g (dl g) (covK g l l.length).2 (k + 1)) := by rw [hS.out]; simpa [ownInts] using hown'
              clear hown' hgrow HO HB t1 c1 c2 c3 cD' cE' x0
              go_wp2
              exact ⟨⟨k + 1, by omega, by go_num, hO', hb'⟩, by simp [intOf]; omega⟩
          · have hS : Hid (uncK g (dl g) (covK g l l.length).2 (k + 1) = uncK g (dl g) (covK g l l.length).2 k) := by unfold Hid; rw [uncK, if_neg (fun h => hB h.2)]
            have hB' : (gi (covK g l l.length).2 k == 0) = false := by simpa using hB
            clear hA hB
            go_wp2
            exact ⟨⟨k + 1, by omega, by go_num, by rw [hS.out]; exact hOA, hbA⟩, by simp [intOf]; omega⟩
      · have hkk : k = g.edges.length := by omega
        subst hkk
        have iO := IntsAt.of_own hO
        have bw := HB0.out.trans (hb.mono HB0.out.size)
        clear hO
        go_wp2
        go_ret2
        exact ⟨_, by rw [HW.out]; rfl, by rw [HU.out]; exact iO, bw⟩
  · have hne : (wsErr g l != 0) = true := by simpa using hw
    have HU : Hid (uncR g l = []) := by unfold Hid uncR; rw [if_neg hw]
    have hb4 := hb0.trans (hb3.mono hb0.size)
    clear hw hb3 hb0 t1 icE
    go_wp2
    go_ret2
    exact ⟨_, rfl, by rw [HU.out]; exact ⟨none, 0, rfl, Nat.zero_le _, fun j hj => by simp at hj⟩, hb4⟩

set_option maxHeartbeats 4000000 in
set_option maxRecDepth 100000 in
theorem walksErr_any (g : G) (l : List W3) (vg vl : Value) (w : World) (hg : GraphAt w vg g) (hl : WalksAt w vl l) :
    Calls Try.prog 31 #[vg, vl] w fun e w' => e = .returned (.int .i64 (wsErr g l)) ∧ Below w.heap.size w w' := by
  have hg' := hg
  obtain ⟨vi, ve, rfl, hvi, ⟨ae, ce, rfl, hme, hce⟩⟩ := hg
  obtain ⟨aL, cL, rfl, hmL, hcL⟩ := hl
  have HG := Lib.hid hg'
  have HCL := Lib.hid hcL
  unfold maxLen at hmL
  clear hg' hcL hvi hme hce
  go_enter Try.func31, Try.ntmps31
  go_wp2_with fail
  have hb0 : Below w.heap.size w (w.alloc (Obj.cells #[.int .i64 g.n, vi, .slice ae g.edges.length ce] 34)) := (Below.refl _ _).alloc (Nat.le_refl _) _
  have g0 : (w.alloc (Obj.cells #[.int .i64 g.n, vi, .slice ae g.edges.length ce] 34)).cell? ⟨w.heap.size, 0, none⟩ = some (.int .i64 g.n) := World.cell?_alloc_at _ _ _ _ rfl
  have g1 : (w.alloc (Obj.cells #[.int .i64 g.n, vi, .slice ae g.edges.length ce] 34)).cell? ⟨w.heap.size, 1, none⟩ = some vi := World.cell?_alloc_at _ _ _ _ rfl
  have g2 : (w.alloc (Obj.cells #[.int .i64 g.n, vi, .slice ae g.edges.length ce] 34)).cell? ⟨w.heap.size, 2, none⟩ = some (.slice ae g.edges.length ce) := World.cell?_alloc_at _ _ _ _ rfl
  generalize (w.alloc (Obj.cells #[.int .i64 g.n, vi, .slice ae g.edges.length ce] 34)) = w0 at *
  refine (isGraph_any g _ _ (HG.out.later hb0)).mono ?_
  rintro e w1 ⟨rfl, hb1⟩
  have G0 := Lib.hid (Below.keeps hb1 g0 (Nat.le_refl _))
  have G1 := Lib.hid (Below.keeps hb1 g1 (Nat.le_refl _))
  have G2 := Lib.hid (Below.keeps hb1 g2 (Nat.le_refl _))
  have HB0 := Lib.hid (hb0.trans (hb1.mono hb0.size))
  clear hb0 hb1 g0 g1 g2 w0
  cases hi' : isG g
  · have HW : Hid (wsErr g l = 5) := by unfold Hid wsErr; rw [if_neg (by simp [hi'])]
    clear hi'
    go_wp2
    go_ret
    exact ⟨by rw [HW.out]; rfl, HB0.out⟩
  have HI := Lib.hid hi'
  clear hi'
  by_cases h60 : 60 < l.length
  · have HW : Hid (wsErr g l = 2) := by unfold Hid wsErr; rw [if_pos HI.out, if_pos h60]
    have hd : decide ((60 : Int) < (l.length : Int)) = true := decide_eq_true (by omega)
    go_wp2
    go_ret
    exact ⟨by rw [HW.out]; rfl, HB0.out⟩
  have hd : decide ((60 : Int) < (l.length : Int)) = false := decide_eq_false (by omega)
  go_wp2_with fail
  clear hd
  have hnil : Hid (∀ j, j < 0 → (ckW g (gw l j).first (gw l j).steps).2 = 0) := fun j hj => by omega
  go_loopw [5] (fun i wr => ∃ k : Nat, k ≤ l.length ∧ i = .int .i64 k ∧ Hid (∀ j, j < k → (ckW g (gw l j).first (gw l j).steps).2 = 0) ∧ Below w1.heap.size w1 wr) (fun i _ => l.length - (intOf i).toNat)
  case atStart => exact ⟨0, Nat.zero_le _, rfl, hnil, Below.refl _ _⟩
  case round =>
    clear hnil
    obtain ⟨k, hk, rfl, HALL, hb⟩ := hrel
    have bw := HB0.out.trans (hb.mono HB0.out.size)
    by_cases hlt : k < l.length
    · have hlt' : (k : Int) < (l.length : Int) := by omega
      have hk0 : (0 : Int) ≤ (k : Int) := by omega
      obtain ⟨bL, oL, aw, cs, eL, d0, d1, d2, hml, hcs⟩ := HCL.out.later bw k hlt
      subst eL
      have g0 := Below.keeps hb G0.out (Nat.le_refl _)
      have g1 := Below.keeps hb G1.out (Nat.le_refl _)
      have g2 := Below.keeps hb G2.out (Nat.le_refl _)
      have HX : Hid (WalkAt wr (.agg #[.int .i64 (gw l k).first, .slice aw (gw l k).steps.length cs, .bool (gw l k).stuck]) (gw l k)) := ⟨_, rfl, _, _, rfl, hml, hcs⟩
      have HGW := Lib.hid (HG.out.later bw)
      have HB := Lib.hid hb
      clear hcs hb bw
      have hckA : ckA g (gw l k) = ckW g (gw l k).first (gw l k).steps := by unfold ckA; rw [if_pos HI.out]
      have HCK := Lib.hid hckA
      clear hckA
      go_wp2_with fail
      go_region_held3 (fun w' => w'.cell? ⟨w.heap.size, 0, none⟩ = some (.int .i64 g.n) ∧ w'.cell? ⟨w.heap.size, 1, none⟩ = some vi ∧ w'.cell? ⟨w.heap.size, 2, none⟩ = some (.slice ae g.edges.length ce) ∧ w'.cell? ⟨bL, oL + k * 3, none⟩ = some (.int .i64 (gw l k).first) ∧ w'.cell? ⟨bL, oL + k * 3 + 1, none⟩ = some (.slice aw (gw l k).steps.length cs) ∧ w'.cell? ⟨bL, oL + k * 3 + 2, none⟩ = some (.bool (gw l k).stuck) ∧ Below wr.heap.size wr w')
        ((refine (fun hB : Below wr.heap.size wr _ => ⟨Below.keeps hB g0 (Nat.le_refl _), Below.keeps hB g1 (Nat.le_refl _), Below.keeps hB g2 (Nat.le_refl _), Below.keeps hB d0 (Nat.le_refl _), Below.keeps hB d1 (Nat.le_refl _), Below.keeps hB d2 (Nat.le_refl _), hB⟩) ?_; (repeat (first | with_reducible exact Below.refl _ _ | with_reducible assumption | with_reducible refine Below.drew ?_))))
        (first
          | (go_at_call 27; refine (refCheck_any g (gw l k) _ _ _ (HGW.out.later (Below.refl _ _).drew) (HX.out.later (Below.refl _ _).drew)).mono ?_; rintro e wA ⟨rfl, hA⟩; have hbA : Below wr.heap.size wr wA := Below.trans (b := wr.drew) (Below.refl _ _).drew hA))
      rw [HCK.out]
      have hb' := HB.out.trans (hbA.mono HB.out.size)
      clear hA hbA HB g0 g1 g2 d0 d1 d2 HX HGW
      by_cases hce0 : (ckW g (gw l k).first (gw l k).steps).2 = 0
      · have HALL2 : Hid (∀ j, j < k + 1 → (ckW g (gw l j).first (gw l j).steps).2 = 0) := fun j hj => by
          by_cases hjk : j < k
          · exact HALL.out j hjk
          · obtain rfl : j = k := by omega
            exact hce0
        rw [hce0]
        clear hce0
        go_wp2
        exact ⟨⟨k + 1, by omega, by go_num, HALL2, hb'⟩, by simp [intOf]; omega⟩
      · have hne : ((ckW g (gw l k).first (gw l k).steps).2 != 0) = true := by simpa using hce0
        have HW : Hid (wsErr g l = (ckW g (gw l k).first (gw l k).steps).2) := by unfold Hid wsErr; rw [if_pos HI.out, if_neg h60]; exact firstErr_at g l k hlt HALL.out hce0
        have bw := HB0.out.trans (hb'.mono HB0.out.size)
        clear hce0
        go_wp2
        go_ret
        exact ⟨by rw [HW.out]; rfl, bw⟩
    · have hkk : k = l.length := by omega
      subst hkk
      have HW : Hid (wsErr g l = 0) := by unfold Hid wsErr; rw [if_pos HI.out, if_neg h60]; exact firstErr_none g l HALL.out
      go_wp2
      go_ret
      exact ⟨by rw [HW.out]; rfl, bw⟩
end Go.Proofs.Ytnijajjmcdgonaa
