import Derived.Test.YtnijajjmcdgonaaTourC
import Derived.Test.YtnijajjmcdgonaaDist
import Derived.Test.YtnijajjmcdgonaaWalkY
import Derived.Carry
namespace Go.Proofs.Ytnijajjmcdgonaa
open Go.RowKit
set_option linter.unusedVariables false
set_option linter.unusedSimpArgs false

set_option maxHeartbeats 12000000 in
set_option maxRecDepth 100000 in
theorem tourOf_any (g : G) (most : Int) (v : Value) (w : World) (hg : GraphAt w v g) (h60 : g.edges.length ≤ 60) :
    Calls Try.prog 38 #[v, .int .i64 most] w (TourPost w g most) := by
  have hg' := hg
  obtain ⟨vi, ve, rfl, hvi, ⟨ae, ce, rfl, hme, hce⟩⟩ := hg
  obtain ⟨i0, hi, hz0, hz1, hz2⟩ := info_parts infoInt
  obtain ⟨iw, hiw, hw0, hw1, hw2⟩ := info_walk
  have HG := Lib.hid hg'
  have HVI := Lib.hid hvi
  have HCE := Lib.hid hce
  have H60 := Lib.hid h60
  have hmm := @run_makeMap Try.prog
  clear hg' hvi hce h60 hme
  go_enter Try.func38, Try.ntmps38
  go_wp2_with fail
  have hb0 : Below w.heap.size w (w.alloc (Obj.cells #[.int .i64 g.n, vi, .slice ae g.edges.length ce] 34)) := (Below.refl _ _).alloc (Nat.le_refl _) _
  refine (checkGraph_any g _ _ (HG.out.later hb0)).mono ?_
  rintro e w1 ⟨rfl, hb1⟩
  have c0 : w1.cell? ⟨w.heap.size, 0, none⟩ = some (.int .i64 g.n) := Below.keeps hb1 (World.cell?_alloc_at _ _ _ _ rfl) (Nat.le_refl _)
  have c1 : w1.cell? ⟨w.heap.size, 1, none⟩ = some vi := Below.keeps hb1 (World.cell?_alloc_at _ _ _ _ rfl) (Nat.le_refl _)
  have c2 : w1.cell? ⟨w.heap.size, 2, none⟩ = some (.slice ae g.edges.length ce) := Below.keeps hb1 (World.cell?_alloc_at _ _ _ _ rfl) (Nat.le_refl _)
  have hbw := hb0.trans (hb1.mono hb0.size)
  have hsz : w.heap.size < w1.heap.size := cell_lt c0
  clear hb0 hb1
  rcases hcg : isG g with _ | _
  · have he : gErr g = 5 := by rw [gErr_isG, hcg]; rfl
    rw [he]
    have hp : TourPost w g most (.returned (.tuple #[.slice none 0 0, .int .i64 5])) w1 := ⟨.slice none 0 0, [], 5, rfl, OX.nil _ _ _, .inl ⟨hcg, rfl, rfl⟩, hbw⟩
    clear he hcg hbw hsz c0 c1 c2
    go_wp2
    exact bodyPost_ret (v := .tuple #[.slice none 0 0, .int .i64 5]) (by simp [results, Try.results38, go_sem]) rfl hp
  · have he : gErr g = 0 := by rw [gErr_isG, hcg]; rfl
    rw [he]
    have hok := (isG_iff g).1 hcg
    have HCG := Lib.hid hcg
    have HOK := Lib.hid hok
    by_cases hr : 1 ≤ most ∧ most ≤ 300
    · obtain ⟨hr1, hr2⟩ := hr
      have hd1 : decide (most < 1) = false := decide_eq_false (by omega)
      have hd2 : decide (300 < most) = false := decide_eq_false (by omega)
      clear he hcg hok
      go_wp2_with fail
      have hbM : Below w1.heap.size w1 ((w1.alloc (Obj.map #[] 0)).alloc (Obj.cells #[.map (some w1.heap.size)] 91)) := ((Below.refl _ _).alloc (Nat.le_refl _) _).alloc (by simp) _
      have hT0 : TZ w ((w1.alloc (Obj.map #[] 0)).alloc (Obj.cells #[.map (some w1.heap.size)] 91)) g vi ae ce (w1.heap.size + 1) w1.heap.size 0 (SK g 0) := by
        refine ⟨Below.keeps hbM c0 (Nat.le_refl _), Below.keeps hbM c1 (Nat.le_refl _), Below.keeps hbM c2 (Nat.le_refl _), HVI.out.later (hbw.trans (hbM.mono hbw.size)), HCE.out.later (hbw.trans (hbM.mono hbw.size)), World.cell?_alloc_at _ _ _ _ (by simp), ?_, hbw.trans (hbM.mono hbw.size), ⟨by omega, by omega⟩⟩
        rw [SK_zero]
        exact (left_made w1 _).later ((Below.refl _ _).alloc (Nat.le_refl _) _)
      refine (distancesIn_any g _ _ (HG.out.later hT0.bw) HOK.out).mono ?_
      rintro e w2 ⟨vD, rfl, oD, HDK, hb2⟩
      obtain ⟨aD, cD, rfl, icD, hmD⟩ := ints_cell (IntsAt.of_own oD)
      have hT := hT0.later hb2
      have hlD : (dl g).length = g.n.toNat := HDK.out.len
      have HLD := Lib.hid hlD
      obtain ⟨pl, hpl⟩ : ∃ pl, pl = w1.heap.size + 1 := ⟨_, rfl⟩
      obtain ⟨pm, hpm⟩ : ∃ pm, pm = w1.heap.size := ⟨_, rfl⟩
      rw [← hpl, ← hpm] at hT ⊢
      clear hlD hpl hpm hT0 hb2 hbM c0 c1 c2 hbw hsz oD hmD hmm
      clear w1
      have g2 := hT.g2
      go_wp2_with fail
      clear g2
      have HT := Lib.hid hT
      have HIC := Lib.hid icD
      clear hT icD
      go_loopw [36] (fun i wr => ∃ k : Nat, k ≤ g.edges.length ∧ i = .int .i64 k ∧ Hid (∀ j, j < k → gi (dl g) (ge g.edges j).f.toNat < most) ∧ TZ w wr g vi ae ce pl pm k (SK g k) ∧ IntsCells wr aD (dl g)) (fun i _ => g.edges.length - (intOf i).toNat)
      case atStart => exact ⟨0, Nat.zero_le _, rfl, fun j h => by omega, HT.out, HIC.out⟩
      case round =>
        clear HT HIC
        obtain ⟨k, hk, rfl, hlow, hT, hI⟩ := hrel
        by_cases hlt : k < g.edges.length
        · have hlt' : (k : Int) < (g.edges.length : Int) := by omega
          have hk0 : (0 : Int) ≤ (k : Int) := by omega
          obtain ⟨q1, q2, q3, q4⟩ := edge_in' HOK.out hlt
          obtain ⟨be, oe, ee, d0, d1, d2⟩ := hT.edges k hlt
          subst ee
          have hbE : Below wr.heap.size wr (wr.alloc (Obj.cells #[.int .i64 (ge g.edges k).f, .int .i64 (ge g.edges k).t, .int .i64 (ge g.edges k).a] 74)) := (Below.refl _ _).alloc (Nat.le_refl _) _
          have hT2 := hT.later hbE
          have hI2 := hI.later hbE
          obtain ⟨bD, oD, eD, cD'⟩ := hI2 (ge g.edges k).f.toNat (by rw [HLD.out]; omega)
          subst eD
          have q2' : (ge g.edges k).f < ((dl g).length : Int) := by rw [HLD.out]; omega
          have x0 : (wr.alloc (Obj.cells #[.int .i64 (ge g.edges k).f, .int .i64 (ge g.edges k).t, .int .i64 (ge g.edges k).a] 74)).cell? ⟨wr.heap.size, 0, none⟩ = some (.int .i64 (ge g.edges k).f) := World.cell?_alloc_at _ _ _ _ rfl
          have l0 := hT2.lc
          have HT := Lib.hid hT2
          have HI := Lib.hid hI2
          clear hT hT2 hI hI2 hbE
          by_cases hge : most ≤ gi (dl g) (ge g.edges k).f.toNat
          · have hd : decide (most ≤ gi (dl g) (ge g.edges k).f.toNat) = true := decide_eq_true hge
            have HS : Hid (TourSaid g most [] 25) := .inr (.inr (.inl ⟨HCG.out, ⟨hr1, hr2⟩, ⟨k, hlt, hge⟩, rfl, rfl⟩))
            have hbw := HT.out.bw
            have hp : Hid (TourPost w g most (.returned (.tuple #[.slice none 0 0, .int .i64 25])) (wr.alloc (Obj.cells #[.int .i64 (ge g.edges k).f, .int .i64 (ge g.edges k).t, .int .i64 (ge g.edges k).a] 74))) := ⟨.slice none 0 0, [], 25, rfl, OX.nil _ _ _, HS.out, hbw⟩
            clear hge HT HI hbw HS l0
            go_wp2
            exact bodyPost_ret (v := .tuple #[.slice none 0 0, .int .i64 25]) (by simp [results, Try.results38, go_sem]) rfl hp.out
          · have hd : decide (most ≤ gi (dl g) (ge g.edges k).f.toNat) = false := decide_eq_false hge
            have hlow2 : Hid (∀ j, j < k + 1 → gi (dl g) (ge g.edges j).f.toNat < most) := fun j hj => by
              by_cases hjk : j < k
              · exact hlow.out j hjk
              · obtain rfl : j = k := by omega
                omega
            have h4 := H60.out
            clear hge hlow
            by_cases hA : gi (dl g) (ge g.edges k).f.toNat = -1
            · have hA' : (gi (dl g) (ge g.edges k).f.toNat != -1) = false := by simpa using hA
              have HS : Hid (SK g k = SK g (k + 1)) := SK_skip hA
              clear hA
              go_wp2
              exact ⟨⟨k + 1, by omega, by go_num, hlow2, HT.out.mono (by omega) HS.out, HI.out⟩, by simp [intOf]; omega⟩
            · have hA' : (gi (dl g) (ge g.edges k).f.toNat != -1) = true := by simpa using hA
              have HS : Hid (addS (SK g k) k = SK g (k + 1)) := SK_more hlt hA
              clear hA
              go_wp2_with (at_mapUpdate; refine left_put_at rfl _ _ _ rfl rfl rfl rfl HT.out.mp (by omega) hlt (by omega) (SK_at g k) ?_)
              intro w' hL' ht'
              have hT' := HT.out.turned ht' hL'
              have hI' := HI.out.turned ht'
              clear hL' ht' HT HI x0 cD' l0 d0 d1 d2
              go_wp2
              exact ⟨⟨k + 1, by omega, by go_num, hlow2, hT'.mono (Nat.le_refl _) HS.out, hI'⟩, by simp [intOf]; omega⟩
        · have hkk : k = g.edges.length := by omega
          subst hkk
          obtain ⟨C, hC⟩ : ∃ C, C = cnt (Sof g []) g.edges.length := ⟨_, rfl⟩
          have hC60 : C ≤ 60 := by rw [hC]; exact Nat.le_trans (cnt_le _ _) H60.out
          have HC := Lib.hid hC
          have HLOW := hlow
          have HT0 := Lib.hid (hT.mono (Nat.le_refl _) (SK_all g))
          obtain ⟨B1, hB1⟩ : ∃ B1, B1 = wr.heap.size := ⟨_, rfl⟩
          have hB1s : w.heap.size < B1 ∧ B1 ≤ wr.heap.size := ⟨by rw [hB1]; exact cell_lt hT.g0, by omega⟩
          have HU1 : Hid (TU w2 g vi ae pl pm B1) := by rw [hB1]; exact ⟨hT.tu.l, hT.tu.m, hT.tu.i, hT.tu.e⟩
          have HB1 := Lib.hid hB1s
          clear hT hI hC hlow hlt hk hB1 hB1s
          have hst : ∃ l : List W3, Hid (TI g most.toNat l) ∧ OX wr B1 B1 (.slice none 0 0) l ∧ TZ w wr g vi ae ce pl pm g.edges.length (Sof g (flat l)) ∧ B1 ≤ wr.heap.size ∧ C + 1 ≥ cnt (Sof g (flat l)) g.edges.length ∧ Hid (l.length + cnt (Sof g (flat l)) g.edges.length ≤ C) := by
            refine ⟨[], TI.nil _ _, OX.nil _ _ _, HT0.out, HB1.out.2, ?_, ?_⟩
            · rw [HC.out]; show _ ≥ cnt (Sof g []) _; omega
            · rw [HC.out]; show 0 + cnt (Sof g []) _ ≤ _; omega
          clear HT0
          go_wp2_with fail
          go_loopg [12] (C + 1) (fun q vo wr => ∃ l : List W3, Hid (TI g most.toNat l) ∧ OX wr B1 B1 vo l ∧ TZ w wr g vi ae ce pl pm g.edges.length (Sof g (flat l)) ∧ B1 ≤ wr.heap.size ∧ q ≥ cnt (Sof g (flat l)) g.edges.length ∧ Hid (l.length + cnt (Sof g (flat l)) g.edges.length ≤ C))
          case atStart => exact hst
          case round =>
            clear hst
            obtain ⟨w0, e0⟩ : ∃ x, x = wr := ⟨_, rfl⟩
            subst e0
            obtain ⟨l, hTI, hO, hT, hBw, hq, hle⟩ := hrel
            obtain ⟨aO, cO, rfl⟩ := hO.form
            obtain ⟨N0, hN0⟩ : ∃ N0, cnt (Sof g (flat l)) g.edges.length = N0 := ⟨_, rfl⟩
            have hlc := hT.lc
            have HN0 := Lib.hid hN0
            have HT := Lib.hid hT
            have HT0m := Lib.hid hT.mp.isMap
            have HO := Lib.hid hO
            have HBW := Lib.hid hBw
            rw [hN0] at hq
            clear hT hO hBw hN0
            by_cases hc : N0 = 0
            · have HS : Hid (TourSaid g most l 0) := .inr (.inr (.inr ⟨HCG.out, ⟨hr1, hr2⟩, HLOW.out, rfl, ⟨hTI.out, by have := hle.out; rw [← HC.out]; omega, HN0.out.trans hc⟩⟩))
              have hO2 := Lib.hid (HO.out.low (Nat.le_of_lt HB1.out.1))
              have hbw := Lib.hid HT.out.bw
              subst hc
              go_wp2_with (at_len; refine left_len_at rfl _ rfl rfl HT.out.mp HN0.out ?_)
              exact bodyPost_ret (v := .tuple #[.slice aO l.length cO, .int .i64 0]) (by simp [results, Try.results38, go_sem]) rfl ⟨_, l, 0, rfl, hO2.out, HS.out, hbw.out⟩
            · have hpos : 0 < cnt (Sof g (flat l)) g.edges.length := by rw [HN0.out]; omega
              obtain ⟨e0, he0, hS0⟩ := cnt_pos hpos
              obtain ⟨n0, hn0, hD0⟩ := dist_of HOK.out HDK.out he0 (Sof_edge hS0).1
              have hn0m : n0 + 1 ≤ most.toNat := by have := HLOW.out e0 he0; omega
              have hpc : decide ((0 : Int) < (N0 : Int)) = true := decide_eq_true (by omega)
              have hpc2 : 0 < N0 := by omega
              have H0 : Hid (e0 < g.edges.length ∧ Sof g (flat l) e0 = true ∧ IsDist g (ge g.edges e0).f n0 ∧ n0 + 1 ≤ most.toNat) := ⟨he0, hS0, hD0, hn0m⟩
              have g0 := HT.out.g0
              have g1 := HT.out.g1
              have g2 := HT.out.g2
              clear hpos he0 hS0 hn0 hD0 hn0m hc
              go_wp2_with (at_len; refine left_len_at rfl _ rfl rfl HT.out.mp HN0.out ?_)
              clear g0 g1 g2
              refine (least_any g g.init 54 (.pointer (some ⟨pl, 0, none⟩)) (fun i _ => Sof g (flat l) i) _ _ _ (HG.out.later HT.out.bw) HT.out.ints HOK.out ?hk ?hp).mono ?_
              case hk => intro args W; rfl
              case hp => intro i s W hW; exact wantedT_any i s pl pm _ _ _ W (Below.keeps hW hlc (Nat.le_refl _)) (HT.out.mp.later hW) (by have := H60.out; omega)
              rintro e w3 ⟨f, L, b, a, c, rfl, oL, HLS, -, hb3⟩
              cases b
              · exact absurd H0.out.2.2.1 (said_none HLS.out e0 n0 H0.out.1 H0.out.2.1)
              · obtain ⟨d, hLd, hfi, hLok, hSd, hmin⟩ := said_last (Sof_m1 g _) HLS.out
                have hGW : Hid (GW g most.toNat ⟨f, L, false⟩) := ⟨hfi, hLok, by have h1 := hmin e0 n0 H0.out.1 H0.out.2.1 H0.out.2.2.1; have h2 := H0.out.2.2.2; show L.length ≤ _; omega, by show 0 < L.length; omega⟩
                have hlast : Hid (Sof g (flat l) (lastOf ⟨f, L, false⟩) = true) := by
                  have h1 : lastOf ⟨f, L, false⟩ = gi L d := by unfold lastOf; simp only; rw [hLd]; rfl
                  unfold Hid
                  rw [h1]; exact hSd
                have hbx : Below w0.heap.size w0 (w3.alloc (Obj.cells #[.int .i64 f, .slice a L.length c, .bool false] 39)) := hb3.alloc hb3.size _
                have hTx := HT.out.later hbx
                have hXx : XB (w3.alloc (Obj.cells #[.int .i64 f, .slice a L.length c, .bool false] 39)) w0.heap.size w3.heap.size f a c false L := XB.made (own_mono oL (by omega))
                have hNx : Near pm w0 (w3.alloc (Obj.cells #[.int .i64 f, .slice a L.length c, .bool false] 39)) := (Near.refl _ _).below hbx
                have hst : ∃ (L1 : List Int) (a1 : Option Addr) (c1 : Nat) (T : List Int), Hid (GW g most.toNat ⟨f, L1, false⟩) ∧ XB (w3.alloc (Obj.cells #[.int .i64 f, .slice a L.length c, .bool false] 39)) w0.heap.size w3.heap.size f a1 c1 false L1 ∧ TZ w (w3.alloc (Obj.cells #[.int .i64 f, .slice a L.length c, .bool false] 39)) g vi ae ce pl pm g.edges.length (Sof g T) ∧ Near pm w0 (w3.alloc (Obj.cells #[.int .i64 f, .slice a L.length c, .bool false] 39)) ∧ Hid (∀ i, i ∈ T → i ∈ flat l ∨ i ∈ L1) ∧ Hid (∀ i, i ∈ flat l → i ∈ T) ∧ Hid (Sof g T (lastOf ⟨f, L1, false⟩) = true) ∧ N0 + 1 ≥ cnt (Sof g T) g.edges.length + 1 ∧ cnt (Sof g T) g.edges.length ≤ N0 := by
                  refine ⟨L, a, c, flat l, hGW, hXx, hTx, hNx, fun i h => .inl h, fun i h => h, hlast, ?_, ?_⟩
                  · rw [HN0.out]; omega
                  · rw [HN0.out]; omega
                have hpx : w0.heap.size ≤ w3.heap.size := hb3.size
                clear hLd hfi hLok hSd hmin hbx hTx hXx hNx oL HLS hb3 hGW hlast H0
                go_wp2_with fail
                obtain ⟨px, ex⟩ : ∃ px, px = w3.heap.size := ⟨_, rfl⟩
                rw [← ex] at hst hpx ⊢
                clear ex
                generalize (w3.alloc (Obj.cells #[.int .i64 f, .slice a L.length c, .bool false] 39)) = w4 at *
                have HPX := Lib.hid hpx
                clear hpx
                clear w3
                go_loopg [] (N0 + 1) (fun q wr => ∃ (L : List Int) (a : Option Addr) (c : Nat) (T : List Int), Hid (GW g most.toNat ⟨f, L, false⟩) ∧ XB wr w0.heap.size px f a c false L ∧ TZ w wr g vi ae ce pl pm g.edges.length (Sof g T) ∧ Near pm w0 wr ∧ Hid (∀ i, i ∈ T → i ∈ flat l ∨ i ∈ L) ∧ Hid (∀ i, i ∈ flat l → i ∈ T) ∧ Hid (Sof g T (lastOf ⟨f, L, false⟩) = true) ∧ q ≥ cnt (Sof g T) g.edges.length + 1 ∧ cnt (Sof g T) g.edges.length ≤ N0)
                case atStart => exact hst
                case round =>
                  clear hst
                  obtain ⟨L, a, c, T, hGW, hX, hT, hN, hTl, hlT, hla, hq2, hcn⟩ := hrel
                  have hLne : 0 < L.length := hGW.out.ne
                  have hL300 : L.length ≤ 300 := by have h1 := hGW.out.le; have h2 : L.length ≤ most.toNat := h1; omega
                  obtain ⟨ba, oa, ea, -⟩ := (own_cells hX.ow).2.1 0 hLne
                  subst ea
                  have HRG : Hid (∀ k, k < L.length → 0 ≤ gi L k ∧ gi L k < g.edges.length) := steps_in _ _ (by have h1 := hGW.out.ok; have h2 : stepsErr g f L = (_, 0) := h1; rw [h2])
                  have x1 := hX.c1
                  have HX := Lib.hid hX
                  have HT := Lib.hid hT
                  have HN := Lib.hid hN
                  have HQ2 := Lib.hid hq2
                  have HCN := Lib.hid hcn
                  clear hX hT hN hq2 hcn
                  go_wp2_with fail
                  obtain ⟨w5, e5⟩ : ∃ x, x = wr := ⟨_, rfl⟩
                  subst e5
                  go_loopw [72] (fun i wx => ∃ k : Nat, k ≤ L.length ∧ i = .int .i64 k ∧ TZ w wx g vi ae ce pl pm g.edges.length (Sof g (T ++ L.take k)) ∧ XB wx w0.heap.size px f (some ⟨ba, oa, none⟩) c false L ∧ Near pm w0 wx) (fun i _ => L.length - (intOf i).toNat)
                  case atStart => exact ⟨0, Nat.zero_le _, rfl, by rw [List.take_zero, List.append_nil]; exact HT.out, HX.out, HN.out⟩
                  case round =>
                    clear HX HT HN x1
                    obtain ⟨k, hk, rfl, hT, hX, hN⟩ := hrel
                    by_cases hlt : k < L.length
                    · have hlt' : (k : Int) < (L.length : Int) := by omega
                      have hk0 : (0 : Int) ≤ (k : Int) := by omega
                      have xk := own_cell hX.ow hlt
                      obtain ⟨r0, r1⟩ := HRG.out k hlt
                      have l0 := hT.lc
                      have h4 := H60.out
                      have HS : Hid (delS (Sof g (T ++ L.take k)) (gi L k) = Sof g (T ++ L.take (k + 1))) := by
                        unfold Hid
                        have h1 : L.take (k + 1) = L.take k ++ [gi L k] := by
                          rw [List.take_succ_eq_append_getElem hlt]
                          unfold gi
                          rw [List.getElem?_eq_getElem hlt]
                          rfl
                        rw [Sof_del, h1, List.append_assoc]
                      have HT := Lib.hid hT
                      have HX := Lib.hid hX
                      have HN := Lib.hid hN
                      clear hT hX hN
                      go_wp2_with (at_delete; refine left_del_at rfl _ _ rfl rfl rfl HT.out.mp r0 r1 (by omega) ?_)
                      intro w' hL' ht'
                      rw [HS.out] at hL'
                      have hT' := HT.out.turned ht' hL'
                      have hX' := HX.out.turned ht'
                      have hN' := HN.out.turned ht'
                      clear hL' ht' HT HX HN xk l0 HS r0 r1
                      go_wp2
                      exact ⟨⟨k + 1, by omega, by go_num, hT', hX', hN'⟩, by simp [intOf]; omega⟩
                    · have hkk : k = L.length := by omega
                      subst hkk
                      rw [List.take_length] at hT
                      clear hlt hk
                      obtain ⟨T', hT'⟩ : ∃ T', T' = T ++ L := ⟨_, rfl⟩
                      rw [← hT'] at hT
                      have HT' := Lib.hid hT'
                      clear hT'
                      obtain ⟨q, hLq⟩ : ∃ q, L.length = q + 1 := ⟨L.length - 1, by omega⟩
                      obtain ⟨e, he1, he2, he3⟩ := en_gi (g := g) (f := f) (st := false) hLq (by have h1 := hGW.out.ok; have h2 : stepsErr g f L = (_, 0) := h1; rw [h2])
                      obtain ⟨r0, r1, r2, r3⟩ := edge_in' HOK.out he1
                      have HEN : Hid (en g ⟨f, L, false⟩ = (ge g.edges e).t) := he3
                      have HE2 : Hid (gi L q = (e : Int)) := he2
                      have HLQ : Hid (L.length = q + 1) := hLq
                      have HB6 : Hid (bOk ⟨g.n, [(ge g.edges e).t], g.edges⟩) := bOk_one HOK.out r2 r3
                      have hwr : IntKind.i64.wrap ((L.length : Int) - 1) = (q : Int) := by rw [IntWalk.i64_in _ (by omega)]; omega
                      have hq0 : (0 : Int) ≤ (q : Int) := by omega
                      have hq1 : (q : Int) < (L.length : Int) := by omega
                      have hee0 : (0 : Int) ≤ (e : Int) := by omega
                      have hee1 : (e : Int) < (g.edges.length : Int) := by omega
                      clear he3 hLq he2
                      go_upto_region 25 with fail
                      obtain ⟨w6, e6⟩ : ∃ x, x = wr := ⟨_, rfl⟩
                      subst e6
                      have HG6 : Hid (GraphAt w6 (.agg #[.int .i64 g.n, vi, .slice ae g.edges.length ce]) g) := HG.out.later hT.bw
                      obtain ⟨be, oe, ee, d0, d1, d2⟩ := hT.edges e he1
                      subst ee
                      have g0 := hT.g0
                      have g1 := hT.g1
                      have g2 := hT.g2
                      have l6 := hT.lc
                      have xx1 := hX.c1
                      have xq := own_cell hX.ow (k := q) (by omega)
                      rw [HE2.out] at xq
                      have h4 : g.edges.length ≤ 4000 := by have := H60.out; omega
                      have HT := Lib.hid hT
                      have HX := Lib.hid hX
                      have HN := Lib.hid hN
                      have HL6 := Lib.hid l6
                      have HMP := Lib.hid hT.mp
                      clear hT hX hN d0 d2 r0 r1 r2 r3 l6
                      go_cut [17, 18] (fun p b wx => ∃ (m2 : Nat) (f2 : Int) (L2 : List Int) (a2 : Option Addr) (c2 : Nat) (bb : Bool), p = .pointer (some ⟨m2, 0, none⟩) ∧ b = .bool bb ∧ MW w6 wx g (ge g.edges e).t (Sof g T') m2 f2 L2 a2 c2 bb)
                      case first =>
                        clear HT HX HN HQ2 HCN HRG hGW hla hlT hTl HEN HE2 HT'
                        go_region_held3 (fun w' => w'.cell? ⟨w.heap.size, 0, none⟩ = some (.int .i64 g.n) ∧ w'.cell? ⟨w.heap.size, 1, none⟩ = some vi ∧ w'.cell? ⟨w.heap.size, 2, none⟩ = some (.slice (some ⟨be, oe, none⟩) g.edges.length ce) ∧ w'.cell? ⟨px, 1, none⟩ = some (.slice (some ⟨ba, oa, none⟩) L.length c) ∧ w'.cell? ⟨ba, oa + q, none⟩ = some (.int .i64 e) ∧ w'.cell? ⟨be, oe + e * 3 + 1, none⟩ = some (.int .i64 (ge g.edges e).t) ∧ Below w6.heap.size w6 w')
                          ((refine (fun hB : Below w6.heap.size w6 _ => ⟨Below.keeps hB g0 (Nat.le_refl _), Below.keeps hB g1 (Nat.le_refl _), Below.keeps hB g2 (Nat.le_refl _), Below.keeps hB xx1 (Nat.le_refl _), Below.keeps hB xq (Nat.le_refl _), Below.keeps hB d1 (Nat.le_refl _), hB⟩) ?_; (repeat (first | with_reducible exact Below.refl _ _ | with_reducible assumption | with_reducible refine Below.drew ?_ | (with_reducible refine Below.alloc ?_ ?_ _) | (with_reducible refine Below.setCell ?_ ?_ _))); all_goals (first | exact Nat.le_refl _ | exact hbC.size | (simp; done) | (simp; omega) | (have hq := hbC.size; simp; omega))))
                          (first
                            | (go_at_call 52; (apply least_again HG6.out HB6.out HL6.out HMP.out h4; (focus ((repeat (first | with_reducible exact Below.refl _ _ | with_reducible assumption | with_reducible refine Below.drew ?_ | (with_reducible refine Below.alloc ?_ ?_ _) | (with_reducible refine Below.setCell ?_ ?_ _))); all_goals (first | exact Nat.le_refl _ | exact hbC.size | (simp; done) | (simp; omega) | (have hq := hbC.size; simp; omega)))); (focus ((repeat (first | with_reducible exact Below.refl _ _ | with_reducible refine Below.drew ?_ | (with_reducible refine Below.alloc ?_ ?_ _))); all_goals (first | exact Nat.le_refl _ | (simp; done) | (simp; omega) | (have hq := hbC.size; simp; omega)))); (focus (first | rfl | (simp; done))); intro f2 L2 bb a2 c2 wC oC HS hC hbC; (first | (apply yc_allocK (B := w6.heap.size) hC; (focus ((repeat (first | with_reducible exact Below.refl _ _ | with_reducible refine Below.drew ?_ | (with_reducible refine Below.alloc ?_ ?_ _))); all_goals (first | exact Nat.le_refl _ | (simp; done) | (simp; omega) | (have hq := hbC.size; simp; omega)))); (focus (first | exact Nat.le_refl _ | (simp; done) | (simp; omega))); intro yC; (try simp only [alloc_sizeL, drew_sizeL] at yC); have m0 := yC.c0; have m1 := yC.c1; have m2 := yC.c2; have f0 := yC.fz 0; have f1 := yC.fz 1; have f2 := yC.fz 2; have mlt := yC.lt) | skip)))
                            | fail "other")
                        all_goals (go_wp2_with fail; go_meet)
                        all_goals first
                          | exact ⟨_, _, _, _, _, _, rfl, rfl, mw_late _ oC hbC HS⟩
                          | exact ⟨_, _, _, _, _, _, rfl, rfl, mw_early yC oC hbC HS⟩
                      case rest =>
                        obtain ⟨w7, e7⟩ : ∃ x, x = wc := ⟨_, rfl⟩
                        subst e7
                        obtain ⟨m2, f2, L2, a2, c2, bb, rfl, rfl, hM⟩ := hcut
                        have hN0 := HN.out.size
                        replace HT := Lib.hid (HT.out.later hM.bw)
                        replace HX := Lib.hid (HX.out.later hM.bw)
                        replace HN := Lib.hid (HN.out.below (hM.bw.mono hN0))
                        have HM := Lib.hid hM
                        have hl2 : bb = true → L2.length ≤ 61 := fun h => by
                          subst h
                          have h1 := said_len HM.out.said
                          have h2 := H60.out
                          have h3 : L2.length ≤ g.edges.length + 1 := h1
                          omega
                        have HL2 := Lib.hid hl2
                        have HDEC : Hid (cnt (Sof g T') g.edges.length + 1 ≤ cnt (Sof g T) g.edges.length) := by
                          unfold Hid
                          rw [HT'.out]
                          refine taken_less he1 ?_ ?_
                          · have h1 := hla.out
                            have h2 : lastOf ⟨f, L, false⟩ = gi L q := by unfold lastOf; simp only; rw [HLQ.out]; rfl
                            rw [h2, HE2.out] at h1; exact h1
                          · rw [← HE2.out]; exact gi_mem' (by omega)
                        have xx1' := HX.out.c1
                        have yy1' := HM.out.c1
                        clear hM hN0 hl2 xx1 xq g0 g1 g2 d1 HL6 HMP HB6 HG6
                        go_upto_region 26 with fail
                        go_cut [111] (fun c wx => ∃ cc : Bool, c = .bool cc ∧ Hid (cc = false → bb = true ∧ L.length + L2.length ≤ most.toNat) ∧ wx = w7)
                        case first =>
                          clear HT HX HN HQ2 HCN HRG hGW hla hlT hTl HEN HE2 HT' HM HDEC
                          cases bb
                          · go_wp2_with fail
                            go_meet
                            exact ⟨true, rfl, fun h => (by cases h), rfl⟩
                          · have h61 := HL2.out rfl
                            by_cases hm : most < (L.length : Int) + (L2.length : Int)
                            · have hd : decide (most < (L.length : Int) + (L2.length : Int)) = true := decide_eq_true hm
                              clear hm
                              go_wp2_with fail
                              go_meet
                              exact ⟨true, rfl, fun h => (by cases h), rfl⟩
                            · have hd : decide (most < (L.length : Int) + (L2.length : Int)) = false := decide_eq_false hm
                              have HH : Hid (L.length + L2.length ≤ most.toNat) := by unfold Hid; omega
                              clear hm
                              go_wp2_with fail
                              go_meet
                              exact ⟨false, rfl, fun _ => ⟨(by first | exact trivial | rfl), HH.out⟩, rfl⟩
                        case rest =>
                          obtain ⟨cc, rfl, hcc, ew⟩ := hcut
                          subst ew
                          obtain ⟨w7, e7⟩ : ∃ x, x = wc := ⟨_, rfl⟩
                          subst e7
                          have h61 := HL2.out
                          cases cc
                          · obtain ⟨rfl, hle2⟩ := hcc.out rfl
                            have hS2 := said_last (Sof_m1 g T') HM.out.said
                            obtain ⟨d2, hl2, hf2, hok2, hSd2, -⟩ := hS2
                            obtain ⟨b2, o2, eb2, -⟩ := (own_cells HM.out.ow).2.1 0 (by omega)
                            subst eb2
                            have HGW' : Hid (GW g most.toNat ⟨f, L ++ L2, false⟩) := gw_on hGW.out HEN.out hf2 (by rw [hok2]) hle2
                            have HLA' : Hid (Sof g T' (lastOf ⟨f, L ++ L2, false⟩) = true) := by
                              have h1 : lastOf ⟨f, L ++ L2, false⟩ = gi L2 d2 := by
                                unfold lastOf
                                simp only [List.length_append, hl2]
                                rw [show L.length + (d2 + 1) - 1 = L.length + d2 from by omega]
                                unfold gi
                                rw [List.getElem?_append_right (by omega)]
                                congr 2
                                omega
                              unfold Hid
                              rw [h1]; exact hSd2
                            have HTL : Hid (∀ i, i ∈ T' → i ∈ flat l ∨ i ∈ L ++ L2) := fun i hi => by
                              rw [HT'.out] at hi
                              rcases List.mem_append.1 hi with h | h
                              · rcases hTl.out i h with h | h
                                · exact .inl h
                                · exact .inr (List.mem_append.2 (.inl h))
                              · exact .inr (List.mem_append.2 (.inl h))
                            have HLT : Hid (∀ i, i ∈ flat l → i ∈ T') := fun i hi => by rw [HT'.out]; exact List.mem_append.2 (.inl (hlT.out i hi))
                            have h62 := h61 rfl
                            have HHP : Hid (w0.heap.size ≤ w7.heap.size) := HN.out.size
                            have hce2 := cell_lt xx1'
                            have xxf := HX.out.fz 1
                            clear hl2 hf2 hok2 hSd2 hcc h61
                            go_wp2_with (at_builtin; refine wpList_append_own _ rfl _ _ 23 rfl w0.heap.size 3 i0 (.int .i64 0) 1 8 Try.underlying23 hi hz0 hz1 hz2 rfl (by decide) _ _ _ rfl HX.out.ow ⟨b2, o2, none⟩ L2.length c2 (L2.map (.int .i64)) rfl (by simp) ?c1 ?c2 ?c3 ?c4 ?c5 ?_)
                            case c1 =>
                              intro j u hj
                              have hjl : j < L2.length := (List.getElem?_eq_some_iff.1 hj).1
                              have h1 := own_cell HM.out.ow hjl
                              have h2 : gi L2 j = u := by unfold gi; rw [hj]; rfl
                              rw [h2] at h1
                              exact h1
                            case c2 => intro a _; rfl
                            case c3 => unfold maxLen; omega
                            case c4 => omega
                            case c5 => exact HHP.out
                            · intro v' w' hown' hgrow _
                              obtain ⟨a', c', rfl⟩ := row_form hown'
                              have ho' : ownInts w' w0.heap.size (.slice a' (L ++ L2).length c') (L ++ L2) := by
                                unfold ownInts
                                rw [List.length_append, List.map_append]
                                exact hown'
                              have hX' := HX.out.store hgrow ho' (n := L.length + L2.length) (by rw [List.length_append])
                              have hbl : Below w0.heap.size w7 (w'.setCell ⟨px, 1, none⟩ (.slice a' (L.length + L2.length) c')) := ((Below.refl _ _).grown hgrow HHP.out (fun j hj => (HX.out.ow.lt j hj).1)).setCell HPX.out _
                              have hT' := HT.out.under (HU1.out.mono (Nat.le_trans (by have := HBW.out; omega) (Nat.le_refl w0.heap.size))) hbl (by have := HB1.out.1; have := HBW.out; omega)
                              have hN' := HN.out.below hbl
                              have hgb : w'.heap[px]? = w7.heap[px]? := hgrow.block px HX.out.lt (fun e => row_not HX.out.ow HX.out.hp (by decide) e.symm)
                              have z1 := (World.cell?_of_block (a := ⟨px, 1, none⟩) hgb).trans xx1'
                              have zf := (World.frozen?_of_block (a := ⟨px, 1, none⟩) hgb).trans xxf
                              have HX2 := Lib.hid hX'
                              have HT2 := Lib.hid hT'
                              have HN2 := Lib.hid hN'
                              clear hown' hgrow ho' hX' hbl hT' hN' hgb HX HT HN HM xx1' yy1' xxf
                              have hq9 := HQ2.out
                              have hq8 := HDEC.out
                              have hq7 := HCN.out
                              clear HDEC
                              go_wp2_with fail
                              go_roundg (cnt (Sof g T') g.edges.length + 1)
                              case measure => omega
                              case rel => exact ⟨L ++ L2, a', c', T', HGW', HX2.out, HT2.out, HN2.out, HTL, HLT, HLA', Nat.le_refl _, by omega⟩
                          · have c0 := HX.out.c0
                            have c2 := HX.out.c2
                            have hlt0 := hle.out
                            have hbY : Below w7.heap.size w7 (w7.alloc (Obj.cells #[.int .i64 f, .slice (some ⟨ba, oa, none⟩) L.length c, .bool false] 39)) := (Below.refl _ _).alloc (Nat.le_refl _) _
                            have hO2 := OX.near HN.out HT0m.out HO.out
                            obtain ⟨xs, hx1, hx2⟩ := (hO2.later hbY).row
                            have HX2 := Lib.hid hx2
                            have hXY := HX.out.later hbY
                            have HOWY : Hid (ownInts (w7.alloc (Obj.cells #[.int .i64 f, .slice (some ⟨ba, oa, none⟩) L.length c, .bool false] 39)) B1 (.slice (some ⟨ba, oa, none⟩) L.length c) L) := own_mono hXY.ow HBW.out
                            have hTY := HT.out.later hbY
                            rw [HT'.out, taken_flat (f := f) hTl.out hlT.out] at hTY
                            have HTY := Lib.hid hTY
                            have hcd := HDEC.out
                            rw [HT'.out, taken_flat (f := f) hTl.out hlT.out] at hcd
                            have HCD := Lib.hid hcd
                            have hl1 := hle.out
                            rw [HN0.out] at hl1
                            have hl59 : l.length ≤ 59 := by omega
                            have HL1 := Lib.hid hl1
                            have HTI : Hid (TI g most.toNat (l ++ [⟨f, L, false⟩])) := TI.more hTI.out hGW.out (by
                              obtain ⟨e', -, -, -, h⟩ := Sof_iff.1 hla.out
                              exact fun h2 => h (hlT.out _ h2))
                            have HB17 : Hid (B1 ≤ w7.heap.size) := Nat.le_trans HBW.out HN.out.size
                            clear hbY hx2 hXY hO2 hTY hcd hl1 hTI hGW hla hlT hTl HDEC HT' HN HT HM hcc h61 HL2 xx1' yy1'
                            have c1 := HX.out.c1
                            go_wp2_with (at_builtin; refine wpList_append_own _ rfl _ _ 52 rfl B1 39 iw (.agg #[.int .i64 0, .slice none 0 0, .bool false]) 3 40 Try.underlying52 hiw hw0 hw1 hw2 rfl (by decide) _ _ _ rfl hx1 ⟨w7.heap.size, 0, none⟩ 1 1 [.int .i64 f, .slice (some ⟨ba, oa, none⟩) L.length c, .bool false] rfl rfl ?c1 ?c2 ?c3 ?c4 ?c5 ?_)
                            case c1 =>
                              intro q u hq
                              match q, hq with
                              | 0, hq => simp at hq; subst hq; simp [Addr.add]
                              | 1, hq => simp at hq; subst hq; simp [Addr.add]
                              | 2, hq => simp at hq; subst hq; simp [Addr.add]
                            case c2 => intro u hu; simp at hu; rcases hu with rfl | rfl | rfl <;> rfl
                            case c3 => unfold maxLen; omega
                            case c4 => omega
                            case c5 => have := HB17.out; simp; omega
                            · intro v' w' hown' hgrow _
                              have hO3 : OX w' B1 B1 v' (l ++ [⟨f, L, false⟩]) := OX.more (x := ⟨f, L, false⟩) (a := some ⟨ba, oa, none⟩) (c := c) hx1 HX2.out HOWY.out hgrow hown'
                              have hbl : Below B1 (w7.alloc (Obj.cells #[.int .i64 f, .slice (some ⟨ba, oa, none⟩) L.length c, .bool false] 39)) w' := (Below.refl _ _).grown hgrow (by have := HB17.out; simp; omega) (fun j hj => (hx1.lt j hj).1)
                              have HT3 := Lib.hid (HTY.out.under HU1.out hbl HB1.out.1)
                              have HB3 : Hid (B1 ≤ w'.heap.size) := by have h1 := hbl.size; have h2 := HB17.out; simp at h1; unfold Hid; omega
                              have HO3 := Lib.hid hO3
                              obtain ⟨a', c', rfl⟩ := row_form hown'
                              clear hown' hgrow hO3 hbl hx1 HX2 HOWY HTY c0 c1 c2 HX HB17
                              have hq7 := HCN.out
                              have hq8 := HCD.out
                              clear HCN HCD
                              have hsz : decide ((60 : Int) < (l.length : Int) + 1) = false := decide_eq_false (by omega)
                              go_wp2_with fail
                              go_roundg (cnt (Sof g (flat (l ++ [⟨f, L, false⟩]))) g.edges.length)
                              case measure => omega
                              case rel => exact ⟨_, HTI, HO3.out, HT3.out, HB3.out, Nat.le_refl _, by have := HL1.out; unfold Hid; rw [List.length_append]; show l.length + 1 + _ ≤ _; omega⟩
    · have HS : Hid (TourSaid g most [] 3) := .inr (.inl ⟨hcg, hr, rfl, rfl⟩)
      have hp : Hid (TourPost w g most (.returned (.tuple #[.slice none 0 0, .int .i64 3])) w1) := ⟨.slice none 0 0, [], 3, rfl, OX.nil _ _ _, HS.out, hbw⟩
      clear he hcg hok hbw hsz c0 c1 c2
      by_cases h0 : most < 1
      · have hd1 : decide (most < 1) = true := decide_eq_true h0
        clear hr h0
        go_wp2
        exact bodyPost_ret (v := .tuple #[.slice none 0 0, .int .i64 3]) (by simp [results, Try.results38, go_sem]) rfl hp.out
      · have hd1 : decide (most < 1) = false := decide_eq_false h0
        have hd2 : decide (300 < most) = true := decide_eq_true (by omega)
        clear hr h0
        go_wp2
        exact bodyPost_ret (v := .tuple #[.slice none 0 0, .int .i64 3]) (by simp [results, Try.results38, go_sem]) rfl hp.out
end Go.Proofs.Ytnijajjmcdgonaa
