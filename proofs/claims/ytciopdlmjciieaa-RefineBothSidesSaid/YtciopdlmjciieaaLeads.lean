import Derived.Test.YtciopdlmjciieaaAwk
import Derived.Test.YtciopdlmjciieaaRefQ
import Derived.Test.YtciopdlmjciieaaOwnP
import Derived.Test.YtciopdlmjciieaaIsSim
namespace Go.Proofs.Ytciopdlmjciieaa
open Go.RowKit
set_option linter.unusedVariables false

theorem init_nodup {g : G} (h : ∀ k, k < g.init.length → initOk g k) : g.init.Nodup := by
  rw [List.nodup_iff_pairwise_ne, List.pairwise_iff_getElem]
  intro i j hi hj hij e
  have asc : ∀ d i, i + d < g.init.length → 0 < d → gi g.init i < gi g.init (i + d) := by
    intro d
    induction d with
    | zero => intro i h1 h2; omega
    | succ d ih =>
      intro i h1 h2
      have h3 : gi g.init (i + d) < gi g.init (i + d + 1) := (h (i + d + 1) (by omega)).2.2 (by omega)
      rcases Nat.eq_zero_or_pos d with h4 | h4
      · subst h4; exact h3
      · have := ih i (by omega) h4
        rw [show i + (d + 1) = i + d + 1 by omega]
        omega
  have := asc (j - i) i (by omega) (by omega)
  rw [show i + (j - i) = j by omega] at this
  unfold gi at this
  rw [List.getElem?_eq_getElem hi, List.getElem?_eq_getElem hj] at this
  simp only [Option.getD_some] at this
  omega
theorem init_le40 {g : G} (h : ∀ k, k < g.init.length → initOk g k) (h0 : 0 ≤ g.n) (h1 : g.n ≤ 40) : g.init.length ≤ 40 := by
  have := nodup_le g.n.toNat g.init (fun v hv => by have := initOk_mem h v hv; omega) (init_nodup h)
  omega
/-- What RefineLeads keeps in memory. -/
structure LV (w wr : World) (p : P2) (m l : List Int) (i1 e1 i2 e2 l1 l2 am al : Option Addr) (c1 d1 c2 d2 k1 k2 cm cl : Nat) : Prop where
  b : PB w wr p i1 e1 i2 e2 l1 l2 c1 d1 c2 d2 k1 k2
  m : IntsAt wr (.slice am m.length cm) m
  l : IntsAt wr (.slice al l.length cl) l
theorem LV.later {w wr w' : World} {p : P2} {m l : List Int} {i1 e1 i2 e2 l1 l2 am al : Option Addr} {c1 d1 c2 d2 k1 k2 cm cl : Nat} (h : LV w wr p m l i1 e1 i2 e2 l1 l2 am al c1 d1 c2 d2 k1 k2 cm cl) (hb : Below wr.heap.size wr w') : LV w w' p m l i1 e1 i2 e2 l1 l2 am al c1 d1 c2 d2 k1 k2 cm cl :=
  ⟨h.b.later hb, h.m.later hb, h.l.later hb⟩

set_option maxHeartbeats 8000000 in
set_option maxRecDepth 100000 in
theorem leads_walk (p : P2) (m l : List Int) (v vm vl : Value) (w : World) (hv : PairV w v p) (hm : IntsAt w vm m) (hl : IntsAt w vl l) :
    Calls Try.prog 4 #[v, vm, vl] w fun e w' => e = .returned (.bool true) ∧ Below w.heap.size w w' := by
  obtain ⟨i1, e1, i2, e2, l1, l2, c1, d1, c2, d2, k1, k2, rfl, hR⟩ := hv.open
  obtain ⟨am, cm, rfl⟩ : ∃ a c, vm = .slice a m.length c := by obtain ⟨a, c, rfl, -, -⟩ := hm; exact ⟨a, c, rfl⟩
  obtain ⟨al, cl, rfl⟩ : ∃ a c, vl = .slice a l.length c := by obtain ⟨a, c, rfl, -, -⟩ := hl; exact ⟨a, c, rfl⟩
  have HR := Lib.hid hR; have HM := Lib.hid hm; have HL := Lib.hid hl
  clear hR hv hm hl
  go_enter Try.func4, Try.ntmps4
  go_upto_region 1 with (fail)
  have hB := PB.made HR.out 27
  have HC : Hid (LV w (w.alloc (Obj.cells (pCells p i1 e1 i2 e2 l1 l2 c1 d1 c2 d2 k1 k2) 27)) p m l i1 e1 i2 e2 l1 l2 am al c1 d1 c2 d2 k1 k2 cm cl) := ⟨hB, HM.out.later hB.bw, HL.out.later hB.bw⟩
  clear HR HM HL hB
  generalize w.alloc _ = wb at *
  go_wp2_with fail
  refine (awake_true _).mono ?_
  rintro e wa ⟨rfl, hba⟩
  replace HC := Lib.hid (HC.out.later hba)
  clear hba
  have b0 := HC.out.b.b0; have b1 := HC.out.b.b1; have b2 := HC.out.b.b2; have b3 := HC.out.b.b3; have b4 := HC.out.b.b4; have b5 := HC.out.b.b5; have b6 := HC.out.b.b6; have b7 := HC.out.b.b7
  go_wp2_with fail
  refine (few_any p _ _ HC.out.b.r.val).mono ?_
  rintro e wc ⟨x, rfl, hbc⟩
  replace HC := Lib.hid (HC.out.later hbc)
  clear hbc b0 b1 b2 b3 b4 b5 b6 b7
  cases x with
  | false =>
    go_wp2
    go_ret
    exact ⟨rfl, HC.out.b.bw⟩
  | true =>
    by_cases h20 : (20 : Int) < (l.length : Int)
    · go_wp2
      go_ret
      exact ⟨rfl, HC.out.b.bw⟩
    have HL20 : Hid (l.length ≤ 100000) := by unfold Hid; omega
    have b0 := HC.out.b.b0; have b1 := HC.out.b.b1; have b2 := HC.out.b.b2; have b3 := HC.out.b.b3; have b4 := HC.out.b.b4; have b5 := HC.out.b.b5; have b6 := HC.out.b.b6; have b7 := HC.out.b.b7
    go_wp2_with fail
    refine (pairErr_any p _ _ HC.out.b.r.val).mono ?_
    rintro e wd ⟨r, rfl, hrr, hbd⟩
    replace HC := Lib.hid (HC.out.later hbd)
    clear hbd b0 b1 b2 b3 b4 b5 b6 b7
    by_cases hr0 : r = 0
    rotate_left
    · have q0 : (r != 0) = true := by simpa using hr0
      clear hr0 hrr
      go_wp2
      go_ret
      exact ⟨rfl, HC.out.b.bw⟩
    subst hr0
    have HPF := Lib.hid (hrr.out rfl)
    clear hrr
    have HLE : Hid (p.lo.init.length ≤ 100000 ∧ p.lo.edges.length ≤ 100000 ∧ p.up.init.length ≤ 100000 ∧ p.up.edges.length ≤ 100000 ∧ p.ll.length ≤ 100000 ∧ p.ul.length ≤ 100000) := by
      have hp := HPF.out
      have h1 := init_le40 hp.lo.2.2.1 hp.lo.1 hp.l40
      have h2 := init_le40 hp.up.2.2.1 hp.up.1 hp.u40
      have h3 := hp.lo.2.1; have h4 := hp.up.2.1; have h5 := hp.ll; have h6 := hp.ul; have h7 := hp.l40; have h8 := hp.u40
      exact ⟨by omega, by omega, by omega, by omega, by omega, by omega⟩
    obtain ⟨N1, hN1⟩ : ∃ N1 : Nat, p.lo.n = N1 := ⟨p.lo.n.toNat, by have := HPF.out.lo.1; omega⟩
    obtain ⟨N2, hN2⟩ : ∃ N2 : Nat, p.up.n = N2 := ⟨p.up.n.toNat, by have := HPF.out.up.1; omega⟩
    have HN1 := Lib.hid hN1; have HN2 := Lib.hid hN2
    clear hN1 hN2
    have b0 := HC.out.b.b0; have b1 := HC.out.b.b1; have b2 := HC.out.b.b2; have b3 := HC.out.b.b3; have b4 := HC.out.b.b4; have b5 := HC.out.b.b5; have b6 := HC.out.b.b6; have b7 := HC.out.b.b7
    go_wp2_with fail
    refine (own_any p _ _ HC.out.b.r.val HLE.out.1 HLE.out.2.1 HLE.out.2.2.1 HLE.out.2.2.2.1 HLE.out.2.2.2.2.1 HLE.out.2.2.2.2.2).mono ?_
    rintro e we ⟨ve, rfl, hve, hbe⟩
    replace HC := Lib.hid (HC.out.later hbe)
    have HV := Lib.hid hve
    clear hbe hve b0 b1 b2 b3 b4 b5 b6 b7
    go_wp2_with fail
    refine (isSim_any p _ _ HV.out HPF.out N1 N2 HN1.out HN2.out).mono ?_
    rintro e wf ⟨R, S, b, x, rfl, hFS, hbf⟩
    replace HC := Lib.hid (HC.out.later hbf)
    have HF := Lib.hid hFS.out.1; have HS := Lib.hid hFS.out.2
    clear hbf HV hFS
    by_cases h45 : (m.length : Int) ≤ 45
    rotate_left
    · go_upto_region 12 with (fail)
      cases b with
      | false =>
        go_wp2
        go_ret
        exact ⟨rfl, HC.out.b.bw⟩
      | true =>
        have b0 := HC.out.b.b0; have b1 := HC.out.b.b1; have b2 := HC.out.b.b2; have b3 := HC.out.b.b3; have b4 := HC.out.b.b4; have b5 := HC.out.b.b5; have b6 := HC.out.b.b6; have b7 := HC.out.b.b7
        go_wp2_with fail
        refine (pathErr_any p l _ _ _ HC.out.b.r.val HC.out.l HPF.out).mono ?_
        rintro e wX ⟨r, rfl, hrr, hbX⟩
        have HC2 := Lib.hid (HC.out.later hbX)
        clear HC hbX b0 b1 b2 b3 b4 b5 b6 b7
        by_cases hr0 : r = 0
        · subst hr0
          have HPO := Lib.hid (hrr.out rfl)
          have b0 := HC2.out.b.b0; have b1 := HC2.out.b.b1; have b2 := HC2.out.b.b2; have b3 := HC2.out.b.b3; have b4 := HC2.out.b.b4; have b5 := HC2.out.b.b5; have b6 := HC2.out.b.b6; have b7 := HC2.out.b.b7
          clear hrr
          go_wp2_with fail
          refine (own_any p _ _ HC2.out.b.r.val HLE.out.1 HLE.out.2.1 HLE.out.2.2.1 HLE.out.2.2.2.1 HLE.out.2.2.2.2.1 HLE.out.2.2.2.2.2).mono ?_
          rintro e wY ⟨vY, rfl, hvY, hbY⟩
          have HC3 := Lib.hid (HC2.out.later hbY)
          have HY := Lib.hid hvY
          clear HC2 hbY hvY b0 b1 b2 b3 b4 b5 b6 b7
          go_wp2_with fail
          refine (ownInts_any l _ _ HC3.out.l HL20.out).mono ?_
          rintro e wZ ⟨vZ, rfl, hoZ, hbZ⟩
          have HC4 := Lib.hid (HC3.out.later hbZ)
          have HY2 := Lib.hid (HY.out.later hbZ)
          have HZ := Lib.hid (IntsAt.of_own hoZ)
          clear HC3 hbZ HY hoZ
          go_wp2_with fail
          refine (upper_any p _ _ l _ HY2.out HZ.out HPF.out HPO.out N1 N2 HN1.out HN2.out).mono ?_
          rintro e wU ⟨xu, err, q, rfl, hq, hu, hbU⟩
          obtain ⟨rfl, hql⟩ : err = 0 ∧ q.length = l.length := by
            have hb : ∀ s ∈ p.lo.init, ∃ u ∈ p.up.init, gi (R s.toNat) u.toNat = -1 := by
              rcases HS.out with ⟨-, h⟩ | ⟨h, -⟩
              · exact h
              · cases h
            obtain ⟨q', h1, h2⟩ := path_up HPF.out.toPairOk HN2.out HF.out hb HPO.out
            rcases hu.out with ⟨h3, h4⟩ | ⟨-, -, h4⟩
            · rw [h1] at h4; injection h4 with h4; subst h4; exact ⟨h3, h2⟩
            · rw [h1] at h4; cases h4
          obtain ⟨aq, cq, rfl, -, -⟩ := hq
          have HBW : Hid (Below w.heap.size w wU) := (HC4.out.later hbU).b.bw
          rw [hql]
          clear hu hbU hql HC4 HY2 HZ
          go_wp2
          go_ret
          exact ⟨by simp, HBW.out⟩
        · have q0 : (r != 0) = true := by simpa using hr0
          clear hr0 hrr
          go_wp2
          go_ret
          exact ⟨rfl, HC2.out.b.bw⟩
    have b0 := HC.out.b.b0; have b1 := HC.out.b.b1; have b2 := HC.out.b.b2; have b3 := HC.out.b.b3; have b4 := HC.out.b.b4; have b5 := HC.out.b.b5; have b6 := HC.out.b.b6; have b7 := HC.out.b.b7
    have HM45 : Hid (m.length ≤ 100000) := by unfold Hid; omega
    go_wp2_with fail
    refine (formErr_any p m _ _ _ HC.out.b.r.val HC.out.m HPF.out).mono ?_
    rintro e wg ⟨r, rfl, hrr, hbg⟩
    replace HC := Lib.hid (HC.out.later hbg)
    clear hbg b0 b1 b2 b3 b4 b5 b6 b7
    by_cases hr0 : r = 0
    rotate_left
    · have q0 : (r == 0) = false := by simpa using hr0
      clear hr0 hrr
      go_upto_region 12 with (fail)
      cases b with
      | false =>
        go_wp2
        go_ret
        exact ⟨rfl, HC.out.b.bw⟩
      | true =>
        have b0 := HC.out.b.b0; have b1 := HC.out.b.b1; have b2 := HC.out.b.b2; have b3 := HC.out.b.b3; have b4 := HC.out.b.b4; have b5 := HC.out.b.b5; have b6 := HC.out.b.b6; have b7 := HC.out.b.b7
        go_wp2_with fail
        refine (pathErr_any p l _ _ _ HC.out.b.r.val HC.out.l HPF.out).mono ?_
        rintro e wX ⟨r, rfl, hrr, hbX⟩
        have HC2 := Lib.hid (HC.out.later hbX)
        clear HC hbX b0 b1 b2 b3 b4 b5 b6 b7
        by_cases hr0 : r = 0
        · subst hr0
          have HPO := Lib.hid (hrr.out rfl)
          have b0 := HC2.out.b.b0; have b1 := HC2.out.b.b1; have b2 := HC2.out.b.b2; have b3 := HC2.out.b.b3; have b4 := HC2.out.b.b4; have b5 := HC2.out.b.b5; have b6 := HC2.out.b.b6; have b7 := HC2.out.b.b7
          clear hrr
          go_wp2_with fail
          refine (own_any p _ _ HC2.out.b.r.val HLE.out.1 HLE.out.2.1 HLE.out.2.2.1 HLE.out.2.2.2.1 HLE.out.2.2.2.2.1 HLE.out.2.2.2.2.2).mono ?_
          rintro e wY ⟨vY, rfl, hvY, hbY⟩
          have HC3 := Lib.hid (HC2.out.later hbY)
          have HY := Lib.hid hvY
          clear HC2 hbY hvY b0 b1 b2 b3 b4 b5 b6 b7
          go_wp2_with fail
          refine (ownInts_any l _ _ HC3.out.l HL20.out).mono ?_
          rintro e wZ ⟨vZ, rfl, hoZ, hbZ⟩
          have HC4 := Lib.hid (HC3.out.later hbZ)
          have HY2 := Lib.hid (HY.out.later hbZ)
          have HZ := Lib.hid (IntsAt.of_own hoZ)
          clear HC3 hbZ HY hoZ
          go_wp2_with fail
          refine (upper_any p _ _ l _ HY2.out HZ.out HPF.out HPO.out N1 N2 HN1.out HN2.out).mono ?_
          rintro e wU ⟨xu, err, q, rfl, hq, hu, hbU⟩
          obtain ⟨rfl, hql⟩ : err = 0 ∧ q.length = l.length := by
            have hb : ∀ s ∈ p.lo.init, ∃ u ∈ p.up.init, gi (R s.toNat) u.toNat = -1 := by
              rcases HS.out with ⟨-, h⟩ | ⟨h, -⟩
              · exact h
              · cases h
            obtain ⟨q', h1, h2⟩ := path_up HPF.out.toPairOk HN2.out HF.out hb HPO.out
            rcases hu.out with ⟨h3, h4⟩ | ⟨-, -, h4⟩
            · rw [h1] at h4; injection h4 with h4; subst h4; exact ⟨h3, h2⟩
            · rw [h1] at h4; cases h4
          obtain ⟨aq, cq, rfl, -, -⟩ := hq
          have HBW : Hid (Below w.heap.size w wU) := (HC4.out.later hbU).b.bw
          rw [hql]
          clear hu hbU hql HC4 HY2 HZ
          go_wp2
          go_ret
          exact ⟨by simp, HBW.out⟩
        · have q0 : (r != 0) = true := by simpa using hr0
          clear hr0 hrr
          go_wp2
          go_ret
          exact ⟨rfl, HC2.out.b.bw⟩
    subst hr0
    have HFO := Lib.hid (hrr.out rfl)
    clear hrr
    have b0 := HC.out.b.b0; have b1 := HC.out.b.b1; have b2 := HC.out.b.b2; have b3 := HC.out.b.b3; have b4 := HC.out.b.b4; have b5 := HC.out.b.b5; have b6 := HC.out.b.b6; have b7 := HC.out.b.b7
    go_wp2_with fail
    refine (own_any p _ _ HC.out.b.r.val HLE.out.1 HLE.out.2.1 HLE.out.2.2.1 HLE.out.2.2.2.1 HLE.out.2.2.2.2.1 HLE.out.2.2.2.2.2).mono ?_
    rintro e wh ⟨vh, rfl, hvh, hbh⟩
    replace HC := Lib.hid (HC.out.later hbh)
    have HV := Lib.hid hvh
    clear hbh hvh b0 b1 b2 b3 b4 b5 b6 b7
    go_wp2_with fail
    refine (ownInts_any m _ _ HC.out.m HM45.out).mono ?_
    rintro e wi ⟨vi, rfl, hoi, hbi⟩
    replace HC := Lib.hid (HC.out.later hbi)
    replace HV := Lib.hid (HV.out.later hbi)
    have HI := Lib.hid (IntsAt.of_own hoi)
    clear hoi hbi
    go_wp2_with fail
    refine (checkM_any p m _ _ _ HV.out HI.out HPF.out HFO.out N1 N2 HN1.out HN2.out).mono ?_
    rintro e wj ⟨k, a, err, pa, ap, cp, i, rfl, hi, hsaid, -, hbj⟩
    replace HC := Lib.hid (HC.out.later hbj)
    clear hbj HV HI
    have HC' : Hid (LV w (wj.alloc (Obj.cells #[.int .i64 k, .int .i64 a, .slice ap pa.length cp] 49)) p m l i1 e1 i2 e2 l1 l2 am al c1 d1 c2 d2 k1 k2 cm cl) := HC.out.later (below_alloc _ _)
    clear HC
    have hE : err = 0 ∧ b = true ∨ (err == 0) = false := by
      rcases hsaid with ⟨h1, h2⟩ | ⟨h1, -⟩ | ⟨h1, -⟩
      · refine .inl ⟨h1, ?_⟩
        rcases HS.out with ⟨h, -⟩ | ⟨-, s, hs, hn⟩
        · exact h
        · obtain ⟨u, hu, h3⟩ := map_sim HPF.out.toPairOk HN1.out HN2.out (init_nodup HPF.out.lo.2.2.1) HF.out HFO.out hi h2 s hs
          exact absurd h3 (hn u hu)
      · exact .inr (by rw [h1]; rfl)
      · exact .inr (by rw [h1]; rfl)
    clear hsaid hi
    go_upto_region 10 with (fail)
    generalize wj.alloc (Obj.cells #[.int .i64 k, .int .i64 a, .slice ap pa.length cp] 49) = wk at *
    have HC := HC'
    clear HC'
    rcases hE with ⟨rfl, rfl⟩ | hE
    · have hbt : (true : Bool) = true := rfl
      clear hbt
      go_upto_region 12 with (fail)
      have b0 := HC.out.b.b0; have b1 := HC.out.b.b1; have b2 := HC.out.b.b2; have b3 := HC.out.b.b3; have b4 := HC.out.b.b4; have b5 := HC.out.b.b5; have b6 := HC.out.b.b6; have b7 := HC.out.b.b7
      go_wp2_with fail
      refine (pathErr_any p l _ _ _ HC.out.b.r.val HC.out.l HPF.out).mono ?_
      rintro e wX ⟨r, rfl, hrr, hbX⟩
      have HC2 := Lib.hid (HC.out.later hbX)
      clear HC hbX b0 b1 b2 b3 b4 b5 b6 b7
      by_cases hr0 : r = 0
      · subst hr0
        have HPO := Lib.hid (hrr.out rfl)
        have b0 := HC2.out.b.b0; have b1 := HC2.out.b.b1; have b2 := HC2.out.b.b2; have b3 := HC2.out.b.b3; have b4 := HC2.out.b.b4; have b5 := HC2.out.b.b5; have b6 := HC2.out.b.b6; have b7 := HC2.out.b.b7
        clear hrr
        go_wp2_with fail
        refine (own_any p _ _ HC2.out.b.r.val HLE.out.1 HLE.out.2.1 HLE.out.2.2.1 HLE.out.2.2.2.1 HLE.out.2.2.2.2.1 HLE.out.2.2.2.2.2).mono ?_
        rintro e wY ⟨vY, rfl, hvY, hbY⟩
        have HC3 := Lib.hid (HC2.out.later hbY)
        have HY := Lib.hid hvY
        clear HC2 hbY hvY b0 b1 b2 b3 b4 b5 b6 b7
        go_wp2_with fail
        refine (ownInts_any l _ _ HC3.out.l HL20.out).mono ?_
        rintro e wZ ⟨vZ, rfl, hoZ, hbZ⟩
        have HC4 := Lib.hid (HC3.out.later hbZ)
        have HY2 := Lib.hid (HY.out.later hbZ)
        have HZ := Lib.hid (IntsAt.of_own hoZ)
        clear HC3 hbZ HY hoZ
        go_wp2_with fail
        refine (upper_any p _ _ l _ HY2.out HZ.out HPF.out HPO.out N1 N2 HN1.out HN2.out).mono ?_
        rintro e wU ⟨xu, err, q, rfl, hq, hu, hbU⟩
        obtain ⟨rfl, hql⟩ : err = 0 ∧ q.length = l.length := by
          have hb : ∀ s ∈ p.lo.init, ∃ u ∈ p.up.init, gi (R s.toNat) u.toNat = -1 := by
            rcases HS.out with ⟨-, h⟩ | ⟨h, -⟩
            · exact h
            · cases h
          obtain ⟨q', h1, h2⟩ := path_up HPF.out.toPairOk HN2.out HF.out hb HPO.out
          rcases hu.out with ⟨h3, h4⟩ | ⟨-, -, h4⟩
          · rw [h1] at h4; injection h4 with h4; subst h4; exact ⟨h3, h2⟩
          · rw [h1] at h4; cases h4
        obtain ⟨aq, cq, rfl, -, -⟩ := hq
        have HBW : Hid (Below w.heap.size w wU) := (HC4.out.later hbU).b.bw
        rw [hql]
        clear hu hbU hql HC4 HY2 HZ
        go_wp2
        go_ret
        exact ⟨by simp, HBW.out⟩
      · have q0 : (r != 0) = true := by simpa using hr0
        clear hr0 hrr
        go_wp2
        go_ret
        exact ⟨rfl, HC2.out.b.bw⟩
    · go_upto_region 12 with (fail)
      cases b with
      | false =>
        go_wp2
        go_ret
        exact ⟨rfl, HC.out.b.bw⟩
      | true =>
        have b0 := HC.out.b.b0; have b1 := HC.out.b.b1; have b2 := HC.out.b.b2; have b3 := HC.out.b.b3; have b4 := HC.out.b.b4; have b5 := HC.out.b.b5; have b6 := HC.out.b.b6; have b7 := HC.out.b.b7
        go_wp2_with fail
        refine (pathErr_any p l _ _ _ HC.out.b.r.val HC.out.l HPF.out).mono ?_
        rintro e wX ⟨r, rfl, hrr, hbX⟩
        have HC2 := Lib.hid (HC.out.later hbX)
        clear HC hbX b0 b1 b2 b3 b4 b5 b6 b7
        by_cases hr0 : r = 0
        · subst hr0
          have HPO := Lib.hid (hrr.out rfl)
          have b0 := HC2.out.b.b0; have b1 := HC2.out.b.b1; have b2 := HC2.out.b.b2; have b3 := HC2.out.b.b3; have b4 := HC2.out.b.b4; have b5 := HC2.out.b.b5; have b6 := HC2.out.b.b6; have b7 := HC2.out.b.b7
          clear hrr
          go_wp2_with fail
          refine (own_any p _ _ HC2.out.b.r.val HLE.out.1 HLE.out.2.1 HLE.out.2.2.1 HLE.out.2.2.2.1 HLE.out.2.2.2.2.1 HLE.out.2.2.2.2.2).mono ?_
          rintro e wY ⟨vY, rfl, hvY, hbY⟩
          have HC3 := Lib.hid (HC2.out.later hbY)
          have HY := Lib.hid hvY
          clear HC2 hbY hvY b0 b1 b2 b3 b4 b5 b6 b7
          go_wp2_with fail
          refine (ownInts_any l _ _ HC3.out.l HL20.out).mono ?_
          rintro e wZ ⟨vZ, rfl, hoZ, hbZ⟩
          have HC4 := Lib.hid (HC3.out.later hbZ)
          have HY2 := Lib.hid (HY.out.later hbZ)
          have HZ := Lib.hid (IntsAt.of_own hoZ)
          clear HC3 hbZ HY hoZ
          go_wp2_with fail
          refine (upper_any p _ _ l _ HY2.out HZ.out HPF.out HPO.out N1 N2 HN1.out HN2.out).mono ?_
          rintro e wU ⟨xu, err, q, rfl, hq, hu, hbU⟩
          obtain ⟨rfl, hql⟩ : err = 0 ∧ q.length = l.length := by
            have hb : ∀ s ∈ p.lo.init, ∃ u ∈ p.up.init, gi (R s.toNat) u.toNat = -1 := by
              rcases HS.out with ⟨-, h⟩ | ⟨h, -⟩
              · exact h
              · cases h
            obtain ⟨q', h1, h2⟩ := path_up HPF.out.toPairOk HN2.out HF.out hb HPO.out
            rcases hu.out with ⟨h3, h4⟩ | ⟨-, -, h4⟩
            · rw [h1] at h4; injection h4 with h4; subst h4; exact ⟨h3, h2⟩
            · rw [h1] at h4; cases h4
          obtain ⟨aq, cq, rfl, -, -⟩ := hq
          have HBW : Hid (Below w.heap.size w wU) := (HC4.out.later hbU).b.bw
          rw [hql]
          clear hu hbU hql HC4 HY2 HZ
          go_wp2
          go_ret
          exact ⟨by simp, HBW.out⟩
        · have q0 : (r != 0) = true := by simpa using hr0
          clear hr0 hrr
          go_wp2
          go_ret
          exact ⟨rfl, HC2.out.b.bw⟩
end Go.Proofs.Ytciopdlmjciieaa
