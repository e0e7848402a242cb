import Derived.Test.YtciopdlmjciieaaLeads
import Derived.Test.YtciopdlmjciieaaChkD
import Derived.Test.YtciopdlmjciieaaOwnL
namespace Go.Proofs.Ytciopdlmjciieaa
open Go.RowKit
set_option linter.unusedVariables false
set_option linter.unusedSimpArgs false

theorem mCells_one : ∀ l, ∀ u ∈ mCells l, u.oneCell' = true
  | [], u, h => by cases h
  | e :: r, u, h => by
    simp only [mCells, List.mem_cons] at h
    rcases h with rfl | rfl | rfl | rfl | h
    · rfl
    · rfl
    · rfl
    · rfl
    · exact mCells_one r u h
theorem moves_any {w : World} {A : Option Addr} {l : List Mv} (h : MovesC w A l) (j : Nat) (u : Value) (hj : (mCells l)[j]? = some u) : ∃ ad, A = some ad ∧ w.cell? (ad.add j) = some u := by
  have hlt : j < l.length * 4 := by
    have := (List.getElem?_eq_some_iff.1 hj).1
    rwa [mCells_len] at this
  have hq : j / 4 < l.length := by omega
  obtain ⟨b, off, e, c0, c1, c2, c3⟩ := h (j / 4) _ (List.getElem?_eq_getElem hq)
  subst e
  refine ⟨_, rfl, ?_⟩
  obtain ⟨a0, a1, a2, a3⟩ := mCells_at l (j / 4) _ (List.getElem?_eq_getElem hq)
  have hadd : ∀ k, (⟨b, off, none⟩ : Addr).add k = ⟨b, off + k, none⟩ := fun k => by
    by_cases hk : k = 0
    · subst hk; simp [Addr.add]
    · simp [Addr.add, hk]
  rw [hadd]
  have h3 : j = j / 4 * 4 ∨ j = j / 4 * 4 + 1 ∨ j = j / 4 * 4 + 2 ∨ j = j / 4 * 4 + 3 := by omega
  rcases h3 with h3 | h3 | h3 | h3
  · rw [h3] at hj ⊢; rw [a0] at hj; injection hj with hj; subst hj; exact c0
  · rw [h3] at hj ⊢; rw [a1] at hj; injection hj with hj; subst hj; exact c1
  · rw [h3] at hj ⊢; rw [a2] at hj; injection hj with hj; subst hj; exact c2
  · rw [h3] at hj ⊢; rw [a3] at hj; injection hj with hj; subst hj; exact c3

/-- What RefineBothSides keeps in memory, and the two lists. -/
structure BV (w wr : World) (p : P2) (L : List (List Int)) (M : List Mv) (al am i1 e1 i2 e2 l1 l2 : Option Addr) (c1 d1 c2 d2 k1 k2 : Nat) : Prop where
  b : PB w wr p i1 e1 i2 e2 l1 l2 c1 d1 c2 d2 k1 k2
  l : RowsC wr al L
  m : MovesC wr am M
theorem BV.later {w wr w' : World} {p : P2} {L : List (List Int)} {M : List Mv} {al am i1 e1 i2 e2 l1 l2 : Option Addr} {c1 d1 c2 d2 k1 k2 : Nat} (h : BV w wr p L M al am i1 e1 i2 e2 l1 l2 c1 d1 c2 d2 k1 k2) (hb : Below wr.heap.size wr w') : BV w w' p L M al am i1 e1 i2 e2 l1 l2 c1 d1 c2 d2 k1 k2 :=
  ⟨h.b.later hb, h.l.later hb, h.m.later hb⟩

set_option maxHeartbeats 8000000 in
set_option maxRecDepth 100000 in
theorem both_walk (p : P2) (v : Value) (w : World) (hv : PairV w v p) :
    Calls Try.prog 3 #[v] w fun e w' => e = .returned (.bool true) ∧ Below w.heap.size w w' := by
  obtain ⟨i0, hi, hz0, hz1, hz2⟩ := info_parts infoMove
  obtain ⟨i1, e1, i2, e2, l1, l2, c1, d1, c2, d2, k1, k2, rfl, hR⟩ := hv.open
  have HR := Lib.hid hR
  clear hR hv
  go_enter Try.func3, Try.ntmps3
  go_upto_region 1 with (fail)
  have HC := Lib.hid (PB.made HR.out 27)
  clear HR
  generalize w.alloc _ = wb at *
  go_wp2_with fail
  refine (awake_true _).mono ?_
  rintro e wa ⟨rfl, hba⟩
  replace HC := Lib.hid (HC.out.later hba)
  clear hba
  have b0 := HC.out.b0; have b1 := HC.out.b1; have b2 := HC.out.b2; have b3 := HC.out.b3; have b4 := HC.out.b4; have b5 := HC.out.b5; have b6 := HC.out.b6; have b7 := HC.out.b7
  go_wp2_with fail
  refine (few_any p _ _ HC.out.r.val).mono ?_
  rintro e wc ⟨x, rfl, hbc⟩
  replace HC := Lib.hid (HC.out.later hbc)
  clear hbc b0 b1 b2 b3 b4 b5 b6 b7
  cases x with
  | false =>
    go_wp2
    go_ret
    exact ⟨rfl, HC.out.bw⟩
  | true =>
    have b0 := HC.out.b0; have b1 := HC.out.b1; have b2 := HC.out.b2; have b3 := HC.out.b3; have b4 := HC.out.b4; have b5 := HC.out.b5; have b6 := HC.out.b6; have b7 := HC.out.b7
    go_wp2_with fail
    refine (pairErr_any p _ _ HC.out.r.val).mono ?_
    rintro e wd ⟨r, rfl, hrr, hbd⟩
    replace HC := Lib.hid (HC.out.later hbd)
    clear hbd b0 b1 b2 b3 b4 b5 b6 b7
    by_cases hr0 : r = 0
    rotate_left
    · have q0 : (r != 0) = true := by simpa using hr0
      clear hr0 hrr
      go_wp2
      go_ret
      exact ⟨rfl, HC.out.bw⟩
    subst hr0
    have HPF := Lib.hid (hrr.out rfl)
    clear hrr
    have HLE : Hid (p.lo.init.length ≤ 100000 ∧ p.lo.edges.length ≤ 100000 ∧ p.up.init.length ≤ 100000 ∧ p.up.edges.length ≤ 100000 ∧ p.ll.length ≤ 100000 ∧ p.ul.length ≤ 100000) := by
      have hp := HPF.out
      have h1 := init_le40 hp.lo.2.2.1 hp.lo.1 hp.l40
      have h2 := init_le40 hp.up.2.2.1 hp.up.1 hp.u40
      have h3 := hp.lo.2.1; have h4 := hp.up.2.1; have h5 := hp.ll; have h6 := hp.ul; have h7 := hp.l40; have h8 := hp.u40
      exact ⟨by omega, by omega, by omega, by omega, by omega, by omega⟩
    obtain ⟨N1, hN1⟩ : ∃ N1 : Nat, p.lo.n = N1 := ⟨p.lo.n.toNat, by have := HPF.out.lo.1; omega⟩
    obtain ⟨N2, hN2⟩ : ∃ N2 : Nat, p.up.n = N2 := ⟨p.up.n.toNat, by have := HPF.out.up.1; omega⟩
    have HN1 := Lib.hid hN1; have HN2 := Lib.hid hN2
    clear hN1 hN2
    have b0 := HC.out.b0; have b1 := HC.out.b1; have b2 := HC.out.b2; have b3 := HC.out.b3; have b4 := HC.out.b4; have b5 := HC.out.b5; have b6 := HC.out.b6; have b7 := HC.out.b7
    go_wp2_with fail
    refine (own_any p _ _ HC.out.r.val HLE.out.1 HLE.out.2.1 HLE.out.2.2.1 HLE.out.2.2.2.1 HLE.out.2.2.2.2.1 HLE.out.2.2.2.2.2).mono ?_
    rintro e we ⟨ve, rfl, hve, hbe⟩
    replace HC := Lib.hid (HC.out.later hbe)
    have HV := Lib.hid hve
    clear hbe hve b0 b1 b2 b3 b4 b5 b6 b7
    go_wp2_with fail
    refine (simOf_any p _ _ HV.out HPF.out N1 N2 HN1.out HN2.out).mono ?_
    rintro e wf ⟨R, S, xl, rfl, hF1, hrows, hbf⟩
    replace HC := Lib.hid (HC.out.later hbf)
    have HF := hF1
    have HRW := Lib.hid hrows
    clear hbf HV hrows hF1
    have b0 := HC.out.b0; have b1 := HC.out.b1; have b2 := HC.out.b2; have b3 := HC.out.b3; have b4 := HC.out.b4; have b5 := HC.out.b5; have b6 := HC.out.b6; have b7 := HC.out.b7
    go_wp2_with fail
    refine (own_any p _ _ HC.out.r.val HLE.out.1 HLE.out.2.1 HLE.out.2.2.1 HLE.out.2.2.2.1 HLE.out.2.2.2.2.1 HLE.out.2.2.2.2.2).mono ?_
    rintro e wg ⟨vg, rfl, hvg, hbg⟩
    replace HC := Lib.hid (HC.out.later hbg)
    replace HRW := Lib.hid (HRW.out.later hbg)
    have HV := Lib.hid hvg
    clear hbg hvg b0 b1 b2 b3 b4 b5 b6 b7
    go_wp2_with fail
    refine (ranksOf_any p _ _ HV.out HPF.out N1 N2 HN1.out HN2.out).mono ?_
    rintro e wh ⟨R', S', xr, rfl, hF2, hmv, hbh⟩
    obtain ⟨rfl, rfl⟩ := FinR.same HF.out hF2.out
    replace HC := Lib.hid (HC.out.later hbh)
    replace HRW := Lib.hid (HRW.out.later hbh)
    have H2 := Lib.hid (FinR.two HPF.out.toPairOk HN1.out HN2.out HF.out)
    have HSO := Lib.hid (sim_ok HPF.out.toPairOk HN1.out HN2.out H2.out)
    have HRO := Lib.hid (rk_ok HPF.out.toPairOk HN1.out HN2.out H2.out)
    have HLN := Lib.hid (lists_len R S N2 N1)
    have HDJ : Hid (∀ x ∈ simL R N2 N1, ∀ y ∈ rkL R S N2 N1, x.length = 2 ∧ ¬ (gi x 0 = y.low ∧ gi x 1 = y.up)) := fun x hx y hy => by
      obtain ⟨s, u, -, -, h1, rfl⟩ := mem_simL.1 hx
      obtain ⟨s', u', -, -, h2, rfl⟩ := mem_rkL.1 hy
      refine ⟨rfl, ?_⟩
      rintro ⟨h3, h4⟩
      have e1 : s = s' := by have : (s : Int) = (s' : Int) := h3; omega
      have e2 : u = u' := by have : (u : Int) = (u' : Int) := h4; omega
      subst e1 e2
      exact h2 h1
    have HNE : Hid (∀ l ∈ simL R N2 N1, l ≠ [] ∧ l.length ≤ 1000) := fun l hl => by
      obtain ⟨s, u, -, -, -, rfl⟩ := mem_simL.1 hl
      exact ⟨by simp, by simp⟩
    have HMV := Lib.hid hmv
    clear hbh HV hF2 HF hmv H2
    generalize hρ : (fun s u => gi (R s) u) = ρ at *
    generalize hLg : simL R N2 N1 = L at *
    generalize hMg : rkL R S N2 N1 = M at *
    clear hρ hLg hMg
    obtain ⟨al, cl, rfl, -, hrl⟩ := HRW.out
    obtain ⟨am, cm, rfl, -, hml⟩ := HMV.out
    have HB : Hid (BV w wh p L M al am i1 e1 i2 e2 l1 l2 c1 d1 c2 d2 k1 k2) := ⟨HC.out, hrl, hml⟩
    have hLl := HSO.out.len
    have hMl := HRO.out.len
    clear HC HRW HMV hrl hml
    have HC := Lib.hid HB.out.b
    have b0 := HC.out.b0; have b1 := HC.out.b1; have b2 := HC.out.b2; have b3 := HC.out.b3; have b4 := HC.out.b4; have b5 := HC.out.b5; have b6 := HC.out.b6; have b7 := HC.out.b7
    go_wp2_with fail
    refine (own_any p _ _ HC.out.r.val HLE.out.1 HLE.out.2.1 HLE.out.2.2.1 HLE.out.2.2.2.1 HLE.out.2.2.2.2.1 HLE.out.2.2.2.2.2).mono ?_
    rintro e wi ⟨vi, rfl, hvi, hbi⟩
    replace HB := Lib.hid (HB.out.later hbi)
    have HV := Lib.hid hvi
    clear HC hbi hvi b0 b1 b2 b3 b4 b5 b6 b7
    go_wp2_with fail
    refine (ownLists_any L _ _ ⟨_, _, rfl, by unfold maxLen; omega, HB.out.l⟩ (by omega) HNE.out).mono ?_
    rintro e wj ⟨vj, rfl, hrj, hbj⟩
    replace HB := Lib.hid (HB.out.later hbj)
    replace HV := Lib.hid (HV.out.later hbj)
    have HRJ := Lib.hid hrj
    clear hbj hrj
    go_wp2_with fail
    refine (checkSim_any p L _ _ _ HV.out HRJ.out HPF.out N1 N2 HN1.out HN2.out HSO.out).mono ?_
    rintro e wk ⟨rfl, hbk⟩
    replace HB := Lib.hid (HB.out.later hbk)
    clear HV HRJ hbk
    have HC := Lib.hid HB.out.b
    have b0 := HC.out.b0; have b1 := HC.out.b1; have b2 := HC.out.b2; have b3 := HC.out.b3; have b4 := HC.out.b4; have b5 := HC.out.b5; have b6 := HC.out.b6; have b7 := HC.out.b7
    go_wp2_with fail
    refine (own_any p _ _ HC.out.r.val HLE.out.1 HLE.out.2.1 HLE.out.2.2.1 HLE.out.2.2.2.1 HLE.out.2.2.2.2.1 HLE.out.2.2.2.2.2).mono ?_
    rintro e wl ⟨vl, rfl, hvl, hbl⟩
    replace HB := Lib.hid (HB.out.later hbl)
    have HV := Lib.hid hvl
    clear HC hbl hvl b0 b1 b2 b3 b4 b5 b6 b7
    have hbz : Below wl.heap.size wl (wl.alloc (.cells #[] 44)) := (Below.refl _ _).alloc (Nat.le_refl _) _
    have HOW : Hid ((wl.alloc (.cells #[] 44)).ownsRow wl.heap.size 44 4 (.slice (some ⟨wl.heap.size, 0, none⟩) 0 0) 0 []) := World.ownsRow_lit (base := wl.heap.size) (e := 44) (size := 4) wl #[] 0 (Nat.le_refl _) (Nat.zero_le _) rfl
    have HBZ := Lib.hid hbz
    have HNEWS : Hid (∀ j u, (mCells M)[j]? = some u → ∃ ad, am = some ad ∧ (wl.alloc (.cells #[] 44)).cell? (ad.add j) = some u) := moves_any (HB.out.m.later hbz)
    clear hbz
    go_wp2_with (at_builtin; refine wpList_own rfl _ _ 36 rfl wl.heap.size 44 i0 _ 4 32 Try.underlying36 hi hz0 hz1 hz2 rfl (by decide) _ 0 [] rfl HOW.out am M.length cm (mCells M) rfl (mCells_len _) HNEWS.out (mCells_one _) ?c1 ?c2 ?c3 ?_)
    case c1 => unfold maxLen; omega
    case c2 => omega
    case c3 => simp
    intro v7 w7 ho7 hg7
    have HM7 : Hid (MovesAt w7 v7 M) := MovesAt.of_own (B := wl.heap.size) (by simpa using ho7)
    have HB7 : Hid (Below wl.heap.size wl w7) := HBZ.out.grown hg7 (by simp) (fun k hk => by simp [Value.ownBlock] at hk; omega)
    obtain ⟨a7, c7, rfl⟩ := row_form ho7
    clear ho7 hg7 HOW HNEWS HBZ
    replace HB := Lib.hid (HB.out.later HB7.out)
    replace HV := Lib.hid (HV.out.later HB7.out)
    clear HB7
    go_wp2_with fail
    refine (checkRanks_any p M ρ _ _ _ HV.out HM7.out HPF.out N1 N2 HN1.out HN2.out HRO.out).mono ?_
    rintro e wm ⟨rfl, hbm⟩
    replace HB := Lib.hid (HB.out.later hbm)
    clear HV HM7 hbm
    have b0 := HB.out.b.b0; have b3 := HB.out.b.b3
    rw [HN1.out] at b0
    rw [HN2.out] at b3
    have h40 : N1 ≤ 40 ∧ N2 ≤ 40 := by have := HPF.out.l40; have := HPF.out.u40; have := HN1.out; have := HN2.out; exact ⟨by omega, by omega⟩
    have hmul : N1 * N2 ≤ 1600 := Nat.mul_le_mul h40.1 h40.2
    have hln := HLN.out
    have hadd : IntKind.i64.wrap ((L.length : Int) + (M.length : Int)) = (L.length : Int) + (M.length : Int) := IntWalk.i64_in _ (by omega)
    have hprod : (N1 : Int) * (N2 : Int) = ((N1 * N2 : Nat) : Int) := by simp
    have hwm : IntKind.i64.wrap ((N1 : Int) * (N2 : Int)) = (N1 : Int) * (N2 : Int) := IntWalk.i64_in _ (by rw [hprod]; omega)
    have hneq : ((L.length : Int) + (M.length : Int) != (N1 : Int) * (N2 : Int)) = false := by rw [hprod, ← hln]; simp
    clear hln hprod hmul h40
    go_upto_region 14 with (fail)
    clear b0 b3 hadd hwm hneq
    go_loopw [11] (fun i wr => ∃ a : Nat, a ≤ L.length ∧ i = .int .i64 a ∧ Hid (BV w wr p L M al am i1 e1 i2 e2 l1 l2 c1 d1 c2 d2 k1 k2)) (fun i _ => L.length - (intOf i).toNat)
    case atStart => exact ⟨0, Nat.zero_le _, rfl, HB⟩
    case round =>
      clear HB
      obtain ⟨a, ha, rfl, HB⟩ := hrel
      by_cases hlt : a < L.length
      · obtain ⟨s, u, hs, hu, hsu⟩ := HSO.out.row _ (List.getElem_mem hlt)
        have hget : L[a]? = some [(s : Int), (u : Int)] := by rw [List.getElem?_eq_getElem hlt, hsu]
        have HGET := Lib.hid hget
        have HMEM : Hid ([(s : Int), (u : Int)] ∈ L) := by unfold Hid; rw [← hsu]; exact List.getElem_mem hlt
        clear hs hu hsu hget
        go_upto_region 17 with (fail)
        go_loopw [12] (fun i wr => ∃ c : Nat, c ≤ M.length ∧ i = .int .i64 c ∧ Hid (BV w wr p L M al am i1 e1 i2 e2 l1 l2 c1 d1 c2 d2 k1 k2)) (fun i _ => M.length - (intOf i).toNat)
        case atStart => exact ⟨0, Nat.zero_le _, rfl, HB⟩
        case round =>
          clear HB
          obtain ⟨c, hc, rfl, HB⟩ := hrel
          by_cases hltc : c < M.length
          · obtain ⟨b, off, g, cg, f1, gk, x0, x1, -⟩ := HB.out.l.two HGET.out
            obtain ⟨bm, om, f2, m0, m1, -, -⟩ := HB.out.m c M[c] (List.getElem?_eq_getElem hltc)
            have hdj := (HDJ.out _ HMEM.out M[c] (List.getElem_mem hltc)).2
            subst f1 f2
            have hdj' : ¬ ((s : Int) = M[c].low ∧ (u : Int) = M[c].up) := hdj
            clear hdj
            generalize M[c].low = low at *
            generalize M[c].up = up at *
            generalize (s : Int) = si at *
            generalize (u : Int) = ui at *
            have ha0 : (0 : Int) ≤ (a : Int) := by omega
            have ha1 : (a : Int) < (L.length : Int) := by omega
            have hc0 : (0 : Int) ≤ (c : Int) := by omega
            have hc1 : (c : Int) < (M.length : Int) := by omega
            by_cases hq : si = low
            · have q1 : (si == low) = true := by simpa using hq
              have q2 : (ui == up) = false := by simpa using (fun h => hdj' ⟨hq, h⟩ : ¬ ui = up)
              clear hdj' hq
              go_wp2_with fail
              go_quiet (fail)
              have HF := Lib.hid (HB.out.later (below_drewN (Below.refl _ _) nq))
              clear gk x0 x1 m0 m1 q1 q2
              go_wp2
              exact ⟨⟨c + 1, by omega, by go_num, HF⟩, by simp [intOf]; omega⟩
            · have q1 : (si == low) = false := by simpa using hq
              clear hdj' hq
              go_wp2_with fail
              go_quiet (fail)
              have HF := Lib.hid (HB.out.later (below_drewN (Below.refl _ _) nq))
              clear gk x0 x1 m0 m1 q1
              go_wp2
              exact ⟨⟨c + 1, by omega, by go_num, HF⟩, by simp [intOf]; omega⟩
          · have hcc : c = M.length := by omega
            subst hcc
            go_wp2
            exact ⟨⟨a + 1, by omega, by go_num, HB⟩, by simp [intOf]; omega⟩
      · have haa : a = L.length := by omega
        subst haa
        go_wp2
        go_ret
        exact ⟨rfl, HB.out.b.bw⟩
end Go.Proofs.Ytciopdlmjciieaa
