import Derived.Test.YtciopdlmjciieaaPathsB
namespace Go.Proofs.Ytciopdlmjciieaa
open Go.RowKit
set_option linter.unusedVariables false

noncomputable abbrev pnP (p : P2) (i : Nat) : PS := pN (lowRow p) p.lo.init i

set_option maxHeartbeats 2000000 in
set_option maxRecDepth 100000 in
theorem paths_any (p : P2) (px N1 N2 : Nat) (w : World) (hX : PairX w px p N1 N2) (hok : PairOk p) :
    Calls Try.prog 39 #[.pointer (some ⟨px, 0, none⟩)] w fun e w' => ∃ T i, e = .returned (.slice (some ⟨T, 0, none⟩) N1 N1) ∧ Hid ((pnP p i).q.length = i) ∧ PathsAt w' w.heap.size T N1 (pnP p i).o ∧ Below w.heap.size w w' := by
  obtain ⟨i0, hi, hz0, hz1, hz2⟩ := info_parts infoInt
  have hN1 := hX.n1
  have hL1 : N1 ≤ 40 := by have := hok.l40; omega
  have hmk := fun W => run_make_row' (P := Try.prog) 31 22 (.slice none 0 0) 24 Try.underlying31 infoRow rfl .i64 .i64 N1 (by omega) (by omega) W
  have hir : ∀ v ∈ p.lo.init, 0 ≤ v ∧ v < (N1 : Int) := fun v hv => by
    obtain ⟨k, hk, rfl⟩ := mem_gi.1 hv
    have h := hok.lo.2.2.1 k hk
    have h1 : 0 ≤ gi p.lo.init k := h.1
    have h2 : gi p.lo.init k < p.lo.n := h.2.1
    omega
  have hnd : p.lo.init.Nodup := by
    rw [List.nodup_iff_pairwise_ne, List.pairwise_iff_getElem]
    intro i j hi hj hij e
    have asc : ∀ d i, i + d < p.lo.init.length → 0 < d → gi p.lo.init i < gi p.lo.init (i + d) := by
      intro d
      induction d with
      | zero => intro i h1 h2; omega
      | succ d ih =>
        intro i h1 h2
        have h3 : gi p.lo.init (i + d) < gi p.lo.init (i + d + 1) := (hok.lo.2.2.1 (i + d + 1) (by omega)).2.2 (by omega)
        rcases Nat.eq_zero_or_pos d with h4 | h4
        · subst h4; exact h3
        · have := ih i (by omega) h4
          have : gi p.lo.init i < gi p.lo.init (i + d + 1) := by omega
          exact this
    have h1 := asc (j - i) i (by omega) (by omega)
    have h2 : i + (j - i) = j := by omega
    rw [h2] at h1
    have e1 : gi p.lo.init i = p.lo.init[i] := by simp [gi, List.getElem?_eq_getElem hi]
    have e2 : gi p.lo.init j = p.lo.init[j] := by simp [gi, List.getElem?_eq_getElem hj]
    rw [e1, e2, e] at h1
    omega
  have hlr : ∀ s, s < N1 → ∀ v ∈ lowRow p s, 0 ≤ v ∧ v < (N1 : Int) := fun s hs v hv => by
    obtain ⟨e, he, -, rfl⟩ := mem_nb.1 hv
    obtain ⟨i, hi, rfl⟩ := List.getElem_of_mem he
    have hE := hok.lo.2.2.2 i hi
    unfold edgeOk at hE
    have hg : ge p.lo.edges i = p.lo.edges[i] := by simp [ge, List.getElem?_eq_getElem hi]
    rw [hg] at hE
    have h3 : 0 ≤ p.lo.edges[i].t := hE.1.2.1
    have h4 : p.lo.edges[i].t < p.lo.n := hE.2.1.2
    omega
  have HPI : Hid (∀ i, PI N1 (pnP p i)) := PI.at hir hnd hlr
  have HIR := Lib.hid hir; have HLR := Lib.hid hlr
  have hil : p.lo.init.length ≤ 40 := Nat.le_trans (nodup_le N1 _ hir hnd) hL1
  have HX := Lib.hid hX; have HOK := Lib.hid hok
  obtain ⟨i1, e1, i2, e2, l1, l2, c1, d1, c2, d2, k1, k2, TL, TU, hp, hI1, -, -, -, -, -, hLO, -⟩ := hX.ex
  have HP0 := Lib.hid hp; have HLO := Lib.hid hLO; have HI1 := Lib.hid hI1
  have q0 := hp.q0
  have q1 := hp.q1
  have hpx : px < w.heap.size := hp.lt
  rw [hN1] at q0
  clear hX hok hp hir hnd hlr hLO hI1 hN1
  go_enter Try.func39, Try.ntmps39
  go_wp2_with fail
  have hb1 : Below w.heap.size w (w.alloc (Obj.cells (madeCells #[Value.slice none 0 0] N1) 22)) := (Below.refl _ _).alloc (Nat.le_refl _) _
  have hT0 := World.rowIs_made w (.slice none 0 0) N1 22
  refine (clone_any p.lo.init _ _ ⟨_, _, rfl, by unfold maxLen; omega, HI1.out.later hb1⟩ (by omega)).mono ?_
  rintro e wa ⟨vq, rfl, hoq, hba⟩
  have hK0 : Hid (PK w wa px p N1 N2 w.heap.size (w.heap.size + 1) (p0 p.lo.init 0).o vq p.lo.init) :=
    ⟨HX.out.later (hb1.trans (hba.mono (by simp))), TQ.start (hT0.of_block (hba.block _ (by simp))) (row_mono hoq (by simp)), hb1.trans (hba.mono (by simp)), by have := hba.size; simp at this; exact this, by omega⟩
  clear hb1 hT0 hoq hba hmk q0 q1
  obtain ⟨aq, cq, rfl⟩ := own_form hK0.out.t.own
  go_wp2_with fail
  have hBw : w.heap.size ≤ w.heap.size + 1 := Nat.le_succ _
  generalize w.heap.size + 1 = B at *
  obtain ⟨T, hT⟩ : ∃ T, T = w.heap.size := ⟨_, rfl⟩
  rw [← hT] at hK0 hBw ⊢
  have HTW := Lib.hid hT
  have HBW := Lib.hid hBw
  clear hT hpx hBw
  go_loopw [26] (fun i wr => ∃ k : Nat, k ≤ p.lo.init.length ∧ i = .int .i64 k ∧ PK w wr px p N1 N2 T B (p0 p.lo.init k).o (.slice aq p.lo.init.length cq) p.lo.init) (fun i _ => p.lo.init.length - (intOf i).toNat)
  case atStart => exact ⟨0, Nat.zero_le _, rfl, hK0.out⟩
  case round =>
    clear hK0
    obtain ⟨k, hk, rfl, hK⟩ := hrel
    by_cases hlt : k < p.lo.init.length
    · obtain ⟨-, hcc, -⟩ := own_cells hK.t.own
      obtain ⟨b, o, f1, g1⟩ := hcc k hlt
      subst f1
      have hs := HIR.out _ (gi_mem hlt)
      have HSG : Hid (∀ s : Nat, gi p.lo.init k = s → (p0 p.lo.init (k + 1)).o = upd (p0 p.lo.init k).o s (some [(s : Int)])) := fun s h => by
        show upd (p0 p.lo.init k).o (gi p.lo.init k).toNat (some [gi p.lo.init k]) = _
        rw [h]; rfl
      generalize hsg : gi p.lo.init k = s at *
      obtain ⟨s, rfl⟩ : ∃ s' : Nat, s = (s' : Int) := ⟨s.toNat, by omega⟩
      have hsN : s < N1 := by omega
      have HS := Lib.hid (HSG.out s rfl)
      obtain ⟨ca, cm, cc, hc⟩ := hK.t.cell hsN
      have hfz := hK.t.fz s
      have hTs : T < wr.heap.size := hK.t.lt
      have hb : Below wr.heap.size wr (wr.alloc (Obj.cells #[.int .i64 (s : Int)] 3)) := (Below.refl _ _).alloc (Nat.le_refl _) _
      have HO : Hid (ownInts (wr.alloc (Obj.cells #[.int .i64 (s : Int)] 3)) wr.heap.size (.slice (some ⟨wr.heap.size, 0, none⟩) 1 1) [(s : Int)]) := World.ownsRow_lit (base := wr.heap.size) (e := 3) (size := 1) wr #[.int .i64 (s : Int)] 1 (Nat.le_refl _) (by unfold maxLen; omega) rfl
      have HK := Lib.hid hK; have HB := Lib.hid hb
      clear hK hb hcc hsg HSG hs
      go_wp2
      refine ⟨⟨k + 1, by omega, by go_num, ?_⟩, by simp [intOf]; omega⟩
      rw [HS.out]
      have R := HK.out.put (j := s) HX.out HB.out HO.out (by simp)
      rw [World.setCell_alloc_past _ _ _ _ hTs] at R
      exact R
    · have hkk : k = p.lo.init.length := by omega
      subst hkk
      have HK2 : Hid (PK w wr px p N1 N2 T B (pnP p 0).o (.slice aq p.lo.init.length cq) (pnP p 0).q) := by unfold Hid; rw [show (pnP p 0).q = p.lo.init from p0_q _ _]; exact hK
      clear hK
      go_upto_region 9 with (fail)
      generalize (Value.slice aq p.lo.init.length cq) = vq0 at HK2 ⊢
      go_loopw [4, 7] (fun s4 s7 wr => ∃ i : Nat, i ≤ (pnP p i).q.length ∧ s7 = .int .i64 i ∧ PK w wr px p N1 N2 T B (pnP p i).o s4 (pnP p i).q) (fun _ i _ => N1 - (intOf i).toNat)
      case atStart => exact ⟨0, Nat.zero_le _, rfl, HK2.out⟩
      case round =>
        clear HK2
        obtain ⟨i, hiq, rfl, hK⟩ := hrel
        have hql : (pnP p i).q.length ≤ N1 := nodup_le N1 _ (HPI.out i).rng (HPI.out i).nd
        obtain ⟨aq, cq, hq4⟩ := own_form hK.t.own
        subst hq4
        by_cases hlt : i < (pnP p i).q.length
        · obtain ⟨-, hcc, -⟩ := own_cells hK.t.own
          obtain ⟨b, o, f1, g1⟩ := hcc i hlt
          subst f1
          have hs := (HPI.out i).rng _ (gi_mem hlt)
          have HNX : Hid (∀ s : Nat, gi (pnP p i).q i = s → pnP p (i + 1) = pK s (pnP p i) (lowRow p s) (lowRow p s).length) := fun s h => by
            show pN (lowRow p) p.lo.init (i + 1) = _
            rw [pN, if_pos hlt, h]; rfl
          have HQI : Hid (∀ s : Nat, gi (pnP p i).q i = s → ∀ k, (pK s (pnP p i) (lowRow p s) k).o s = (pnP p i).o s ∧ gi (pK s (pnP p i) (lowRow p s) k).q i = s ∧ i < (pK s (pnP p i) (lowRow p s) k).q.length) := fun s h k => by
            have hm := pK_mono (s := s) (x := pnP p i) (l := lowRow p s) k
            obtain ⟨r, hr⟩ := hm.2
            have hne : (pnP p i).o s ≠ none := ((HPI.out i).iff s).2 (by rw [← h]; exact gi_mem hlt)
            refine ⟨hm.1 s hne, ?_, ?_⟩
            · rw [← hr, gi_app_lt hlt, h]
            · rw [← hr, List.length_append]; omega
          have HSO : Hid (∀ s : Nat, gi (pnP p i).q i = s → (pnP p i).o s ≠ none) := fun s h => ((HPI.out i).iff s).2 (by rw [← h]; exact gi_mem hlt)
          generalize hsg : gi (pnP p i).q i = s at *
          obtain ⟨s, rfl⟩ : ∃ s' : Nat, s = (s' : Int) := ⟨s.toNat, by omega⟩
          have hsN : s < N1 := by omega
          have HN := Lib.hid (HNX.out s rfl); have HQ := Lib.hid (HQI.out s rfl); have HS := Lib.hid (HSO.out s rfl)
          have q8 := Below.keeps hK.bw HP0.out.q8 (Nat.le_refl _)
          obtain ⟨ar, cr, hrow0, hrm, hrc⟩ := HLO.out s hsN
          have hrow := Below.keeps hK.bw hrow0 (Nat.le_refl _)
          clear hrow0
          have hrl : (lowRow p s).length ≤ 2000 := Nat.le_trans (nb_len _ _) HOK.out.lo.2.1
          have HPX : Hid (PI N1 (pnP p i)) := HPI.out i
          have HX0 : Hid (∀ k, k ≤ (lowRow p s).length → PI N1 (pK s (pnP p i) (lowRow p s) k)) := (HPI.out i).row (HLR.out s hsN)
          have HRC := Lib.hid hrc
          have HK3 : Hid (∀ n, PK w (wr.drewN n) px p N1 N2 T B (pK s (pnP p i) (lowRow p s) 0).o (.slice (some ⟨b, o, none⟩) (pnP p i).q.length cq) (pK s (pnP p i) (lowRow p s) 0).q) := fun n => hK.later (below_drewN (Below.refl _ _) _)
          clear hK hcc hsg HNX HQI HSO hs hrc hrm
          go_wp2_with fail
          go_quiet (fail)
          go_upto_region 12 with (fail)
          have HKD := Lib.hid (HK3.out nq)
          clear q8 hrow HK3
          generalize wr.drewN nq = wz at *
          clear g1
          go_loopw [4, 53] (fun s4 s53 wr => ∃ k : Nat, k ≤ (lowRow p s).length ∧ s53 = .int .i64 k ∧ PK w wr px p N1 N2 T B (pK s (pnP p i) (lowRow p s) k).o s4 (pK s (pnP p i) (lowRow p s) k).q ) (fun _ k _ => (lowRow p s).length - (intOf k).toNat)
          case atStart => exact ⟨0, Nat.zero_le _, rfl, HKD.out⟩
          case round =>
            clear HKD
            obtain ⟨k, hk, rfl, hK⟩ := hrel
            obtain ⟨aq, cq, hq4⟩ := own_form hK.t.own
            subst hq4
            by_cases hltk : k < (lowRow p s).length
            · obtain ⟨b3, o3, f3, g3⟩ := (HRC.out.later hK.bw) k hltk
              have hPY := HX0.out k (by omega)
              have hqY := HQ.out k
              have hnx : pK s (pnP p i) (lowRow p s) (k + 1) = pT s (pK s (pnP p i) (lowRow p s) k) (gi (lowRow p s) k) := rfl
              have ht := HLR.out s hsN _ (gi_mem hltk)
              have HNX := Lib.hid hnx
              clear hnx
              generalize gi (lowRow p s) k = t at *
              obtain ⟨t, rfl⟩ : ∃ t' : Nat, t = (t' : Int) := ⟨t.toNat, by omega⟩
              have htN : t < N1 := by omega
              subst f3
              have hos : (pK s (pnP p i) (lowRow p s) k).o s ≠ none := by rw [hqY.1]; exact HS.out
              generalize pK s (pnP p i) (lowRow p s) k = Y at *
              have hYl : Y.q.length ≤ N1 := nodup_le N1 _ hPY.rng hPY.nd
              rcases hK.t.get htN with ⟨hot, hct⟩ | ⟨l, g, c, hot, hct, -⟩
              · have HNY : Hid (pK s (pnP p i) (lowRow p s) (k + 1) = ⟨upd Y.o t (some ((Y.o s).getD [] ++ [(t : Int)])), Y.q ++ [(t : Int)]⟩) := by
                  unfold Hid; rw [HNX.out]; unfold pT; rw [if_pos (by simpa using hot)]; simp
                rcases hK.t.get hsN with ⟨h, -⟩ | ⟨ls, gs, cs, hos', hcs, hls⟩
                · exact absurd h hos
                · have hgd : (Y.o s).getD [] = ls := by rw [hos']; rfl
                  rw [hgd] at HNY
                  have hlsn : ls.length ≤ 100000 := by have := hPY.ln s ls hos'; omega
                  have he := Lib.run_eql_slice_nil (P := Try.prog) wr 22 3 none 0 0 0 0 Try.underlying22
                  obtain ⟨-, hcq, -⟩ := own_cells hK.t.own
                  obtain ⟨b5, o5, f5, g5⟩ := hcq i hqY.2.2
                  subst f5
                  rw [hqY.2.1] at g5
                  have HLS : Hid (IntsAt wr (.slice (some ⟨gs, 0, none⟩) ls.length cs) ls) := IntsAt.of_own hls
                  obtain ⟨ct, cm, cc, hct2⟩ := hK.t.cell htN
                  have hfz := hK.t.fz t
                  have hTs : T < wr.heap.size := hK.t.lt
                  have hlsN : ls.length ≤ 40 := by have := hPY.ln s ls hos'; omega
                  have HK := Lib.hid hK; have HLN := Lib.hid hlsN; have HCT := Lib.hid hct; have HFZ := Lib.hid hfz
                  have HYL : Hid (Y.q.length ≤ 40) := by unfold Hid; omega
                  have hiY : i < Y.q.length := hqY.2.2
                  clear hK hls hos hot hqY hPY hcq hgd hct2 hfz hlsN hYl hos'
                  go_wp2_with fail
                  refine (clone_any ls _ _ HLS.out hlsn).mono ?_
                  rintro e w4 ⟨v4, rfl, ho4, hb4⟩
                  obtain ⟨a4, c4, rfl⟩ := own_form ho4
                  have HO4 := Lib.hid ho4; have HB4 := Lib.hid hb4
                  clear ho4 hb4
                  go_wp2_with (at_builtin; refine wpList_append_own _ rfl _ _ 22 rfl wr.heap.size 3 i0 (.int .i64 0) 1 8 Try.underlying22 hi hz0 hz1 hz2 rfl (by decide) _ _ _ rfl (HO4.out.alloc _) _ _ _ [.int .i64 (t : Int)] rfl rfl (cell_one_new _ _ _) ?c2 ?c3 ?c4 ?c5 ?_)
                  case c2 => intro u hu; simp at hu; subst hu; rfl
                  case c3 => have := HLN.out; unfold maxLen; omega
                  case c4 => have := HLN.out; omega
                  case c5 => have := HB4.out.size; simp; omega
                  · intro v5 w5 ho5 hg5 _
                    obtain ⟨a5, c5, rfl⟩ := row_form ho5
                    have hb5 : Below wr.heap.size wr w5 := (HB4.out.alloc HB4.out.size _).grown hg5 (by have := HB4.out.size; simp; omega) (fun q hq => by have := (HO4.out.lt q hq).1; omega)
                    have HO5 : Hid (ownInts w5 wr.heap.size (.slice a5 (ls.length + 1) c5) (ls ++ [(t : Int)])) := by unfold Hid ownInts; simpa using ho5
                    have hct5 := Below.keeps hb5 HCT.out (Nat.le_refl _)
                    have hfz5 := Below.keepsF hb5 HFZ.out hTs
                    have HB5 := Lib.hid hb5
                    clear ho5 hg5 hb5
                    go_upto_region 16 with (fail)
                    have HKP := Lib.hid (HK.out.put (j := t) HX.out HB5.out HO5.out (by simp))
                    clear hct5 hfz5 HO5 HB5 HO4 HB4 HK HLS HCT HFZ hct g5
                    generalize w5.setCell ⟨T, t, none⟩ (.slice a5 (ls.length + 1) c5) = w6 at *
                    go_wp2_with (at_builtin; refine wpList_append_own_at _ rfl _ _ 22 rfl B 3 i0 (.int .i64 0) 1 8 Try.underlying22 hi hz0 hz1 hz2 rfl (by decide) _ _ _ rfl (HKP.out.t.own.alloc _) _ _ _ [.int .i64 (t : Int)] rfl rfl (cell_one_new _ _ _) ?c2 ?c3 ?c4 ?c5 ?_)
                    case c2 => intro u hu; simp at hu; subst hu; rfl
                    case c3 => have := HYL.out; unfold maxLen; omega
                    case c4 => have := HYL.out; omega
                    case c5 => have := HKP.out.sz; simp; omega
                    · intro v7 w7 ho7 hg7 _ hat7
                      have hbx : Below w6.heap.size w6 (w6.alloc (Obj.cells #[.int .i64 (t : Int)] 3)) := (Below.refl _ _).alloc (Nat.le_refl _) _
                      have ho7' : ownInts w7 B v7 (Y.q ++ [(t : Int)]) := by unfold ownInts; simpa using ho7
                      have HKQ := Lib.hid (HKP.out.push HX.out hbx hg7 ho7' (by simpa using hat7))
                      obtain ⟨a7, c7, rfl⟩ := row_form ho7
                      clear ho7 hg7 hat7 hbx ho7' HKP
                      go_wp2
                      exact ⟨⟨k + 1, by omega, by go_num, by rw [HNY.out]; exact HKQ.out⟩, by simp [intOf]; omega⟩
              · have HNY : Hid (pK s (pnP p i) (lowRow p s) (k + 1) = Y) := by
                  unfold Hid; rw [HNX.out]; unfold pT; rw [if_neg (by simp [hot])]
                have he := Lib.run_eql_slice_nil (P := Try.prog) wr 22 3 (some ⟨g, 0, none⟩) l.length c 0 0 Try.underlying22
                have HK := Lib.hid hK
                clear hK hos hot hqY hPY
                go_wp2
                exact ⟨⟨k + 1, by omega, by go_num, by rw [HNY.out]; exact HK.out⟩, by simp [intOf]; omega⟩
            · have hkk : k = (lowRow p s).length := by omega
              subst hkk
              go_wp2
              refine ⟨⟨i + 1, ?_, by go_num, by rw [HN.out]; exact hK⟩, by simp [intOf]; omega⟩
              rw [HN.out]
              have := (HQ.out (lowRow p s).length).2.2
              omega
        · have hii : (pnP p i).q.length = i := by omega
          have HII := Lib.hid hii
          clear hii
          go_wp2
          go_ret
          exact ⟨T, i, rfl, HII.out, hK.t.at.lower (by have := HTW.out; have := HBW.out; omega), hK.bw⟩
end Go.Proofs.Ytciopdlmjciieaa
