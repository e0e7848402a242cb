import Derived.Test.YtciopdlmjciieaaRowsL
namespace Go.Proofs.Ytciopdlmjciieaa
open Go.RowKit
set_option linter.unusedVariables false

set_option maxHeartbeats 2000000 in
set_option maxRecDepth 100000 in
theorem simOf_any (p : P2) (v : Value) (w : World) (hv : PairV w v p) (hok : PairFull p) (N1 N2 : Nat) (hN1 : p.lo.n = N1) (hN2 : p.up.n = N2) :
    Calls Try.prog 8 #[v] w fun e w' => ∃ (R S : Nat → List Int) (x : Value), e = .returned (.tuple #[x, .int .i64 0]) ∧ Hid (FinR p N2 R S) ∧ RowsV w' x (simL R N2 N1) ∧ Below w.heap.size w w' := by
  obtain ⟨i1, e1, i2, e2, l1, l2, c1, d1, c2, d2, k1, k2, rfl, hR⟩ := hv.open
  obtain ⟨ir, hir, hr0, hr1, hr2⟩ := info_parts infoRow
  have hL1 : N1 ≤ 40 := by have := hok.l40; omega
  have hL2 : N2 ≤ 40 := by have := hok.u40; omega
  have HR := Lib.hid hR; have HOK := Lib.hid hok; have HN1 := Lib.hid hN1; have HN2 := Lib.hid hN2
  clear hR hv hok hN1 hN2
  go_enter Try.func8, Try.ntmps8
  go_wp2_with fail
  have hB := PB.made HR.out 27
  generalize w.alloc _ = wb at *
  refine (checkPair_ok p _ _ hB.r.val HOK.out).mono ?_
  rintro e wa ⟨rfl, hba⟩
  replace hB := hB.later hba
  clear hba
  have b0 := hB.b0; have b1 := hB.b1; have b2 := hB.b2; have b3 := hB.b3; have b4 := hB.b4; have b5 := hB.b5; have b6 := hB.b6; have b7 := hB.b7
  have HB := Lib.hid hB; clear hB
  go_wp2_with fail
  refine (pairOf_any p _ _ HB.out.r.val HOK.out.toPairOk N1 N2 HN1.out HN2.out).mono ?_
  rintro e wc ⟨px, rfl, hX, hbc⟩
  replace HB := Lib.hid (HB.out.later hbc)
  have HX := Lib.hid hX
  clear hX hbc b0 b1 b2 b3 b4 b5 b6 b7
  go_wp2_with fail
  refine (ranks_any p px N1 N2 _ HX.out HOK.out.toPairOk).mono ?_
  rintro e wd ⟨T1, T2, m, rfl, hfin, hT1, hT2, hbd⟩
  replace HB := Lib.hid (HB.out.later hbd)
  have HF : Hid (FinR p N2 (stP p N2 (m + 1)).R (stP p N2 (m + 1)).S) := ⟨m, hfin.out.1, hfin.out.2, rfl, rfl⟩
  clear hT2 hfin
  generalize (stP p N2 (m + 1)).R = R at *
  generalize (stP p N2 (m + 1)).S = S at *
  have HBW := Lib.hid HB.out.bw
  have HT1 := Lib.hid hT1
  clear hT1 hbd HB HX
  go_upto_region 7 with (fail)
  obtain ⟨B, hBe⟩ : ∃ B, B = wd.heap.size := ⟨_, rfl⟩
  have HBE : Hid (wd.heap.size ≤ B) := by unfold Hid; omega
  have HLT : Hid (∀ W, Below B wd W → Below wd.heap.size wd W) := fun W h => by rw [← hBe]; exact h
  have HK0 : Hid (OL wd B (.slice none 0 0) [] ∧ Below B wd wd ∧ B ≤ wd.heap.size) := ⟨OL.nil _ _, Below.refl _ _, by omega⟩
  clear hBe
  go_loopw [7, 24] (fun s7 s24 wr => ∃ s : Nat, s ≤ N1 ∧ s24 = .int .i64 s ∧ OL wr B s7 (simL R N2 s) ∧ Below B wd wr ∧ B ≤ wr.heap.size) (fun _ s _ => N1 - (intOf s).toNat)
  case atStart => exact ⟨0, Nat.zero_le _, rfl, HK0.out⟩
  case round =>
    clear HK0
    obtain ⟨s, hs, rfl, hO, hbw, hBs⟩ := hrel
    obtain ⟨ao, co, rfl⟩ := hO.form
    by_cases hlt : s < N1
    · obtain ⟨ar, cr, hrow0, hrm, hrc⟩ := HT1.out s hlt
      have hrow := Below.keeps hbw hrow0 HBE.out
      have hrl : (R s).length = N2 := (HF.out.len s).1
      have hln := simL_len R N2 s
      have hln2 : s * N2 ≤ 40 * 40 := Nat.mul_le_mul (by omega) (by omega)
      have HO1 : Hid (OL wr B (.slice ao (simL R N2 s).length co) (simL R N2 s ++ simRow s (R s) 0)) := by unfold Hid; simpa [simRow] using hO
      have hnx : simL R N2 (s + 1) = simL R N2 s ++ simRow s (R s) N2 := rfl
      have HNX := Lib.hid hnx
      have HBR := Lib.hid hbw; have HBS := Lib.hid hBs; have HLN : Hid ((simL R N2 s).length ≤ 1600) := by unfold Hid; omega
      rw [hrl] at hrow
      have HRL := Lib.hid hrl; have HRC := Lib.hid hrc
      clear hO hbw hBs hnx hln hln2 hrm hrl hrc hrow0
      generalize hLg : simL R N2 s = L at *
      clear hLg
      generalize (Value.slice ao L.length co) = v0 at *
      go_upto_region 10 with (fail)
      clear hrow
      go_loopw [7, 32] (fun s7 s32 wr => ∃ u : Nat, u ≤ N2 ∧ s32 = .int .i64 u ∧ OL wr B s7 (L ++ simRow s (R s) u) ∧ Below B wd wr ∧ B ≤ wr.heap.size) (fun _ u _ => N2 - (intOf u).toNat)
      case atStart => exact ⟨0, Nat.zero_le _, rfl, HO1.out, HBR.out, HBS.out⟩
      case round =>
        clear HO1 HBR HBS
        obtain ⟨u, hu, rfl, hO, hbw, hBs⟩ := hrel
        obtain ⟨ao, co, rfl⟩ := hO.form
        by_cases hltu : u < N2
        · obtain ⟨b, o, f1, g1⟩ := (HRC.out.later (HLT.out _ hbw)) u (by have := HRL.out; omega)
          subst f1
          have hnx : simRow s (R s) (u + 1) = simRow s (R s) u ++ (if gi (R s) u = -1 then [[(s : Int), (u : Int)]] else []) := rfl
          have hln := simRow_len s (R s) u
          have HBW := Lib.hid hbw; have HBS := Lib.hid hBs
          have HO := Lib.hid hO
          have HLL : Hid ((L ++ simRow s (R s) u).length ≤ 1640) := by unfold Hid; have := HLN.out; simp; omega
          by_cases hq : gi (R s) u = -1
          · rw [if_pos hq] at hnx
            rw [hq] at g1
            have HNX2 := Lib.hid hnx
            obtain ⟨vs, ho, hvs⟩ := hO.ex
            have HVS := Lib.hid hvs; have HOW := Lib.hid ho
            have HVN : Hid (vs.length = (L ++ simRow s (R s) u).length) := by unfold Hid; have := ho.1; omega
            clear hO hbw hBs hnx hln hq hvs ho
            generalize hLu : L ++ simRow s (R s) u = Lu at *
            have HLU := Lib.hid hLu
            clear hLu
            go_wp2_with (at_builtin; refine wpList_append_own_at _ rfl _ _ 31 rfl B 22 ir (.slice none 0 0) 1 24 Try.underlying31 hir hr0 hr1 hr2 rfl (by decide) _ _ _ rfl ((HOW.out.alloc _).alloc _) _ _ _ [.slice (some ⟨wr.heap.size, 0, none⟩) 2 2] rfl rfl ?c1 ?c2 ?c3 ?c4 ?c5 ?_)
            case c1 => have h := cell_one_new (wr.alloc (Obj.cells #[.int .i64 (s : Int), .int .i64 (u : Int)] 3)) (.slice (some ⟨wr.heap.size, 0, none⟩) 2 2) 22; simpa using h
            case c2 => intro u hu; simp at hu; subst hu; rfl
            case c3 => have := HLL.out; unfold maxLen; omega
            case c4 => have := HLL.out; omega
            case c5 => have := HBS.out; simp; omega
            · intro v7 w7 ho7 hg7 _ hat7
              have hbx : Below wr.heap.size wr ((wr.alloc (Obj.cells #[.int .i64 (s : Int), .int .i64 (u : Int)] 3)).alloc (Obj.cells #[.slice (some ⟨wr.heap.size, 0, none⟩) 2 2] 22)) := ((Below.refl _ _).alloc (Nat.le_refl _) _).alloc (by simp) _
              have hrow : ownInts (wr.alloc (Obj.cells #[.int .i64 (s : Int), .int .i64 (u : Int)] 3)) wr.heap.size (.slice (some ⟨wr.heap.size, 0, none⟩) 2 2) [(s : Int), (u : Int)] := World.ownsRow_lit (base := wr.heap.size) (e := 3) (size := 1) wr #[.int .i64 (s : Int), .int .i64 (u : Int)] 2 (Nat.le_refl _) (by unfold maxLen; omega) rfl
              have HP : Hid (OL w7 B v7 (Lu ++ [[(s : Int), (u : Int)]])) := HO.out.push hbx HVS.out HVN.out (l := [(s : Int), (u : Int)]) (g := wr.heap.size) (c := 2) (hrow.alloc _) HBS.out hg7 ho7 (by simpa using hat7)
              have HB7 : Hid (Below B wd w7 ∧ B ≤ w7.heap.size) := by
                have h2 := hg7.size
                have hl := HBS.out
                refine ⟨((HBW.out.trans (hbx.mono hl))).grown hg7 (by simp; omega) (fun q hq => (HOW.out.lt q hq).1), by simp at h2; omega⟩
              obtain ⟨a7, c7, rfl⟩ := row_form ho7
              clear ho7 hg7 hat7 hbx hrow
              go_wp2
              exact ⟨⟨u + 1, by omega, by go_num, by rw [HNX2.out, ← List.append_assoc, HLU.out]; exact HP.out, HB7.out.1, HB7.out.2⟩, by simp [intOf]; omega⟩
          · rw [if_neg hq] at hnx
            generalize hqe : gi (R s) u = q at *
            have hd : (q == -1) = false := by simpa using hq
            have HNX2 := Lib.hid hnx
            clear hO hbw hBs hnx hln hq hqe
            generalize hLu : L ++ simRow s (R s) u = Lu at *
            have HLU := Lib.hid hLu
            clear hLu
            generalize (Value.slice ao Lu.length co) = v1 at *
            go_wp2
            exact ⟨⟨u + 1, by omega, by go_num, by rw [HNX2.out, List.append_nil, HLU.out]; exact HO.out, HBW.out, HBS.out⟩, by simp [intOf]; omega⟩
        · have huu : u = N2 := by omega
          subst huu
          generalize (Value.slice ao (L ++ simRow s (R s) u).length co) = v1 at *
          rw [← HNX.out] at hO
          go_wp2
          exact ⟨⟨s + 1, by omega, by go_num, hO, hbw, hBs⟩, by simp [intOf]; omega⟩
    · have hss : s = N1 := by omega
      subst hss
      have HO := Lib.hid hO
      clear hO
      generalize (Value.slice ao (simL R N2 s).length co) = v1 at *
      go_wp2
      refine bodyPost_ret (v := .tuple #[v1, .int .i64 0]) (by simp [results, Try.results8, go_sem]) rfl ⟨R, S, v1, rfl, HF.out, HO.out.at, HBW.out.trans (hbw.mono (Nat.le_trans HBW.out.size HBE.out))⟩
end Go.Proofs.Ytciopdlmjciieaa
