import Derived.Test.YtciopdlmjciieaaSimOf
namespace Go.Proofs.Ytciopdlmjciieaa
open Go.RowKit
set_option linter.unusedVariables false

/-- A move: a pair, its rank, its refutation. -/
structure Mv where
  low : Int
  up : Int
  rank : Int
  step : Int
def mCells : List Mv → List Value
  | [] => []
  | e :: r => .int .i64 e.low :: .int .i64 e.up :: .int .i64 e.rank :: .int .i64 e.step :: mCells r
theorem mCells_len : ∀ l, (mCells l).length = l.length * 4
  | [] => rfl
  | e :: r => by simp [mCells, mCells_len r]; omega
theorem mCells_app : ∀ l r, mCells (l ++ r) = mCells l ++ mCells r
  | [], r => rfl
  | e :: l, r => by simp [mCells, mCells_app l r]
theorem mCells_at : ∀ (l : List Mv) (j : Nat) (x : Mv), l[j]? = some x → (mCells l)[j * 4]? = some (.int .i64 x.low) ∧ (mCells l)[j * 4 + 1]? = some (.int .i64 x.up) ∧ (mCells l)[j * 4 + 2]? = some (.int .i64 x.rank) ∧ (mCells l)[j * 4 + 3]? = some (.int .i64 x.step)
  | [], j, x, h => by simp at h
  | e :: r, 0, x, h => by simp at h; subst h; exact ⟨rfl, rfl, rfl, rfl⟩
  | e :: r, j + 1, x, h => by
    have ih := mCells_at r j x (by simpa using h)
    have e1 : (j + 1) * 4 = j * 4 + 1 + 1 + 1 + 1 := by omega
    rw [e1]
    simpa [mCells] using ih
abbrev ownMoves (w : World) (B : Nat) (v : Value) (l : List Mv) : Prop := w.ownsRow B 44 4 v l.length (mCells l)
/-- How a slice of moves is read. -/
def MovesAt (w : World) (v : Value) (l : List Mv) : Prop := ∃ a cap, v = .slice a l.length cap ∧ l.length ≤ maxLen ∧ ∀ (j : Nat) (x : Mv), l[j]? = some x → ∃ b off, a = some ⟨b, off, none⟩ ∧
  w.cell? ⟨b, off + j * 4, none⟩ = some (.int .i64 x.low) ∧ w.cell? ⟨b, off + j * 4 + 1, none⟩ = some (.int .i64 x.up) ∧ w.cell? ⟨b, off + j * 4 + 2, none⟩ = some (.int .i64 x.rank) ∧ w.cell? ⟨b, off + j * 4 + 3, none⟩ = some (.int .i64 x.step)
theorem MovesAt.later {w w' : World} {v : Value} {l : List Mv} (h : MovesAt w v l) (hb : Below w.heap.size w w') : MovesAt w' v l := by
  obtain ⟨a, cap, e, hm, h⟩ := h
  refine ⟨a, cap, e, hm, fun j x hx => ?_⟩
  obtain ⟨b, off, e1, e2, e3, e4, e5⟩ := h j x hx
  exact ⟨b, off, e1, Below.keeps hb e2 (Nat.le_refl _), Below.keeps hb e3 (Nat.le_refl _), Below.keeps hb e4 (Nat.le_refl _), Below.keeps hb e5 (Nat.le_refl _)⟩
theorem MovesAt.of_own {w : World} {B : Nat} {v : Value} {l : List Mv} (h : ownMoves w B v l) : MovesAt w v l := by
  obtain ⟨hlen, h⟩ := h
  rcases h with ⟨rfl, h0⟩ | ⟨g, cap, cur, rfl, hB, hg, hn, hm, hs, ht⟩
  · refine ⟨none, 0, by rw [h0], by rw [h0]; exact Nat.zero_le _, fun j x hx => ?_⟩
    rw [List.length_eq_zero_iff.1 h0] at hx
    simp at hx
  · have key : ∀ j u, j < l.length * 4 → (mCells l)[j]? = some u → w.cell? ⟨g, 0 + j, none⟩ = some u := by
      intro j u hj hu
      rw [← ht, List.getElem?_take_of_lt hj] at hu
      have h3 : cur[j]? = some u := by rw [← Array.getElem?_toList]; exact hu
      unfold World.cell?
      simp only [hg, Nat.zero_add]
      simpa using h3
    refine ⟨_, _, rfl, Nat.le_trans hn hm, fun j x hx => ⟨g, 0, rfl, ?_⟩⟩
    have hj : j < l.length := (List.getElem?_eq_some_iff.1 hx).1
    obtain ⟨a0, a1, a2, a3⟩ := mCells_at l j x hx
    exact ⟨key _ _ (by omega) a0, key _ _ (by omega) a1, key _ _ (by omega) a2, key _ _ (by omega) a3⟩
theorem infoMove : (Try.prog.info? 44).map (fun i => (i.zero, i.size, i.bytes)) = some (some (.agg #[.int .i64 0, .int .i64 0, .int .i64 0, .int .i64 0]), 4, 32) := by kernel_rfl
theorem cells_new4 (w : World) (a b c d : Value) (t : TypeId) : ∀ j u, [a, b, c, d][j]? = some u → (w.alloc (.cells #[a, b, c, d] t)).cell? ((⟨w.heap.size, 0, none⟩ : Addr).add j) = some u := by
  intro j u hj
  have hadd : (⟨w.heap.size, 0, none⟩ : Addr).add j = ⟨w.heap.size, 0 + j, none⟩ := by unfold Addr.add; split <;> simp_all
  rw [hadd, Nat.zero_add]
  refine box_cell w _ t j u ?_
  rw [← Array.getElem?_toList]
  exact hj

/-- The moves of a row, of a table. -/
def rkRow (s : Nat) (r st : List Int) : Nat → List Mv
  | 0 => []
  | u + 1 => rkRow s r st u ++ (if gi r u = -1 then [] else [⟨(s : Int), (u : Int), gi r u, gi st u⟩])
def rkL (R S : Nat → List Int) (n : Nat) : Nat → List Mv
  | 0 => []
  | s + 1 => rkL R S n s ++ rkRow s (R s) (S s) n
theorem rkRow_len (s : Nat) (r st : List Int) (u : Nat) : (rkRow s r st u).length ≤ u := by
  induction u with
  | zero => simp [rkRow]
  | succ u ih => rw [rkRow, List.length_append]; split <;> simp <;> omega
theorem rkL_len (R S : Nat → List Int) (n s : Nat) : (rkL R S n s).length ≤ s * n := by
  induction s with
  | zero => simp [rkL]
  | succ s ih => rw [rkL, List.length_append, Nat.succ_mul]; have := rkRow_len s (R s) (S s) n; omega

set_option maxHeartbeats 2000000 in
set_option maxRecDepth 100000 in
theorem ranksOf_any (p : P2) (v : Value) (w : World) (hv : PairV w v p) (hok : PairFull p) (N1 N2 : Nat) (hN1 : p.lo.n = N1) (hN2 : p.up.n = N2) :
    Calls Try.prog 10 #[v] w fun e w' => ∃ (R S : Nat → List Int) (x : Value), e = .returned (.tuple #[x, .int .i64 0]) ∧ Hid (FinR p N2 R S) ∧ MovesAt w' x (rkL R S N2 N1) ∧ Below w.heap.size w w' := by
  obtain ⟨i1, e1, i2, e2, l1, l2, c1, d1, c2, d2, k1, k2, rfl, hR⟩ := hv.open
  obtain ⟨ir, hir, hr0, hr1, hr2⟩ := info_parts infoMove
  have hL1 : N1 ≤ 40 := by have := hok.l40; omega
  have hL2 : N2 ≤ 40 := by have := hok.u40; omega
  have HR := Lib.hid hR; have HOK := Lib.hid hok; have HN1 := Lib.hid hN1; have HN2 := Lib.hid hN2
  clear hR hv hok hN1 hN2
  go_enter Try.func10, Try.ntmps10
  go_wp2_with fail
  have hB := PB.made HR.out 27
  generalize w.alloc _ = wb at *
  refine (checkPair_ok p _ _ hB.r.val HOK.out).mono ?_
  rintro e wa ⟨rfl, hba⟩
  replace hB := hB.later hba
  clear hba
  have b0 := hB.b0; have b1 := hB.b1; have b2 := hB.b2; have b3 := hB.b3; have b4 := hB.b4; have b5 := hB.b5; have b6 := hB.b6; have b7 := hB.b7
  have HB := Lib.hid hB; clear hB
  go_wp2_with fail
  refine (pairOf_any p _ _ HB.out.r.val HOK.out.toPairOk N1 N2 HN1.out HN2.out).mono ?_
  rintro e wc ⟨px, rfl, hX, hbc⟩
  replace HB := Lib.hid (HB.out.later hbc)
  have HX := Lib.hid hX
  clear hX hbc b0 b1 b2 b3 b4 b5 b6 b7
  go_wp2_with fail
  refine (ranks_any p px N1 N2 _ HX.out HOK.out.toPairOk).mono ?_
  rintro e wd ⟨T1, T2, m, rfl, hfin, hT1, hT2, hbd⟩
  replace HB := Lib.hid (HB.out.later hbd)
  have HF : Hid (FinR p N2 (stP p N2 (m + 1)).R (stP p N2 (m + 1)).S) := ⟨m, hfin.out.1, hfin.out.2, rfl, rfl⟩
  clear hfin
  generalize (stP p N2 (m + 1)).R = R at *
  generalize (stP p N2 (m + 1)).S = S at *
  have HBW := Lib.hid HB.out.bw
  have HT1 := Lib.hid hT1; have HT2 := Lib.hid hT2
  clear hT1 hT2 hbd HB HX
  go_upto_region 7 with (fail)
  obtain ⟨B, hBe⟩ : ∃ B, B = wd.heap.size := ⟨_, rfl⟩
  have HBE : Hid (wd.heap.size ≤ B) := by unfold Hid; omega
  have HLT : Hid (∀ W, Below B wd W → Below wd.heap.size wd W) := fun W h => by rw [← hBe]; exact h
  have HK0 : Hid (ownMoves wd B (.slice none 0 0) [] ∧ Below B wd wd ∧ B ≤ wd.heap.size) := ⟨World.ownsRow_nil _ _ _ _, Below.refl _ _, by omega⟩
  clear hBe
  go_loopw [7, 24] (fun s7 s24 wr => ∃ s : Nat, s ≤ N1 ∧ s24 = .int .i64 s ∧ ownMoves wr B s7 (rkL R S N2 s) ∧ Below B wd wr ∧ B ≤ wr.heap.size) (fun _ s _ => N1 - (intOf s).toNat)
  case atStart => exact ⟨0, Nat.zero_le _, rfl, HK0.out⟩
  case round =>
    clear HK0
    obtain ⟨s, hs, rfl, hO, hbw, hBs⟩ := hrel
    obtain ⟨ao, co, rfl⟩ := row_form hO
    by_cases hlt : s < N1
    · obtain ⟨ar, cr, hrow0, hrm, hrc⟩ := HT1.out s hlt
      obtain ⟨ar2, cr2, hrow2, hrm2, hrc2⟩ := HT2.out s hlt
      have hrow := Below.keeps hbw hrow0 HBE.out
      have hrl : (R s).length = N2 := (HF.out.len s).1
      have hsl : (S s).length = N2 := (HF.out.len s).2
      have hln := rkL_len R S N2 s
      have hln2 : s * N2 ≤ 40 * 40 := Nat.mul_le_mul (by omega) (by omega)
      have HO1 : Hid (ownMoves wr B (.slice ao (rkL R S N2 s).length co) (rkL R S N2 s ++ rkRow s (R s) (S s) 0)) := by unfold Hid; simpa [rkRow] using hO
      have hnx : rkL R S N2 (s + 1) = rkL R S N2 s ++ rkRow s (R s) (S s) N2 := rfl
      have HNX := Lib.hid hnx
      have HBR := Lib.hid hbw; have HBS := Lib.hid hBs; have HLN : Hid ((rkL R S N2 s).length ≤ 1600) := by unfold Hid; omega
      rw [hrl] at hrow
      rw [hsl] at hrow2
      have HRL := Lib.hid hrl; have HRC := Lib.hid hrc
      have HSL := Lib.hid hsl; have HSC := Lib.hid hrc2; have HR2 := Lib.hid hrow2
      clear hO hbw hBs hnx hln hln2 hrm hrl hrc hrow0 hrc2 hrm2 hrow2 hsl
      generalize hLg : rkL R S N2 s = L at *
      clear hLg
      generalize (Value.slice ao L.length co) = v0 at *
      go_upto_region 10 with (fail)
      clear hrow
      go_loopw [7, 32] (fun s7 s32 wr => ∃ u : Nat, u ≤ N2 ∧ s32 = .int .i64 u ∧ ownMoves wr B s7 (L ++ rkRow s (R s) (S s) u) ∧ Below B wd wr ∧ B ≤ wr.heap.size) (fun _ u _ => N2 - (intOf u).toNat)
      case atStart => exact ⟨0, Nat.zero_le _, rfl, HO1.out, HBR.out, HBS.out⟩
      case round =>
        clear HO1 HBR HBS
        obtain ⟨u, hu, rfl, hO, hbw, hBs⟩ := hrel
        obtain ⟨ao, co, rfl⟩ := row_form hO
        by_cases hltu : u < N2
        · obtain ⟨b, o, f1, g1⟩ := (HRC.out.later (HLT.out _ hbw)) u (by have := HRL.out; omega)
          subst f1
          have hnx : rkRow s (R s) (S s) (u + 1) = rkRow s (R s) (S s) u ++ (if gi (R s) u = -1 then [] else [⟨(s : Int), (u : Int), gi (R s) u, gi (S s) u⟩]) := rfl
          have hln := rkRow_len s (R s) (S s) u
          have HBW := Lib.hid hbw; have HBS := Lib.hid hBs
          have HO := Lib.hid hO
          have HLL : Hid ((L ++ rkRow s (R s) (S s) u).length ≤ 1640) := by unfold Hid; have := HLN.out; simp; omega
          by_cases hq : gi (R s) u = -1
          · rw [if_pos hq] at hnx
            rw [hq] at g1
            have HNX2 := Lib.hid hnx
            clear hO hbw hBs hnx hln hq
            generalize hLu : L ++ rkRow s (R s) (S s) u = Lu at *
            have HLU := Lib.hid hLu
            clear hLu
            generalize (Value.slice ao Lu.length co) = v1 at *
            go_wp2
            exact ⟨⟨u + 1, by omega, by go_num, by rw [HNX2.out, List.append_nil, HLU.out]; exact HO.out, HBW.out, HBS.out⟩, by simp [intOf]; omega⟩
          · rw [if_neg hq] at hnx
            obtain ⟨b2, o2, f2, g2⟩ := (HSC.out.later (HLT.out _ hbw)) u (by have := HSL.out; omega)
            subst f2
            have h2 := Below.keeps hbw HR2.out HBE.out
            generalize hqe : gi (R s) u = q at *
            generalize hse : gi (S s) u = st at *
            have hd : (q != -1) = true := by simpa using hq
            have HNX2 := Lib.hid hnx
            clear hO hbw hBs hnx hln hq hqe hse
            generalize hLu : L ++ rkRow s (R s) (S s) u = Lu at *
            have HLU := Lib.hid hLu
            clear hLu
            go_wp2_with (at_builtin; refine wpList_append_own_at _ rfl _ _ 36 rfl B 44 ir (.agg #[.int .i64 0, .int .i64 0, .int .i64 0, .int .i64 0]) 4 32 Try.underlying36 hir hr0 hr1 hr2 rfl (by decide) _ _ _ rfl (HO.out.alloc _) _ _ _ [.int .i64 (s : Int), .int .i64 (u : Int), .int .i64 q, .int .i64 st] rfl rfl ?c1 ?c2 ?c3 ?c4 ?c5 ?_)
            case c1 => exact cells_new4 _ _ _ _ _ _
            case c2 => intro u hu; simp at hu; rcases hu with rfl | rfl | rfl | rfl <;> rfl
            case c3 => have := HLL.out; unfold maxLen; omega
            case c4 => have := HLL.out; omega
            case c5 => have := HBS.out; simp; omega
            · intro v7 w7 ho7 hg7 _ hat7
              have hbx : Below wr.heap.size wr (wr.alloc (Obj.cells #[.int .i64 (s : Int), .int .i64 (u : Int), .int .i64 q, .int .i64 st] 44)) := (Below.refl _ _).alloc (Nat.le_refl _) _
              have HP : Hid (ownMoves w7 B v7 (Lu ++ [⟨(s : Int), (u : Int), q, st⟩])) := by unfold Hid ownMoves; rw [mCells_app]; simpa [mCells] using ho7
              have HB7 : Hid (Below B wd w7 ∧ B ≤ w7.heap.size) := by
                have h2 := hg7.size
                have hl := HBS.out
                refine ⟨((HBW.out.trans (hbx.mono hl))).grown hg7 (by simp; omega) (fun q hq => (HO.out.lt q hq).1), by simp at h2; omega⟩
              obtain ⟨a7, c7, rfl⟩ := row_form ho7
              clear ho7 hg7 hat7 hbx
              go_wp2
              exact ⟨⟨u + 1, by omega, by go_num, by rw [HNX2.out, ← List.append_assoc, HLU.out]; exact HP.out, HB7.out.1, HB7.out.2⟩, by simp [intOf]; omega⟩
        · have huu : u = N2 := by omega
          subst huu
          generalize (Value.slice ao (L ++ rkRow s (R s) (S s) u).length co) = v1 at *
          rw [← HNX.out] at hO
          go_wp2
          exact ⟨⟨s + 1, by omega, by go_num, hO, hbw, hBs⟩, by simp [intOf]; omega⟩
    · have hss : s = N1 := by omega
      subst hss
      have HO := Lib.hid hO
      clear hO
      generalize (Value.slice ao (rkL R S N2 s).length co) = v1 at *
      go_wp2
      refine bodyPost_ret (v := .tuple #[v1, .int .i64 0]) (by simp [results, Try.results10, go_sem]) rfl ⟨R, S, v1, rfl, HF.out, MovesAt.of_own HO.out, HBW.out.trans (hbw.mono (Nat.le_trans HBW.out.size HBE.out))⟩
end Go.Proofs.Ytciopdlmjciieaa
