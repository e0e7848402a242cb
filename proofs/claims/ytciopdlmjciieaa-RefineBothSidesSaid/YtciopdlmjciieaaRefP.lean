import Derived.Test.YtciopdlmjciieaaBox
import Derived.Test.YtciopdlmjciieaaRefG
namespace Go.Proofs.Ytciopdlmjciieaa
open Go.RowKit
set_option linter.unusedVariables false

theorem graphOk_of {g : G} (h : isG g = true) : graphOk g := by
  obtain ⟨h1, h2, h3, h4, h5, h6⟩ := (isG_iff g).1 h
  exact ⟨h1, h4, h5, h6⟩

set_option maxHeartbeats 2000000 in
set_option maxRecDepth 100000 in
/-- ref.PairErr: 0 only of a pair that is one. -/
theorem pairErr_any (p : P2) (v : Value) (w : World) (hv : PairV w v p) :
    Calls Try.prog 7 #[v] w fun e w' => ∃ r : Int, e = .returned (.int .i64 r) ∧ Hid (r = 0 → PairFull p) ∧ Below w.heap.size w w' := by
  obtain ⟨i1, e1, i2, e2, l1, l2, c1, d1, c2, d2, k1, k2, rfl, hR⟩ := hv.open
  have hm5 : p.ll.length ≤ maxLen := by obtain ⟨_, _, _, h, -⟩ := hR.r5; exact h
  have hm6 : p.ul.length ≤ maxLen := by obtain ⟨_, _, _, h, -⟩ := hR.r6; exact h
  unfold maxLen at hm5 hm6
  have HR := Lib.hid hR; clear hR hv
  go_enter Try.func7, Try.ntmps7
  go_wp2_with fail
  have hB := PB.made HR.out 27
  clear HR
  generalize w.alloc _ = wb at *
  cases hg1 : isG p.lo with
  | false =>
    refine (isGraph_any p.lo _ _ hB.r.lo).mono ?_
    rw [hg1]
    rintro e wa ⟨rfl, hba⟩
    have HB := Lib.hid (hB.later hba)
    clear hba hB
    go_wp2
    go_ret
    exact ⟨5, rfl, fun h => by omega, HB.out.bw⟩
  | true =>
    refine (isGraph_any p.lo _ _ hB.r.lo).mono ?_
    rw [hg1]
    rintro e wa ⟨rfl, hba⟩
    replace hB := hB.later hba
    clear hba
    have b3 := hB.b3; have b4 := hB.b4; have b5 := hB.b5
    have HB := Lib.hid hB; clear hB
    have HG1 := Lib.hid (graphOk_of hg1)
    clear hg1
    go_wp2_with fail
    cases hg2 : isG p.up with
    | false =>
      refine (isGraph_any p.up _ _ HB.out.r.up).mono ?_
      rw [hg2]
      rintro e wc ⟨rfl, hbc⟩
      replace HB := Lib.hid (HB.out.later hbc)
      clear hbc b3 b4 b5
      go_wp2
      go_ret
      exact ⟨5, rfl, fun h => by omega, HB.out.bw⟩
    | true =>
      refine (isGraph_any p.up _ _ HB.out.r.up).mono ?_
      rw [hg2]
      rintro e wc ⟨rfl, hbc⟩
      have hB := HB.out.later hbc
      clear HB hbc b3 b4 b5
      have HG2 := Lib.hid (graphOk_of hg2)
      clear hg2
      have b0 := hB.b0; have b3 := hB.b3; have b6 := hB.b6; have b7 := hB.b7
      have HB := Lib.hid hB; clear hB
      by_cases q1 : 40 < p.lo.n
      · go_wp2
        go_ret
        exact ⟨2, rfl, fun h => by omega, HB.out.bw⟩
      by_cases q2 : 40 < p.up.n
      · go_wp2
        go_ret
        exact ⟨2, rfl, fun h => by omega, HB.out.bw⟩
      by_cases q3 : (p.ll.length : Int) = p.lo.n
      rotate_left
      · have q3' : ((p.ll.length : Int) != p.lo.n) = true := by simpa using q3
        clear q3
        go_wp2
        go_ret
        exact ⟨6, rfl, fun h => by omega, HB.out.bw⟩
      have q3' : ((p.ll.length : Int) != p.lo.n) = false := by simpa using q3
      have Q3 := Lib.hid q3
      clear q3
      by_cases q4 : (p.ul.length : Int) = p.up.n
      rotate_left
      · have q4' : ((p.ul.length : Int) != p.up.n) = true := by simpa using q4
        clear q4
        go_wp2
        go_ret
        exact ⟨6, rfl, fun h => by omega, HB.out.bw⟩
      have q4' : ((p.ul.length : Int) != p.up.n) = false := by simpa using q4
      have Q4 := Lib.hid q4
      clear q4
      have Q1 := Lib.hid q1; have Q2 := Lib.hid q2
      go_upto_region 8 with (fail)
      clear q1 q2 q3' q4' b0 b3 b6 b7
      go_loopw [3] (fun i wr => ∃ k : Nat, k ≤ p.ll.length ∧ i = .int .i64 k ∧ Hid (∀ j, j < k → 0 ≤ gi p.ll j ∧ gi p.ll j ≤ 10000) ∧ PB w wr p i1 e1 i2 e2 l1 l2 c1 d1 c2 d2 k1 k2) (fun i _ => p.ll.length - (intOf i).toNat)
      case atStart => exact ⟨0, Nat.zero_le _, rfl, fun j hj => by omega, HB.out⟩
      case round =>
        clear HB
        obtain ⟨k, hk, rfl, hall, hB⟩ := hrel
        have b6 := hB.b6
        by_cases hlt : k < p.ll.length
        · obtain ⟨a', c', e', -, hcc⟩ := hB.r.r5
          injection e' with e1' e2' e3'
          subst e1' e3'
          obtain ⟨b, o, f1, g1⟩ := hcc k hlt
          subst f1
          have HB := Lib.hid hB; clear hB hcc
          by_cases hd : 0 ≤ gi p.ll k ∧ gi p.ll k ≤ 10000
          · go_wp2_with fail
            refine (between_yes _ hd).mono ?_
            rintro e w1 ⟨rfl, rfl⟩
            go_wp2
            exact ⟨⟨k + 1, by omega, by go_num, fun j hj => (by rcases Nat.lt_succ_iff_lt_or_eq.1 hj with h | h; exact hall.out j h; rw [h]; exact hd), HB.out⟩, by simp [intOf]; omega⟩
          · go_wp2_with fail
            refine (between_no _ hd).mono ?_
            rintro e w1 ⟨rfl, rfl⟩
            go_wp2
            go_ret
            exact ⟨3, rfl, fun h => by omega, HB.out.bw⟩
        · have hkk : k = p.ll.length := by omega
          subst hkk
          have b7 := hB.b7
          have HB := Lib.hid hB; clear hB
          have HALL := hall
          clear hall
          go_upto_region 13 with (fail)
          clear b6 b7
          go_loopw [4] (fun i wr => ∃ k : Nat, k ≤ p.ul.length ∧ i = .int .i64 k ∧ Hid (∀ j, j < k → 0 ≤ gi p.ul j ∧ gi p.ul j ≤ 10000) ∧ PB w wr p i1 e1 i2 e2 l1 l2 c1 d1 c2 d2 k1 k2) (fun i _ => p.ul.length - (intOf i).toNat)
          case atStart => exact ⟨0, Nat.zero_le _, rfl, fun j hj => by omega, HB.out⟩
          case round =>
            clear HB
            obtain ⟨k, hk, rfl, hall, hB⟩ := hrel
            have b7 := hB.b7
            by_cases hlt : k < p.ul.length
            · obtain ⟨a', c', e', -, hcc⟩ := hB.r.r6
              injection e' with e1' e2' e3'
              subst e1' e3'
              obtain ⟨b, o, f1, g1⟩ := hcc k hlt
              subst f1
              have HB := Lib.hid hB; clear hB hcc
              by_cases hd : 0 ≤ gi p.ul k ∧ gi p.ul k ≤ 10000
              · go_wp2_with fail
                refine (between_yes _ hd).mono ?_
                rintro e w1 ⟨rfl, rfl⟩
                go_wp2
                exact ⟨⟨k + 1, by omega, by go_num, fun j hj => (by rcases Nat.lt_succ_iff_lt_or_eq.1 hj with h | h; exact hall.out j h; rw [h]; exact hd), HB.out⟩, by simp [intOf]; omega⟩
              · go_wp2_with fail
                refine (between_no _ hd).mono ?_
                rintro e w1 ⟨rfl, rfl⟩
                go_wp2
                go_ret
                exact ⟨3, rfl, fun h => by omega, HB.out.bw⟩
            · have hkk : k = p.ul.length := by omega
              subst hkk
              have HB := Lib.hid hB; clear hB
              have HPF : Hid (PairFull p) := by
                have := Q1.out; have := Q2.out
                refine ⟨⟨HG1.out, HG2.out, by omega, by omega, Q3.out, Q4.out⟩, fun x hx => ?_⟩
                rcases List.mem_append.1 hx with h | h
                · obtain ⟨j, hj, rfl⟩ := mem_gi.1 h; exact HALL.out j hj
                · obtain ⟨j, hj, rfl⟩ := mem_gi.1 h; exact hall.out j hj
              go_wp2
              go_ret
              exact ⟨0, rfl, fun _ => HPF.out, HB.out.bw⟩
end Go.Proofs.Ytciopdlmjciieaa
