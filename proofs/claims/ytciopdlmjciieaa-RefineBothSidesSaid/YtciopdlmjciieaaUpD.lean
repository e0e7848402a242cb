import Derived.Test.YtciopdlmjciieaaUpC
import Derived.Test.YtciopdlmjciieaaCheckM
namespace Go.Proofs.Ytciopdlmjciieaa
open Go.RowKit Go.Shelf
set_option linter.unusedVariables false

/-- A lower path. -/
structure PathOk (p : P2) (l : List Int) : Prop where
  ne : l ≠ []
  len : l.length ≤ 60
  rng : ∀ s ∈ l, 0 ≤ s ∧ s < p.lo.n
  init : gi l 0 ∈ p.lo.init
  step : ∀ i, i + 1 < l.length → gi l (i + 1) = gi l i ∨ gi l (i + 1) ∈ lowRow p (gi l i).toNat

set_option maxHeartbeats 800000 in
set_option maxRecDepth 100000 in
theorem range_any (n : Int) (bp : Nat) (l : List Int) (w : World) (hp : w.cell? ⟨bp, 0, none⟩ = some (.int .i64 n)) (hr : ∀ s ∈ l, 0 ≤ s ∧ s < n) :
    Asks 43 #[.pointer (some ⟨bp, 0, none⟩)] (fun _ => false) l w := by
  intro q j hj
  show Calls Try.prog 43 #[Value.int .i64 (gi l j), .pointer (some ⟨bp, 0, none⟩)] _ _
  have hx := hr _ (gi_mem hj)
  generalize gi l j = x at *
  have hpd : (w.drewN q).cell? ⟨bp, 0, none⟩ = some (.int .i64 n) := by simpa using hp
  have h1 : decide (x < 0) = false := decide_eq_false (by omega)
  have h2 : decide (n ≤ x) = false := decide_eq_false (by omega)
  clear hp hr
  generalize w.drewN q = W at *
  go_enter Try.func43, Try.ntmps43
  go_wp2
  go_ret
  exact ⟨by first | rfl | (simp; omega), 0, rfl⟩
theorem anyP_false (l : List Int) : anyP (fun _ => false) l = false := by
  unfold anyP
  simp

set_option maxHeartbeats 2000000 in
set_option maxRecDepth 100000 in
theorem upper_any (p : P2) (v vl : Value) (l : List Int) (w : World) (hv : PairV w v p) (hl : IntsAt w vl l) (hok : PairFull p) (hp : PathOk p l) (N1 N2 : Nat) (hN1 : p.lo.n = N1) (hN2 : p.up.n = N2) :
    Calls Try.prog 19 #[v, vl] w fun e w' => ∃ (x : Value) (err : Int) (q : List Int), e = .returned (.tuple #[x, .int .i64 err]) ∧ IntsAt w' x q ∧ Hid ((err = 0 ∧ upR p p.up.init l = some q) ∨ (err = 25 ∧ q = [] ∧ upR p p.up.init l = none)) ∧ Below w.heap.size w w' := by
  obtain ⟨i1, e1, i2, e2, l1, l2, c1, d1, c2, d2, k1, k2, rfl, hR⟩ := hv.open
  obtain ⟨al, cl, rfl⟩ : ∃ a c, vl = .slice a l.length c := by obtain ⟨a, c, rfl, -, -⟩ := hl; exact ⟨a, c, rfl⟩
  have HR := Lib.hid hR; have HOK := Lib.hid hok; have HN1 := Lib.hid hN1; have HN2 := Lib.hid hN2; have HP := Lib.hid hp; have HL := Lib.hid hl
  have hl0 : l.length ≠ 0 := fun h => hp.ne (List.length_eq_zero_iff.1 h)
  have hl60 := hp.len
  have hz1 : ((l.length : Int) == 0) = false := by simpa using hl0
  have hz2 : decide ((60 : Int) < (l.length : Int)) = false := decide_eq_false (by omega)
  clear hR hv hok hN1 hN2 hl hp
  go_enter Try.func19, Try.ntmps19
  go_wp2_with fail
  have hB := PB.made HR.out 27
  generalize w.alloc _ = wb at *
  refine (checkPair_ok p _ _ hB.r.val HOK.out).mono ?_
  rintro e wa ⟨rfl, hba⟩
  replace hB := hB.later hba
  clear hba
  have b0 := hB.b0; have b1 := hB.b1; have b2 := hB.b2; have b3 := hB.b3; have b4 := hB.b4; have b5 := hB.b5; have b6 := hB.b6; have b7 := hB.b7
  have HB := Lib.hid hB; clear hB
  have HLA := Lib.hid (HL.out.later HB.out.bw)
  go_upto_region 8 with (fail)
  have hask := Lib.hid (range_any p.lo.n w.heap.size l wa b0 HP.out.rng)
  go_wp2_with fail
  refine (containsF_any 43 _ (fun _ => false) (fun _ _ => rfl) l _ _ HLA.out hask.out).mono ?_
  rintro e wq ⟨rfl, nq, rfl⟩
  have hfa := anyP_false l
  have hd : Below wa.heap.size wa (wa.drewN nq) := below_drewN (Below.refl _ _) _
  replace HB := Lib.hid (HB.out.later hd)
  clear hask HLA b0 b1 b2 b3 b4 b5 b6 b7 hd
  generalize wa.drewN nq = w3 at *
  have b0 := HB.out.b0; have b1 := HB.out.b1; have b2 := HB.out.b2; have b3 := HB.out.b3; have b4 := HB.out.b4; have b5 := HB.out.b5; have b6 := HB.out.b6; have b7 := HB.out.b7
  go_wp2_with fail
  refine (pairOf_any p _ _ HB.out.r.val HOK.out.toPairOk N1 N2 HN1.out HN2.out).mono ?_
  rintro e wc ⟨px, rfl, hX, hbc⟩
  replace HB := Lib.hid (HB.out.later hbc)
  have HX := Lib.hid hX
  clear hX hbc b0 b1 b2 b3 b4 b5 b6 b7 hfa
  go_upto_region 12 with (fail)
  go_loopw [28] (fun s28 wr => ∃ k : Nat, k ≤ l.length ∧ s28 = .int .i64 k ∧ Below wc.heap.size wc wr) (fun s28 _ => l.length - (intOf s28).toNat)
  case atStart => exact ⟨0, Nat.zero_le _, rfl, Below.refl _ _⟩
  case round =>
    obtain ⟨k, hk, rfl, hbw⟩ := hrel
    have HBR := Lib.hid (HB.out.later hbw)
    by_cases hlt : k < l.length
    · obtain ⟨a', c', e', -, hlc⟩ := HL.out.later HBR.out.bw
      injection e' with e1' _ e2'
      subst e1' e2'
      obtain ⟨bl, ol, f1, g1⟩ := hlc k hlt
      subst f1
      rcases Nat.eq_zero_or_pos k with h0 | h0
      · subst h0
        rw [Nat.add_zero] at g1
        have HCI : Hid (decide (gi l 0 ∈ p.lo.init) = true) := decide_eq_true HP.out.init
        have HIN := Lib.hid HBR.out.r.r1
        have b1 := HBR.out.b1
        have HBW := Lib.hid hbw
        generalize gi l 0 = s at *
        clear hlc hbw
        go_wp2_with fail
        go_quiet ((go_at_call 40; exact Calls.quiet_of_same (contains_is HCI.out _ (HIN.out.drew _))))
        go_wp2
        exact ⟨⟨1, by omega, by go_num, below_drewN HBW.out _⟩, by simp [intOf]; omega⟩
      · obtain ⟨j, rfl⟩ : ∃ j, k = j + 1 := ⟨k - 1, by omega⟩
        obtain ⟨bl2, ol2, f2, g2⟩ := hlc j (by omega)
        injection f2 with f2
        injection f2 with f2 f3 _
        subst f2 f3
        have hstep := HP.out.step j hlt
        have hrg := HP.out.rng _ (gi_mem (l := l) (j := j) (by omega))
        have hn1 := HN1.out
        generalize gi l (j + 1) = s at *
        generalize gi l j = r at *
        obtain ⟨R, rfl⟩ : ∃ R : Nat, r = (R : Int) := ⟨r.toNat, by omega⟩
        have hRN : R < N1 := by omega
        rw [Int.toNat_natCast] at hstep
        have hz : ((j : Int) + 1 == 0) = false := by
          have : (j : Int) + 1 ≠ 0 := by omega
          simpa using this
        have hp : (0 : Int) < (j : Int) + 1 := by omega
        have hw : IntKind.i64.wrap (j : Int) = (j : Int) := IntWalk.i64_in _ (by omega)
        have hjl : (j : Int) < (l.length : Int) := by omega
        have hjl2 : (j : Int) + 1 < (l.length : Int) := by omega
        have hqq : ((R : Int) != (R : Int)) = false := by simp
        obtain ⟨i1', e1', i2', e2', l1', l2', c1', d1', c2', d2', k1', k2', TL, TU, hp', -, -, -, -, -, -, hLO, -⟩ := HX.out.ex
        obtain ⟨ar, cr, hrow0, hrm, hrc⟩ := hLO R hRN
        have q8 := Below.keeps hbw hp'.q8 (Nat.le_refl _)
        have hrow := Below.keeps hbw hrow0 (Nat.le_refl _)
        have HRI : Hid (IntsAt wr (.slice ar (lowRow p R).length cr) (lowRow p R)) := ⟨_, _, rfl, hrm, hrc.later hbw⟩
        have HBW := Lib.hid hbw
        clear hlc hbw hp' hrow0 hrm hrc hLO hrg hn1
        by_cases heq : s = (R : Int)
        · subst heq
          clear hstep
          go_wp2_with fail
          go_quiet (fail)
          go_wp2
          exact ⟨⟨j + 1 + 1, by omega, by go_num, below_drewN HBW.out _⟩, by simp [intOf]; omega⟩
        · have hne : (s != (R : Int)) = true := by simpa using heq
          have hin : s ∈ lowRow p R := hstep.resolve_left heq
          have HCI : Hid (decide (s ∈ lowRow p R) = true) := decide_eq_true hin
          clear hin hstep
          go_wp2_with fail
          go_quiet ((go_at_call 40; exact Calls.quiet_of_same (contains_is HCI.out _ (HRI.out.drew _))))
          go_wp2
          exact ⟨⟨j + 1 + 1, by omega, by go_num, below_drewN HBW.out _⟩, by simp [intOf]; omega⟩
    · have hkk : k = l.length := by omega
      subst hkk
      have HXR := Lib.hid (HX.out.later hbw)
      clear hbw
      go_wp2_with fail
      refine (upperPath_any p px N1 N2 l _ wr HXR.out HOK.out.toPairOk (HL.out.later HBR.out.bw) (fun s hs => by have := HP.out.rng s hs; have := HN1.out; omega) HP.out.ne HP.out.len).mono ?_
      rintro e wz ⟨x, err, q, rfl, hIx, hsaid, hbz⟩
      have HIX := Lib.hid hIx; have HBZ := Lib.hid (HBR.out.bw.trans (hbz.mono HBR.out.bw.size))
      clear hIx hbz
      go_wp2
      refine bodyPost_ret (v := .tuple #[x, .int .i64 err]) (by simp [results, Try.results19, go_sem]) rfl ⟨x, err, q, rfl, HIX.out, hsaid, HBZ.out⟩
end Go.Proofs.Ytciopdlmjciieaa
