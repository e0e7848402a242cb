import Derived.Test.YtciopdlmjciieaaChkB
import Derived.Test.YtciopdlmjciieaaChkC
namespace Go.Proofs.Ytciopdlmjciieaa
open Go.RowKit
set_option linter.unusedVariables false
set_option linter.unusedSimpArgs false

/-- How moves are read, their address known. -/
def MovesC (w : World) (a : Option Addr) (L : List Mv) : Prop := ∀ (j : Nat) (x : Mv), L[j]? = some x → ∃ b off, a = some ⟨b, off, none⟩ ∧
  w.cell? ⟨b, off + j * 4, none⟩ = some (.int .i64 x.low) ∧ w.cell? ⟨b, off + j * 4 + 1, none⟩ = some (.int .i64 x.up) ∧ w.cell? ⟨b, off + j * 4 + 2, none⟩ = some (.int .i64 x.rank) ∧ w.cell? ⟨b, off + j * 4 + 3, none⟩ = some (.int .i64 x.step)
theorem MovesC.later {w w' : World} {a : Option Addr} {L : List Mv} (h : MovesC w a L) (hb : Below w.heap.size w w') : MovesC w' a L := fun j x hx => by
  obtain ⟨b, off, e1, e2, e3, e4, e5⟩ := h j x hx
  exact ⟨b, off, e1, Below.keeps hb e2 (Nat.le_refl _), Below.keeps hb e3 (Nat.le_refl _), Below.keeps hb e4 (Nat.le_refl _), Below.keeps hb e5 (Nat.le_refl _)⟩
theorem MovesC.turned {w w' : World} {b : Nat} {a : Option Addr} {L : List Mv} (h : MovesC w a L) (ht : w.mapTurned w' b) : MovesC w' a L := fun j x hx => by
  obtain ⟨b, off, e1, e2, e3, e4, e5⟩ := h j x hx
  exact ⟨b, off, e1, turned_cell ht e2, turned_cell ht e3, turned_cell ht e4, turned_cell ht e5⟩
open Classical in
/-- The ranks that the first moves give. -/
noncomputable def rkS (L : List Mv) (ρ : Nat → Nat → Int) (k : Nat) : Nat → Nat → Option Int := fun i j => if ∃ x ∈ L.take k, x.low = (i : Int) ∧ x.up = (j : Int) then some (ρ i j) else none
theorem rkS_zero (L : List Mv) (ρ : Nat → Nat → Int) : rkS L ρ 0 = fun _ _ => none := by
  funext i j
  unfold rkS
  rw [if_neg]
  rintro ⟨x, hx, -⟩
  simp at hx
theorem rkS_succ {L : List Mv} {ρ : Nat → Nat → Int} {k s u : Nat} {x : Mv} (h : L[k]? = some x) (h1 : x.low = (s : Int)) (h2 : x.up = (u : Int)) (h3 : x.rank = ρ s u) : put2 (rkS L ρ k) s u (some x.rank) = rkS L ρ (k + 1) := by
  funext i j
  unfold put2 rkS
  rw [List.take_add_one, h]
  by_cases he : i = s ∧ j = u
  · obtain ⟨rfl, rfl⟩ := he
    rw [if_pos ⟨rfl, rfl⟩, if_pos ⟨x, by simp, h1, h2⟩, h3]
  · rw [if_neg he]
    by_cases hq : ∃ y ∈ L.take k, y.low = (i : Int) ∧ y.up = (j : Int)
    · rw [if_pos hq, if_pos]
      obtain ⟨y, hy, hy2⟩ := hq
      exact ⟨y, List.mem_append_left _ hy, hy2⟩
    · rw [if_neg hq, if_neg]
      rintro ⟨y, hy, hy1, hy2⟩
      rcases List.mem_append.1 hy with h4 | h4
      · exact hq ⟨y, h4, hy1, hy2⟩
      · have : y = x := by simpa using h4
        subst this
        exact he ⟨by omega, by omega⟩
/-- What CheckRanks keeps in memory. -/
structure RM (w wr : World) (p : P2) (L : List Mv) (am i1 e1 i2 e2 l1 l2 : Option Addr) (c1 d1 c2 d2 k1 k2 bM n : Nat) (S : Nat → Nat → Option Int) : Prop where
  b : PB w wr p i1 e1 i2 e2 l1 l2 c1 d1 c2 d2 k1 k2
  mv : MovesC wr am L
  im : RkM wr bM n S
  ib : w.heap.size ≤ bM
section
variable {w wr w' : World} {p : P2} {L : List Mv} {am i1 e1 i2 e2 l1 l2 : Option Addr} {c1 d1 c2 d2 k1 k2 bM n n' : Nat} {S S' : Nat → Nat → Option Int}
theorem RM.later (h : RM w wr p L am i1 e1 i2 e2 l1 l2 c1 d1 c2 d2 k1 k2 bM n S) (hb : Below wr.heap.size wr w') : RM w w' p L am i1 e1 i2 e2 l1 l2 c1 d1 c2 d2 k1 k2 bM n S :=
  ⟨h.b.later hb, h.mv.later hb, h.im.later hb, h.ib⟩
theorem RM.turned (h : RM w wr p L am i1 e1 i2 e2 l1 l2 c1 d1 c2 d2 k1 k2 bM n S) (ht : wr.mapTurned w' bM) (hm : RkM w' bM n' S') : RM w w' p L am i1 e1 i2 e2 l1 l2 c1 d1 c2 d2 k1 k2 bM n' S' :=
  ⟨h.b.turned ht h.ib, h.mv.turned ht, hm, h.ib⟩
end

set_option maxHeartbeats 8000000 in
set_option maxRecDepth 100000 in
theorem checkRanks_any (p : P2) (L : List Mv) (ρ : Nat → Nat → Int) (v vl : Value) (w : World) (hv : PairV w v p) (hl : MovesAt w vl L) (hok : PairFull p) (N1 N2 : Nat) (hN1 : p.lo.n = N1) (hN2 : p.up.n = N2) (hL : RkOk p N1 N2 L ρ) :
    Calls Try.prog 13 #[v, vl] w fun e w' => e = .returned (.tuple #[.int .i64 0, .int .i64 0]) ∧ Below w.heap.size w w' := by
  obtain ⟨i1, e1, i2, e2, l1, l2, c1, d1, c2, d2, k1, k2, rfl, hR⟩ := hv.open
  obtain ⟨am, cm, rfl, -, hmoves⟩ := hl
  have HR := Lib.hid hR; have HOK := Lib.hid hok; have HN1 := Lib.hid hN1; have HN2 := Lib.hid hN2; have HL := Lib.hid hL
  have HW : Hid (MovesC w am L) := hmoves
  have hlen := hL.len
  have H40 : Hid (N1 ≤ 40 ∧ N2 ≤ 40) := by have := hok.l40; have := hok.u40; exact ⟨by omega, by omega⟩
  clear hR hv hok hN1 hN2 hL hmoves
  have hmm := @run_makeMap Try.prog
  go_enter Try.func13, Try.ntmps13
  go_upto_region 1 with (fail)
  have hB := PB.made HR.out 27
  generalize w.alloc _ = wb at *
  have b0 := hB.b0; have b1 := hB.b1; have b2 := hB.b2; have b3 := hB.b3; have b4 := hB.b4; have b5 := hB.b5; have b6 := hB.b6; have b7 := hB.b7
  have HB := Lib.hid hB; clear hB HR
  go_wp2_with fail
  refine (checkPair_ok p _ _ HB.out.r.val HOK.out).mono ?_
  rintro e wa ⟨rfl, hba⟩
  replace HB := Lib.hid (HB.out.later hba)
  clear hba b0 b1 b2 b3 b4 b5 b6 b7
  go_upto_region 6 with (fail)
  have HC : Hid (RM w (wa.alloc (.map #[] 0)) p L am i1 e1 i2 e2 l1 l2 c1 d1 c2 d2 k1 k2 wa.heap.size 0 (rkS L ρ 0)) := by
    have q1 : Below wa.heap.size wa (wa.alloc (.map #[] 0)) := (Below.refl _ _).alloc (Nat.le_refl _) _
    refine ⟨HB.out.later q1, HW.out.later (HB.out.bw.trans (q1.mono HB.out.bw.size)), ?_, HB.out.bw.size⟩
    rw [rkS_zero]
    exact rkM_made wa
  clear HB HW hmm
  generalize wa.alloc (.map #[] 0) = W0 at *
  generalize wa.heap.size = bM at *
  go_loopw [21] (fun i wr => ∃ k : Nat, k ≤ L.length ∧ i = .int .i64 k ∧ Hid (RM w wr p L am i1 e1 i2 e2 l1 l2 c1 d1 c2 d2 k1 k2 bM k (rkS L ρ k))) (fun i _ => L.length - (intOf i).toNat)
  case atStart => exact ⟨0, Nat.zero_le _, rfl, HC⟩
  case round =>
    clear HC
    obtain ⟨k, hk, rfl, hc⟩ := hrel
    by_cases hlt : k < L.length
    · obtain ⟨s, u, hs, hu, hx1, hx2, hx3, hx4, hx5⟩ := HL.out.row _ (List.getElem_mem hlt)
      have hget : L[k]? = some L[k] := List.getElem?_eq_getElem hlt
      obtain ⟨b, off, f1, m0, m1, m2, m3⟩ := hc.out.mv k _ hget
      have HASC : Hid (∀ k', k = k' + 1 → ∀ y, L[k']? = some y → y.low < L[k].low ∨ y.low = L[k].low ∧ y.up < L[k].up) := fun k' e1 y e2 => by
        have := List.pairwise_iff_getElem.1 HL.out.asc k' k (by omega) hlt (by omega)
        have e3 : L[k'] = y := by rw [List.getElem?_eq_getElem (by omega)] at e2; injection e2
        rw [e3] at this
        exact this
      have HPUT : Hid (put2 (rkS L ρ k) s u (some L[k].rank) = rkS L ρ (k + 1)) := rkS_succ hget hx1 hx2 hx3
      subst f1
      generalize L[k] = x at *
      obtain ⟨low, up, rank, step⟩ := x
      dsimp only at *
      subst hx1 hx2
      have HRK : Hid (0 ≤ rank ∧ rank ≤ 2000) := ⟨hx4, hx5⟩
      have HS : Hid (s ≤ 100 ∧ u ≤ 100) := by have := H40.out; exact ⟨by omega, by omega⟩
      clear hget hx3
      have hbx : Below wr.heap.size wr (wr.alloc (Obj.cells #[.int .i64 (s : Int), .int .i64 (u : Int), .int .i64 rank, .int .i64 step] 44)) := (Below.refl _ _).alloc (Nat.le_refl _) _
      have HX : Hid (∀ i v, #[Value.int .i64 (s : Int), .int .i64 (u : Int), .int .i64 rank, .int .i64 step][i]? = some v → (wr.alloc (Obj.cells #[.int .i64 (s : Int), .int .i64 (u : Int), .int .i64 rank, .int .i64 step] 44)).cell? ⟨wr.heap.size, i, none⟩ = some v) := fun i v h => box_cell _ _ _ i v h
      have HC1 := Lib.hid (hc.out.later hbx)
      clear hbx hc
      go_upto_region 8 with (fail)
      clear m0 m1 m2 m3
      generalize wr.alloc (Obj.cells #[.int .i64 (s : Int), .int .i64 (u : Int), .int .i64 rank, .int .i64 step] 44) = W1 at *
      generalize wr.heap.size = bx at *
      have x0 := HX.out 0 _ rfl; have x1 := HX.out 1 _ rfl; have x2 := HX.out 2 _ rfl
      have b0 := HC1.out.b.b0; have b3 := HC1.out.b.b3
      rw [HN1.out] at b0
      rw [HN2.out] at b3
      have hsN : (s : Int) < (N1 : Int) := by omega
      have huN : (u : Int) < (N2 : Int) := by omega
      have hs0 : 0 ≤ (s : Int) := by omega
      have hu0 : 0 ≤ (u : Int) := by omega
      generalize hsi : (s : Int) = si at *
      generalize hui : (u : Int) = ui at *
      have HSI := Lib.hid hsi; have HUI := Lib.hid hui
      have h3 : ¬ ((N1 : Int) ≤ si) := by omega
      have h4 : ¬ ((N2 : Int) ≤ ui) := by omega
      have q1 : (if ui < si then ui else si) = mn2 si ui := rfl
      have q2 : (if rank < mn2 si ui then rank else mn2 si ui) = mn3 si ui rank := rfl
      have q3 : ¬ (mn3 si ui rank < 0) := fun h => (mn3_neg si ui rank).1 h ⟨hs0, hu0, hx4⟩
      have q4 : decide (mn3 si ui rank < 0) = false := decide_eq_false q3
      clear hsi hui hsN huN hs0 hu0
      clear hs hu hx4 hx5
      go_wp2_with fail
      rcases k with _ | k
      · go_quiet (fail)
        clear h3 h4 q1 q2 q3 q4 b0 b3
        have hsi := HSI.out; have hui := HUI.out
        subst hsi hui
        generalize hWq : W1.drewN nq = W2 at *
        have HC2 : Hid (RM w W2 p L (some ⟨b, off, none⟩) i1 e1 i2 e2 l1 l2 c1 d1 c2 d2 k1 k2 bM 0 (rkS L ρ 0)) := by rw [← hWq]; exact HC1.out.later (below_drewN (Below.refl _ _) _)
        have y0 : W2.cell? ⟨bx, 0, none⟩ = some (.int .i64 (s : Int)) := by rw [← hWq]; simpa using x0
        have y1 : W2.cell? ⟨bx, 1, none⟩ = some (.int .i64 (u : Int)) := by rw [← hWq]; simpa using x1
        have y2 : W2.cell? ⟨bx, 2, none⟩ = some (.int .i64 rank) := by rw [← hWq]; simpa using x2
        obtain ⟨w', hrun, hM', hT'⟩ := HC2.out.im.put (by omega) HS.out.1 HS.out.2 HRK.out.1 HRK.out.2
        dsimp only [kP] at hrun
        have HSM : Hid (RM w w' p L (some ⟨b, off, none⟩) i1 e1 i2 e2 l1 l2 c1 d1 c2 d2 k1 k2 bM (0 + 1) (rkS L ρ (0 + 1))) := by
          rw [HPUT.out] at hM'
          exact HC2.out.turned hT' hM'
        clear hM' hT' HC2 HC1 HPUT HASC x0 x1 x2 hWq
        go_wp2
        exact ⟨⟨_, by omega, by go_num, HSM⟩, by simp [intOf]; omega⟩
      · have hk' : k < L.length := by omega
        have hget' : L[k]? = some L[k] := List.getElem?_eq_getElem hk'
        obtain ⟨b', off', f1, n0, n1, -, -⟩ := HC1.out.mv k _ hget'
        have hasc := HASC.out k rfl _ hget'
        have e21 : b' = b := by injection f1 with f1; injection f1 with f1 f2 _; exact f1.symm
        have e22 : off' = off := by injection f1 with f1; injection f1 with f1 f2 _; exact f2.symm
        rw [e21, e22] at n0 n1
        clear e21 e22
        generalize L[k].low = ylow at *
        generalize L[k].up = yup at *
        have hwk : IntKind.i64.wrap (k : Int) = (k : Int) := IntWalk.i64_in _ (by omega)
        have hwk1 : IntKind.i64.wrap ((k : Int) + 1) = (k : Int) + 1 := IntWalk.i64_in _ (by omega)
        have hwk2 : IntKind.i64.wrap ((k : Int) + 1 - 1) = (k : Int) := by rw [Int.add_sub_cancel]; exact hwk
        have hk0 : (0 : Int) ≤ (k : Int) := by omega
        have hk1 : (k : Int) < (L.length : Int) := by omega
        have hk2 : (0 : Int) < (k : Int) + 1 := by omega
        have g1 : ¬ (si < ylow) := by omega
        have g1' : decide (si < ylow) = false := decide_eq_false g1
        by_cases hy : ylow < si
        · have g2 : (si == ylow) = false := by simpa using (by omega : ¬ si = ylow)
          clear hasc f1
          go_quiet (fail)
          clear h3 h4 q1 q2 q3 q4 b0 b3
          have hsi := HSI.out; have hui := HUI.out
          subst hsi hui
          generalize hWq : W1.drewN nq = W2 at *
          have HC2 : Hid (RM w W2 p L (some ⟨b, off, none⟩) i1 e1 i2 e2 l1 l2 c1 d1 c2 d2 k1 k2 bM (k + 1) (rkS L ρ (k + 1))) := by rw [← hWq]; exact HC1.out.later (below_drewN (Below.refl _ _) _)
          have y0 : W2.cell? ⟨bx, 0, none⟩ = some (.int .i64 (s : Int)) := by rw [← hWq]; simpa using x0
          have y1 : W2.cell? ⟨bx, 1, none⟩ = some (.int .i64 (u : Int)) := by rw [← hWq]; simpa using x1
          have y2 : W2.cell? ⟨bx, 2, none⟩ = some (.int .i64 rank) := by rw [← hWq]; simpa using x2
          obtain ⟨w', hrun, hM', hT'⟩ := HC2.out.im.put (by omega) HS.out.1 HS.out.2 HRK.out.1 HRK.out.2
          dsimp only [kP] at hrun
          have HSM : Hid (RM w w' p L (some ⟨b, off, none⟩) i1 e1 i2 e2 l1 l2 c1 d1 c2 d2 k1 k2 bM (k + 1 + 1) (rkS L ρ (k + 1 + 1))) := by
            rw [HPUT.out] at hM'
            exact HC2.out.turned hT' hM'
          clear hM' hT' HC2 HC1 HPUT HASC x0 x1 x2 hWq
          go_wp2
          exact ⟨⟨_, by omega, by go_num, HSM⟩, by simp [intOf]; omega⟩
        · have g2 : (si == ylow) = true := by simpa using (by omega : si = ylow)
          have g3 : ¬ (ui ≤ yup) := by omega
          have g3' : decide (ui ≤ yup) = false := decide_eq_false g3
          clear hasc f1
          go_quiet (fail)
          clear h3 h4 q1 q2 q3 q4 b0 b3
          have hsi := HSI.out; have hui := HUI.out
          subst hsi hui
          generalize hWq : W1.drewN nq = W2 at *
          have HC2 : Hid (RM w W2 p L (some ⟨b, off, none⟩) i1 e1 i2 e2 l1 l2 c1 d1 c2 d2 k1 k2 bM (k + 1) (rkS L ρ (k + 1))) := by rw [← hWq]; exact HC1.out.later (below_drewN (Below.refl _ _) _)
          have y0 : W2.cell? ⟨bx, 0, none⟩ = some (.int .i64 (s : Int)) := by rw [← hWq]; simpa using x0
          have y1 : W2.cell? ⟨bx, 1, none⟩ = some (.int .i64 (u : Int)) := by rw [← hWq]; simpa using x1
          have y2 : W2.cell? ⟨bx, 2, none⟩ = some (.int .i64 rank) := by rw [← hWq]; simpa using x2
          obtain ⟨w', hrun, hM', hT'⟩ := HC2.out.im.put (by omega) HS.out.1 HS.out.2 HRK.out.1 HRK.out.2
          dsimp only [kP] at hrun
          have HSM : Hid (RM w w' p L (some ⟨b, off, none⟩) i1 e1 i2 e2 l1 l2 c1 d1 c2 d2 k1 k2 bM (k + 1 + 1) (rkS L ρ (k + 1 + 1))) := by
            rw [HPUT.out] at hM'
            exact HC2.out.turned hT' hM'
          clear hM' hT' HC2 HC1 HPUT HASC x0 x1 x2 hWq
          go_wp2
          exact ⟨⟨_, by omega, by go_num, HSM⟩, by simp [intOf]; omega⟩
    · have hkk : k = L.length := by omega
      subst hkk
      have HC := hc
      have b0 := HC.out.b.b0; have b1 := HC.out.b.b1; have b2 := HC.out.b.b2; have b3 := HC.out.b.b3; have b4 := HC.out.b.b4; have b5 := HC.out.b.b5; have b6 := HC.out.b.b6; have b7 := HC.out.b.b7
      clear hc
      go_wp2_with fail
      refine (pairOf_any p _ _ HC.out.b.r.val HOK.out.toPairOk N1 N2 HN1.out HN2.out).mono ?_
      rintro e wc ⟨px, rfl, hX, hbc⟩
      have HCX : Hid (RM w wc p L am i1 e1 i2 e2 l1 l2 c1 d1 c2 d2 k1 k2 bM L.length (rkS L ρ L.length) ∧ PairX wc px p N1 N2) := ⟨HC.out.later hbc, hX⟩
      clear HC hX hbc b0 b1 b2 b3 b4 b5 b6 b7
      go_upto_region 16 with (fail)
      go_loopw [100] (fun i wr => ∃ k : Nat, k ≤ L.length ∧ i = .int .i64 k ∧ Hid (RM w wr p L am i1 e1 i2 e2 l1 l2 c1 d1 c2 d2 k1 k2 bM L.length (rkS L ρ L.length) ∧ PairX wr px p N1 N2)) (fun i _ => L.length - (intOf i).toNat)
      case atStart => exact ⟨0, Nat.zero_le _, rfl, HCX⟩
      case round =>
        clear HCX
        obtain ⟨k, hk, rfl, hc⟩ := hrel
        by_cases hlt : k < L.length
        · have hget : L[k]? = some L[k] := List.getElem?_eq_getElem hlt
          have HMEM := Lib.hid (List.getElem_mem hlt)
          obtain ⟨b, off, f1, m0, m1, m2, m3⟩ := hc.out.1.mv k _ hget
          subst f1
          clear hget
          generalize L[k] = x at *
          obtain ⟨low, up, rank, step⟩ := x
          dsimp only at m0 m1 m2 m3
          have hbx : Below wr.heap.size wr (wr.alloc (Obj.cells #[.int .i64 low, .int .i64 up, .int .i64 rank, .int .i64 step] 44)) := (Below.refl _ _).alloc (Nat.le_refl _) _
          have HX : Hid (∀ i v, #[Value.int .i64 low, .int .i64 up, .int .i64 rank, .int .i64 step][i]? = some v → (wr.alloc (Obj.cells #[.int .i64 low, .int .i64 up, .int .i64 rank, .int .i64 step] 44)).cell? ⟨wr.heap.size, i, none⟩ = some v) := fun i v h => box_cell _ _ _ i v h
          have HC1 : Hid (RM w (wr.alloc (Obj.cells #[.int .i64 low, .int .i64 up, .int .i64 rank, .int .i64 step] 44)) p L (some ⟨b, off, none⟩) i1 e1 i2 e2 l1 l2 c1 d1 c2 d2 k1 k2 bM L.length (rkS L ρ L.length) ∧ PairX (wr.alloc (Obj.cells #[.int .i64 low, .int .i64 up, .int .i64 rank, .int .i64 step] 44)) px p N1 N2) := ⟨hc.out.1.later hbx, hc.out.2.later hbx⟩
          clear hbx hc
          go_upto_region 18 with (fail)
          clear m0 m1 m2 m3
          generalize wr.alloc (Obj.cells #[.int .i64 low, .int .i64 up, .int .i64 rank, .int .i64 step] 44) = W1 at *
          generalize wr.heap.size = bx at *
          have x0 := HX.out 0 _ rfl; have x1 := HX.out 1 _ rfl; have x2 := HX.out 2 _ rfl; have x3 := HX.out 3 _ rfl
          go_wp2_with fail
          refine (expl_any p N1 N2 px bM L.length L ρ (rkS L ρ L.length) ⟨low, up, rank, step⟩ _ HOK.out HC1.out.2 HC1.out.1.im HL.out HMEM.out (fun t v h => by unfold rkS; rw [List.take_length, if_pos h])).mono ?_
          rintro e wE ⟨rfl, hbE⟩
          have HF : Hid (RM w wE p L (some ⟨b, off, none⟩) i1 e1 i2 e2 l1 l2 c1 d1 c2 d2 k1 k2 bM L.length (rkS L ρ L.length) ∧ PairX wE px p N1 N2) := ⟨HC1.out.1.later hbE, HC1.out.2.later hbE⟩
          clear hbE HC1 HX x0 x1 x2 x3
          go_wp2
          exact ⟨⟨k + 1, by omega, by go_num, HF⟩, by simp [intOf]; omega⟩
        · have hkk : k = L.length := by omega
          subst hkk
          go_wp2
          refine bodyPost_ret (v := .tuple #[.int .i64 0, .int .i64 0]) (by simp [results, Try.results13, go_sem]) rfl ⟨rfl, hc.out.1.b.bw⟩
end Go.Proofs.Ytciopdlmjciieaa
