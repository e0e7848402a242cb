import Derived.Test.YtciopdlmjciieaaChkA
import Derived.Test.YtciopdlmjciieaaCheckP
import Derived.Test.YtciopdlmjciieaaPairO
import Derived.Deep.RegionHeld3
import Derived.Carry
namespace Go.Proofs.Ytciopdlmjciieaa
open Go.RowKit
set_option linter.unusedVariables false
set_option linter.unusedSimpArgs false

theorem EdgesAt.turned {w w' : World} {b : Nat} (h : w.mapTurned w' b) {v : Value} {l : List E} (hc : EdgesAt w v l) : EdgesAt w' v l := by
  obtain ⟨a, c, e, hm, hc⟩ := hc
  exact ⟨a, c, e, hm, hc.turned h⟩
theorem PB.turned {w wr w' : World} {b : Nat} {p : P2} {i1 e1 i2 e2 l1 l2 : Option Addr} {c1 d1 c2 d2 k1 k2 : Nat} (h : PB w wr p i1 e1 i2 e2 l1 l2 c1 d1 c2 d2 k1 k2) (ht : wr.mapTurned w' b) (hB : w.heap.size ≤ b) : PB w w' p i1 e1 i2 e2 l1 l2 c1 d1 c2 d2 k1 k2 :=
  ⟨turned_cell ht h.b0, turned_cell ht h.b1, turned_cell ht h.b2, turned_cell ht h.b3, turned_cell ht h.b4, turned_cell ht h.b5, turned_cell ht h.b6, turned_cell ht h.b7,
    ⟨h.r.r1.turned ht, h.r.r2.turned ht, h.r.r3.turned ht, h.r.r4.turned ht, h.r.r5.turned ht, h.r.r6.turned ht⟩, turned_below ht h.bw hB⟩
/-- How the rows of a list are read, its address known. -/
def RowsC (w : World) (a : Option Addr) (L : List (List Int)) : Prop := ∀ (i : Nat) (l : List Int), L[i]? = some l → ∃ b off g c, a = some ⟨b, off, none⟩ ∧ w.cell? ⟨b, off + i, none⟩ = some (.slice (some ⟨g, 0, none⟩) l.length c) ∧ IntsAt w (.slice (some ⟨g, 0, none⟩) l.length c) l
theorem RowsC.later {w w' : World} {a : Option Addr} {L : List (List Int)} (h : RowsC w a L) (hb : Below w.heap.size w w') : RowsC w' a L := fun i l hl => by
  obtain ⟨b, off, g, c, e, h1, h2⟩ := h i l hl
  exact ⟨b, off, g, c, e, Below.keeps hb h1 (Nat.le_refl _), h2.later hb⟩
theorem RowsC.turned {w w' : World} {b : Nat} {a : Option Addr} {L : List (List Int)} (h : RowsC w a L) (ht : w.mapTurned w' b) : RowsC w' a L := fun i l hl => by
  obtain ⟨b, off, g, c, e, h1, h2⟩ := h i l hl
  exact ⟨b, off, g, c, e, turned_cell ht h1, h2.turned ht⟩
/-- A row of two numbers. -/
theorem RowsC.two {w : World} {a : Option Addr} {L : List (List Int)} (h : RowsC w a L) {i : Nat} {s u : Int} (hl : L[i]? = some [s, u]) : ∃ b off g c, a = some ⟨b, off, none⟩ ∧ w.cell? ⟨b, off + i, none⟩ = some (.slice (some ⟨g, 0, none⟩) 2 c) ∧ w.cell? ⟨g, 0, none⟩ = some (.int .i64 s) ∧ w.cell? ⟨g, 1, none⟩ = some (.int .i64 u) ∧ IntsAt w (.slice (some ⟨g, 0, none⟩) 2 c) [s, u] := by
  obtain ⟨b, off, g, c, e, h1, h2⟩ := h i _ hl
  have h3 := h2
  obtain ⟨a', c', e', -, hc⟩ := h2
  injection e' with e1 e2 e3
  subst e1
  obtain ⟨g', o', e4, x0⟩ := hc 0 (by simp)
  injection e4 with e4; injection e4 with e5 e6 _; subst e5 e6
  obtain ⟨g', o', e4, x1⟩ := hc 1 (by simp)
  injection e4 with e4; injection e4 with e5 e6 _; subst e5 e6
  exact ⟨b, off, g, c, e, h1, x0, x1, h3⟩
/-- Which pairs the first rows of a list are. -/
def inS (L : List (List Int)) (k : Nat) : Nat → Nat → Bool := fun i j => decide ([(i : Int), (j : Int)] ∈ L.take k)
theorem inS_succ {L : List (List Int)} {k s u : Nat} (h : L[k]? = some [(s : Int), (u : Int)]) : put2 (inS L k) s u true = inS L (k + 1) := by
  funext i j
  unfold put2 inS
  rw [List.take_add_one, h]
  by_cases he : i = s ∧ j = u
  · obtain ⟨rfl, rfl⟩ := he
    rw [if_pos ⟨rfl, rfl⟩]
    simp
  · rw [if_neg he]
    have : ¬ ([(i : Int), (j : Int)] = [(s : Int), (u : Int)]) := fun h => he (by simp at h; omega)
    simp [this]
/-- What CheckSimulation keeps in memory. -/
structure SM (w wr : World) (p : P2) (L : List (List Int)) (av i1 e1 i2 e2 l1 l2 : Option Addr) (c1 d1 c2 d2 k1 k2 bI bM n : Nat) (S : Nat → Nat → Bool) : Prop where
  b : PB w wr p i1 e1 i2 e2 l1 l2 c1 d1 c2 d2 k1 k2
  rows : RowsC wr av L
  ic : wr.cell? ⟨bI, 0, none⟩ = some (.map (some bM))
  im : InM wr bM n S
  ib : w.heap.size ≤ bM
section
variable {w wr w' : World} {p : P2} {L : List (List Int)} {av i1 e1 i2 e2 l1 l2 : Option Addr} {c1 d1 c2 d2 k1 k2 bI bM n n' : Nat} {S S' : Nat → Nat → Bool}
theorem SM.later (h : SM w wr p L av i1 e1 i2 e2 l1 l2 c1 d1 c2 d2 k1 k2 bI bM n S) (hb : Below wr.heap.size wr w') : SM w w' p L av i1 e1 i2 e2 l1 l2 c1 d1 c2 d2 k1 k2 bI bM n S :=
  ⟨h.b.later hb, h.rows.later hb, Below.keeps hb h.ic (Nat.le_refl _), h.im.later hb, h.ib⟩
theorem SM.turned (h : SM w wr p L av i1 e1 i2 e2 l1 l2 c1 d1 c2 d2 k1 k2 bI bM n S) (ht : wr.mapTurned w' bM) (hm : InM w' bM n' S') : SM w w' p L av i1 e1 i2 e2 l1 l2 c1 d1 c2 d2 k1 k2 bI bM n' S' :=
  ⟨h.b.turned ht h.ib, h.rows.turned ht, turned_cell ht h.ic, hm, h.ib⟩
end

set_option maxHeartbeats 8000000 in
set_option maxRecDepth 100000 in
theorem checkSim_any (p : P2) (L : List (List Int)) (v vl : Value) (w : World) (hv : PairV w v p) (hl : RowsV w vl L) (hok : PairFull p) (N1 N2 : Nat) (hN1 : p.lo.n = N1) (hN2 : p.up.n = N2) (hL : SimOk p N1 N2 L) :
    Calls Try.prog 11 #[v, vl] w fun e w' => e = .returned (.tuple #[.int .i64 0, .int .i64 0]) ∧ Below w.heap.size w w' := by
  obtain ⟨i1, e1, i2, e2, l1, l2, c1, d1, c2, d2, k1, k2, rfl, hR⟩ := hv.open
  obtain ⟨av, cv, rfl, -, hrows⟩ := hl
  have HR := Lib.hid hR; have HOK := Lib.hid hok; have HN1 := Lib.hid hN1; have HN2 := Lib.hid hN2; have HL := Lib.hid hL
  have HW : Hid (RowsC w av L) := hrows
  have hlen := hL.len
  have H40 : Hid (N1 ≤ 40 ∧ N2 ≤ 40) := by have := hok.l40; have := hok.u40; exact ⟨by omega, by omega⟩
  clear hR hv hok hN1 hN2 hL hrows
  have hmm := @run_makeMap Try.prog
  go_enter Try.func11, Try.ntmps11
  go_upto_region 1 with (fail)
  have hB := PB.made HR.out 27
  generalize w.alloc _ = wb at *
  have b0 := hB.b0; have b1 := hB.b1; have b2 := hB.b2; have b3 := hB.b3; have b4 := hB.b4; have b5 := hB.b5; have b6 := hB.b6; have b7 := hB.b7
  have HB := Lib.hid hB; clear hB HR
  go_wp2_with fail
  refine (checkPair_ok p _ _ HB.out.r.val HOK.out).mono ?_
  rintro e wa ⟨rfl, hba⟩
  replace HB := Lib.hid (HB.out.later hba)
  clear hba b0 b1 b2 b3 b4 b5 b6 b7
  go_upto_region 6 with (fail)
  have HC : Hid (SM w ((wa.alloc (.map #[] 0)).alloc (Obj.cells #[.map (some wa.heap.size)] 68)) p L av i1 e1 i2 e2 l1 l2 c1 d1 c2 d2 k1 k2 (wa.heap.size + 1) wa.heap.size 0 (inS L 0)) := by
    have q1 : Below wa.heap.size wa (wa.alloc (.map #[] 0)) := (Below.refl _ _).alloc (Nat.le_refl _) _
    have q2 : Below (wa.alloc (.map #[] 0)).heap.size (wa.alloc (.map #[] 0)) ((wa.alloc (.map #[] 0)).alloc (Obj.cells #[.map (some wa.heap.size)] 68)) := (Below.refl _ _).alloc (Nat.le_refl _) _
    have q3 := q1.trans (q2.mono q1.size)
    refine ⟨HB.out.later q3, HW.out.later (HB.out.bw.trans (q3.mono HB.out.bw.size)), ?_, ?_, HB.out.bw.size⟩
    · have := box_cell (wa.alloc (.map #[] 0)) #[.map (some wa.heap.size)] 68 0 _ rfl
      rwa [show (wa.alloc (.map #[] 0)).heap.size = wa.heap.size + 1 by simp] at this
    · have h0 : inS L 0 = fun _ _ => false := by funext i j; simp [inS]
      rw [h0]
      exact (inM_made wa).later q2
  clear HB HW hmm
  generalize (wa.alloc (.map #[] 0)).alloc (Obj.cells #[.map (some wa.heap.size)] 68) = W0 at *
  generalize wa.heap.size + 1 = bI at *
  generalize wa.heap.size = bM at *
  go_loopw [24] (fun i wr => ∃ k : Nat, k ≤ L.length ∧ i = .int .i64 k ∧ Hid (SM w wr p L av i1 e1 i2 e2 l1 l2 c1 d1 c2 d2 k1 k2 bI bM k (inS L k))) (fun i _ => L.length - (intOf i).toNat)
  case atStart => exact ⟨0, Nat.zero_le _, rfl, HC⟩
  case round =>
    clear HC
    obtain ⟨k, hk, rfl, hc⟩ := hrel
    by_cases hlt : k < L.length
    · obtain ⟨s, u, hs, hu, hsu⟩ := HL.out.row _ (List.getElem_mem hlt)
      have hget : L[k]? = some [(s : Int), (u : Int)] := by rw [List.getElem?_eq_getElem hlt, hsu]
      obtain ⟨b, off, g, c, f1, gk, x0, x1, hI⟩ := hc.out.rows.two hget
      have hav := f1
      subst f1
      have HIX := Lib.hid hI
      have HGET := Lib.hid hget
      have b0 := hc.out.b.b0; have b3 := hc.out.b.b3
      rw [HN1.out] at b0
      rw [HN2.out] at b3
      have h1 : ¬ (N1 ≤ s) := by omega
      have h2 : ¬ (N2 ≤ u) := by omega
      have h3 : ¬ ((N1 : Int) ≤ (s : Int)) := by omega
      have h4 : ¬ ((N2 : Int) ≤ (u : Int)) := by omega
      have q2 : decide (min (s : Int) (u : Int) < 0) = false := decide_eq_false (by omega)
      have q3 : ¬ (min (s : Int) (u : Int) < 0) := by omega
      have HS : Hid (s ≤ 100 ∧ u ≤ 100) := by have := H40.out; exact ⟨by omega, by omega⟩
      clear hs hu hsu hI hget
      have hnn : ∀ W : World, Below wr.heap.size wr W → Hid (W.cell? ⟨bI, 0, none⟩ = some (.map (some bM)) ∧ W.cell? ⟨g, 0, none⟩ = some (.int .i64 (s : Int)) ∧ W.cell? ⟨g, 1, none⟩ = some (.int .i64 (u : Int)) ∧ SM w W p L (some ⟨b, off, none⟩) i1 e1 i2 e2 l1 l2 c1 d1 c2 d2 k1 k2 bI bM k (inS L k)) := fun W hb => ⟨Below.keeps hb hc.out.ic (Nat.le_refl _), Below.keeps hb x0 (Nat.le_refl _), Below.keeps hb x1 (Nat.le_refl _), hc.out.later hb⟩
      have HF := Lib.hid hnn
      have HASC : Hid (∀ (k' : Nat) (s' u' : Nat), k = k' + 1 → L[k']? = some [(s' : Int), (u' : Int)] → (s' : Int) < s ∨ (s' : Int) = s ∧ (u' : Int) < u) := fun k' s' u' e1 e2 => by
        have := List.pairwise_iff_getElem.1 HL.out.asc k' k (by omega) hlt (by omega)
        have e3 : L[k'] = [(s' : Int), (u' : Int)] := by rw [List.getElem?_eq_getElem (by omega)] at e2; injection e2
        have e4 : L[k] = [(s : Int), (u : Int)] := by have := HGET.out; rw [List.getElem?_eq_getElem hlt] at this; injection this
        rw [e3, e4] at this
        exact this
      clear hnn
      go_wp2_with fail
      go_quiet (fail)
      rcases k with _ | k
      · have HX := HF.out (wr.drewN nq) (below_drewN (Below.refl _ _) _)
        clear HF gk x0 x1 b0 b3 q2 q3 h1 h2 h3 h4 hc
        go_upto_region 14 with (fail)
        generalize wr.drewN nq = W1 at *
        obtain ⟨y0, y1, y2, hsm⟩ := HX.out
        have hsmd := hsm.later (below_drewN (Below.refl _ _) 1)
        have hz0 : W1.drew.cell? ⟨bI, 0, none⟩ = some (.map (some bM)) := by rw [World.cell?_drew]; exact y0
        have hz1 : W1.drew.cell? ⟨g, 0, none⟩ = some (.int .i64 (s : Int)) := by rw [World.cell?_drew]; exact y1
        have hz2 : W1.drew.cell? ⟨g, 1, none⟩ = some (.int .i64 (u : Int)) := by rw [World.cell?_drew]; exact y2
        obtain ⟨w', hrun, hM', hT'⟩ := (InM.later (w' := W1.drew) hsm.im (Below.refl _ _).drew).put (by omega) HS.out.1 HS.out.2
        dsimp only [kP] at hrun
        have HSM : Hid (SM w w' p L (some ⟨b, off, none⟩) i1 e1 i2 e2 l1 l2 c1 d1 c2 d2 k1 k2 bI bM (0 + 1) (inS L (0 + 1))) := by
          rw [inS_succ HGET.out] at hM'
          exact SM.turned (hsm.later (Below.refl _ _).drew) hT' hM'
        have HT := Lib.hid hT'
        have HZ : Hid (w'.cell? ⟨bI, 0, none⟩ = some (.map (some bM)) ∧ w'.cell? ⟨g, 0, none⟩ = some (.int .i64 (s : Int)) ∧ w'.cell? ⟨g, 1, none⟩ = some (.int .i64 (u : Int))) := ⟨turned_cell hT' hz0, turned_cell hT' hz1, turned_cell hT' hz2⟩
        clear hM' hT' hsm hsmd HX y0 y1 y2
        refine wp_region_held_drew (S := fun X => X.cell? ⟨bI, 0, none⟩ = some (.map (some bM)) ∧ X.cell? ⟨g, 0, none⟩ = some (.int .i64 (s : Int)) ∧ X.cell? ⟨g, 1, none⟩ = some (.int .i64 (u : Int))) (by kernel_rfl) ⟨hz0, hz1, hz2⟩ (fun hHeld => ?_)
        refine wpAnyH_take (i := 0) (oi := ⟨_, _, _, _, _, _⟩) (v := ?vt0) rfl (by kernel_rfl) (by kernel_rfl) (by kernel_rfl) (fun _ _ _ h => h) (Or.inl ⟨by rfl, ?hyt0⟩) (by assumption) ?restt0
        case hyt0 => (intro w hSw; obtain ⟨a0, a1, a2⟩ := hSw; go_simp <;> with_reducible rfl)
        try simp only [Act.put, List.setIfInBounds_toArray, List.set_cons_zero, List.set_cons_succ]
        refine wpAnyH_take (i := 1) (oi := ⟨_, _, _, _, _, _⟩) (v := ?vt1) rfl (by kernel_rfl) (by kernel_rfl) (by kernel_rfl) (fun _ _ _ h => h) (Or.inl ⟨by rfl, ?hyt1⟩) (by assumption) ?restt1
        case hyt1 => (intro w hSw; obtain ⟨a0, a1, a2⟩ := hSw; go_simp <;> with_reducible rfl)
        try simp only [Act.put, List.setIfInBounds_toArray, List.set_cons_zero, List.set_cons_succ]
        refine wpAnyH_take (i := 2) (oi := ⟨_, _, _, _, _, _⟩) (v := ?vt2) rfl (by kernel_rfl) (by kernel_rfl) (by kernel_rfl) (fun _ _ _ h => h) (Or.inl ⟨by rfl, ?hyt2⟩) (by assumption) ?restt2
        case hyt2 => (intro w hSw; obtain ⟨a0, a1, a2⟩ := hSw; go_simp <;> with_reducible rfl)
        try simp only [Act.put, List.setIfInBounds_toArray, List.set_cons_zero, List.set_cons_succ]
        refine wpAnyH_take (i := 3) (oi := ⟨_, _, _, _, _, _⟩) (v := ?vt3) rfl (by kernel_rfl) (by kernel_rfl) (by kernel_rfl) (fun _ _ _ h => h) (Or.inl ⟨by rfl, ?hyt3⟩) (by assumption) ?restt3
        case hyt3 => (intro w hSw; obtain ⟨a0, a1, a2⟩ := hSw; go_simp <;> with_reducible rfl)
        try simp only [Act.put, List.setIfInBounds_toArray, List.set_cons_zero, List.set_cons_succ]
        refine wpAnyH_take (i := 4) (oi := ⟨_, _, _, _, _, _⟩) (v := ?vt4) rfl (by kernel_rfl) (by kernel_rfl) (by kernel_rfl) (fun _ _ _ h => h) (Or.inl ⟨by rfl, ?hyt4⟩) (by assumption) ?restt4
        case hyt4 => (intro w hSw; obtain ⟨a0, a1, a2⟩ := hSw; go_simp <;> with_reducible rfl)
        try simp only [Act.put, List.setIfInBounds_toArray, List.set_cons_zero, List.set_cons_succ]
        refine wpAnyH_take (i := 5) (oi := ⟨_, _, _, _, _, _⟩) (v := ?vt5) rfl (by kernel_rfl) (by kernel_rfl) (by kernel_rfl) (fun _ _ _ h => h) (Or.inl ⟨by rfl, ?hyt5⟩) (by assumption) ?restt5
        case hyt5 => (intro w hSw; obtain ⟨a0, a1, a2⟩ := hSw; go_simp <;> with_reducible rfl)
        try simp only [Act.put, List.setIfInBounds_toArray, List.set_cons_zero, List.set_cons_succ]
        refine wpAnyH_take (i := 6) (oi := ⟨_, _, _, _, _, _⟩) (v := ?vt6) rfl (by kernel_rfl) (by kernel_rfl) (by kernel_rfl) (fun _ _ _ h => h) (Or.inl ⟨by rfl, ?hyt6⟩) (by assumption) ?restt6
        case hyt6 => (intro w hSw; obtain ⟨a0, a1, a2⟩ := hSw; go_simp <;> with_reducible rfl)
        try simp only [Act.put, List.setIfInBounds_toArray, List.set_cons_zero, List.set_cons_succ]
        refine wpAnyH_take (i := 7) (oi := ⟨_, _, _, _, _, _⟩) (v := ?vt7) rfl (by kernel_rfl) (by kernel_rfl) (by kernel_rfl) (fun _ _ _ h => h) (Or.inl ⟨by rfl, ?hyt7⟩) (by assumption) ?restt7
        case hyt7 => (intro w hSw; obtain ⟨a0, a1, a2⟩ := hSw; go_simp <;> with_reducible rfl)
        try simp only [Act.put, List.setIfInBounds_toArray, List.set_cons_zero, List.set_cons_succ]
        refine wpAnyH_ready (rs := [8]) (by kernel_rfl) (by simp) ?_
        refine AllReadyH.cons (o := ⟨_, _, _, _, _, _⟩) rfl (fun K hK => ?_) AllReadyH.nil
        go_simp
        refine hK.out _ _ (HZ.out) (fun hHeld2 => ?_)
        clear hK K
        try simp only [Act.put, List.setIfInBounds_toArray, List.set_cons_zero, List.set_cons_succ]
        refine wpAnyH_done (by kernel_rfl) ?_ _
        clear hz0 hz1 hz2 hrun HT HZ hHeld hHeld2
        go_wp2
        exact ⟨⟨_, by omega, by go_num, HSM⟩, by simp [intOf]; omega⟩
      · obtain ⟨s', u', hs', hu', hsu'⟩ := HL.out.row _ (List.getElem_mem (show k < L.length by omega))
        have hget' : L[k]? = some [(s' : Int), (u' : Int)] := by rw [List.getElem?_eq_getElem (by omega), hsu']
        obtain ⟨b', off', g', c', f1, gk', -, -, hI'⟩ := hc.out.rows.two hget'
        have e2 : b' = b ∧ off' = off := by injection f1 with f1; injection f1 with f1 f2 _; exact ⟨f1.symm, f2.symm⟩
        rw [e2.1, e2.2] at gk'
        have HLT := Lib.hid (HASC.out k s' u' rfl hget')
        have HI' := Lib.hid hI'
        have hwk : IntKind.i64.wrap (k : Int) = (k : Int) := IntWalk.i64_in _ (by omega)
        have hwk1 : IntKind.i64.wrap ((k : Int) + 1) = (k : Int) + 1 := IntWalk.i64_in _ (by omega)
        have hwk2 : IntKind.i64.wrap ((k : Int) + 1 - 1) = (k : Int) := by rw [Int.add_sub_cancel]; exact hwk
        have hk0 : (0 : Int) ≤ (k : Int) := by omega
        have hk1 : (k : Int) < (L.length : Int) := by omega
        have hk2 : (0 : Int) < (k : Int) + 1 := by omega
        have gkd : (wr.drewN nq).cell? ⟨b, off + k, none⟩ = some (.slice (some ⟨g', 0, none⟩) 2 c') := by rw [World.cell?_drewN]; exact gk'
        have HX := HF.out (wr.drewN nq) (below_drewN (Below.refl _ _) _)
        clear HF gk x0 x1 b0 b3 q2 q3 h1 h2 h3 h4 hs' hu' hsu' hget' hI' f1 gk' e2
        go_wp2_with fail
        refine (compareL_lt _ _ _ _ _ _ _ (HI'.out.later (below_drewN (Below.refl _ _) _)) (HIX.out.later (below_drewN (Below.refl _ _) _)) HLT.out).mono ?_
        rintro e w1 ⟨rfl, rfl⟩
        clear gkd hc
        go_upto_region 14 with (fail)
        generalize wr.drewN nq = W1 at *
        obtain ⟨y0, y1, y2, hsm⟩ := HX.out
        have hsmd := hsm.later (below_drewN (Below.refl _ _) 1)
        have hz0 : W1.drew.cell? ⟨bI, 0, none⟩ = some (.map (some bM)) := by rw [World.cell?_drew]; exact y0
        have hz1 : W1.drew.cell? ⟨g, 0, none⟩ = some (.int .i64 (s : Int)) := by rw [World.cell?_drew]; exact y1
        have hz2 : W1.drew.cell? ⟨g, 1, none⟩ = some (.int .i64 (u : Int)) := by rw [World.cell?_drew]; exact y2
        obtain ⟨w', hrun, hM', hT'⟩ := (InM.later (w' := W1.drew) hsm.im (Below.refl _ _).drew).put (by omega) HS.out.1 HS.out.2
        dsimp only [kP] at hrun
        have HSM : Hid (SM w w' p L (some ⟨b, off, none⟩) i1 e1 i2 e2 l1 l2 c1 d1 c2 d2 k1 k2 bI bM (k + 1 + 1) (inS L (k + 1 + 1))) := by
          rw [inS_succ HGET.out] at hM'
          exact SM.turned (hsm.later (Below.refl _ _).drew) hT' hM'
        have HT := Lib.hid hT'
        have HZ : Hid (w'.cell? ⟨bI, 0, none⟩ = some (.map (some bM)) ∧ w'.cell? ⟨g, 0, none⟩ = some (.int .i64 (s : Int)) ∧ w'.cell? ⟨g, 1, none⟩ = some (.int .i64 (u : Int))) := ⟨turned_cell hT' hz0, turned_cell hT' hz1, turned_cell hT' hz2⟩
        clear hM' hT' hsm hsmd HX y0 y1 y2
        refine wp_region_held_drew (S := fun X => X.cell? ⟨bI, 0, none⟩ = some (.map (some bM)) ∧ X.cell? ⟨g, 0, none⟩ = some (.int .i64 (s : Int)) ∧ X.cell? ⟨g, 1, none⟩ = some (.int .i64 (u : Int))) (by kernel_rfl) ⟨hz0, hz1, hz2⟩ (fun hHeld => ?_)
        refine wpAnyH_take (i := 0) (oi := ⟨_, _, _, _, _, _⟩) (v := ?vr0) rfl (by kernel_rfl) (by kernel_rfl) (by kernel_rfl) (fun _ _ _ h => h) (Or.inl ⟨by rfl, ?hyr0⟩) (by assumption) ?restr0
        case hyr0 => (intro w hSw; obtain ⟨a0, a1, a2⟩ := hSw; go_simp <;> with_reducible rfl)
        try simp only [Act.put, List.setIfInBounds_toArray, List.set_cons_zero, List.set_cons_succ]
        refine wpAnyH_take (i := 1) (oi := ⟨_, _, _, _, _, _⟩) (v := ?vr1) rfl (by kernel_rfl) (by kernel_rfl) (by kernel_rfl) (fun _ _ _ h => h) (Or.inl ⟨by rfl, ?hyr1⟩) (by assumption) ?restr1
        case hyr1 => (intro w hSw; obtain ⟨a0, a1, a2⟩ := hSw; go_simp <;> with_reducible rfl)
        try simp only [Act.put, List.setIfInBounds_toArray, List.set_cons_zero, List.set_cons_succ]
        refine wpAnyH_take (i := 2) (oi := ⟨_, _, _, _, _, _⟩) (v := ?vr2) rfl (by kernel_rfl) (by kernel_rfl) (by kernel_rfl) (fun _ _ _ h => h) (Or.inl ⟨by rfl, ?hyr2⟩) (by assumption) ?restr2
        case hyr2 => (intro w hSw; obtain ⟨a0, a1, a2⟩ := hSw; go_simp <;> with_reducible rfl)
        try simp only [Act.put, List.setIfInBounds_toArray, List.set_cons_zero, List.set_cons_succ]
        refine wpAnyH_take (i := 3) (oi := ⟨_, _, _, _, _, _⟩) (v := ?vr3) rfl (by kernel_rfl) (by kernel_rfl) (by kernel_rfl) (fun _ _ _ h => h) (Or.inl ⟨by rfl, ?hyr3⟩) (by assumption) ?restr3
        case hyr3 => (intro w hSw; obtain ⟨a0, a1, a2⟩ := hSw; go_simp <;> with_reducible rfl)
        try simp only [Act.put, List.setIfInBounds_toArray, List.set_cons_zero, List.set_cons_succ]
        refine wpAnyH_take (i := 4) (oi := ⟨_, _, _, _, _, _⟩) (v := ?vr4) rfl (by kernel_rfl) (by kernel_rfl) (by kernel_rfl) (fun _ _ _ h => h) (Or.inl ⟨by rfl, ?hyr4⟩) (by assumption) ?restr4
        case hyr4 => (intro w hSw; obtain ⟨a0, a1, a2⟩ := hSw; go_simp <;> with_reducible rfl)
        try simp only [Act.put, List.setIfInBounds_toArray, List.set_cons_zero, List.set_cons_succ]
        refine wpAnyH_take (i := 5) (oi := ⟨_, _, _, _, _, _⟩) (v := ?vr5) rfl (by kernel_rfl) (by kernel_rfl) (by kernel_rfl) (fun _ _ _ h => h) (Or.inl ⟨by rfl, ?hyr5⟩) (by assumption) ?restr5
        case hyr5 => (intro w hSw; obtain ⟨a0, a1, a2⟩ := hSw; go_simp <;> with_reducible rfl)
        try simp only [Act.put, List.setIfInBounds_toArray, List.set_cons_zero, List.set_cons_succ]
        refine wpAnyH_take (i := 6) (oi := ⟨_, _, _, _, _, _⟩) (v := ?vr6) rfl (by kernel_rfl) (by kernel_rfl) (by kernel_rfl) (fun _ _ _ h => h) (Or.inl ⟨by rfl, ?hyr6⟩) (by assumption) ?restr6
        case hyr6 => (intro w hSw; obtain ⟨a0, a1, a2⟩ := hSw; go_simp <;> with_reducible rfl)
        try simp only [Act.put, List.setIfInBounds_toArray, List.set_cons_zero, List.set_cons_succ]
        refine wpAnyH_take (i := 7) (oi := ⟨_, _, _, _, _, _⟩) (v := ?vr7) rfl (by kernel_rfl) (by kernel_rfl) (by kernel_rfl) (fun _ _ _ h => h) (Or.inl ⟨by rfl, ?hyr7⟩) (by assumption) ?restr7
        case hyr7 => (intro w hSw; obtain ⟨a0, a1, a2⟩ := hSw; go_simp <;> with_reducible rfl)
        try simp only [Act.put, List.setIfInBounds_toArray, List.set_cons_zero, List.set_cons_succ]
        refine wpAnyH_ready (rs := [8]) (by kernel_rfl) (by simp) ?_
        refine AllReadyH.cons (o := ⟨_, _, _, _, _, _⟩) rfl (fun K hK => ?_) AllReadyH.nil
        go_simp
        refine hK.out _ _ (HZ.out) (fun hHeld2 => ?_)
        clear hK K
        try simp only [Act.put, List.setIfInBounds_toArray, List.set_cons_zero, List.set_cons_succ]
        refine wpAnyH_done (by kernel_rfl) ?_ _
        clear hz0 hz1 hz2 hrun HT HZ hHeld hHeld2
        go_wp2
        exact ⟨⟨_, by omega, by go_num, HSM⟩, by simp [intOf]; omega⟩
    · have hkk : k = L.length := by omega
      subst hkk
      have HC := hc
      have b0 := HC.out.b.b0; have b1 := HC.out.b.b1; have b2 := HC.out.b.b2; have b3 := HC.out.b.b3; have b4 := HC.out.b.b4; have b5 := HC.out.b.b5; have b6 := HC.out.b.b6; have b7 := HC.out.b.b7
      clear hc
      go_wp2_with fail
      refine (pairOf_any p _ _ HC.out.b.r.val HOK.out.toPairOk N1 N2 HN1.out HN2.out).mono ?_
      rintro e wc ⟨px, rfl, hX, hbc⟩
      have HC2 := Lib.hid (HC.out.later hbc)
      have HX := Lib.hid hX
      clear HC hX hbc b0 b1 b2 b3 b4 b5 b6 b7
      go_upto_region 18 with (fail)
      have hbx : Below wc.heap.size wc (wc.alloc (Obj.cells #[.pointer (some ⟨px, 0, none⟩)] 64)) := (Below.refl _ _).alloc (Nat.le_refl _) _
      have HCX : Hid (SM w (wc.alloc (Obj.cells #[.pointer (some ⟨px, 0, none⟩)] 64)) p L av i1 e1 i2 e2 l1 l2 c1 d1 c2 d2 k1 k2 bI bM L.length (inS L L.length) ∧ (wc.alloc (Obj.cells #[.pointer (some ⟨px, 0, none⟩)] 64)).cell? ⟨wc.heap.size, 0, none⟩ = some (.pointer (some ⟨px, 0, none⟩)) ∧ PairX (wc.alloc (Obj.cells #[.pointer (some ⟨px, 0, none⟩)] 64)) px p N1 N2) := ⟨HC2.out.later hbx, box_cell _ _ _ 0 _ rfl, HX.out.later hbx⟩
      clear HC2 HX hbx
      generalize wc.alloc (Obj.cells #[.pointer (some ⟨px, 0, none⟩)] 64) = W2 at *
      generalize wc.heap.size = bX at *
      go_loopw [86] (fun i wr => ∃ k : Nat, k ≤ L.length ∧ i = .int .i64 k ∧ Hid (SM w wr p L av i1 e1 i2 e2 l1 l2 c1 d1 c2 d2 k1 k2 bI bM L.length (inS L L.length) ∧ wr.cell? ⟨bX, 0, none⟩ = some (.pointer (some ⟨px, 0, none⟩)) ∧ PairX wr px p N1 N2)) (fun i _ => L.length - (intOf i).toNat)
      case atStart => exact ⟨0, Nat.zero_le _, rfl, HCX⟩
      case round =>
        clear HCX
        obtain ⟨k, hk, rfl, hc⟩ := hrel
        by_cases hlt : k < L.length
        · obtain ⟨s, u, hs, hu, hsu⟩ := HL.out.row _ (List.getElem_mem hlt)
          have hmem : [(s : Int), (u : Int)] ∈ L := by rw [← hsu]; exact List.getElem_mem hlt
          have hget : L[k]? = some [(s : Int), (u : Int)] := by rw [List.getElem?_eq_getElem hlt, hsu]
          obtain ⟨b, off, g, c, f1, gk, x0, x1, -⟩ := hc.out.1.rows.two hget
          subst f1
          have HMEM := Lib.hid hmem
          clear hsu hmem hget
          go_wp2_with fail
          clear gk
          have z0 : wr.drew.cell? ⟨g, 0, none⟩ = some (.int .i64 (s : Int)) := by rw [World.cell?_drew]; exact x0
          have z1 : wr.drew.cell? ⟨g, 1, none⟩ = some (.int .i64 (u : Int)) := by rw [World.cell?_drew]; exact x1
          have zk : Hid (∀ X, Below wr.heap.size wr X → X.cell? ⟨g, 0, none⟩ = some (.int .i64 (s : Int)) ∧ X.cell? ⟨g, 1, none⟩ = some (.int .i64 (u : Int))) := fun X hb => ⟨Below.keeps hb x0 (Nat.le_refl _), Below.keeps hb x1 (Nat.le_refl _)⟩
          clear x0 x1
          refine wp_region_held_drew (S := fun X => X.cell? ⟨g, 0, none⟩ = some (.int .i64 (s : Int)) ∧ X.cell? ⟨g, 1, none⟩ = some (.int .i64 (u : Int))) (by kernel_rfl) ⟨z0, z1⟩ (fun hHeld => ?_)
          refine wpAnyH_take (i := 0) (oi := ⟨_, _, _, _, _, _⟩) (v := ?vm0) rfl (by kernel_rfl) (by kernel_rfl) (by kernel_rfl) (fun _ _ _ h => h) (Or.inl ⟨by rfl, ?hym0⟩) (by assumption) ?restm0
          case hym0 => (intro w hSw; obtain ⟨a1, a2⟩ := hSw; go_simp <;> with_reducible rfl)
          try simp only [Act.put, List.setIfInBounds_toArray, List.set_cons_zero, List.set_cons_succ]
          refine wpAnyH_take (i := 1) (oi := ⟨_, _, _, _, _, _⟩) (v := ?vm1) rfl (by kernel_rfl) (by kernel_rfl) (by kernel_rfl) (fun _ _ _ h => h) (Or.inl ⟨by rfl, ?hym1⟩) (by assumption) ?restm1
          case hym1 => (intro w hSw; obtain ⟨a1, a2⟩ := hSw; go_simp <;> with_reducible rfl)
          try simp only [Act.put, List.setIfInBounds_toArray, List.set_cons_zero, List.set_cons_succ]
          refine wpAnyH_take (i := 2) (oi := ⟨_, _, _, _, _, _⟩) (v := ?vm2) rfl (by kernel_rfl) (by kernel_rfl) (by kernel_rfl) (fun _ _ _ h => h) (Or.inl ⟨by rfl, ?hym2⟩) (by assumption) ?restm2
          case hym2 => (intro w hSw; obtain ⟨a1, a2⟩ := hSw; go_simp <;> with_reducible rfl)
          try simp only [Act.put, List.setIfInBounds_toArray, List.set_cons_zero, List.set_cons_succ]
          refine wpAnyH_take (i := 3) (oi := ⟨_, _, _, _, _, _⟩) (v := ?vm3) rfl (by kernel_rfl) (by kernel_rfl) (by kernel_rfl) (fun _ _ _ h => h) (Or.inl ⟨by rfl, ?hym3⟩) (by assumption) ?restm3
          case hym3 => (intro w hSw; obtain ⟨a1, a2⟩ := hSw; go_simp <;> with_reducible rfl)
          try simp only [Act.put, List.setIfInBounds_toArray, List.set_cons_zero, List.set_cons_succ]
          refine wpAnyH_take (i := 4) (oi := ⟨_, _, _, _, _, _⟩) (v := ?vm4) rfl (by kernel_rfl) (by kernel_rfl) (by kernel_rfl) (fun _ _ _ h => h) (Or.inl ⟨by rfl, ?hym4⟩) (by assumption) ?restm4
          case hym4 => (intro w hSw; obtain ⟨a1, a2⟩ := hSw; go_simp <;> with_reducible rfl)
          try simp only [Act.put, List.setIfInBounds_toArray, List.set_cons_zero, List.set_cons_succ]
          refine wpAnyH_take (i := 5) (oi := ⟨_, _, _, _, _, _⟩) (v := ?vm5) rfl (by kernel_rfl) (by kernel_rfl) (by kernel_rfl) (fun _ _ _ h => h) (Or.inl ⟨by rfl, ?hym5⟩) (by assumption) ?restm5
          case hym5 => (intro w hSw; obtain ⟨a1, a2⟩ := hSw; go_simp <;> with_reducible rfl)
          try simp only [Act.put, List.setIfInBounds_toArray, List.set_cons_zero, List.set_cons_succ]
          refine wpAnyH_ready (rs := [6]) (by kernel_rfl) (by simp) ?_
          refine AllReadyH.cons (o := ⟨_, _, _, _, _, _⟩) rfl (fun K hK => ?_) AllReadyH.nil
          go_simp
          refine hK.out _ _ (zk.out _ ((Below.refl _ _).drew.alloc (by simp) _)) (fun hHeld2 => ?_)
          clear hK K
          try simp only [Act.put, List.setIfInBounds_toArray, List.set_cons_zero, List.set_cons_succ]
          refine wpAnyH_ready (rs := [7]) (by kernel_rfl) (by simp) ?_
          refine AllReadyH.cons (o := ⟨_, _, _, _, _, _⟩) rfl (fun K hK => ?_) AllReadyH.nil
          go_simp
          refine hK.out _ _ (zk.out _ ((Below.refl _ _).drew.alloc (by simp) _)) (fun hHeld2 => ?_)
          clear hK K
          try simp only [Act.put, List.setIfInBounds_toArray, List.set_cons_zero, List.set_cons_succ]
          refine wpAnyH_ready (rs := [8]) (by kernel_rfl) (by simp) ?_
          refine AllReadyH.cons (o := ⟨_, _, _, _, _, _⟩) rfl (fun K hK => ?_) AllReadyH.nil
          go_simp
          refine hK.out _ _ (zk.out _ (((Below.refl _ _).alloc (Nat.le_refl _) _).drew)) (fun hHeld2 => ?_)
          clear hK K
          try simp only [Act.put, List.setIfInBounds_toArray, List.set_cons_zero, List.set_cons_succ]
          refine wpAnyH_done (by kernel_rfl) ?_ _
          have hb3 : Below wr.heap.size wr (wr.alloc (Obj.cells #[.int .i64 (u : Int)] 3)).drew := ((Below.refl _ _).alloc (Nat.le_refl _) _).drew
          have uc : (wr.alloc (Obj.cells #[.int .i64 (u : Int)] 3)).drew.cell? ⟨wr.heap.size, 0, none⟩ = some (.int .i64 (u : Int)) := by rw [World.cell?_drew]; exact box_cell _ _ _ 0 _ rfl
          have HC3 : Hid (SM w (wr.alloc (Obj.cells #[.int .i64 (u : Int)] 3)).drew p L (some ⟨b, off, none⟩) i1 e1 i2 e2 l1 l2 c1 d1 c2 d2 k1 k2 bI bM L.length (inS L L.length) ∧ (wr.alloc (Obj.cells #[.int .i64 (u : Int)] 3)).drew.cell? ⟨bX, 0, none⟩ = some (.pointer (some ⟨px, 0, none⟩)) ∧ PairX (wr.alloc (Obj.cells #[.int .i64 (u : Int)] 3)).drew px p N1 N2) := ⟨hc.out.1.later hb3, Below.keeps hb3 hc.out.2.1 (Nat.le_refl _), hc.out.2.2.later hb3⟩
          clear hb3 zk z0 z1 hHeld hHeld2 hc
          generalize (wr.alloc (Obj.cells #[.int .i64 (u : Int)] 3)).drew = W3 at *
          generalize wr.heap.size = bU at *
          have UC := Lib.hid uc
          clear uc
          go_wp2_with fail
          have hll : p.ll.length = N1 := by have := HOK.out.ll; have := HN1.out; omega
          have hul : p.ul.length = N2 := by have := HOK.out.ul; have := HN2.out; omega
          have y6 := HC3.out.1.b.b6
          have y7 := HC3.out.1.b.b7
          rw [hll] at y6
          rw [hul] at y7
          obtain ⟨a5, c5, e5, -, hl5⟩ := HC3.out.1.b.r.r5
          injection e5 with e5 _ e5'
          subst e5 e5'
          obtain ⟨a6, c6, e6, -, hl6⟩ := HC3.out.1.b.r.r6
          injection e6 with e6 _ e6'
          subst e6 e6'
          obtain ⟨b5, o5, g5, v5⟩ := hl5 s (by omega)
          obtain ⟨b6, o6, g6, v6⟩ := hl6 u (by omega)
          subst g5 g6
          rw [← HL.out.lab s u HMEM.out] at v6
          generalize gi p.ll s = xa at v5 v6
          obtain ⟨i1', e1', i2', e2', l1', l2', c1', d1', c2', d2', k1', k2', TL, TU, hp, -, -, -, -, -, -, hLO, -⟩ := HC3.out.2.2.ex
          have q8 := hp.q8
          obtain ⟨ar, cr, hrow, hrm, hrc⟩ := hLO s hs
          have HRI : Hid (IntsAt W3 (.slice ar (lowRow p s).length cr) (lowRow p s)) := ⟨_, _, rfl, hrm, hrc⟩
          have hxc := HC3.out.2.1
          have FF : Hid (∀ X, Below W3.heap.size W3 X → X.cell? ⟨w.heap.size, 6, none⟩ = some (.slice (some ⟨b5, o5, none⟩) N1 k1) ∧ X.cell? ⟨w.heap.size, 7, none⟩ = some (.slice (some ⟨b6, o6, none⟩) N2 k2) ∧ X.cell? ⟨b5, o5 + s, none⟩ = some (.int .i64 xa) ∧ X.cell? ⟨bU, 0, none⟩ = some (.int .i64 (u : Int)) ∧ X.cell? ⟨b6, o6 + u, none⟩ = some (.int .i64 xa) ∧ X.cell? ⟨bX, 0, none⟩ = some (.pointer (some ⟨px, 0, none⟩)) ∧ X.cell? ⟨px, 8, none⟩ = some (.slice (some ⟨TL, 0, none⟩) N1 N1) ∧ X.cell? ⟨TL, s, none⟩ = some (.slice ar (lowRow p s).length cr)) := fun X hb =>
            ⟨Below.keeps hb y6 (Nat.le_refl _), Below.keeps hb y7 (Nat.le_refl _), Below.keeps hb v5 (Nat.le_refl _), Below.keeps hb UC.out (Nat.le_refl _), Below.keeps hb v6 (Nat.le_refl _), Below.keeps hb hxc (Nat.le_refl _), Below.keeps hb q8 (Nat.le_refl _), Below.keeps hb hrow (Nat.le_refl _)⟩
          have HNO : Hid (anyP (fun t => !anyP (fun v => inS L L.length t.toNat v.toNat) (upRow p u)) (lowRow p s) = false) := anyP_no fun j hj => by
            have ht := gi_mem hj
            generalize gi (lowRow p s) j = t at *
            obtain ⟨v, hv, hin⟩ := HL.out.go s u HMEM.out t ht
            have ht0 := (lowRow_lt HOK.out.toPairOk HN1.out s t ht).1
            have hv0 := (upRow_lt HOK.out.toPairOk HN2.out hu v hv).1
            have : anyP (fun v => inS L L.length t.toNat v.toNat) (upRow p u) = true := by
              unfold anyP
              rw [List.any_eq_true]
              refine ⟨v, hv, ?_⟩
              unfold inS
              rw [List.take_length, Int.toNat_of_nonneg ht0, Int.toNat_of_nonneg hv0]
              exact decide_eq_true hin
            rw [this]; rfl
          have HLR : Hid (∀ t ∈ lowRow p s, 0 ≤ t ∧ t ≤ 100) := fun t ht => by have := lowRow_lt HOK.out.toPairOk HN1.out s t ht; have := H40.out; omega
          have hq : (xa != xa) = false := by simp
          have HU := Lib.hid hu
          have hs0 : (s : Int) < (N1 : Int) := by omega
          have hu0 : (u : Int) < (N2 : Int) := by omega
          have hs1 : (0 : Int) ≤ (s : Int) := by omega
          have hu1 : (0 : Int) ≤ (u : Int) := by omega
          clear hll hul y6 y7 v5 v6 hl5 hl6 hp hLO q8 hrow hrm hrc hxc
          generalize hlr : (lowRow p s).length = nlr at *
          refine wp_region_held_drew (S := fun X => Below W3.heap.size W3 X) (by kernel_rfl) (Below.refl _ _).drew (fun hHeld => ?_)
          refine wpAnyH_take (i := 0) (oi := ⟨_, _, _, _, _, _⟩) (v := ?vn0) rfl (by kernel_rfl) (by kernel_rfl) (by kernel_rfl) (fun _ _ _ h => h) (Or.inl ⟨by rfl, ?hyn0⟩) (by assumption) ?restn0
          case hyn0 => (intro w hSw; obtain ⟨f1, f2, f3, f4, f5, f6, f7, f8⟩ := FF.out w hSw; go_simp <;> with_reducible rfl)
          try simp only [Act.put, List.setIfInBounds_toArray, List.set_cons_zero, List.set_cons_succ]
          refine wpAnyH_take (i := 1) (oi := ⟨_, _, _, _, _, _⟩) (v := ?vn1) rfl (by kernel_rfl) (by kernel_rfl) (by kernel_rfl) (fun _ _ _ h => h) (Or.inl ⟨by rfl, ?hyn1⟩) (by assumption) ?restn1
          case hyn1 => (intro w hSw; obtain ⟨f1, f2, f3, f4, f5, f6, f7, f8⟩ := FF.out w hSw; go_simp <;> with_reducible rfl)
          try simp only [Act.put, List.setIfInBounds_toArray, List.set_cons_zero, List.set_cons_succ]
          refine wpAnyH_take (i := 2) (oi := ⟨_, _, _, _, _, _⟩) (v := ?vn2) rfl (by kernel_rfl) (by kernel_rfl) (by kernel_rfl) (fun _ _ _ h => h) (Or.inl ⟨by rfl, ?hyn2⟩) (by assumption) ?restn2
          case hyn2 => (intro w hSw; obtain ⟨f1, f2, f3, f4, f5, f6, f7, f8⟩ := FF.out w hSw; go_simp <;> with_reducible rfl)
          try simp only [Act.put, List.setIfInBounds_toArray, List.set_cons_zero, List.set_cons_succ]
          refine wpAnyH_take (i := 3) (oi := ⟨_, _, _, _, _, _⟩) (v := ?vn3) rfl (by kernel_rfl) (by kernel_rfl) (by kernel_rfl) (fun _ _ _ h => h) (Or.inl ⟨by rfl, ?hyn3⟩) (by assumption) ?restn3
          case hyn3 => (intro w hSw; obtain ⟨f1, f2, f3, f4, f5, f6, f7, f8⟩ := FF.out w hSw; go_simp <;> with_reducible rfl)
          try simp only [Act.put, List.setIfInBounds_toArray, List.set_cons_zero, List.set_cons_succ]
          refine wpAnyH_take (i := 4) (oi := ⟨_, _, _, _, _, _⟩) (v := ?vn4) rfl (by kernel_rfl) (by kernel_rfl) (by kernel_rfl) (fun _ _ _ h => h) (Or.inl ⟨by rfl, ?hyn4⟩) (by assumption) ?restn4
          case hyn4 => (intro w hSw; obtain ⟨f1, f2, f3, f4, f5, f6, f7, f8⟩ := FF.out w hSw; go_simp <;> with_reducible rfl)
          try simp only [Act.put, List.setIfInBounds_toArray, List.set_cons_zero, List.set_cons_succ]
          refine wpAnyH_take (i := 5) (oi := ⟨_, _, _, _, _, _⟩) (v := ?vn5) rfl (by kernel_rfl) (by kernel_rfl) (by kernel_rfl) (fun _ _ _ h => h) (Or.inl ⟨by rfl, ?hyn5⟩) (by assumption) ?restn5
          case hyn5 => (intro w hSw; obtain ⟨f1, f2, f3, f4, f5, f6, f7, f8⟩ := FF.out w hSw; go_simp <;> with_reducible rfl)
          try simp only [Act.put, List.setIfInBounds_toArray, List.set_cons_zero, List.set_cons_succ]
          refine wpAnyH_take (i := 6) (oi := ⟨_, _, _, _, _, _⟩) (v := ?vn6) rfl (by kernel_rfl) (by kernel_rfl) (by kernel_rfl) (fun _ _ _ h => h) (Or.inl ⟨by rfl, ?hyn6⟩) (by assumption) ?restn6
          case hyn6 => (intro w hSw; obtain ⟨f1, f2, f3, f4, f5, f6, f7, f8⟩ := FF.out w hSw; go_simp <;> with_reducible rfl)
          try simp only [Act.put, List.setIfInBounds_toArray, List.set_cons_zero, List.set_cons_succ]
          refine wpAnyH_take (i := 7) (oi := ⟨_, _, _, _, _, _⟩) (v := ?vn7) rfl (by kernel_rfl) (by kernel_rfl) (by kernel_rfl) (fun _ _ _ h => h) (Or.inl ⟨by rfl, ?hyn7⟩) (by assumption) ?restn7
          case hyn7 => (intro w hSw; obtain ⟨f1, f2, f3, f4, f5, f6, f7, f8⟩ := FF.out w hSw; go_simp <;> with_reducible rfl)
          try simp only [Act.put, List.setIfInBounds_toArray, List.set_cons_zero, List.set_cons_succ]
          refine wpAnyH_take (i := 8) (oi := ⟨_, _, _, _, _, _⟩) (v := ?vn8) rfl (by kernel_rfl) (by kernel_rfl) (by kernel_rfl) (fun _ _ _ h => h) (Or.inl ⟨by rfl, ?hyn8⟩) (by assumption) ?restn8
          case hyn8 => (intro w hSw; obtain ⟨f1, f2, f3, f4, f5, f6, f7, f8⟩ := FF.out w hSw; go_simp <;> with_reducible rfl)
          try simp only [Act.put, List.setIfInBounds_toArray, List.set_cons_zero, List.set_cons_succ]
          refine wpAnyH_take (i := 9) (oi := ⟨_, _, _, _, _, _⟩) (v := ?vn9) rfl (by kernel_rfl) (by kernel_rfl) (by kernel_rfl) (fun _ _ _ h => h) (Or.inl ⟨by rfl, ?hyn9⟩) (by assumption) ?restn9
          case hyn9 => (intro w hSw; obtain ⟨f1, f2, f3, f4, f5, f6, f7, f8⟩ := FF.out w hSw; go_simp <;> with_reducible rfl)
          try simp only [Act.put, List.setIfInBounds_toArray, List.set_cons_zero, List.set_cons_succ]
          refine wpAnyH_take (i := 10) (oi := ⟨_, _, _, _, _, _⟩) (v := ?vn10) rfl (by kernel_rfl) (by kernel_rfl) (by kernel_rfl) (fun _ _ _ h => h) (Or.inl ⟨by rfl, ?hyn10⟩) (by assumption) ?restn10
          case hyn10 => (intro w hSw; obtain ⟨f1, f2, f3, f4, f5, f6, f7, f8⟩ := FF.out w hSw; go_simp <;> with_reducible rfl)
          try simp only [Act.put, List.setIfInBounds_toArray, List.set_cons_zero, List.set_cons_succ]
          refine wpAnyH_take (i := 11) (oi := ⟨_, _, _, _, _, _⟩) (v := ?vn11) rfl (by kernel_rfl) (by kernel_rfl) (by kernel_rfl) (fun _ _ _ h => h) (Or.inl ⟨by rfl, ?hyn11⟩) (by assumption) ?restn11
          case hyn11 => (intro w hSw; obtain ⟨f1, f2, f3, f4, f5, f6, f7, f8⟩ := FF.out w hSw; go_simp <;> with_reducible rfl)
          try simp only [Act.put, List.setIfInBounds_toArray, List.set_cons_zero, List.set_cons_succ]
          refine wpAnyH_take (i := 12) (oi := ⟨_, _, _, _, _, _⟩) (v := ?vn12) rfl (by kernel_rfl) (by kernel_rfl) (by kernel_rfl) (fun _ _ _ h => h) (Or.inl ⟨by kernel_rfl, ?hyn12⟩) (by assumption) ?restn12
          case hyn12 => (intro w hSw; obtain ⟨f1, f2, f3, f4, f5, f6, f7, f8⟩ := FF.out w hSw; go_simp <;> with_reducible rfl)
          try simp only [Act.put, List.setIfInBounds_toArray, List.set_cons_zero, List.set_cons_succ]
          refine wpAnyH_take (i := 13) (oi := ⟨_, _, _, _, _, _⟩) (v := ?vn13) rfl (by kernel_rfl) (by kernel_rfl) (by kernel_rfl) (fun _ _ _ h => h) (Or.inl ⟨by kernel_rfl, ?hyn13⟩) (by assumption) ?restn13
          case hyn13 => (intro w hSw; obtain ⟨f1, f2, f3, f4, f5, f6, f7, f8⟩ := FF.out w hSw; go_simp <;> with_reducible rfl)
          try simp only [Act.put, List.setIfInBounds_toArray, List.set_cons_zero, List.set_cons_succ]
          refine wpAnyH_take (i := 14) (oi := ⟨_, _, _, _, _, _⟩) (v := ?vn14) rfl (by kernel_rfl) (by kernel_rfl) (by kernel_rfl) (fun _ _ _ h => h) (Or.inl ⟨by kernel_rfl, ?hyn14⟩) (by assumption) ?restn14
          case hyn14 => (intro w hSw; obtain ⟨f1, f2, f3, f4, f5, f6, f7, f8⟩ := FF.out w hSw; go_simp <;> with_reducible rfl)
          try simp only [Act.put, List.setIfInBounds_toArray, List.set_cons_zero, List.set_cons_succ]
          refine wpAnyH_take (i := 15) (oi := ⟨_, _, _, _, _, _⟩) (v := ?vn15) rfl (by kernel_rfl) (by kernel_rfl) (by kernel_rfl) (fun _ _ _ h => h) (Or.inl ⟨by kernel_rfl, ?hyn15⟩) (by assumption) ?restn15
          case hyn15 => (intro w hSw; obtain ⟨f1, f2, f3, f4, f5, f6, f7, f8⟩ := FF.out w hSw; go_simp <;> with_reducible rfl)
          try simp only [Act.put, List.setIfInBounds_toArray, List.set_cons_zero, List.set_cons_succ]
          refine wpAnyH_take (i := 16) (oi := ⟨_, _, _, _, _, _⟩) (v := ?vn16) rfl (by kernel_rfl) (by kernel_rfl) (by kernel_rfl) (fun _ _ _ h => h) (Or.inl ⟨by kernel_rfl, ?hyn16⟩) (by assumption) ?restn16
          case hyn16 => (intro w hSw; obtain ⟨f1, f2, f3, f4, f5, f6, f7, f8⟩ := FF.out w hSw; go_simp <;> with_reducible rfl)
          try simp only [Act.put, List.setIfInBounds_toArray, List.set_cons_zero, List.set_cons_succ]
          refine wpAnyH_take (i := 17) (oi := ⟨_, _, _, _, _, _⟩) (v := ?vn17) rfl (by kernel_rfl) (by kernel_rfl) (by kernel_rfl) (fun _ _ _ h => h) (Or.inl ⟨by kernel_rfl, ?hyn17⟩) (by assumption) ?restn17
          case hyn17 => (intro w hSw; obtain ⟨f1, f2, f3, f4, f5, f6, f7, f8⟩ := FF.out w hSw; go_simp <;> with_reducible rfl)
          try simp only [Act.put, List.setIfInBounds_toArray, List.set_cons_zero, List.set_cons_succ]
          refine wpAnyH_take (i := 18) (oi := ⟨_, _, _, _, _, _⟩) (v := ?vn18) rfl (by kernel_rfl) (by kernel_rfl) (by kernel_rfl) (fun _ _ _ h => h) (Or.inl ⟨by kernel_rfl, ?hyn18⟩) (by assumption) ?restn18
          case hyn18 => (intro w hSw; obtain ⟨f1, f2, f3, f4, f5, f6, f7, f8⟩ := FF.out w hSw; go_simp <;> with_reducible rfl)
          try simp only [Act.put, List.setIfInBounds_toArray, List.set_cons_zero, List.set_cons_succ]
          refine wpAnyH_take (i := 19) (oi := ⟨_, _, _, _, _, _⟩) (v := ?vn19) rfl (by kernel_rfl) (by kernel_rfl) (by kernel_rfl) (fun _ _ _ h => h) (Or.inl ⟨by kernel_rfl, ?hyn19⟩) (by assumption) ?restn19
          case hyn19 => (intro w hSw; obtain ⟨f1, f2, f3, f4, f5, f6, f7, f8⟩ := FF.out w hSw; go_simp <;> with_reducible rfl)
          try simp only [Act.put, List.setIfInBounds_toArray, List.set_cons_zero, List.set_cons_succ]
          refine wpAnyH_ready (rs := [20]) (by kernel_rfl) (by simp) ?_
          refine AllReadyH.cons (o := ⟨_, _, _, _, _, _⟩) rfl (fun K hK => ?_) AllReadyH.nil
          go_simp
          have HSM := Lib.hid (HC3.out.1.later (Below.refl _ _).drew)
          refine (containsG_any 33 #[.pointer (some ⟨bX, 0, none⟩), .pointer (some ⟨bU, 0, none⟩), .pointer (some ⟨bI, 0, none⟩)] (fun t => !anyP (fun v => inS L L.length t.toNat v.toNat) (upRow p u)) (fun _ _ => rfl) (lowRow p s) _ _ (by rw [← hlr] at *; exact HRI.out.later (Below.refl _ _).drew) (broken_any p N1 N2 (inS L L.length) bM L.length u bX px bU bI (lowRow p s) _ HOK.out.toPairOk (by rw [World.cell?_drew]; exact HC3.out.2.1) (HC3.out.2.2.later (Below.refl _ _).drew) (by rw [World.cell?_drew]; exact UC.out) HU.out HSM.out.ic HSM.out.im HLR.out)).mono ?_
          rw [HNO.out]
          rintro e wE ⟨rfl, hbE⟩
          have HE : Hid (Below W3.heap.size W3 wE) := (Below.refl _ _).drew.trans hbE
          clear hbE HSM
          dsimp only
          refine hK.out _ _ HE.out (fun hHeld3 => ?_)
          clear hK K
          try simp only [Act.put, List.setIfInBounds_toArray, List.set_cons_zero, List.set_cons_succ]
          refine wpAnyH_take (i := 21) (oi := ⟨_, _, _, _, _, _⟩) (v := ?vo21) rfl (by kernel_rfl) (by kernel_rfl) (by kernel_rfl) (fun _ _ _ h => h) (Or.inl ⟨by rfl, ?hyo21⟩) (by assumption) ?resto21
          case hyo21 => (intro w hSw; skip; go_simp <;> with_reducible rfl)
          try simp only [Act.put, List.setIfInBounds_toArray, List.set_cons_zero, List.set_cons_succ]
          refine wpAnyH_done (by kernel_rfl) ?_ _
          have HF : Hid (SM w wE p L (some ⟨b, off, none⟩) i1 e1 i2 e2 (some ⟨b5, o5, none⟩) (some ⟨b6, o6, none⟩) c1 d1 c2 d2 k1 k2 bI bM L.length (inS L L.length) ∧ wE.cell? ⟨bX, 0, none⟩ = some (.pointer (some ⟨px, 0, none⟩)) ∧ PairX wE px p N1 N2) := ⟨HC3.out.1.later HE.out, Below.keeps HE.out HC3.out.2.1 (Nat.le_refl _), HC3.out.2.2.later HE.out⟩
          clear FF HC3 HE hHeld hHeld3
          go_wp2
          exact ⟨⟨k + 1, by omega, by go_num, HF⟩, by simp [intOf]; omega⟩
        · have hkk : k = L.length := by omega
          subst hkk
          go_wp2
          refine bodyPost_ret (v := .tuple #[.int .i64 0, .int .i64 0]) (by simp [results, Try.results11, go_sem]) rfl ⟨rfl, hc.out.1.b.bw⟩
end Go.Proofs.Ytciopdlmjciieaa
