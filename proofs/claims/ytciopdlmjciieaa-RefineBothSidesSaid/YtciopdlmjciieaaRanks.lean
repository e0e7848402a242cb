import Derived.Test.YtciopdlmjciieaaRanksA
import Derived.Deep.LoopGhost
namespace Go.Proofs.Ytciopdlmjciieaa
open Go.RowKit
set_option linter.unusedVariables false

noncomputable abbrev stP (p : P2) (N2 m : Nat) : RS := stR p.ll p.ul p.lo.edges (upRow p) N2 m
/-- What ranks keeps in memory. -/
structure RK (w wr : World) (px : Nat) (p : P2) (N1 N2 bR T1 T2 B : Nat) (F1 F2 : Nat → List Int) : Prop where
  x : PairX wr px p N1 N2
  r : wr.cell? ⟨bR, 0, none⟩ = some (.slice (some ⟨T1, 0, none⟩) N1 N1)
  t : Tab2 wr B T1 T2 N1 F1 F2
  bw : Below w.heap.size w wr
  sz : B ≤ wr.heap.size
  q : bR < B ∧ T1 < B ∧ T2 < B ∧ w.heap.size ≤ T1 ∧ w.heap.size ≤ T2 ∧ bR ≠ T1 ∧ bR ≠ T2 ∧ px < w.heap.size ∧ w.heap.size ≤ bR ∧ w.heap.size ≤ B
section
variable {w wr w' : World} {px : Nat} {p : P2} {N1 N2 bR T1 T2 B : Nat} {F1 F2 F1' F2' : Nat → List Int}
theorem RK.later (h : RK w wr px p N1 N2 bR T1 T2 B F1 F2) (hb : Below wr.heap.size wr w') : RK w w' px p N1 N2 bR T1 T2 B F1 F2 :=
  ⟨h.x.later hb, Below.keeps hb h.r (Nat.le_refl _), h.t.later hb, h.bw.trans (hb.mono h.bw.size), Nat.le_trans h.sz hb.size, h.q⟩
theorem RK.congr (h : RK w wr px p N1 N2 bR T1 T2 B F1 F2) (e1 : ∀ j, j < N1 → F1 j = F1' j) (e2 : ∀ j, j < N1 → F2 j = F2' j) : RK w wr px p N1 N2 bR T1 T2 B F1' F2' :=
  ⟨h.x, h.r, h.t.congr e1 e2, h.bw, h.sz, h.q⟩
theorem PairX.under (h : PairX w px p N1 N2) (hb : Below w.heap.size w w') : PairX w' px p N1 N2 := h.later hb
/-- A store into a block that is no older one. -/
theorem RK.store (h : RK w wr px p N1 N2 bR T1 T2 B F1 F2) (h0 : PairX w px p N1 N2) {a : Addr} {u : Value} (ha : w.heap.size ≤ a.block) (hne : bR ≠ a.block) (ht : Tab2 (wr.setCell a u) B T1 T2 N1 F1' F2') : RK w (wr.setCell a u) px p N1 N2 bR T1 T2 B F1' F2' :=
  have hb := h.bw.setCell ha u
  ⟨h0.later hb, (World.cell?_setCell_other _ _ _ _ (by intro e; apply hne; rw [e])).trans h.r, ht, hb, by simp [World.setCell]; exact h.sz, h.q⟩
theorem RK.put1 (h : RK w wr px p N1 N2 bR T1 T2 B F1 F2) (h0 : PairX w px p N1 N2) (hb : Below wr.heap.size wr w') {j : Nat} (hj : j < N1) {v' : Value} {l' : List Int} (ho : ownInts w' wr.heap.size v' l') : RK w (w'.setCell ⟨T1, j, none⟩ v') px p N1 N2 bR T1 T2 B (upd F1 j l') F2 :=
  (h.later hb).store h0 (a := ⟨T1, j, none⟩) h.q.2.2.2.1 h.q.2.2.2.2.2.1 (h.t.put1 hb hj ho h.sz)
theorem RK.put2 (h : RK w wr px p N1 N2 bR T1 T2 B F1 F2) (h0 : PairX w px p N1 N2) (hb : Below wr.heap.size wr w') {j : Nat} (hj : j < N1) {v' : Value} {l' : List Int} (ho : ownInts w' wr.heap.size v' l') : RK w (w'.setCell ⟨T2, j, none⟩ v') px p N1 N2 bR T1 T2 B F1 (upd F2 j l') :=
  (h.later hb).store h0 (a := ⟨T2, j, none⟩) h.q.2.2.2.2.1 h.q.2.2.2.2.2.2.1 (h.t.put2 hb hj ho h.sz)
theorem RK.row_ge (h : RK w wr px p N1 N2 bR T1 T2 B F1 F2) {g n c : Nat} {l : List Int} (ho : ownInts wr B (.slice (some ⟨g, 0, none⟩) n c) l) : w.heap.size ≤ g ∧ bR ≠ g ∧ T1 ≠ g ∧ T2 ≠ g ∧ g < wr.heap.size := by
  have h1 := (ho.lt g rfl).1
  have h2 := (ho.lt g rfl).2
  have h3 := h.q
  omega
theorem RK.set1 (h : RK w wr px p N1 N2 bR T1 T2 B F1 F2) (h0 : PairX w px p N1 N2) {j : Nat} (hj : j < N1) {g m c : Nat} (hv : wr.cell? ⟨T1, j, none⟩ = some (.slice (some ⟨g, 0, none⟩) m c)) (hg : w.heap.size ≤ g) (hne : bR ≠ g) (u : Nat) (x : Int) : RK w (wr.setCell ⟨g, u, none⟩ (.int .i64 x)) px p N1 N2 bR T1 T2 B (upd F1 j ((F1 j).set u x)) F2 :=
  h.store h0 (a := ⟨g, u, none⟩) hg hne (h.t.set1 hj hv u x)
theorem RK.set2 (h : RK w wr px p N1 N2 bR T1 T2 B F1 F2) (h0 : PairX w px p N1 N2) {j : Nat} (hj : j < N1) {g m c : Nat} (hv : wr.cell? ⟨T2, j, none⟩ = some (.slice (some ⟨g, 0, none⟩) m c)) (hg : w.heap.size ≤ g) (hne : bR ≠ g) (u : Nat) (x : Int) : RK w (wr.setCell ⟨g, u, none⟩ (.int .i64 x)) px p N1 N2 bR T1 T2 B F1 (upd F2 j ((F2 j).set u x)) :=
  h.store h0 (a := ⟨g, u, none⟩) hg hne (h.t.set2 hj hv u x)
end

/-- The same, the rows below a place. -/
structure RK2 (w wr : World) (px : Nat) (p : P2) (N1 N2 bR T1 T2 B M : Nat) (F1 F2 : Nat → List Int) : Prop extends RK w wr px p N1 N2 bR T1 T2 B F1 F2 where
  rl : ∀ j, j < N1 → ∀ g m c, (wr.cell? ⟨T1, j, none⟩ = some (.slice (some ⟨g, 0, none⟩) m c) ∨ wr.cell? ⟨T2, j, none⟩ = some (.slice (some ⟨g, 0, none⟩) m c)) → g < M
  ms : M ≤ wr.heap.size
section
variable {w wr w' : World} {px : Nat} {p : P2} {N1 N2 bR T1 T2 B M : Nat} {F1 F2 F1' F2' : Nat → List Int}
theorem RK2.of (h : RK w wr px p N1 N2 bR T1 T2 B F1 F2) : RK2 w wr px p N1 N2 bR T1 T2 B wr.heap.size F1 F2 := ⟨h, fun j hj g m c hc => by
  rcases hc with hc | hc
  · obtain ⟨a, c', e, ho⟩ := h.t.get1 hj
    rw [hc] at e; injection e with e; rw [← e] at ho; exact (ho.lt g rfl).2
  · obtain ⟨a, c', e, ho⟩ := h.t.get2 hj
    rw [hc] at e; injection e with e; rw [← e] at ho; exact (ho.lt g rfl).2, Nat.le_refl _⟩
theorem RK2.later (h : RK2 w wr px p N1 N2 bR T1 T2 B M F1 F2) (hb : Below wr.heap.size wr w') : RK2 w w' px p N1 N2 bR T1 T2 B M F1 F2 :=
  ⟨h.toRK.later hb, fun j hj g m c hc => h.rl j hj g m c (by
    rw [hb.cell (p := ⟨T1, j, none⟩) h.t.lt1, hb.cell (p := ⟨T2, j, none⟩) h.t.lt2] at hc; exact hc), Nat.le_trans h.ms hb.size⟩
theorem RK2.congr (h : RK2 w wr px p N1 N2 bR T1 T2 B M F1 F2) (e1 : ∀ j, j < N1 → F1 j = F1' j) (e2 : ∀ j, j < N1 → F2 j = F2' j) : RK2 w wr px p N1 N2 bR T1 T2 B M F1' F2' := ⟨h.toRK.congr e1 e2, h.rl, h.ms⟩
theorem RK2.set1 (h : RK2 w wr px p N1 N2 bR T1 T2 B M F1 F2) (h0 : PairX w px p N1 N2) {j : Nat} (hj : j < N1) {g m c : Nat} (hv : wr.cell? ⟨T1, j, none⟩ = some (.slice (some ⟨g, 0, none⟩) m c)) (hg : w.heap.size ≤ g ∧ bR ≠ g ∧ T1 ≠ g ∧ T2 ≠ g) (u : Nat) (x : Int) : RK2 w (wr.setCell ⟨g, u, none⟩ (.int .i64 x)) px p N1 N2 bR T1 T2 B M (upd F1 j ((F1 j).set u x)) F2 :=
  ⟨h.toRK.set1 h0 hj hv hg.1 hg.2.1 u x, fun j hj g' m c hc => h.rl j hj g' m c (by
    rw [World.cell?_setCell_other _ _ _ _ (by intro e; injection e with e; exact hg.2.2.1 e.symm), World.cell?_setCell_other _ _ _ _ (by intro e; injection e with e; exact hg.2.2.2 e.symm)] at hc; exact hc), by simp [World.setCell]; exact h.ms⟩
theorem RK2.set2 (h : RK2 w wr px p N1 N2 bR T1 T2 B M F1 F2) (h0 : PairX w px p N1 N2) {j : Nat} (hj : j < N1) {g m c : Nat} (hv : wr.cell? ⟨T2, j, none⟩ = some (.slice (some ⟨g, 0, none⟩) m c)) (hg : w.heap.size ≤ g ∧ bR ≠ g ∧ T1 ≠ g ∧ T2 ≠ g) (u : Nat) (x : Int) : RK2 w (wr.setCell ⟨g, u, none⟩ (.int .i64 x)) px p N1 N2 bR T1 T2 B M F1 (upd F2 j ((F2 j).set u x)) :=
  ⟨h.toRK.set2 h0 hj hv hg.1 hg.2.1 u x, fun j hj g' m c hc => h.rl j hj g' m c (by
    rw [World.cell?_setCell_other _ _ _ _ (by intro e; injection e with e; exact hg.2.2.1 e.symm), World.cell?_setCell_other _ _ _ _ (by intro e; injection e with e; exact hg.2.2.2 e.symm)] at hc; exact hc), by simp [World.setCell]; exact h.ms⟩
end

set_option maxHeartbeats 2000000 in
set_option maxRecDepth 100000 in
theorem ranks_any (p : P2) (px N1 N2 : Nat) (w : World) (hX : PairX w px p N1 N2) (hok : PairOk p) :
    Calls Try.prog 30 #[.pointer (some ⟨px, 0, none⟩)] w fun e w' => ∃ T1 T2 m, e = .returned (.tuple #[.slice (some ⟨T1, 0, none⟩) N1 N1, .slice (some ⟨T2, 0, none⟩) N1 N1]) ∧
      Hid ((stP p N2 (m + 1)).ch = false ∧ ∀ q, q ≤ m → (stP p N2 q).ch = true) ∧ RowsAt w' T1 N1 (stP p N2 (m + 1)).R ∧ RowsAt w' T2 N1 (stP p N2 (m + 1)).S ∧ Below w.heap.size w w' := by
  obtain ⟨i0, hi, hz0, hz1, hz2⟩ := info_parts infoInt
  have hN1 := hX.n1
  have hN2 := hX.n2
  have hL1 : N1 ≤ 40 := by have := hok.l40; omega
  have hL2 : N2 ≤ 40 := by have := hok.u40; omega
  have hEL : p.lo.edges.length ≤ 2000 := hok.lo.2.1
  have hmk := fun W => run_make_row' (P := Try.prog) 31 22 (.slice none 0 0) 24 Try.underlying31 infoRow rfl .i64 .i64 N1 (by omega) (by omega) W
  have HX := Lib.hid hX; have HOK := Lib.hid hok
  obtain ⟨i1, e1, i2, e2, l1, l2, c1, d1, c2, d2, k1, k2, TL, TU, hp, -, hE1, -, -, -, -, -, hUP⟩ := hX.ex
  have HP0 := Lib.hid hp; have HE0 := Lib.hid hE1; have HU0 := Lib.hid hUP
  have q0 := hp.q0
  rw [hN1] at q0
  have hpx : px < w.heap.size := hp.lt
  clear hX hok hN1 hN2 hp hE1 hUP
  go_enter Try.func30, Try.ntmps30
  go_wp2_with fail
  have hRK0 : Hid (RK w (((w.alloc (Obj.cells (madeCells #[Value.slice none 0 0] N1) 22)).alloc (Obj.cells #[.slice (some ⟨w.heap.size, 0, none⟩) N1 N1] 31)).alloc (Obj.cells (madeCells #[Value.slice none 0 0] N1) 22)) px p N1 N2 (w.heap.size + 1) w.heap.size (w.heap.size + 1 + 1) (w.heap.size + 1 + 1 + 1) (fun s => if s < 0 then r0 p.ll p.ul s N2 N2 else []) (fun s => if s < 0 then List.replicate N2 (-1) else [])) := by
    have hb : Below w.heap.size w (((w.alloc (Obj.cells (madeCells #[Value.slice none 0 0] N1) 22)).alloc (Obj.cells #[.slice (some ⟨w.heap.size, 0, none⟩) N1 N1] 31)).alloc (Obj.cells (madeCells #[Value.slice none 0 0] N1) 22)) := (((Below.refl _ _).alloc (Nat.le_refl _) _).alloc (by simp) _).alloc (by simp; omega) _
    refine ⟨HX.out.later hb, ?_, (Tab2.nil ?_ ?_ (by omega)).congr (fun j hj => (if_neg (by omega)).symm) (fun j hj => (if_neg (by omega)).symm), hb, by simp, by omega⟩
    · rw [World.cell?_alloc_past _ _ _ (by simp)]
      simp
    · exact ((World.rowIs_made w (.slice none 0 0) N1 22).alloc _).alloc _
    · have h := World.rowIs_made ((w.alloc (Obj.cells (madeCells #[Value.slice none 0 0] N1) 22)).alloc (Obj.cells #[.slice (some ⟨w.heap.size, 0, none⟩) N1 N1] 31)) (.slice none 0 0) N1 22
      simpa using h
  clear hmk q0
  generalize hw1 : ((w.alloc (Obj.cells (madeCells #[Value.slice none 0 0] N1) 22)).alloc (Obj.cells #[.slice (some ⟨w.heap.size, 0, none⟩) N1 N1] 31)).alloc (Obj.cells (madeCells #[Value.slice none 0 0] N1) 22) = w1 at *
  clear hw1
  generalize w.heap.size + 1 + 1 + 1 = B at hRK0
  generalize w.heap.size + 1 + 1 = T2 at hRK0 ⊢
  generalize w.heap.size + 1 = bR at hRK0 ⊢
  generalize hT1 : w.heap.size = T1 at hRK0 ⊢
  clear hT1 hpx
  go_loopw [30] (fun i wr => ∃ k : Nat, k ≤ N1 ∧ i = .int .i64 k ∧ RK w wr px p N1 N2 bR T1 T2 B (fun s => if s < k then r0 p.ll p.ul s N2 N2 else []) (fun s => if s < k then List.replicate N2 (-1) else [])) (fun i _ => N1 - (intOf i).toNat)
  case atStart => exact ⟨0, Nat.zero_le _, rfl, hRK0.out⟩
  case round =>
    clear hRK0
    obtain ⟨k, hk, rfl, hK⟩ := hrel
    by_cases hlt : k < N1
    · have r0 := hK.r
      obtain ⟨i1, e1, i2, e2, l1, l2, c1, d1, c2, d2, k1, k2, TL, TU, hp, -, -, -, -, hl1, hl2, -⟩ := hK.x.ex
      have y3 := hp.q3
      rw [hK.x.n2] at y3
      have z0 : bR < wr.heap.size := cell_lt r0
      have z1 : px < wr.heap.size := cell_lt y3
      have z2 : T1 < wr.heap.size := hK.t.lt1
      have fz := hK.t.fz1 k
      obtain ⟨av, cv, hv, -⟩ := hK.t.get1 hlt
      have NT : Hid ((∀ i, (⟨T1, k, none⟩ : Addr) ≠ ⟨bR, i, none⟩) ∧ ∀ i, (⟨T1, k, none⟩ : Addr) ≠ ⟨px, i, none⟩) := by
        have hq := hK.q
        exact ⟨fun i h => by injection h with h1; omega, fun i h => by injection h with h1; omega⟩
      have HK := Lib.hid hK
      have HLL := Lib.hid hl1; have HUL := Lib.hid hl2
      clear hK hp hl1 hl2
      go_wp2_with fail
      have R0 := Lib.hid r0; have Y3 := Lib.hid y3; have HV := Lib.hid hv; have FZ := Lib.hid fz
      go_cut [42] (fun s42 wx => RK w wx px p N1 N2 bR T1 T2 B (upd (fun s => if s < k then Go.Proofs.Ytciopdlmjciieaa.r0 p.ll p.ul s N2 N2 else []) k (List.replicate N2 (-1))) (fun s => if s < k then List.replicate N2 (-1) else []))
      case first =>
        go_region_held3 (fun w' => w'.cell? ⟨bR, 0, none⟩ = some (.slice (some ⟨T1, 0, none⟩) N1 N1) ∧ w'.cell? ⟨px, 3, none⟩ = some (.int .i64 N2))
          (first | with_reducible exact ⟨a0, a3⟩ | exact ⟨(World.cell?_setCell_other _ _ _ _ (NT.out.1 _)).trans a0, (World.cell?_setCell_other _ _ _ _ (NT.out.2 _)).trans a3⟩ | ((refine (fun hB : Below wr.heap.size wr _ => ⟨Below.keeps hB R0.out (Nat.le_refl _), Below.keeps hB Y3.out (Nat.le_refl _)⟩) ?_; (repeat (first | with_reducible exact Below.refl _ _ | with_reducible refine Below.drew ?_ | (with_reducible refine Below.alloc ?_ ?_ _))); all_goals (first | exact Nat.le_refl _ | (simp; done)))))
          ((go_at_call 52; refine (repeat_any N2 (by omega) _ _ ?_).mono ?_;
            (focus (first | exact box_cell _ _ _ 0 _ rfl | (rw [World.cell?_drew]; exact box_cell _ _ _ 0 _ rfl)));
            rintro e wA ⟨go, rfl, hgo, hoA, hbA⟩;
            have hbr : Below wr.heap.size wr wA := Below.trans (b := _) (by { (repeat (first | with_reducible exact Below.refl _ _ | with_reducible refine Below.drew ?_ | (with_reducible refine Below.alloc ?_ ?_ _))); all_goals (first | exact Nat.le_refl _ | (simp; done)) }) (hbA.mono (by simp));
            have hoB : ownInts wA wr.heap.size (.slice (some ⟨go, 0, none⟩) N2 N2) (List.replicate N2 (-1)) := row_mono hoA (by simp);
            have a0 := Below.keeps hbr R0.out (Nat.le_refl _);
            have a3 := Below.keeps hbr Y3.out (Nat.le_refl _);
            have a1 := Below.keeps hbr HV.out (Nat.le_refl _);
            have a2 := Below.keepsF hbr FZ.out z2;
            have HBR := Lib.hid hbr; have HOB := Lib.hid hoB; clear hbr hoB hoA hbA))
        all_goals
          go_wp2_with fail
          go_meet
          exact HK.out.put1 HX.out HBR.out hlt HOB.out
      case rest =>
        have hK := hcut
        obtain ⟨wd, hwd⟩ : ∃ x, x = wc := ⟨_, rfl⟩
        subst hwd
        have y3 := hK.x
        obtain ⟨i1, e1, i2, e2, l1, l2, c1, d1, c2, d2, k1, k2, TL, TU, hp, -⟩ := y3.ex
        clear HV FZ HK R0 Y3 z0 z1 z2 r0 hv fz hcut HLL HUL
        have y3' := hp.q3
        rw [y3.n2] at y3'
        have z1 : px < wd.heap.size := cell_lt y3'
        have z2 : T2 < wd.heap.size := hK.t.lt2
        have fz := hK.t.fz2 k
        obtain ⟨av, cv, hv, -⟩ := hK.t.get2 hlt
        have HK := Lib.hid hK; have HV := Lib.hid hv; have FZ := Lib.hid fz
        clear hK hv fz hp y3
        go_wp2_with fail
        refine (repeat_any N2 (by omega) _ _ (box_cell _ _ _ 0 _ rfl)).mono ?_
        rintro e wA ⟨go, rfl, hgo, hoA, hbA⟩
        have hbr : Below wd.heap.size wd wA := ((Below.refl _ _).alloc (Nat.le_refl _) _).trans (hbA.mono (by simp))
        have hoB : ownInts wA wd.heap.size (.slice (some ⟨go, 0, none⟩) N2 N2) (List.replicate N2 (-1)) := row_mono hoA (by simp)
        have a1 := Below.keeps hbr HV.out (Nat.le_refl _)
        have a2 := Below.keepsF hbr FZ.out z2
        have HK2 := Lib.hid (HK.out.put2 HX.out hbr hlt hoB)
        clear hbr hoB hoA hbA HK HV FZ y3'
        go_upto_region 8 with (fail)
        have HK3 : Hid (RK w (wA.setCell ⟨T2, k, none⟩ (.slice (some ⟨go, 0, none⟩) N2 N2)) px p N1 N2 bR T1 T2 B (upd (fun s => if s < k then r0 p.ll p.ul s N2 N2 else []) k (r0 p.ll p.ul k N2 0)) (fun s => if s < k + 1 then List.replicate N2 (-1) else [])) :=
          HK2.out.congr (fun j hj => rfl) (fun j hj => by
            by_cases e : j = k
            · subst e; rw [upd_same, if_pos (by omega)]
            · rw [upd_other _ _ e]
              by_cases h : j < k
              · rw [if_pos h, if_pos (by omega)]
              · rw [if_neg h, if_neg (by omega)])
        clear HK2 a1 a2
        generalize wA.setCell ⟨T2, k, none⟩ (.slice (some ⟨go, 0, none⟩) N2 N2) = wB at *
        have b0 := HK3.out.r
        obtain ⟨ar, cr, b1, -⟩ := HK3.out.t.get1 hlt
        rw [upd_same] at b1
        have b1' : wB.cell? ⟨T1, k, none⟩ = some (.slice ar N2 cr) := by rw [b1, r0_len]
        clear b1
        go_wp2_with fail
        clear b0 b1'
        clear y3
        go_loopw [60] (fun i wr => ∃ u : Nat, u ≤ N2 ∧ i = .int .i64 u ∧ RK w wr px p N1 N2 bR T1 T2 B (upd (fun s => if s < k then r0 p.ll p.ul s N2 N2 else []) k (r0 p.ll p.ul k N2 u)) (fun s => if s < k + 1 then List.replicate N2 (-1) else [])) (fun i _ => N2 - (intOf i).toNat)
        case atStart => exact ⟨0, Nat.zero_le _, rfl, HK3.out⟩
        case round =>
          clear HK3
          obtain ⟨u, hu, rfl, hK⟩ := hrel
          by_cases hltu : u < N2
          · have hX := hK.x
            obtain ⟨i1, e1, i2, e2, l1, l2, c1, d1, c2, d2, k1, k2, TL, TU, hp, -, -, -, -, hl1, hl2, -⟩ := hX.ex
            have hll : p.ll.length = N1 := by have := HOK.out.ll; have := hX.n1; omega
            have hul : p.ul.length = N2 := by have := HOK.out.ul; have := hX.n2; omega
            have y6 := hp.q6
            have y7 := hp.q7
            obtain ⟨b1, o1, f1, g1⟩ := hl1 k (by omega)
            obtain ⟨b2, o2, f2, g2⟩ := hl2 u (by omega)
            subst f1 f2
            rw [hll] at y6
            rw [hul] at y7
            obtain ⟨gr, cr, hv, ho⟩ := hK.t.row1 hlt (m := N2) (by rw [upd_same, r0_len]) (by omega)
            rw [upd_same] at ho
            have hfr := own_frozen ho u
            have hce := own_at ho u (by rw [r0_len]; exact hltu)
            have hge := hK.row_ge ho
            have hr := hK.r
            have HK := Lib.hid hK; have HV := Lib.hid hv; have HF := Lib.hid hfr; have HC := Lib.hid hce; have HR := Lib.hid hr; have HGE := Lib.hid hge
            clear hK hX hp hl1 hl2 hll hul ho hv hfr hce hr hge
            generalize hlk : gi p.ll k = a at g1
            generalize hlu : gi p.ul u = c at g2
            have hne : ∀ x : Bool, (a != c) = x → Hid ((a != c) = x) := fun x h => h
            by_cases hac : a = c
            · have hq : (a != c) = false := by simp [hac]
              have HEQ : Hid (r0 p.ll p.ul k N2 (u + 1) = r0 p.ll p.ul k N2 u) := by unfold Hid; rw [r0, if_pos (by rw [hlk, hlu]; exact hac)]
              clear hlk hlu hne hac
              go_wp2_with fail
              go_quiet (fail)
              go_wp2
              exact ⟨⟨u + 1, by omega, by go_num, by rw [HEQ.out]; exact HK.out.later (below_drewN (Below.refl _ _) _)⟩, by simp [intOf]; omega⟩
            · have hq : (a != c) = true := by simpa using hac
              have HEQ : Hid (r0 p.ll p.ul k N2 (u + 1) = (r0 p.ll p.ul k N2 u).set u 0) := by unfold Hid; rw [r0, if_neg (by rw [hlk, hlu]; exact hac)]
              clear hlk hlu hne hac
              go_wp2_with fail
              go_quiet (fail)
              have hr : (wr.drewN nq).cell? ⟨bR, 0, none⟩ = some (.slice (some ⟨T1, 0, none⟩) N1 N1) := by simpa using HR.out
              have hv : (wr.drewN nq).cell? ⟨T1, k, none⟩ = some (.slice (some ⟨gr, 0, none⟩) N2 cr) := by simpa using HV.out
              have hfr : (wr.drewN nq).frozen? ⟨gr, u, none⟩ = false := by simpa using HF.out
              have hce : (wr.drewN nq).cell? ⟨gr, u, none⟩ = some (.int .i64 (gi (r0 p.ll p.ul k N2 u) u)) := by simpa using HC.out
              have HKd := Lib.hid (HK.out.later (below_drewN (Below.refl wr.heap.size wr) nq))
              generalize wr.drewN nq = wz at *
              have HVZ := Lib.hid hv
              go_wp2
              refine ⟨⟨u + 1, by omega, by go_num, ?_⟩, by simp [intOf]; omega⟩
              rw [HEQ.out]
              have := HKd.out.set1 HX.out hlt HVZ.out HGE.out.1 HGE.out.2.1 u 0
              exact this.congr (fun j hj => by
                by_cases e : j = k
                · subst e; rw [upd_same, upd_same, upd_same]
                · rw [upd_other _ _ e, upd_other _ _ e, upd_other _ _ e]) (fun j hj => rfl)
          · have hkk : u = N2 := by omega
            subst hkk
            go_wp2
            refine ⟨⟨k + 1, by omega, by go_num, hK.congr (fun j hj => ?_) (fun j hj => rfl)⟩, by simp [intOf]; omega⟩
            by_cases e : j = k
            · subst e; rw [upd_same, if_pos (by omega)]
            · rw [upd_other _ _ e]
              by_cases h : j < k
              · rw [if_pos h, if_pos (by omega)]
              · rw [if_neg h, if_neg (by omega)]
    · have hkk : N1 = k := by omega
      subst hkk
      obtain ⟨M, hM⟩ : ∃ M, M = wr.heap.size := ⟨_, rfl⟩
      have hS0 : Hid (RK2 w wr px p N1 N2 bR T1 T2 B M (stP p N2 0).R (stP p N2 0).S) := by rw [hM]; exact RK2.of (hK.congr (fun j hj => if_pos hj) (fun j hj => if_pos hj))
      have hcm : Hid (cntR N1 (stP p N2 0).R ≤ N1 * N2) := cntR_le (stR_len _ _ _ _ _ 0).1
      have hCb : cntR N1 (stP p N2 0).R ≤ 1600 := Nat.le_trans hcm.out (Nat.le_trans (Nat.mul_le_mul hL1 hL2) (by omega))
      obtain ⟨C, hC⟩ : ∃ C, C = cntR N1 (stP p N2 0).R := ⟨_, rfl⟩
      rw [← hC] at hCb
      have HC := Lib.hid hC
      have hbk : Below wr.heap.size wr (wr.alloc (Obj.cells #[.int .i64 1] 3)) := (Below.refl _ _).alloc (Nat.le_refl _) _
      have HS1 := Lib.hid (hS0.out.later hbk)
      have hkb : Hid ((wr.alloc (Obj.cells #[.int .i64 1] 3)).cell? ⟨wr.heap.size, 0, none⟩ = some (.int .i64 ((0 + 1 : Nat) : Int)) ∧ (wr.alloc (Obj.cells #[.int .i64 1] 3)).frozen? ⟨wr.heap.size, 0, none⟩ = false ∧ B ≤ wr.heap.size ∧ M ≤ wr.heap.size) := ⟨box_cell _ _ _ 0 _ rfl, World.frozen?_alloc_at _ _ _ _ rfl, hK.sz, by omega⟩
      have hedge : Hid (∀ i, i < p.lo.edges.length → ∃ F t : Nat, ∃ a : Int, ge p.lo.edges i = ⟨F, t, a⟩ ∧ F < N1 ∧ t < N1) := fun i hi => by
        have hE := HOK.out.lo.2.2.2 i hi
        unfold edgeOk at hE
        have hn := HX.out.n1
        generalize ge p.lo.edges i = x at hE
        obtain ⟨f, t, a⟩ := x
        refine ⟨f.toNat, t.toNat, a, ?_, ?_, ?_⟩
        · have h1 : 0 ≤ f := hE.1.1
          have h2 : 0 ≤ t := hE.1.2.1
          rw [Int.toNat_of_nonneg h1, Int.toNat_of_nonneg h2]
        · have h1 : 0 ≤ f := hE.1.1
          have h2 : f < p.lo.n := hE.2.1.1
          omega
        · have h1 : 0 ≤ t := hE.1.2.1
          have h2 : t < p.lo.n := hE.2.1.2
          omega
      have huprow : Hid (∀ u, u < N2 → ∀ v ∈ upRow p u, 0 ≤ v ∧ v < (N2 : Int)) := fun u hu v hv => by
        rcases mem_upRow.1 hv with h | ⟨e, he, h1, h2⟩
        · omega
        · obtain ⟨i, hi, rfl⟩ := List.getElem_of_mem he
          have hE := HOK.out.up.2.2.2 i hi
          unfold edgeOk at hE
          have hn := HX.out.n2
          have hg : ge p.up.edges i = p.up.edges[i] := by simp [ge, List.getElem?_eq_getElem hi]
          rw [hg] at hE
          have h3 : 0 ≤ p.up.edges[i].t := hE.1.2.1
          have h4 : p.up.edges[i].t < p.up.n := hE.2.1.2
          omega
      clear hK hS0 hcm hC hbk hM
      go_upto_region 16 with (fail)
      generalize wr.heap.size = kb0 at *
      generalize wr.alloc (Obj.cells #[.int .i64 1] 3) = wk at *
      have hcl : Hid (∀ i, i < p.lo.edges.length → (ge p.lo.edges i).f.toNat < N1) := fun i hi => by
        obtain ⟨F, t, a, he, h1, -⟩ := hedge.out i hi
        rw [he]; exact h1
      go_loopg [8, 9] (2 * C + 1) (fun q s8 s9 wr => ∃ (m kb : Nat), s8 = .pointer (some ⟨kb, 0, none⟩) ∧ s9 = .bool (stP p N2 m).ch ∧ wr.cell? ⟨kb, 0, none⟩ = some (.int .i64 ((m + 1 : Nat) : Int)) ∧ wr.frozen? ⟨kb, 0, none⟩ = false ∧ (B ≤ kb ∧ M ≤ kb) ∧ RK2 w wr px p N1 N2 bR T1 T2 B M (stP p N2 m).R (stP p N2 m).S ∧
        Hid (∀ q, q < m → (stP p N2 q).ch = true) ∧ Hid (((stP p N2 m).ch = true → m + cntR N1 (stP p N2 m).R ≤ C) ∧ m + cntR N1 (stP p N2 m).R ≤ C + 1 ∧ 2 * cntR N1 (stP p N2 m).R + (if (stP p N2 m).ch = true then 1 else 0) ≤ q))
      case atStart => exact ⟨0, kb0, rfl, rfl, hkb.out.1, hkb.out.2.1, hkb.out.2.2, HS1.out, fun q hq => by omega, by rw [← HC.out]; exact ⟨fun _ => by omega, by omega, by split <;> omega⟩⟩
      case round =>
        clear HS1 hkb
        obtain ⟨m, kb, rfl, rfl, ck, fk, hkb, hK, hall, hms⟩ := hrel
        have hmC : m ≤ 1601 := by have := hms.out.2.1; omega
        cases hch : (stP p N2 m).ch with
        | false =>
          obtain ⟨m', rfl⟩ : ∃ m', m = m' + 1 := ⟨m - 1, by
            rcases m with _ | m
            · exact absurd hch (by simp [stR])
            · rfl⟩
          have hr := hK.r
          have HCH := Lib.hid hch
          go_wp2
          go_ret2
          exact ⟨T1, T2, m', rfl, ⟨HCH.out, fun q hq => hall.out q (by omega)⟩, hK.t.at1, hK.t.at2, hK.bw⟩
        | true =>
          have HCH := Lib.hid hch
          clear hch
          have q2 := Below.keeps hK.bw HP0.out.q2 (Nat.le_refl _)
          have HK0 : Hid (RK2 w wr px p N1 N2 bR T1 T2 B M (afE (upRow p) p.lo.edges N2 ((m + 1 : Nat) : Int) { stP p N2 m with ch := false } 0).R (afE (upRow p) p.lo.edges N2 ((m + 1 : Nat) : Int) { stP p N2 m with ch := false } 0).S) := hK
          have CK := Lib.hid ck; have FK := Lib.hid fk
          clear hK ck fk
          go_upto_region 20 with (fail)
          clear q2
          obtain ⟨w3, hw3⟩ : ∃ x, x = wr := ⟨_, rfl⟩
          subst hw3
          go_loopw [9, 98] (fun s9 s98 wr => ∃ i : Nat, i ≤ p.lo.edges.length ∧ s98 = .int .i64 i ∧ s9 = .bool (afE (upRow p) p.lo.edges N2 ((m + 1 : Nat) : Int) { stP p N2 m with ch := false } i).ch ∧ wr.cell? ⟨kb, 0, none⟩ = some (.int .i64 ((m + 1 : Nat) : Int)) ∧ wr.frozen? ⟨kb, 0, none⟩ = false ∧
            RK2 w wr px p N1 N2 bR T1 T2 B M (afE (upRow p) p.lo.edges N2 ((m + 1 : Nat) : Int) { stP p N2 m with ch := false } i).R (afE (upRow p) p.lo.edges N2 ((m + 1 : Nat) : Int) { stP p N2 m with ch := false } i).S) (fun _ i _ => p.lo.edges.length - (intOf i).toNat)
          case atStart => exact ⟨0, Nat.zero_le _, rfl, rfl, CK.out, FK.out, HK0.out⟩
          case round =>
            clear HK0 CK FK
            obtain ⟨i, hi, rfl, rfl, ck, fk, hK⟩ := hrel
            by_cases hlti : i < p.lo.edges.length
            · have HLX : Hid (LenOk N2 (afE (upRow p) p.lo.edges N2 ((m + 1 : Nat) : Int) { stP p N2 m with ch := false } i)) := afE_len (up := upRow p) (l := p.lo.edges) (k := ((m + 1 : Nat) : Int)) (x := { stP p N2 m with ch := false }) (stR_len p.ll p.ul p.lo.edges (upRow p) N2 m) i hi
              have HNX : Hid (∀ x, x = afE (upRow p) p.lo.edges N2 ((m + 1 : Nat) : Int) { stP p N2 m with ch := false } i → afE (upRow p) p.lo.edges N2 ((m + 1 : Nat) : Int) { stP p N2 m with ch := false } (i + 1) = afU (upRow p) (ge p.lo.edges i).f.toNat (ge p.lo.edges i).t.toNat i ((m + 1 : Nat) : Int) x N2) := fun x hx => by rw [hx]; rfl
              have HNX' := HNX.out _ rfl
              obtain ⟨F, t, ac, he, hF, ht⟩ := hedge.out i hlti
              rw [he] at HNX'
              have HN := Lib.hid HNX'
              clear HNX HNX'
              have hE := HE0.out.later hK.bw
              obtain ⟨b, o, f1, g1, g2, g3⟩ := hE i hlti
              subst f1
              rw [he] at g1 g2 g3
              have q3 := Below.keeps hK.bw HP0.out.q3 (Nat.le_refl _)
              rw [HX.out.n2] at q3
              generalize afE (upRow p) p.lo.edges N2 ((m + 1 : Nat) : Int) { stP p N2 m with ch := false } i = X at *
              have z1 : px < wr.heap.size := cell_lt q3
              have hb1 : Below wr.heap.size wr (wr.alloc (Obj.cells #[.int .i64 (F : Int), .int .i64 (t : Int), .int .i64 ac] 81)) := (Below.refl _ _).alloc (Nat.le_refl _) _
              have HK0 := Lib.hid (hK.later hb1)
              have CK := Lib.hid (Below.keeps hb1 ck (Nat.le_refl _)); have FK := Lib.hid (Below.keepsF hb1 fk (cell_lt ck))
              have HED : Hid ((wr.alloc (Obj.cells #[.int .i64 (F : Int), .int .i64 (t : Int), .int .i64 ac] 81)).cell? ⟨wr.heap.size, 0, none⟩ = some (.int .i64 (F : Int)) ∧ (wr.alloc (Obj.cells #[.int .i64 (F : Int), .int .i64 (t : Int), .int .i64 ac] 81)).cell? ⟨wr.heap.size, 1, none⟩ = some (.int .i64 (t : Int)) ∧ B ≤ wr.heap.size ∧ M ≤ wr.heap.size) := ⟨box_cell _ _ _ 0 _ rfl, box_cell _ _ _ 1 _ rfl, hK.sz, hK.ms⟩
              clear hb1 hE hK ck fk he
              go_upto_region 23 with (fail)
              clear g1 g2 g3 q3 z1
              generalize wr.alloc (Obj.cells #[.int .i64 (F : Int), .int .i64 (t : Int), .int .i64 ac] 81) = w5 at *
              generalize wr.heap.size = ed at *
              go_loopw [9, 109] (fun s9 s109 wr => ∃ u : Nat, u ≤ N2 ∧ s109 = .int .i64 u ∧ s9 = .bool (afU (upRow p) F t i ((m + 1 : Nat) : Int) X u).ch ∧ wr.cell? ⟨kb, 0, none⟩ = some (.int .i64 ((m + 1 : Nat) : Int)) ∧ wr.frozen? ⟨kb, 0, none⟩ = false ∧ wr.cell? ⟨ed, 0, none⟩ = some (.int .i64 (F : Int)) ∧ wr.cell? ⟨ed, 1, none⟩ = some (.int .i64 (t : Int)) ∧
                RK2 w wr px p N1 N2 bR T1 T2 B M (afU (upRow p) F t i ((m + 1 : Nat) : Int) X u).R (afU (upRow p) F t i ((m + 1 : Nat) : Int) X u).S) (fun _ u _ => N2 - (intOf u).toNat)
              case atStart => exact ⟨0, Nat.zero_le _, rfl, rfl, CK.out, FK.out, HED.out.1, HED.out.2.1, HK0.out⟩
              case round =>
                have hedB : B ≤ ed ∧ M ≤ ed := HED.out.2.2
                clear HK0 CK FK HED
                obtain ⟨u, hu, rfl, rfl, ck, fk, ce0, ce1, hK⟩ := hrel
                by_cases hltu : u < N2
                · have HLY : Hid (LenOk N2 (afU (upRow p) F t i ((m + 1 : Nat) : Int) X u)) := afU_len HLX.out u
                  have HST : Hid (∀ y, y = afU (upRow p) F t i ((m + 1 : Nat) : Int) X u → afU (upRow p) F t i ((m + 1 : Nat) : Int) X (u + 1) = stepU (upRow p) F t i ((m + 1 : Nat) : Int) y u) := fun y hy => by rw [hy]; rfl
                  have HS := Lib.hid (HST.out _ rfl)
                  clear HST
                  generalize afU (upRow p) F t i ((m + 1 : Nat) : Int) X u = Y at *
                  obtain ⟨g1, c1', hv1, ho1⟩ := hK.t.row1 hF (m := N2) (HLY.out.1 F) (by omega)
                  have hce := own_at ho1 u (by rw [HLY.out.1]; exact hltu)
                  have hr := hK.r
                  have HK := Lib.hid hK; have CK := Lib.hid ck; have FK := Lib.hid fk; have E0 := Lib.hid ce0; have E1 := Lib.hid ce1
                  have V1 := Lib.hid hv1; have O1 := Lib.hid ho1; have HCE := Lib.hid hce; have HR := Lib.hid hr
                  clear hK ck fk ho1 ce1
                  generalize hq : gi (Y.R F) u = q at hce
                  by_cases hq1 : q = -1
                  · subst hq1
                    have q9 := Below.keeps HK.out.bw HP0.out.q9 (Nat.le_refl _)
                    obtain ⟨ap, cp, hup, hupm, hupI⟩ := (HU0.out.later HK.out.bw) u hltu
                    have HQ := Lib.hid hq
                    clear hq
                    have HUPI : Hid (IntsAt wr (.slice ap (upRow p u).length cp) (upRow p u)) := ⟨_, _, rfl, hupm, hupI⟩
                    clear hupm hupI
                    go_wp2_with fail
                    obtain ⟨g2, c2', hv2, ho2⟩ := HK.out.t.row1 ht (m := N2) (HLY.out.1 t) (by omega)
                    refine (containsF_any 53 _ (opn Y.R t ((m + 1 : Nat) : Int)) (fun _ _ => rfl) (upRow p u) _ _ HUPI.out (open_any Y.R t N1 N2 T1 bR ed kb c2' (some ⟨g2, 0, none⟩) ((m + 1 : Nat) : Int) (upRow p u) wr ht HR.out E1.out CK.out hv2 (own_cells ho2).2.1 (HLY.out.1 t) (huprow.out u hltu))).mono ?_
                    rintro e wq ⟨rfl, nq, rfl⟩
                    clear hv2 ho2 hup q9
                    have hd : Below wr.heap.size wr (wr.drewN nq) := below_drewN (Below.refl _ _) _
                    replace HK := Lib.hid (HK.out.later hd)
                    replace CK := Lib.hid (Below.keeps hd CK.out (Nat.le_refl _)); replace E0 := Lib.hid (Below.keeps hd E0.out (Nat.le_refl _)); replace E1 := Lib.hid (Below.keeps hd E1.out (Nat.le_refl _))
                    replace V1 := Lib.hid (Below.keeps hd V1.out (Nat.le_refl _)); replace O1 := Lib.hid (ownsRow_later O1.out hd); replace HCE := Lib.hid (Below.keeps hd HCE.out (Nat.le_refl _)); replace HR := Lib.hid (Below.keeps hd HR.out (Nat.le_refl _))
                    have FK' : Hid ((wr.drewN nq).frozen? ⟨kb, 0, none⟩ = false) := by have := FK.out; unfold Hid; simpa using this
                    clear hd FK hr hv1 hce ce0 HUPI
                    generalize wr.drewN nq = wq at *
                    have hany : ∀ x, anyP (opn Y.R t ((m + 1 : Nat) : Int)) (upRow p u) = x → Hid ((upRow p u).any (opn Y.R t ((m + 1 : Nat) : Int)) = x) := fun x h => h
                    cases hb : anyP (opn Y.R t ((m + 1 : Nat) : Int)) (upRow p u) with
                    | true =>
                      have HB := hany _ hb
                      have HEQ : Hid (afU (upRow p) F t i ((m + 1 : Nat) : Int) X (u + 1) = Y) := by
                        unfold Hid; rw [HS.out]; exact stepU_no (fun h => by rw [HB.out] at h; exact absurd h.2 (by simp))
                      clear hb hany
                      go_wp2
                      exact ⟨⟨u + 1, by omega, by go_num, by rw [HEQ.out], CK.out, FK'.out, E0.out, E1.out, by rw [HEQ.out]; exact HK.out⟩, by simp [intOf]; omega⟩
                    | false =>
                      have HB := hany _ hb
                      have HEQ : Hid (afU (upRow p) F t i ((m + 1 : Nat) : Int) X (u + 1) = ⟨upd Y.R F ((Y.R F).set u ((m + 1 : Nat) : Int)), upd Y.S F ((Y.S F).set u (i : Int)), true⟩) := by
                        unfold Hid; rw [HS.out]; exact stepU_yes HQ.out HB.out
                      clear hb hany HB HS
                      obtain ⟨g2, c2', hv2, ho2⟩ := HK.out.t.row2 hF (m := N2) (HLY.out.2 F) (by omega)
                      have G1 := Lib.hid (HK.out.toRK.row_ge O1.out); have G2 := Lib.hid (HK.out.toRK.row_ge ho2)
                      have L1 := Lib.hid (HK.out.rl F hF g1 N2 c1' (.inl V1.out)); have L2 := Lib.hid (HK.out.rl F hF g2 N2 c2' (.inr hv2))
                      have V2 := Lib.hid hv2
                      have fr1 := own_frozen O1.out u
                      have fr2 := own_frozen ho2 u
                      have cc2 := own_at ho2 u (by rw [HLY.out.2]; exact hltu)
                      have F1 := Lib.hid fr1; have F2 := Lib.hid fr2; have CC2 := Lib.hid cc2
                      have K1 : Hid (∀ (W : World) (x : Value), (W.cell? ⟨bR, 0, none⟩ = some (.slice (some ⟨T1, 0, none⟩) N1 N1) ∧ W.cell? ⟨T1, F, none⟩ = some (.slice (some ⟨g1, 0, none⟩) N2 c1') ∧ W.cell? ⟨T2, F, none⟩ = some (.slice (some ⟨g2, 0, none⟩) N2 c2') ∧ W.cell? ⟨ed, 0, none⟩ = some (.int .i64 (F : Int)) ∧ W.cell? ⟨kb, 0, none⟩ = some (.int .i64 ((m + 1 : Nat) : Int))) →
                          ∀ g, (g = g1 ∨ g = g2) → (W.setCell ⟨g, u, none⟩ x).cell? ⟨bR, 0, none⟩ = some (.slice (some ⟨T1, 0, none⟩) N1 N1) ∧ (W.setCell ⟨g, u, none⟩ x).cell? ⟨T1, F, none⟩ = some (.slice (some ⟨g1, 0, none⟩) N2 c1') ∧ (W.setCell ⟨g, u, none⟩ x).cell? ⟨T2, F, none⟩ = some (.slice (some ⟨g2, 0, none⟩) N2 c2') ∧ (W.setCell ⟨g, u, none⟩ x).cell? ⟨ed, 0, none⟩ = some (.int .i64 (F : Int)) ∧ (W.setCell ⟨g, u, none⟩ x).cell? ⟨kb, 0, none⟩ = some (.int .i64 ((m + 1 : Nat) : Int))) := by
                        intro W x hS g hg
                        have a1 := G1.out; have a2 := G2.out; have a3 := L1.out; have a4 := L2.out
                        have hh : g ≠ bR ∧ g ≠ T1 ∧ g ≠ T2 ∧ g ≠ ed ∧ g ≠ kb := by rcases hg with rfl | rfl <;> omega
                        exact ⟨(World.cell?_setCell_other _ _ _ _ (by intro e; injection e with e; exact hh.1 e)).trans hS.1, (World.cell?_setCell_other _ _ _ _ (by intro e; injection e with e; exact hh.2.1 e)).trans hS.2.1, (World.cell?_setCell_other _ _ _ _ (by intro e; injection e with e; exact hh.2.2.1 e)).trans hS.2.2.1, (World.cell?_setCell_other _ _ _ _ (by intro e; injection e with e; exact hh.2.2.2.1 e)).trans hS.2.2.2.1, (World.cell?_setCell_other _ _ _ _ (by intro e; injection e with e; exact hh.2.2.2.2 e)).trans hS.2.2.2.2⟩
                      have hne12 := HK.out.t.apart hF hF V1.out hv2
                      have hne21 : g2 ≠ g1 := fun e => hne12 e.symm
                      have NE1 := Lib.hid hne12
                      go_upto_region 27 with (fail)
                      have HS0 : Hid (wq.cell? ⟨bR, 0, none⟩ = some (.slice (some ⟨T1, 0, none⟩) N1 N1) ∧ wq.cell? ⟨T1, F, none⟩ = some (.slice (some ⟨g1, 0, none⟩) N2 c1') ∧ wq.cell? ⟨T2, F, none⟩ = some (.slice (some ⟨g2, 0, none⟩) N2 c2') ∧ wq.cell? ⟨ed, 0, none⟩ = some (.int .i64 (F : Int)) ∧ wq.cell? ⟨kb, 0, none⟩ = some (.int .i64 ((m + 1 : Nat) : Int))) := ⟨HR.out, V1.out, hv2, E0.out, CK.out⟩
                      clear hv2 ho2
                      have hce := HCE.out
                      go_region_held3 (fun w' => w'.cell? ⟨bR, 0, none⟩ = some (.slice (some ⟨T1, 0, none⟩) N1 N1) ∧ w'.cell? ⟨T1, F, none⟩ = some (.slice (some ⟨g1, 0, none⟩) N2 c1') ∧ w'.cell? ⟨T2, F, none⟩ = some (.slice (some ⟨g2, 0, none⟩) N2 c2') ∧ w'.cell? ⟨ed, 0, none⟩ = some (.int .i64 (F : Int)) ∧ w'.cell? ⟨kb, 0, none⟩ = some (.int .i64 ((m + 1 : Nat) : Int)))
                        (first | with_reducible exact HS0.out | exact HS0.out | exact K1.out _ _ HS0.out _ (.inl rfl) | exact K1.out _ _ HS0.out _ (.inr rfl) | exact K1.out _ _ (K1.out _ _ HS0.out _ (.inl rfl)) _ (.inr rfl) | exact K1.out _ _ (K1.out _ _ HS0.out _ (.inr rfl)) _ (.inl rfl))
                        (fail)
                      all_goals
                        go_wp2_with fail
                        refine ⟨⟨u + 1, by omega, by go_num, by rw [HEQ.out], ?_, ?_, ?_, ?_, ?_⟩, by simp [intOf]; omega⟩
                        · exact (K1.out _ _ (K1.out _ _ HS0.out _ (.inl rfl)) _ (.inr rfl)).2.2.2.2
                        · exact (World.frozen?_setCell _ _ _ _).trans ((World.frozen?_setCell _ _ _ _).trans FK'.out)
                        · exact (K1.out _ _ (K1.out _ _ HS0.out _ (.inl rfl)) _ (.inr rfl)).2.2.2.1
                        · have a3 := L1.out; have a4 := L2.out
                          exact (World.cell?_setCell_other _ _ _ _ (by intro e; injection e with e; omega)).trans ((World.cell?_setCell_other _ _ _ _ (by intro e; injection e with e; omega)).trans E1.out)
                        · rw [HEQ.out]
                          have e : ((m + 1 : Nat) : Int) = (m : Int) + 1 := by omega
                          have R1 := HK.out.set1 HX.out hF V1.out ⟨G1.out.1, G1.out.2.1, G1.out.2.2.1, G1.out.2.2.2.1⟩ u ((m : Int) + 1)
                          have R2 := R1.set2 HX.out hF (K1.out _ _ HS0.out _ (.inl rfl)).2.2.1 ⟨G2.out.1, G2.out.2.1, G2.out.2.2.1, G2.out.2.2.2.1⟩ u (i : Int)
                          have R3 := R2.later (Below.refl _ _).drew
                          rw [← e] at R3
                          exact R3
                  · have hq2 : (q == -1) = false := by simpa using hq1
                    have HEQ : Hid (afU (upRow p) F t i ((m + 1 : Nat) : Int) X (u + 1) = Y) := by
                      unfold Hid; rw [HS.out]; exact stepU_no (fun h => hq1 (by rw [← hq]; exact h.1))
                    clear hq hq1
                    go_wp2
                    exact ⟨⟨u + 1, by omega, by go_num, by rw [HEQ.out], CK.out, FK.out, E0.out, E1.out, by rw [HEQ.out]; exact HK.out⟩, by simp [intOf]; omega⟩
                · have huu : u = N2 := by omega
                  subst huu
                  go_wp2
                  exact ⟨⟨i + 1, by omega, by go_num, by rw [HN.out]; rfl, ck, fk, by rw [HN.out]; exact hK⟩, by simp [intOf]; omega⟩
            · have hii : i = p.lo.edges.length := by omega
              subst hii
              have hK' : RK2 w wr px p N1 N2 bR T1 T2 B M (stP p N2 (m + 1)).R (stP p N2 (m + 1)).S := hK
              have hcn : CntOk N1 (cntR N1 (stP p N2 m).R) (stP p N2 (m + 1)) := stR_cnt (N := N1) (n := N2) (ll := p.ll) (ul := p.ul) (up := upRow p) hcl.out m
              have hchd : (afE (upRow p) p.lo.edges N2 ((m + 1 : Nat) : Int) { stP p N2 m with ch := false } p.lo.edges.length).ch = (stP p N2 (m + 1)).ch := rfl
              rw [hchd]
              have hB1 : B ≤ wr.heap.size ∧ M ≤ wr.heap.size := ⟨hK.sz, hK.ms⟩
              have hb1 : Below wr.heap.size wr (wr.alloc (Obj.cells #[.int .i64 ((m + 1 : Nat) : Int)] 3)) := (Below.refl _ _).alloc (Nat.le_refl _) _
              have HK' := Lib.hid hK'; have HCN := Lib.hid hcn
              have CKB := Lib.hid hB1
              clear hK hK' hcn hchd hb1 hB1
              go_wp2_with fail
              have hkc : (wr.alloc (Obj.cells #[.int .i64 ((m + 1 : Nat) : Int)] 3)).cell? ⟨wr.heap.size, 0, none⟩ = some (.int .i64 ((m + 1 : Nat) : Int)) := box_cell _ _ _ 0 _ rfl
              have hkf : (wr.alloc (Obj.cells #[.int .i64 ((m + 1 : Nat) : Int)] 3)).frozen? ⟨wr.heap.size, 0, none⟩ = false := World.frozen?_alloc_at _ _ _ _ rfl
              go_roundg (2 * cntR N1 (stP p N2 (m + 1)).R + (if (stP p N2 (m + 1)).ch = true then 1 else 0))
              case measure =>
                have h1 := hms.out.2.2
                rw [if_pos HCH.out] at h1
                have h2 : cntR N1 (stP p N2 (m + 1)).R ≤ cntR N1 (stP p N2 m).R := HCN.out.1
                by_cases h3 : (stP p N2 (m + 1)).ch = true
                · have h4 : cntR N1 (stP p N2 (m + 1)).R < cntR N1 (stP p N2 m).R := HCN.out.2 h3
                  rw [if_pos h3]; omega
                · rw [if_neg h3]; omega
              case rel =>
                refine ⟨m + 1, _, rfl, rfl, box_cell _ _ _ 0 _ (by rw [show (((m + 1 + 1 : Nat)) : Int) = (m : Int) + 1 + 1 by omega]; rfl), World.frozen?_alloc_at _ _ _ _ rfl, CKB.out, HK'.out.later ((Below.refl _ _).alloc (Nat.le_refl _) _), fun q hq => ?_, ?_, ?_, Nat.le_refl _⟩
                · rcases Nat.lt_succ_iff_lt_or_eq.1 hq with h | h
                  · exact hall.out q h
                  · rw [h]; exact HCH.out
                · intro h3
                  have h1 := hms.out.1 HCH.out
                  have h4 : cntR N1 (stP p N2 (m + 1)).R < cntR N1 (stP p N2 m).R := HCN.out.2 h3
                  omega
                · have h1 := hms.out.1 HCH.out
                  have h2 : cntR N1 (stP p N2 (m + 1)).R ≤ cntR N1 (stP p N2 m).R := HCN.out.1
                  omega
end Go.Proofs.Ytciopdlmjciieaa
