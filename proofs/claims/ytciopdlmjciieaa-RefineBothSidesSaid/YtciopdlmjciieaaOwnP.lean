import Derived.Test.YtciopdlmjciieaaLeadM
namespace Go.Proofs.Ytciopdlmjciieaa
open Go.RowKit Go.Shelf
set_option linter.unusedVariables false
set_option linter.unusedSimpArgs false

/-- The cells of a pair's box. -/
structure BoxHeld (X : World) (bx : Nat) (p : P2) (i1 e1 i2 e2 l1 l2 : Option Addr) (c1 d1 c2 d2 k1 k2 : Nat) : Prop where
  b0 : X.cell? ⟨bx, 0, none⟩ = some (.int .i64 p.lo.n)
  b1 : X.cell? ⟨bx, 1, none⟩ = some (.slice i1 p.lo.init.length c1)
  b2 : X.cell? ⟨bx, 2, none⟩ = some (.slice e1 p.lo.edges.length d1)
  b3 : X.cell? ⟨bx, 3, none⟩ = some (.int .i64 p.up.n)
  b4 : X.cell? ⟨bx, 4, none⟩ = some (.slice i2 p.up.init.length c2)
  b5 : X.cell? ⟨bx, 5, none⟩ = some (.slice e2 p.up.edges.length d2)
  b6 : X.cell? ⟨bx, 6, none⟩ = some (.slice l1 p.ll.length k1)
  b7 : X.cell? ⟨bx, 7, none⟩ = some (.slice l2 p.ul.length k2)
section
variable {X X' : World} {bx B : Nat} {p : P2} {i1 e1 i2 e2 l1 l2 : Option Addr} {c1 d1 c2 d2 k1 k2 : Nat}
theorem BoxHeld.below (h : BoxHeld X bx p i1 e1 i2 e2 l1 l2 c1 d1 c2 d2 k1 k2) (hb : Below X.heap.size X X') : BoxHeld X' bx p i1 e1 i2 e2 l1 l2 c1 d1 c2 d2 k1 k2 :=
  ⟨Below.keeps hb h.b0 (Nat.le_refl _), Below.keeps hb h.b1 (Nat.le_refl _), Below.keeps hb h.b2 (Nat.le_refl _), Below.keeps hb h.b3 (Nat.le_refl _), Below.keeps hb h.b4 (Nat.le_refl _), Below.keeps hb h.b5 (Nat.le_refl _), Below.keeps hb h.b6 (Nat.le_refl _), Below.keeps hb h.b7 (Nat.le_refl _)⟩
theorem BoxHeld.set (h : BoxHeld X bx p i1 e1 i2 e2 l1 l2 c1 d1 c2 d2 k1 k2) {a : Addr} (ha : a.block ≠ bx) (u : Value) : BoxHeld (X.setCell a u) bx p i1 e1 i2 e2 l1 l2 c1 d1 c2 d2 k1 k2 := by
  have ne : ∀ j, (X.setCell a u).cell? ⟨bx, j, none⟩ = X.cell? ⟨bx, j, none⟩ := fun j => World.cell?_setCell_other _ _ _ _ (fun h => ha (by rw [h]))
  exact ⟨(ne _).trans h.b0, (ne _).trans h.b1, (ne _).trans h.b2, (ne _).trans h.b3, (ne _).trans h.b4, (ne _).trans h.b5, (ne _).trans h.b6, (ne _).trans h.b7⟩
end
set_option maxHeartbeats 4000000 in
set_option maxRecDepth 100000 in
theorem own_any (p : P2) (v : Value) (w : World) (hv : PairV w v p) (h1 : p.lo.init.length ≤ 100000) (h2 : p.lo.edges.length ≤ 100000) (h3 : p.up.init.length ≤ 100000) (h4 : p.up.edges.length ≤ 100000) (h5 : p.ll.length ≤ 100000) (h6 : p.ul.length ≤ 100000) :
    Calls Try.prog 9 #[v] w fun e w' => ∃ v', e = .returned v' ∧ PairV w' v' p ∧ Below w.heap.size w w' := by
  obtain ⟨i1, e1, i2, e2, l1, l2, c1, d1, c2, d2, k1, k2, rfl, hR⟩ := hv.open
  have HR := Lib.hid hR
  clear hR hv
  go_enter Try.func9, Try.ntmps9
  go_wp2_with fail
  have hB := (PB.made HR.out 27).later (w' := (w.alloc (Obj.cells (pCells p i1 e1 i2 e2 l1 l2 c1 d1 c2 d2 k1 k2) 27)).alloc (Obj.cells #[.int .i64 0, .slice none 0 0, .slice none 0 0, .int .i64 0, .slice none 0 0, .slice none 0 0, .slice none 0 0, .slice none 0 0] 27)) ((Below.refl _ _).alloc (Nat.le_refl _) _)
  have hr : Hid (∀ i v, #[Value.int .i64 0, .slice none 0 0, .slice none 0 0, .int .i64 0, .slice none 0 0, .slice none 0 0, .slice none 0 0, .slice none 0 0][i]? = some v → ((w.alloc (Obj.cells (pCells p i1 e1 i2 e2 l1 l2 c1 d1 c2 d2 k1 k2) 27)).alloc (Obj.cells #[.int .i64 0, .slice none 0 0, .slice none 0 0, .int .i64 0, .slice none 0 0, .slice none 0 0, .slice none 0 0, .slice none 0 0] 27)).cell? ⟨w.heap.size + 1, i, none⟩ = some v) := fun i v h => by
    have := box_cell (w.alloc (Obj.cells (pCells p i1 e1 i2 e2 l1 l2 c1 d1 c2 d2 k1 k2) 27)) #[.int .i64 0, .slice none 0 0, .slice none 0 0, .int .i64 0, .slice none 0 0, .slice none 0 0, .slice none 0 0, .slice none 0 0] 27 i v h
    simpa using this
  have hrf : Hid (∀ i, ((w.alloc (Obj.cells (pCells p i1 e1 i2 e2 l1 l2 c1 d1 c2 d2 k1 k2) 27)).alloc (Obj.cells #[.int .i64 0, .slice none 0 0, .slice none 0 0, .int .i64 0, .slice none 0 0, .slice none 0 0, .slice none 0 0, .slice none 0 0] 27)).frozen? ⟨w.heap.size + 1, i, none⟩ = false) := fun i => World.frozen?_alloc_at _ _ _ _ (by simp)
  have HB := Lib.hid hB
  clear hB
  generalize (w.alloc (Obj.cells (pCells p i1 e1 i2 e2 l1 l2 c1 d1 c2 d2 k1 k2) 27)).alloc (Obj.cells #[.int .i64 0, .slice none 0 0, .slice none 0 0, .int .i64 0, .slice none 0 0, .slice none 0 0, .slice none 0 0, .slice none 0 0] 27) = W0 at *
  have hbx := HB.out.b0; have hbx1 := HB.out.b1; have hbx2 := HB.out.b2; have hbx3 := HB.out.b3; have hbx4 := HB.out.b4; have hbx5 := HB.out.b5; have hbx6 := HB.out.b6; have hbx7 := HB.out.b7
  have hrs : w.heap.size + 1 < W0.heap.size := cell_lt (hr.out 0 _ rfl)
  have hne : w.heap.size + 1 ≠ w.heap.size := by omega
  have HWL : Hid (w.heap.size ≤ w.heap.size + 1) := Nat.le_succ _
  generalize hrbe : w.heap.size + 1 = rb at *
  obtain ⟨bx, hbxe⟩ : ∃ bx, bx = w.heap.size := ⟨_, rfl⟩
  have HBXE := Lib.hid hbxe
  rw [← hbxe] at hbx hbx1 hbx2 hbx3 hbx4 hbx5 hbx6 hbx7 hne ⊢
  clear hbxe hrbe
  have B0 := Lib.hid hbx; have B1 := Lib.hid hbx1; have B2 := Lib.hid hbx2; have B3 := Lib.hid hbx3; have B4 := Lib.hid hbx4; have B5 := Lib.hid hbx5; have B6 := Lib.hid hbx6; have B7 := Lib.hid hbx7
  clear hbx hbx1 hbx2 hbx3 hbx4 hbx5 hbx6 hbx7
  have NE : Hid (∀ i j, (⟨rb, i, none⟩ : Addr) ≠ ⟨bx, j, none⟩) := fun i j h => by injection h with h; exact hne h
  have HH : Hid (∀ X : World, Below W0.heap.size W0 X → BoxHeld X bx p i1 e1 i2 e2 l1 l2 c1 d1 c2 d2 k1 k2) := fun X hX => (BoxHeld.mk B0.out B1.out B2.out B3.out B4.out B5.out B6.out B7.out).below hX
  have NEB : Hid (∀ i, (⟨rb, i, none⟩ : Addr).block ≠ bx) := fun i => hne
  clear B0 B1 B2 B3 B4 B5 B6 B7 NE hne
  refine wp_region_noPanic ?_
  refine wp_region_held_drew (S := fun w' => BoxHeld w' bx p i1 e1 i2 e2 l1 l2 c1 d1 c2 d2 k1 k2) (by kernel_rfl) (HH.out _ (Below.refl _ _).drew) (fun hHeld => ?_)
  refine wpAnyH_take (i := 0) (oi := _) (v := ?vt0) rfl (by kernel_rfl) (by kernel_rfl) (by kernel_rfl) (fun _ _ _ h => h) (Or.inl ⟨by rfl, ?hyt0⟩) (by assumption) ?restt0
  case hyt0 => (intro w hSw; obtain ⟨b0, b1, b2, b3, b4, b5, b6, b7⟩ := hSw; go_simp <;> with_reducible rfl)
  try simp only [Act.put, List.setIfInBounds_toArray, List.set_cons_zero, List.set_cons_succ]
  refine wpAnyH_take (i := 1) (oi := _) (v := ?vt1) rfl (by kernel_rfl) (by kernel_rfl) (by kernel_rfl) (fun _ _ _ h => h) (Or.inl ⟨by rfl, ?hyt1⟩) (by assumption) ?restt1
  case hyt1 => (intro w hSw; obtain ⟨b0, b1, b2, b3, b4, b5, b6, b7⟩ := hSw; go_simp <;> with_reducible rfl)
  try simp only [Act.put, List.setIfInBounds_toArray, List.set_cons_zero, List.set_cons_succ]
  refine wpAnyH_take (i := 3) (oi := _) (v := ?vt3) rfl (by kernel_rfl) (by kernel_rfl) (by kernel_rfl) (fun _ _ _ h => h) (Or.inl ⟨by rfl, ?hyt3⟩) (by assumption) ?restt3
  case hyt3 => (intro w hSw; obtain ⟨b0, b1, b2, b3, b4, b5, b6, b7⟩ := hSw; go_simp <;> with_reducible rfl)
  try simp only [Act.put, List.setIfInBounds_toArray, List.set_cons_zero, List.set_cons_succ]
  refine wpAnyH_take (i := 4) (oi := _) (v := ?vt4) rfl (by kernel_rfl) (by kernel_rfl) (by kernel_rfl) (fun _ _ _ h => h) (Or.inl ⟨by rfl, ?hyt4⟩) (by assumption) ?restt4
  case hyt4 => (intro w hSw; obtain ⟨b0, b1, b2, b3, b4, b5, b6, b7⟩ := hSw; go_simp <;> with_reducible rfl)
  try simp only [Act.put, List.setIfInBounds_toArray, List.set_cons_zero, List.set_cons_succ]
  refine wpAnyH_take (i := 6) (oi := _) (v := ?vt6) rfl (by kernel_rfl) (by kernel_rfl) (by kernel_rfl) (fun _ _ _ h => h) (Or.inl ⟨by rfl, ?hyt6⟩) (by assumption) ?restt6
  case hyt6 => (intro w hSw; obtain ⟨b0, b1, b2, b3, b4, b5, b6, b7⟩ := hSw; go_simp <;> with_reducible rfl)
  try simp only [Act.put, List.setIfInBounds_toArray, List.set_cons_zero, List.set_cons_succ]
  refine wpAnyH_take (i := 7) (oi := _) (v := ?vt7) rfl (by kernel_rfl) (by kernel_rfl) (by kernel_rfl) (fun _ _ _ h => h) (Or.inl ⟨by rfl, ?hyt7⟩) (by assumption) ?restt7
  case hyt7 => (intro w hSw; obtain ⟨b0, b1, b2, b3, b4, b5, b6, b7⟩ := hSw; go_simp <;> with_reducible rfl)
  try simp only [Act.put, List.setIfInBounds_toArray, List.set_cons_zero, List.set_cons_succ]
  refine wpAnyH_take (i := 9) (oi := _) (v := ?vt9) rfl (by kernel_rfl) (by kernel_rfl) (by kernel_rfl) (fun _ _ _ h => h) (Or.inl ⟨by rfl, ?hyt9⟩) (by assumption) ?restt9
  case hyt9 => (intro w hSw; obtain ⟨b0, b1, b2, b3, b4, b5, b6, b7⟩ := hSw; go_simp <;> with_reducible rfl)
  try simp only [Act.put, List.setIfInBounds_toArray, List.set_cons_zero, List.set_cons_succ]
  refine wpAnyH_take (i := 10) (oi := _) (v := ?vt10) rfl (by kernel_rfl) (by kernel_rfl) (by kernel_rfl) (fun _ _ _ h => h) (Or.inl ⟨by rfl, ?hyt10⟩) (by assumption) ?restt10
  case hyt10 => (intro w hSw; obtain ⟨b0, b1, b2, b3, b4, b5, b6, b7⟩ := hSw; go_simp <;> with_reducible rfl)
  try simp only [Act.put, List.setIfInBounds_toArray, List.set_cons_zero, List.set_cons_succ]
  clear hHeld
  refine wpAnyH_ready (rs := [2]) (by kernel_rfl) (by simp) ?_
  refine AllReadyH.cons (o := _) rfl (fun K hK => ?_) AllReadyH.nil
  go_simp
  refine (ownGraph_own p.lo _ _ ((HB.out.r.later (Below.refl _ _).drew).lo) h1 h2).mono ?_
  rintro e wA ⟨vi, ve, rfl, hiA, heA, hbA⟩
  obtain ⟨aA1, cA1, rfl⟩ := own_form hiA
  obtain ⟨aA2, cA2, rfl⟩ := row_form heA
  have HbA : Hid (Below W0.heap.size W0 wA) := (Below.refl _ _).drew.trans hbA
  have HIA : Hid (ownInts wA W0.heap.size (.slice aA1 p.lo.init.length cA1) p.lo.init) := hiA
  have HEA : Hid (ownEdges wA W0.heap.size (.slice aA2 p.lo.edges.length cA2) p.lo.edges) := heA
  clear hbA hiA heA
  dsimp only
  refine hK.out _ _ (HH.out _ HbA.out) (fun hHeld => ?_)
  clear hK K hHeld
  try simp only [Act.put, List.setIfInBounds_toArray, List.set_cons_zero, List.set_cons_succ]
  refine wpAnyH_ready (rs := [5]) (by kernel_rfl) (by simp) ?_
  refine AllReadyH.cons (o := _) rfl (fun K hK => ?_) AllReadyH.nil
  go_simp
  refine (ownGraph_own p.up _ _ ((HB.out.r.later HbA.out).up) h3 h4).mono ?_
  rintro e wB ⟨vi, ve, rfl, hiB, heB, hbB⟩
  obtain ⟨aB1, cB1, rfl⟩ := own_form hiB
  obtain ⟨aB2, cB2, rfl⟩ := row_form heB
  have HbB : Hid (Below W0.heap.size W0 wB) := HbA.out.trans (hbB.mono HbA.out.size)
  have HIB : Hid (ownInts wB W0.heap.size (.slice aB1 p.up.init.length cB1) p.up.init) := row_mono hiB HbA.out.size
  have HEB : Hid (ownEdges wB W0.heap.size (.slice aB2 p.up.edges.length cB2) p.up.edges) := row_mono heB HbA.out.size
  have HIA2 : Hid (ownInts wB W0.heap.size (.slice aA1 p.lo.init.length cA1) p.lo.init) := ownsRow_later HIA.out hbB
  have HEA2 : Hid (ownEdges wB W0.heap.size (.slice aA2 p.lo.edges.length cA2) p.lo.edges) := ownsRow_later HEA.out hbB
  clear hbB hiB heB
  dsimp only
  refine hK.out _ _ (HH.out _ HbB.out) (fun hHeld => ?_)
  clear hK K hHeld
  try simp only [Act.put, List.setIfInBounds_toArray, List.set_cons_zero, List.set_cons_succ]
  refine wpAnyH_ready (rs := [8]) (by kernel_rfl) (by simp) ?_
  refine AllReadyH.cons (o := _) rfl (fun K hK => ?_) AllReadyH.nil
  go_simp
  refine (ownInts_any p.ll _ _ ((HB.out.r.later HbB.out).r5) h5).mono ?_
  rintro e wC ⟨vC, rfl, hoC, hbC⟩
  obtain ⟨aC, cC, rfl⟩ := own_form hoC
  have HbC : Hid (Below W0.heap.size W0 wC) := HbB.out.trans (hbC.mono HbB.out.size)
  have HC : Hid (ownInts wC W0.heap.size (.slice aC p.ll.length cC) p.ll) := row_mono hoC HbB.out.size
  have HIB2 := Lib.hid (ownsRow_later HIB.out hbC)
  have HEB2 := Lib.hid (ownsRow_later HEB.out hbC)
  have HIA3 := Lib.hid (ownsRow_later HIA2.out hbC)
  have HEA3 := Lib.hid (ownsRow_later HEA2.out hbC)
  clear hbC hoC
  dsimp only
  refine hK.out _ _ (HH.out _ HbC.out) (fun hHeld => ?_)
  clear hK K hHeld
  try simp only [Act.put, List.setIfInBounds_toArray, List.set_cons_zero, List.set_cons_succ]
  refine wpAnyH_ready (rs := [11]) (by kernel_rfl) (by simp) ?_
  refine AllReadyH.cons (o := _) rfl (fun K hK => ?_) AllReadyH.nil
  go_simp
  refine (ownInts_any p.ul _ _ ((HB.out.r.later HbC.out).r6) h6).mono ?_
  rintro e wD ⟨vD, rfl, hoD, hbD⟩
  obtain ⟨aD, cD, rfl⟩ := own_form hoD
  have HbD : Hid (Below W0.heap.size W0 wD) := HbC.out.trans (hbD.mono HbC.out.size)
  have HD : Hid (ownInts wD W0.heap.size (.slice aD p.ul.length cD) p.ul) := row_mono hoD HbC.out.size
  have HC2 := Lib.hid (ownsRow_later HC.out hbD)
  have HIB3 := Lib.hid (ownsRow_later HIB2.out hbD)
  have HEB3 := Lib.hid (ownsRow_later HEB2.out hbD)
  have HIA4 := Lib.hid (ownsRow_later HIA3.out hbD)
  have HEA4 := Lib.hid (ownsRow_later HEA3.out hbD)
  clear hbD hoD HbA HbB HbC HIA HEA HIA2 HEA2 HIA3 HEA3 HIB HEB HIB2 HEB2 HC
  dsimp only
  refine hK.out _ _ (HH.out _ HbD.out) (fun hHeld => ?_)
  clear hK K hHeld
  try simp only [Act.put, List.setIfInBounds_toArray, List.set_cons_zero, List.set_cons_succ]
  refine wpAnyH_take (i := 12) (oi := _) (v := ?vt12) rfl (by kernel_rfl) (by kernel_rfl) (by kernel_rfl) (fun _ _ _ h => h) (Or.inl ⟨by rfl, ?hyt12⟩) (HH.out _ HbD.out) ?restt12
  case hyt12 => (intro w hSw; clear hSw; go_simp <;> with_reducible rfl)
  try simp only [Act.put, List.setIfInBounds_toArray, List.set_cons_zero, List.set_cons_succ]
  have rd : ∀ i v, #[Value.int .i64 0, .slice none 0 0, .slice none 0 0, .int .i64 0, .slice none 0 0, .slice none 0 0, .slice none 0 0, .slice none 0 0][i]? = some v → wD.cell? ⟨rb, i, none⟩ = some v := fun i v h => Below.keeps HbD.out (hr.out i v h) (Nat.le_refl _)
  have r0 := rd 0 _ rfl; have r1 := rd 1 _ rfl; have r2 := rd 2 _ rfl; have r3 := rd 3 _ rfl; have r4 := rd 4 _ rfl; have r5 := rd 5 _ rfl; have r6 := rd 6 _ rfl; have r7 := rd 7 _ rfl
  have f0 := Below.keepsF HbD.out (hrf.out 0) hrs; have f1 := Below.keepsF HbD.out (hrf.out 1) hrs; have f2 := Below.keepsF HbD.out (hrf.out 2) hrs; have f3 := Below.keepsF HbD.out (hrf.out 3) hrs; have f4 := Below.keepsF HbD.out (hrf.out 4) hrs; have f5 := Below.keepsF HbD.out (hrf.out 5) hrs; have f6 := Below.keepsF HbD.out (hrf.out 6) hrs; have f7 := Below.keepsF HbD.out (hrf.out 7) hrs
  clear rd
  refine wpAnyH_ready (rs := [13]) (by kernel_rfl) (by simp) ?_
  refine AllReadyH.cons (o := _) rfl (fun K hK => ?_) AllReadyH.nil
  go_simp
  refine hK.out _ _ ?hs (fun hHeld => ?_)
  case hs =>
    repeat refine BoxHeld.set ?_ (NEB.out _) _
    exact HH.out _ HbD.out
  clear hK K hHeld
  try simp only [Act.put, List.setIfInBounds_toArray, List.set_cons_zero, List.set_cons_succ]
  refine wpAnyH_done (by kernel_rfl) ?_ _
  refine NoPanic.normal ?_
  have HBW : Hid (Below w.heap.size w W0) := HB.out.bw
  clear HH NEB
  go_wp2
  refine bodyPost_ret (v := .agg #[.int .i64 p.lo.n, .slice aA1 p.lo.init.length cA1, .slice aA2 p.lo.edges.length cA2, .int .i64 p.up.n, .slice aB1 p.up.init.length cB1, .slice aB2 p.up.edges.length cB2, .slice aC p.ll.length cC, .slice aD p.ul.length cD]) (by simp [results, Try.results9, go_sem, r0, r1, r2, r3, r4, r5, r6, r7]) rfl ⟨_, rfl, ⟨_, _, _, _, _, _, rfl, IntsAt.of_own (B := W0.heap.size) ?_, EdgesAt.of_own (B := W0.heap.size) ?_, IntsAt.of_own (B := W0.heap.size) ?_, EdgesAt.of_own (B := W0.heap.size) ?_, IntsAt.of_own (B := W0.heap.size) ?_, IntsAt.of_own (B := W0.heap.size) ?_⟩, ?_⟩
  · repeat (first | with_reducible exact HIA4.out | (with_reducible refine ownsRow_setCell_below ?_ ?_ _; rotate_left; (focus (show _ < W0.heap.size; exact hrs))))
  · repeat (first | with_reducible exact HEA4.out | (with_reducible refine ownsRow_setCell_below ?_ ?_ _; rotate_left; (focus (show _ < W0.heap.size; exact hrs))))
  · repeat (first | with_reducible exact HIB3.out | (with_reducible refine ownsRow_setCell_below ?_ ?_ _; rotate_left; (focus (show _ < W0.heap.size; exact hrs))))
  · repeat (first | with_reducible exact HEB3.out | (with_reducible refine ownsRow_setCell_below ?_ ?_ _; rotate_left; (focus (show _ < W0.heap.size; exact hrs))))
  · repeat (first | with_reducible exact HC2.out | (with_reducible refine ownsRow_setCell_below ?_ ?_ _; rotate_left; (focus (show _ < W0.heap.size; exact hrs))))
  · repeat (first | with_reducible exact HD.out | (with_reducible refine ownsRow_setCell_below ?_ ?_ _; rotate_left; (focus (show _ < W0.heap.size; exact hrs))))
  · repeat (first | with_reducible exact HBW.out.trans (HbD.out.mono HBW.out.size) | (with_reducible refine Below.setCell ?_ ?_ _; rotate_left; (focus (exact HWL.out))))
end Go.Proofs.Ytciopdlmjciieaa
