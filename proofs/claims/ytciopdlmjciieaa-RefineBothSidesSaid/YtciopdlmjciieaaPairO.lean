import Derived.Test.YtciopdlmjciieaaKeep
import Derived.BigRegion
namespace Go.Proofs.Ytciopdlmjciieaa
open Go.RowKit
set_option linter.unusedVariables false
set_option linter.unusedSimpArgs false

theorem ge_take {l : List E} {k : Nat} (h : k < l.length) : l.take (k + 1) = l.take k ++ [ge l k] := by
  rw [List.take_succ_eq_append_getElem h]; simp [ge, List.getElem?_eq_getElem h]
/-- What pairOf has made before it goes through the steps. -/
structure PO0 (w w0 : World) (p : P2) (px : Nat) (i1 e1 i2 e2 l1 l2 : Option Addr) (c1 d1 c2 d2 k1 k2 TL TU N1 N2 : Nat) : Prop where
  b2 : w0.cell? ⟨w.heap.size, 2, none⟩ = some (.slice e1 p.lo.edges.length d1)
  b5 : w0.cell? ⟨w.heap.size, 5, none⟩ = some (.slice e2 p.up.edges.length d2)
  pp : PX w0 px p i1 e1 i2 e2 l1 l2 c1 d1 c2 d2 k1 k2 TL TU N1 N2
  tl : w0.rowIs TL 22 N1 (fun _ => .slice none 0 0)
  tu : w0.rowIs TU 22 N2 (fun _ => .slice none 0 0)
  ne : TL ≠ TU ∧ px ≠ TL ∧ px ≠ TU ∧ w.heap.size < TL ∧ w.heap.size < TU ∧ w.heap.size < px
  bw : Below w.heap.size w w0
theorem four (w : World) (bs cs : Array Value) (tb tc : TypeId) (A B : Nat) (W : World) (hW : W = ((((w.alloc (Obj.cells bs tb)).alloc (Obj.cells (madeCells #[Value.slice none 0 0] A) 22)).alloc (Obj.cells (madeCells #[Value.slice none 0 0] B) 22)).alloc (Obj.cells cs tc)).drew) :
    (∀ i v, bs[i]? = some v → W.cell? ⟨w.heap.size, i, none⟩ = some v) ∧ W.rowIs (w.heap.size + 1) 22 A (fun _ => .slice none 0 0) ∧ W.rowIs (w.heap.size + 1 + 1) 22 B (fun _ => .slice none 0 0) ∧
      (∀ i v, cs[i]? = some v → W.cell? ⟨w.heap.size + 1 + 1 + 1, i, none⟩ = some v) ∧ Below w.heap.size w W := by
  subst hW
  refine ⟨fun i v hv => ?_, ?_, ?_, fun i v hv => ?_, ?_⟩
  · show ((((w.alloc (Obj.cells bs tb)).alloc _).alloc _).alloc _).cell? _ = _
    rw [World.cell?_alloc_past _ _ _ (by simp; omega), World.cell?_alloc_past _ _ _ (by simp; omega), World.cell?_alloc_past _ _ _ (by simp), World.cell?_alloc_at _ _ _ _ rfl]
    exact hv
  · have h := World.rowIs_made (w.alloc (Obj.cells bs tb)) (.slice none 0 0) A 22
    rw [show (w.alloc (Obj.cells bs tb)).heap.size = w.heap.size + 1 by simp] at h
    exact ((h.alloc _).alloc _).drew
  · have h := World.rowIs_made ((w.alloc (Obj.cells bs tb)).alloc (Obj.cells (madeCells #[Value.slice none 0 0] A) 22)) (.slice none 0 0) B 22
    rw [show ((w.alloc (Obj.cells bs tb)).alloc (Obj.cells (madeCells #[Value.slice none 0 0] A) 22)).heap.size = w.heap.size + 1 + 1 by simp] at h
    exact (h.alloc _).drew
  · show ((((w.alloc (Obj.cells bs tb)).alloc _).alloc _).alloc _).cell? _ = _
    rw [World.cell?_alloc_at _ _ _ _ (by simp)]
    exact hv
  · exact (((((Below.refl _ _).alloc (Nat.le_refl _) _).alloc (by simp) _).alloc (by simp; omega) _).alloc (by simp; omega) _).drew

set_option maxHeartbeats 8000000 in
set_option maxRecDepth 100000 in
theorem pairOf_any (p : P2) (v : Value) (w : World) (hv : PairV w v p) (hok : PairOk p) (N1 N2 : Nat) (hN1 : p.lo.n = N1) (hN2 : p.up.n = N2) :
    Calls Try.prog 29 #[v] w fun e w' => ∃ px, e = .returned (.pointer (some ⟨px, 0, none⟩)) ∧ PairX w' px p N1 N2 ∧ Below w.heap.size w w' := by
  obtain ⟨_, _, _, _, _, _, rfl, ⟨i1, c1, rfl, hm1, h1⟩, ⟨e1, d1, rfl, hm2, h2⟩, ⟨i2, c2, rfl, hm3, h3⟩, ⟨e2, d2, rfl, hm4, h4⟩, ⟨l1, k1, rfl, hm5, h5⟩, ⟨l2, k2, rfl, hm6, h6⟩⟩ := hv
  obtain ⟨i0, hi, hz0, hz1, hz2⟩ := info_parts infoInt
  obtain ⟨ir, hir, hr0, hr1, hr2⟩ := info_parts infoRow
  have hL1 : N1 ≤ 40 := by have := hok.l40; omega
  have hL2 : N2 ≤ 40 := by have := hok.u40; omega
  have hEL : p.lo.edges.length ≤ 2000 := hok.lo.2.1
  have hEU : p.up.edges.length ≤ 2000 := hok.up.2.1
  have HN1 := Lib.hid hN1; have HN2 := Lib.hid hN2
  rw [hN1, hN2]
  have H1 := Lib.hid h1; have H2 := Lib.hid h2; have H3 := Lib.hid h3; have H4 := Lib.hid h4; have H5 := Lib.hid h5; have H6 := Lib.hid h6; have HOK := Lib.hid hok
  clear h1 h2 h3 h4 h5 h6 hok hN1 hN2 hm1 hm2 hm3 hm4 hm5 hm6
  have hmk := fun W => run_make_row' (P := Try.prog) 31 22 (.slice none 0 0) 24 Try.underlying31 infoRow rfl .i64 .i64 N1 (by omega) (by omega) W
  have hmk2 := fun W => run_make_row' (P := Try.prog) 31 22 (.slice none 0 0) 24 Try.underlying31 infoRow rfl .i64 .i64 N2 (by omega) (by omega) W
  go_enter Try.func29, Try.ntmps29
  go_wp2_with fail
  go_cut [3] (fun s3 wx => ∃ px TL TU, s3 = .pointer (some ⟨px, 0, none⟩) ∧ PO0 w wx p px i1 e1 i2 e2 l1 l2 c1 d1 c2 d2 k1 k2 TL TU N1 N2)
  case first =>
    go_region
    all_goals go_wp2_with fail
    all_goals go_meet
    · obtain ⟨f1, f2, f3, f4, f5⟩ := four w _ _ _ _ _ _ _ rfl
      exact ⟨_, _, _, rfl, f1 2 _ rfl, f1 5 _ rfl, ⟨by rw [HN1.out]; exact f4 0 _ rfl, f4 1 _ rfl, f4 2 _ rfl, by rw [HN2.out]; exact f4 3 _ rfl, f4 4 _ rfl, f4 5 _ rfl, f4 6 _ rfl, f4 7 _ rfl, f4 8 _ rfl, f4 9 _ rfl⟩, f2, f3, by omega, f5⟩
    · obtain ⟨f1, f2, f3, f4, f5⟩ := four w _ _ _ _ _ _ _ rfl
      exact ⟨_, _, _, rfl, f1 2 _ rfl, f1 5 _ rfl, ⟨by rw [HN1.out]; exact f4 0 _ rfl, f4 1 _ rfl, f4 2 _ rfl, by rw [HN2.out]; exact f4 3 _ rfl, f4 4 _ rfl, f4 5 _ rfl, f4 6 _ rfl, f4 7 _ rfl, f4 8 _ rfl, f4 9 _ rfl⟩, f3, f2, by omega, f5⟩
  case rest => 
    obtain ⟨px, TL, TU, rfl, hP⟩ := hcut
    obtain ⟨w1, hw1⟩ : ∃ x, x = wc := ⟨_, rfl⟩
    subst hw1
    have b2 := hP.b2
    go_wp2_with fail
    have hTLw : w.heap.size < TL := hP.ne.2.2.2.1
    have hTLs : TL < w1.heap.size := hP.tl.lt
    have hwc : w.heap.size < w1.heap.size := by omega
    have HP := Lib.hid hP
    have HBW : Hid (∀ wr, Keep w1 wr TL → Below w.heap.size w wr) := fun wr h => hP.bw.trans (h.below (by omega) (by omega))
    have HNE : Hid (px ≠ TL ∧ px ≠ TU) := ⟨hP.ne.2.1, hP.ne.2.2.1⟩
    have HPX : Hid (PX w1 px p i1 e1 i2 e2 l1 l2 c1 d1 c2 d2 k1 k2 TL TU N1 N2) := hP.pp
    have HT0 : Hid (Tab w1 w1.heap.size TL N1 (fun s => nb (p.lo.edges.take 0) s)) := (Tab.nil hP.tl).congr fun j hj => by simp [nb]
    clear hP b2 hmk hmk2
    go_loopw [24] (fun i wr => ∃ k : Nat, k ≤ p.lo.edges.length ∧ i = .int .i64 k ∧ Keep w1 wr TL ∧ Tab wr w1.heap.size TL N1 (fun s => nb (p.lo.edges.take k) s)) (fun i _ => p.lo.edges.length - (intOf i).toNat)
    case atStart => exact ⟨0, Nat.zero_le _, rfl, Keep.refl _ _, HT0.out⟩
    case round =>
      obtain ⟨k, hk, rfl, hK, hT⟩ := hrel
      by_cases hlt : k < p.lo.edges.length
      · have hbw := HBW.out wr hK
        obtain ⟨b, o, e1, g1, g2, g3⟩ := H2.out k hlt
        subst e1
        replace g1 := Below.keeps hbw g1 (Nat.le_refl _)
        replace g2 := Below.keeps hbw g2 (Nat.le_refl _)
        replace g3 := Below.keeps hbw g3 (Nat.le_refl _)
        obtain ⟨x, hx⟩ : ∃ x, x = ge p.lo.edges k := ⟨_, rfl⟩
        have hE : edgeOk p.lo k := HOK.out.lo.2.2.2 k hlt
        unfold edgeOk at hE
        rw [← hx] at g1 g2 g3 hE
        obtain ⟨f, t, ac⟩ := x
        obtain ⟨F, hF⟩ : ∃ F : Nat, f = (F : Int) := ⟨f.toNat, by have : 0 ≤ f := hE.1.1; omega⟩
        subst hF
        have hFN : F < N1 := by have h1 : (F : Int) < p.lo.n := hE.2.1.1; have := HN1.out; omega
        have HX := Lib.hid hx
        clear hE hx
        have q8 := hK.px HPX.out HNE.out.1 |>.q8
        obtain ⟨av, cv, hv, ho⟩ := hT.get hFN
        go_wp2_with fail
        have hb1 : Below wr.heap.size wr (wr.alloc (Obj.cells #[Value.int IntKind.i64 ↑F, Value.int IntKind.i64 t, Value.int IntKind.i64 ac] 81)) := (Below.refl _ _).alloc (Nat.le_refl _) _
        have s0 : (wr.alloc (Obj.cells #[Value.int IntKind.i64 ↑F, Value.int IntKind.i64 t, Value.int IntKind.i64 ac] 81)).cell? ⟨wr.heap.size, 0, none⟩ = some (.int .i64 ↑F) := World.cell?_alloc_at _ _ _ _ rfl
        have s1 : (wr.alloc (Obj.cells #[Value.int IntKind.i64 ↑F, Value.int IntKind.i64 t, Value.int IntKind.i64 ac] 81)).cell? ⟨wr.heap.size, 1, none⟩ = some (.int .i64 t) := World.cell?_alloc_at _ _ _ _ rfl
        have hne2 : ∀ q, q < w1.heap.size ∨ wr.heap.size ≤ q → Hid ((Value.slice av (nb (p.lo.edges.take k) F).length cv).ownBlock ≠ some q) := fun q hq e => by have := ho.lt q e; omega
        have hK0 := Lib.hid hK
        replace hK := hK.later hb1 hK.size
        replace hT := hT.later hb1
        replace hv := Below.keeps hb1 hv (Nat.le_refl _)
        replace q8 := Below.keeps hb1 q8 (Nat.le_refl _)
        replace ho := ownsRow_later ho hb1
        have HSZ : Hid (w1.heap.size ≤ wr.heap.size) := hK0.out.size
        clear g1 g2 g3 hb1 hbw
        have hn1 := hne2 px (.inl (HPX.out.lt))
        have hn2 := hne2 wr.heap.size (.inr (Nat.le_refl _))
        clear hne2
        generalize wr.alloc (Obj.cells #[Value.int IntKind.i64 ↑F, Value.int IntKind.i64 t, Value.int IntKind.i64 ac] 81) = wb at *
        have hed : w1.heap.size ≤ wr.heap.size := HSZ.out
        clear hK0 HSZ
        generalize wr.heap.size = ed at *
        have z1 : px < wb.heap.size := cell_lt q8
        have z2 : ed < wb.heap.size := cell_lt s0
        have z3 : TL < wb.heap.size := cell_lt hv
        have fz := hT.frozen F
        have hlen : (nb (p.lo.edges.take k) F).length ≤ 2000 := by have := nb_len (p.lo.edges.take k) F; have := HOK.out.lo.2.1; simp at *; omega
        have HK := Lib.hid hK; have HT := Lib.hid hT; have HO := Lib.hid ho; have HL := Lib.hid hlen
        clear hK hT ho hlen
        have nT1 : ∀ i, (⟨px, i, none⟩ : Addr) ≠ ⟨TL, F, none⟩ := fun i h => by injection h with h1; exact HNE.out.1 h1
        have nT2 : ∀ i, (⟨ed, i, none⟩ : Addr) ≠ ⟨TL, F, none⟩ := fun i h => by injection h with h1; omega
        have NT1 := Lib.hid nT1; have NT2 := Lib.hid nT2; clear nT1 nT2
        refine wp_region_held_drew (S := (fun w' => w'.cell? ⟨px, 8, none⟩ = some (.slice (some ⟨TL, 0, none⟩) N1 N1) ∧ w'.cell? ⟨ed, 0, none⟩ = some (.int .i64 ↑F) ∧ w'.cell? ⟨ed, 1, none⟩ = some (.int .i64 t))) (by kernel_rfl) ?as0 (fun hHeld => ?_)
        case as0 => exact (fun hB : Below wb.heap.size wb _ => ⟨Below.keeps hB q8 (Nat.le_refl _), Below.keeps hB s0 (Nat.le_refl _), Below.keeps hB s1 (Nat.le_refl _)⟩) (Below.refl _ _).drew
        refine wpAnyH_take (i := 0) (oi := _) (v := ?va0) rfl (by kernel_rfl) (by kernel_rfl) (by kernel_rfl) (fun _ _ _ h => h) (Or.inl ⟨by rfl, ?hya0⟩) (by assumption) ?resta0
        case hya0 => (intro w hSw; (try dsimp only at hSw); go_simp <;> with_reducible rfl)
        try simp only [Act.put, List.setIfInBounds_toArray, List.set_cons_zero, List.set_cons_succ]
        refine wpAnyH_take (i := 1) (oi := _) (v := ?va1) rfl (by kernel_rfl) (by kernel_rfl) (by kernel_rfl) (fun _ _ _ h => h) (Or.inl ⟨by rfl, ?hya1⟩) (by assumption) ?resta1
        case hya1 => (intro w hSw; (try dsimp only at hSw); go_simp <;> with_reducible rfl)
        try simp only [Act.put, List.setIfInBounds_toArray, List.set_cons_zero, List.set_cons_succ]
        refine wpAnyH_take (i := 2) (oi := _) (v := ?va2) rfl (by kernel_rfl) (by kernel_rfl) (by kernel_rfl) (fun _ _ _ h => h) (Or.inl ⟨by rfl, ?hya2⟩) (by assumption) ?resta2
        case hya2 => (intro w hSw; (try dsimp only at hSw); go_simp <;> with_reducible rfl)
        try simp only [Act.put, List.setIfInBounds_toArray, List.set_cons_zero, List.set_cons_succ]
        refine wpAnyH_take (i := 3) (oi := _) (v := ?va3) rfl (by kernel_rfl) (by kernel_rfl) (by kernel_rfl) (fun _ _ _ h => h) (Or.inl ⟨by rfl, ?hya3⟩) (by assumption) ?resta3
        case hya3 => (intro w hSw; (try dsimp only at hSw); go_simp <;> with_reducible rfl)
        try simp only [Act.put, List.setIfInBounds_toArray, List.set_cons_zero, List.set_cons_succ]
        refine wpAnyH_take (i := 4) (oi := _) (v := ?va4) rfl (by kernel_rfl) (by kernel_rfl) (by kernel_rfl) (fun _ _ _ h => h) (Or.inl ⟨by rfl, ?hya4⟩) (by assumption) ?resta4
        case hya4 => (intro w hSw; (try dsimp only at hSw); go_simp <;> with_reducible rfl)
        try simp only [Act.put, List.setIfInBounds_toArray, List.set_cons_zero, List.set_cons_succ]
        refine wpAnyH_take (i := 5) (oi := _) (v := ?va5) rfl (by kernel_rfl) (by kernel_rfl) (by kernel_rfl) (fun _ _ _ h => h) (Or.inl ⟨by rfl, ?hya5⟩) (by assumption) ?resta5
        case hya5 => (intro w hSw; (try dsimp only at hSw); go_simp <;> with_reducible rfl)
        try simp only [Act.put, List.setIfInBounds_toArray, List.set_cons_zero, List.set_cons_succ]
        refine wpAnyH_take (i := 6) (oi := _) (v := ?va6) rfl (by kernel_rfl) (by kernel_rfl) (by kernel_rfl) (fun _ _ _ h => h) (Or.inl ⟨by rfl, ?hya6⟩) (by assumption) ?resta6
        case hya6 => (intro w hSw; (try dsimp only at hSw); go_simp <;> with_reducible rfl)
        try simp only [Act.put, List.setIfInBounds_toArray, List.set_cons_zero, List.set_cons_succ]
        refine wpAnyH_take (i := 7) (oi := _) (v := ?va7) rfl (by kernel_rfl) (by kernel_rfl) (by kernel_rfl) (fun _ _ _ h => h) (Or.inl ⟨by rfl, ?hya7⟩) (by assumption) ?resta7
        case hya7 => (intro w hSw; (try dsimp only at hSw); go_simp <;> with_reducible rfl)
        try simp only [Act.put, List.setIfInBounds_toArray, List.set_cons_zero, List.set_cons_succ]
        refine wpAnyH_take (i := 8) (oi := _) (v := ?va8) rfl (by kernel_rfl) (by kernel_rfl) (by kernel_rfl) (fun _ _ _ h => h) (Or.inl ⟨by rfl, ?hya8⟩) (by assumption) ?resta8
        case hya8 => (intro w hSw; (try dsimp only at hSw); go_simp <;> with_reducible rfl)
        try simp only [Act.put, List.setIfInBounds_toArray, List.set_cons_zero, List.set_cons_succ]
        refine wpAnyH_take (i := 9) (oi := _) (v := ?va9) rfl (by kernel_rfl) (by kernel_rfl) (by kernel_rfl) (fun _ _ _ h => h) (Or.inl ⟨by rfl, ?hya9⟩) (by assumption) ?resta9
        case hya9 => (intro w hSw; (try dsimp only at hSw); go_simp <;> with_reducible rfl)
        try simp only [Act.put, List.setIfInBounds_toArray, List.set_cons_zero, List.set_cons_succ]
        refine wpAnyH_take (i := 10) (oi := _) (v := ?va10) rfl (by kernel_rfl) (by kernel_rfl) (by kernel_rfl) (fun _ _ _ h => h) (Or.inl ⟨by rfl, ?hya10⟩) (by assumption) ?resta10
        case hya10 => (intro w hSw; (try dsimp only at hSw); go_simp <;> with_reducible rfl)
        try simp only [Act.put, List.setIfInBounds_toArray, List.set_cons_zero, List.set_cons_succ]
        refine wpAnyH_take (i := 11) (oi := _) (v := ?va11) rfl (by kernel_rfl) (by kernel_rfl) (by kernel_rfl) (fun _ _ _ h => h) (Or.inl ⟨by rfl, ?hya11⟩) (by assumption) ?resta11
        case hya11 => (intro w hSw; (try dsimp only at hSw); go_simp <;> with_reducible rfl)
        try simp only [Act.put, List.setIfInBounds_toArray, List.set_cons_zero, List.set_cons_succ]
        refine wpAnyH_take (i := 12) (oi := _) (v := ?va12) rfl (by kernel_rfl) (by kernel_rfl) (by kernel_rfl) (fun _ _ _ h => h) (Or.inl ⟨by rfl, ?hya12⟩) (by assumption) ?resta12
        case hya12 => (intro w hSw; (try dsimp only at hSw); go_simp <;> with_reducible rfl)
        try simp only [Act.put, List.setIfInBounds_toArray, List.set_cons_zero, List.set_cons_succ]
        refine wpAnyH_take (i := 14) (oi := _) (v := ?va14) rfl (by kernel_rfl) (by kernel_rfl) (by kernel_rfl) (fun _ _ _ h => h) (Or.inl ⟨by rfl, ?hya14⟩) (by assumption) ?resta14
        case hya14 => (intro w hSw; (try dsimp only at hSw); go_simp <;> with_reducible rfl)
        try simp only [Act.put, List.setIfInBounds_toArray, List.set_cons_zero, List.set_cons_succ]
        refine wpAnyH_take (i := 15) (oi := _) (v := ?va15) rfl (by kernel_rfl) (by kernel_rfl) (by kernel_rfl) (fun _ _ _ h => h) (Or.inl ⟨by rfl, ?hya15⟩) (by assumption) ?resta15
        case hya15 => (intro w hSw; (try dsimp only at hSw); go_simp <;> with_reducible rfl)
        try simp only [Act.put, List.setIfInBounds_toArray, List.set_cons_zero, List.set_cons_succ]
        refine wpAnyH_ready (rs := [13, 16]) (by kernel_rfl) (by simp) ?_
        refine AllReadyH.cons (o := _) rfl (fun K hK => ?_) (AllReadyH.cons (o := _) rfl (fun K hK => ?_) AllReadyH.nil)
        · go_simp
          refine hK.out _ _ (by assumption) (fun hHeld2 => ?_)
          clear hK K
          try simp only [Act.put, List.setIfInBounds_toArray, List.set_cons_zero, List.set_cons_succ]
          refine wpAnyH_ready (rs := [16]) (by kernel_rfl) (by simp) ?_
          refine AllReadyH.cons (o := _) rfl (fun K hK => ?_) AllReadyH.nil
          go_simp
          refine hK.out _ _ ((fun hB : Below wb.heap.size wb _ => ⟨Below.keeps hB q8 (Nat.le_refl _), Below.keeps hB s0 (Nat.le_refl _), Below.keeps hB s1 (Nat.le_refl _)⟩) (((Below.refl _ _).drew).alloc (by simp) _)) (fun hHeld2 => ?_)
          clear hK K
          try simp only [Act.put, List.setIfInBounds_toArray, List.set_cons_zero, List.set_cons_succ]
          refine wpAnyH_ready (rs := [17]) (by kernel_rfl) (by simp) ?_
          refine AllReadyH.cons (o := _) rfl (fun K hK => ?_) AllReadyH.nil
          (refine step_own_at rfl (.tmp 41) (.tmp 44) 22 rfl w1.heap.size 3 i0 _ 1 8 Try.underlying22 hi hz0 hz1 hz2 rfl (by decide) _ _ _ rfl (ownsRow_later HO.out ?_) _ _ _ [.int .i64 t] rfl rfl (cell_one_new _ _ _) ?_ ?_ ?_ ?_ ?_; (focus ((repeat (first | with_reducible exact Below.refl _ _ | with_reducible refine Below.drew ?_ | (with_reducible refine Below.alloc ?_ ?_ _))); all_goals (first | exact Nat.le_refl _ | (simp; done)))); (focus (intro u hu; simp at hu; subst hu; rfl)); (focus (have := HL.out; unfold maxLen; omega)); (focus (have := HL.out; omega)); (focus (have := HK.out.size; simp; omega)); intro v' w' ho' hg hat; obtain ⟨av', cv', rfl⟩ := row_form ho'; obtain ⟨hcell, hfz, hc', hTab, hgk⟩ := after_push (l' := nb (p.lo.edges.take k) F ++ [t]) (by { (repeat (first | with_reducible exact Below.refl _ _ | with_reducible refine Below.drew ?_ | (with_reducible refine Below.alloc ?_ ?_ _))); all_goals (first | exact Nat.le_refl _ | (simp; done)) }) HT.out hFN hv (by simpa [ownInts] using ho') hg hat; have y8 := hcell px 8 _ q8 hn1.out; have y0 := hcell ed 0 _ s0 hn2.out; have y1 := hcell ed 1 _ s1 hn2.out; have HTab := Lib.hid hTab; have HGK := Lib.hid hgk; clear hcell hTab hgk ho' hg hat)
          refine hK.out _ _ (⟨y8, y0, y1⟩) (fun hHeld2 => ?_)
          clear hK K
          try simp only [Act.put, List.setIfInBounds_toArray, List.set_cons_zero, List.set_cons_succ]
          refine wpAnyH_take (i := 18) (oi := _) (v := ?vaa18) rfl (by kernel_rfl) (by kernel_rfl) (by kernel_rfl) (fun _ _ _ h => h) (Or.inl ⟨by rfl, ?hyaa18⟩) (by assumption) ?restaa18
          case hyaa18 => (intro w hSw; (try dsimp only at hSw); go_simp <;> with_reducible rfl)
          try simp only [Act.put, List.setIfInBounds_toArray, List.set_cons_zero, List.set_cons_succ]
          refine wpAnyH_ready (rs := [19]) (by kernel_rfl) (by simp) ?_
          refine AllReadyH.cons (o := _) rfl (fun K hK => ?_) AllReadyH.nil
          go_simp
          refine hK.out _ _ (⟨(World.cell?_setCell_other _ _ _ _ (fun h => NT1.out _ h.symm)).trans y8, (World.cell?_setCell_other _ _ _ _ (fun h => NT2.out _ h.symm)).trans y0, (World.cell?_setCell_other _ _ _ _ (fun h => NT2.out _ h.symm)).trans y1⟩) (fun hHeld2 => ?_)
          clear hK K
          try simp only [Act.put, List.setIfInBounds_toArray, List.set_cons_zero, List.set_cons_succ]
          refine wpAnyH_done (by kernel_rfl) ?_ _
          go_wp2_with fail
          refine ⟨⟨k + 1, by omega, by go_num, ?_, ?_⟩, by simp [intOf]; omega⟩
          · exact (HK.out.grown HGK.out (fun q e => (HO.out.lt q e).1)).set _ _
          · refine HTab.out.congr fun s hs => ?_
            rw [ge_take hlt, nb_app, ← HX.out]
            by_cases e : s = F
            · subst e; rw [upd_same, if_pos rfl]
            · rw [upd_other _ _ e, if_neg (fun h => e (by have h1 : (F : Int) = (s : Int) := h; omega))]
        · go_simp
          refine hK.out _ _ ((fun hB : Below wb.heap.size wb _ => ⟨Below.keeps hB q8 (Nat.le_refl _), Below.keeps hB s0 (Nat.le_refl _), Below.keeps hB s1 (Nat.le_refl _)⟩) (((Below.refl _ _).drew).alloc (by simp) _)) (fun hHeld2 => ?_)
          clear hK K
          try simp only [Act.put, List.setIfInBounds_toArray, List.set_cons_zero, List.set_cons_succ]
          refine wpAnyH_ready (rs := [13]) (by kernel_rfl) (by simp) ?_
          refine AllReadyH.cons (o := _) rfl (fun K hK => ?_) AllReadyH.nil
          go_simp
          refine hK.out _ _ (by assumption) (fun hHeld2 => ?_)
          clear hK K
          try simp only [Act.put, List.setIfInBounds_toArray, List.set_cons_zero, List.set_cons_succ]
          refine wpAnyH_ready (rs := [17]) (by kernel_rfl) (by simp) ?_
          refine AllReadyH.cons (o := _) rfl (fun K hK => ?_) AllReadyH.nil
          (refine step_own_at rfl (.tmp 41) (.tmp 44) 22 rfl w1.heap.size 3 i0 _ 1 8 Try.underlying22 hi hz0 hz1 hz2 rfl (by decide) _ _ _ rfl (ownsRow_later HO.out ?_) _ _ _ [.int .i64 t] rfl rfl (cell_one_new _ _ _) ?_ ?_ ?_ ?_ ?_; (focus ((repeat (first | with_reducible exact Below.refl _ _ | with_reducible refine Below.drew ?_ | (with_reducible refine Below.alloc ?_ ?_ _))); all_goals (first | exact Nat.le_refl _ | (simp; done)))); (focus (intro u hu; simp at hu; subst hu; rfl)); (focus (have := HL.out; unfold maxLen; omega)); (focus (have := HL.out; omega)); (focus (have := HK.out.size; simp; omega)); intro v' w' ho' hg hat; obtain ⟨av', cv', rfl⟩ := row_form ho'; obtain ⟨hcell, hfz, hc', hTab, hgk⟩ := after_push (l' := nb (p.lo.edges.take k) F ++ [t]) (by { (repeat (first | with_reducible exact Below.refl _ _ | with_reducible refine Below.drew ?_ | (with_reducible refine Below.alloc ?_ ?_ _))); all_goals (first | exact Nat.le_refl _ | (simp; done)) }) HT.out hFN hv (by simpa [ownInts] using ho') hg hat; have y8 := hcell px 8 _ q8 hn1.out; have y0 := hcell ed 0 _ s0 hn2.out; have y1 := hcell ed 1 _ s1 hn2.out; have HTab := Lib.hid hTab; have HGK := Lib.hid hgk; clear hcell hTab hgk ho' hg hat)
          refine hK.out _ _ (⟨y8, y0, y1⟩) (fun hHeld2 => ?_)
          clear hK K
          try simp only [Act.put, List.setIfInBounds_toArray, List.set_cons_zero, List.set_cons_succ]
          refine wpAnyH_take (i := 18) (oi := _) (v := ?vab18) rfl (by kernel_rfl) (by kernel_rfl) (by kernel_rfl) (fun _ _ _ h => h) (Or.inl ⟨by rfl, ?hyab18⟩) (by assumption) ?restab18
          case hyab18 => (intro w hSw; (try dsimp only at hSw); go_simp <;> with_reducible rfl)
          try simp only [Act.put, List.setIfInBounds_toArray, List.set_cons_zero, List.set_cons_succ]
          refine wpAnyH_ready (rs := [19]) (by kernel_rfl) (by simp) ?_
          refine AllReadyH.cons (o := _) rfl (fun K hK => ?_) AllReadyH.nil
          go_simp
          refine hK.out _ _ (⟨(World.cell?_setCell_other _ _ _ _ (fun h => NT1.out _ h.symm)).trans y8, (World.cell?_setCell_other _ _ _ _ (fun h => NT2.out _ h.symm)).trans y0, (World.cell?_setCell_other _ _ _ _ (fun h => NT2.out _ h.symm)).trans y1⟩) (fun hHeld2 => ?_)
          clear hK K
          try simp only [Act.put, List.setIfInBounds_toArray, List.set_cons_zero, List.set_cons_succ]
          refine wpAnyH_done (by kernel_rfl) ?_ _
          go_wp2_with fail
          refine ⟨⟨k + 1, by omega, by go_num, ?_, ?_⟩, by simp [intOf]; omega⟩
          · exact (HK.out.grown HGK.out (fun q e => (HO.out.lt q e).1)).set _ _
          · refine HTab.out.congr fun s hs => ?_
            rw [ge_take hlt, nb_app, ← HX.out]
            by_cases e : s = F
            · subst e; rw [upd_same, if_pos rfl]
            · rw [upd_other _ _ e, if_neg (fun h => e (by have h1 : (F : Int) = (s : Int) := h; omega))]
      · have hkk : k = p.lo.edges.length := by omega
        subst hkk
        have hbw := HBW.out wr hK
        rw [List.take_length] at hT
        have b5 := hK.cell HP.out.b5 (by omega)
        have HPX2 : Hid (PX wr px p i1 e1 i2 e2 l1 l2 c1 d1 c2 d2 k1 k2 TL TU N1 N2) := hK.px HPX.out HNE.out.1
        have HTL : Hid (Tab wr w1.heap.size TL N1 (lowRow p)) := hT
        have HTU0 := Lib.hid (hK.rows HP.out.tu HP.out.ne.1.symm)
        have hTUw : w.heap.size < TU := HP.out.ne.2.2.2.2.1
        have hTUc : TU < w1.heap.size := HP.out.tu.lt
        have hcd : w1.heap.size ≤ wr.heap.size := hK.size
        have HBW2 : Hid (∀ w2, Keep wr w2 TU → Below w.heap.size w w2) := fun w2 h => hbw.trans (h.below (by omega) (by omega))
        have HU0 : Hid (Tab wr wr.heap.size TU N2 (fun s => nb (p.up.edges.take 0) s)) := (Tab.nil HTU0.out).congr fun j hj => by simp [nb]
        clear hK hT HT0 HBW hbw HTU0
        obtain ⟨wd, hwd⟩ : ∃ wd, wd = wr := ⟨_, rfl⟩
        subst hwd
        go_wp2_with fail
        clear b5
        go_loopw [52] (fun i wr => ∃ k : Nat, k ≤ p.up.edges.length ∧ i = .int .i64 k ∧ Keep wd wr TU ∧ Tab wr wd.heap.size TU N2 (fun s => nb (p.up.edges.take k) s)) (fun i _ => p.up.edges.length - (intOf i).toNat)
        case atStart => exact ⟨0, Nat.zero_le _, rfl, Keep.refl _ _, HU0.out⟩
        case round =>
          obtain ⟨k, hk, rfl, hK, hT⟩ := hrel
          by_cases hlt : k < p.up.edges.length
          · have hbw := HBW2.out wr hK
            obtain ⟨b, o, e1, g1, g2, g3⟩ := H4.out k hlt
            subst e1
            replace g1 := Below.keeps hbw g1 (Nat.le_refl _)
            replace g2 := Below.keeps hbw g2 (Nat.le_refl _)
            replace g3 := Below.keeps hbw g3 (Nat.le_refl _)
            obtain ⟨x, hx⟩ : ∃ x, x = ge p.up.edges k := ⟨_, rfl⟩
            have hE : edgeOk p.up k := HOK.out.up.2.2.2 k hlt
            unfold edgeOk at hE
            rw [← hx] at g1 g2 g3 hE
            obtain ⟨f, t, ac⟩ := x
            obtain ⟨F, hF⟩ : ∃ F : Nat, f = (F : Int) := ⟨f.toNat, by have : 0 ≤ f := hE.1.1; omega⟩
            subst hF
            have hFN : F < N2 := by have h1 : (F : Int) < p.up.n := hE.2.1.1; have := HN2.out; omega
            have HX := Lib.hid hx
            clear hE hx
            have q8 := hK.px HPX2.out HNE.out.2 |>.q9
            obtain ⟨av, cv, hv, ho⟩ := hT.get hFN
            go_wp2_with fail
            have hb1 : Below wr.heap.size wr (wr.alloc (Obj.cells #[Value.int IntKind.i64 ↑F, Value.int IntKind.i64 t, Value.int IntKind.i64 ac] 81)) := (Below.refl _ _).alloc (Nat.le_refl _) _
            have s0 : (wr.alloc (Obj.cells #[Value.int IntKind.i64 ↑F, Value.int IntKind.i64 t, Value.int IntKind.i64 ac] 81)).cell? ⟨wr.heap.size, 0, none⟩ = some (.int .i64 ↑F) := World.cell?_alloc_at _ _ _ _ rfl
            have s1 : (wr.alloc (Obj.cells #[Value.int IntKind.i64 ↑F, Value.int IntKind.i64 t, Value.int IntKind.i64 ac] 81)).cell? ⟨wr.heap.size, 1, none⟩ = some (.int .i64 t) := World.cell?_alloc_at _ _ _ _ rfl
            have hne2 : ∀ q, q < wd.heap.size ∨ wr.heap.size ≤ q → Hid ((Value.slice av (nb (p.up.edges.take k) F).length cv).ownBlock ≠ some q) := fun q hq e => by have := ho.lt q e; omega
            have hK0 := Lib.hid hK
            replace hK := hK.later hb1 hK.size
            replace hT := hT.later hb1
            replace hv := Below.keeps hb1 hv (Nat.le_refl _)
            replace q8 := Below.keeps hb1 q8 (Nat.le_refl _)
            replace ho := ownsRow_later ho hb1
            have HSZ : Hid (wd.heap.size ≤ wr.heap.size) := hK0.out.size
            clear g1 g2 g3 hb1 hbw
            have hn1 := hne2 px (.inl (HPX2.out.lt))
            have hn2 := hne2 wr.heap.size (.inr (Nat.le_refl _))
            clear hne2
            generalize wr.alloc (Obj.cells #[Value.int IntKind.i64 ↑F, Value.int IntKind.i64 t, Value.int IntKind.i64 ac] 81) = wb at *
            have hed : wd.heap.size ≤ wr.heap.size := HSZ.out
            clear hK0 HSZ
            generalize wr.heap.size = ed at *
            have z1 : px < wb.heap.size := cell_lt q8
            have z2 : ed < wb.heap.size := cell_lt s0
            have z3 : TU < wb.heap.size := cell_lt hv
            have fz := hT.frozen F
            have hlen : (nb (p.up.edges.take k) F).length ≤ 2000 := by have := nb_len (p.up.edges.take k) F; have := HOK.out.up.2.1; simp at *; omega
            have HK := Lib.hid hK; have HT := Lib.hid hT; have HO := Lib.hid ho; have HL := Lib.hid hlen
            clear hK hT ho hlen
            have nT1 : ∀ i, (⟨px, i, none⟩ : Addr) ≠ ⟨TU, F, none⟩ := fun i h => by injection h with h1; exact HNE.out.2 h1
            have nT2 : ∀ i, (⟨ed, i, none⟩ : Addr) ≠ ⟨TU, F, none⟩ := fun i h => by injection h with h1; omega
            have NT1 := Lib.hid nT1; have NT2 := Lib.hid nT2; clear nT1 nT2
            refine wp_region_held_drew (S := (fun w' => w'.cell? ⟨px, 9, none⟩ = some (.slice (some ⟨TU, 0, none⟩) N2 N2) ∧ w'.cell? ⟨ed, 0, none⟩ = some (.int .i64 ↑F) ∧ w'.cell? ⟨ed, 1, none⟩ = some (.int .i64 t))) (by kernel_rfl) ?bs0 (fun hHeld => ?_)
            case bs0 => exact (fun hB : Below wb.heap.size wb _ => ⟨Below.keeps hB q8 (Nat.le_refl _), Below.keeps hB s0 (Nat.le_refl _), Below.keeps hB s1 (Nat.le_refl _)⟩) (Below.refl _ _).drew
            refine wpAnyH_take (i := 0) (oi := _) (v := ?vb0) rfl (by kernel_rfl) (by kernel_rfl) (by kernel_rfl) (fun _ _ _ h => h) (Or.inl ⟨by rfl, ?hyb0⟩) (by assumption) ?restb0
            case hyb0 => (intro w hSw; (try dsimp only at hSw); go_simp <;> with_reducible rfl)
            try simp only [Act.put, List.setIfInBounds_toArray, List.set_cons_zero, List.set_cons_succ]
            refine wpAnyH_take (i := 1) (oi := _) (v := ?vb1) rfl (by kernel_rfl) (by kernel_rfl) (by kernel_rfl) (fun _ _ _ h => h) (Or.inl ⟨by rfl, ?hyb1⟩) (by assumption) ?restb1
            case hyb1 => (intro w hSw; (try dsimp only at hSw); go_simp <;> with_reducible rfl)
            try simp only [Act.put, List.setIfInBounds_toArray, List.set_cons_zero, List.set_cons_succ]
            refine wpAnyH_take (i := 2) (oi := _) (v := ?vb2) rfl (by kernel_rfl) (by kernel_rfl) (by kernel_rfl) (fun _ _ _ h => h) (Or.inl ⟨by rfl, ?hyb2⟩) (by assumption) ?restb2
            case hyb2 => (intro w hSw; (try dsimp only at hSw); go_simp <;> with_reducible rfl)
            try simp only [Act.put, List.setIfInBounds_toArray, List.set_cons_zero, List.set_cons_succ]
            refine wpAnyH_take (i := 3) (oi := _) (v := ?vb3) rfl (by kernel_rfl) (by kernel_rfl) (by kernel_rfl) (fun _ _ _ h => h) (Or.inl ⟨by rfl, ?hyb3⟩) (by assumption) ?restb3
            case hyb3 => (intro w hSw; (try dsimp only at hSw); go_simp <;> with_reducible rfl)
            try simp only [Act.put, List.setIfInBounds_toArray, List.set_cons_zero, List.set_cons_succ]
            refine wpAnyH_take (i := 4) (oi := _) (v := ?vb4) rfl (by kernel_rfl) (by kernel_rfl) (by kernel_rfl) (fun _ _ _ h => h) (Or.inl ⟨by rfl, ?hyb4⟩) (by assumption) ?restb4
            case hyb4 => (intro w hSw; (try dsimp only at hSw); go_simp <;> with_reducible rfl)
            try simp only [Act.put, List.setIfInBounds_toArray, List.set_cons_zero, List.set_cons_succ]
            refine wpAnyH_take (i := 5) (oi := _) (v := ?vb5) rfl (by kernel_rfl) (by kernel_rfl) (by kernel_rfl) (fun _ _ _ h => h) (Or.inl ⟨by rfl, ?hyb5⟩) (by assumption) ?restb5
            case hyb5 => (intro w hSw; (try dsimp only at hSw); go_simp <;> with_reducible rfl)
            try simp only [Act.put, List.setIfInBounds_toArray, List.set_cons_zero, List.set_cons_succ]
            refine wpAnyH_take (i := 6) (oi := _) (v := ?vb6) rfl (by kernel_rfl) (by kernel_rfl) (by kernel_rfl) (fun _ _ _ h => h) (Or.inl ⟨by rfl, ?hyb6⟩) (by assumption) ?restb6
            case hyb6 => (intro w hSw; (try dsimp only at hSw); go_simp <;> with_reducible rfl)
            try simp only [Act.put, List.setIfInBounds_toArray, List.set_cons_zero, List.set_cons_succ]
            refine wpAnyH_take (i := 7) (oi := _) (v := ?vb7) rfl (by kernel_rfl) (by kernel_rfl) (by kernel_rfl) (fun _ _ _ h => h) (Or.inl ⟨by rfl, ?hyb7⟩) (by assumption) ?restb7
            case hyb7 => (intro w hSw; (try dsimp only at hSw); go_simp <;> with_reducible rfl)
            try simp only [Act.put, List.setIfInBounds_toArray, List.set_cons_zero, List.set_cons_succ]
            refine wpAnyH_take (i := 8) (oi := _) (v := ?vb8) rfl (by kernel_rfl) (by kernel_rfl) (by kernel_rfl) (fun _ _ _ h => h) (Or.inl ⟨by rfl, ?hyb8⟩) (by assumption) ?restb8
            case hyb8 => (intro w hSw; (try dsimp only at hSw); go_simp <;> with_reducible rfl)
            try simp only [Act.put, List.setIfInBounds_toArray, List.set_cons_zero, List.set_cons_succ]
            refine wpAnyH_take (i := 9) (oi := _) (v := ?vb9) rfl (by kernel_rfl) (by kernel_rfl) (by kernel_rfl) (fun _ _ _ h => h) (Or.inl ⟨by rfl, ?hyb9⟩) (by assumption) ?restb9
            case hyb9 => (intro w hSw; (try dsimp only at hSw); go_simp <;> with_reducible rfl)
            try simp only [Act.put, List.setIfInBounds_toArray, List.set_cons_zero, List.set_cons_succ]
            refine wpAnyH_take (i := 10) (oi := _) (v := ?vb10) rfl (by kernel_rfl) (by kernel_rfl) (by kernel_rfl) (fun _ _ _ h => h) (Or.inl ⟨by rfl, ?hyb10⟩) (by assumption) ?restb10
            case hyb10 => (intro w hSw; (try dsimp only at hSw); go_simp <;> with_reducible rfl)
            try simp only [Act.put, List.setIfInBounds_toArray, List.set_cons_zero, List.set_cons_succ]
            refine wpAnyH_take (i := 11) (oi := _) (v := ?vb11) rfl (by kernel_rfl) (by kernel_rfl) (by kernel_rfl) (fun _ _ _ h => h) (Or.inl ⟨by rfl, ?hyb11⟩) (by assumption) ?restb11
            case hyb11 => (intro w hSw; (try dsimp only at hSw); go_simp <;> with_reducible rfl)
            try simp only [Act.put, List.setIfInBounds_toArray, List.set_cons_zero, List.set_cons_succ]
            refine wpAnyH_take (i := 12) (oi := _) (v := ?vb12) rfl (by kernel_rfl) (by kernel_rfl) (by kernel_rfl) (fun _ _ _ h => h) (Or.inl ⟨by rfl, ?hyb12⟩) (by assumption) ?restb12
            case hyb12 => (intro w hSw; (try dsimp only at hSw); go_simp <;> with_reducible rfl)
            try simp only [Act.put, List.setIfInBounds_toArray, List.set_cons_zero, List.set_cons_succ]
            refine wpAnyH_take (i := 14) (oi := _) (v := ?vb14) rfl (by kernel_rfl) (by kernel_rfl) (by kernel_rfl) (fun _ _ _ h => h) (Or.inl ⟨by rfl, ?hyb14⟩) (by assumption) ?restb14
            case hyb14 => (intro w hSw; (try dsimp only at hSw); go_simp <;> with_reducible rfl)
            try simp only [Act.put, List.setIfInBounds_toArray, List.set_cons_zero, List.set_cons_succ]
            refine wpAnyH_take (i := 15) (oi := _) (v := ?vb15) rfl (by kernel_rfl) (by kernel_rfl) (by kernel_rfl) (fun _ _ _ h => h) (Or.inl ⟨by rfl, ?hyb15⟩) (by assumption) ?restb15
            case hyb15 => (intro w hSw; (try dsimp only at hSw); go_simp <;> with_reducible rfl)
            try simp only [Act.put, List.setIfInBounds_toArray, List.set_cons_zero, List.set_cons_succ]
            refine wpAnyH_ready (rs := [13, 16]) (by kernel_rfl) (by simp) ?_
            refine AllReadyH.cons (o := _) rfl (fun K hK => ?_) (AllReadyH.cons (o := _) rfl (fun K hK => ?_) AllReadyH.nil)
            · go_simp
              refine hK.out _ _ (by assumption) (fun hHeld2 => ?_)
              clear hK K
              try simp only [Act.put, List.setIfInBounds_toArray, List.set_cons_zero, List.set_cons_succ]
              refine wpAnyH_ready (rs := [16]) (by kernel_rfl) (by simp) ?_
              refine AllReadyH.cons (o := _) rfl (fun K hK => ?_) AllReadyH.nil
              go_simp
              refine hK.out _ _ ((fun hB : Below wb.heap.size wb _ => ⟨Below.keeps hB q8 (Nat.le_refl _), Below.keeps hB s0 (Nat.le_refl _), Below.keeps hB s1 (Nat.le_refl _)⟩) (((Below.refl _ _).drew).alloc (by simp) _)) (fun hHeld2 => ?_)
              clear hK K
              try simp only [Act.put, List.setIfInBounds_toArray, List.set_cons_zero, List.set_cons_succ]
              refine wpAnyH_ready (rs := [17]) (by kernel_rfl) (by simp) ?_
              refine AllReadyH.cons (o := _) rfl (fun K hK => ?_) AllReadyH.nil
              (refine step_own_at rfl (.tmp 69) (.tmp 72) 22 rfl wd.heap.size 3 i0 _ 1 8 Try.underlying22 hi hz0 hz1 hz2 rfl (by decide) _ _ _ rfl (ownsRow_later HO.out ?_) _ _ _ [.int .i64 t] rfl rfl (cell_one_new _ _ _) ?_ ?_ ?_ ?_ ?_; (focus ((repeat (first | with_reducible exact Below.refl _ _ | with_reducible refine Below.drew ?_ | (with_reducible refine Below.alloc ?_ ?_ _))); all_goals (first | exact Nat.le_refl _ | (simp; done)))); (focus (intro u hu; simp at hu; subst hu; rfl)); (focus (have := HL.out; unfold maxLen; omega)); (focus (have := HL.out; omega)); (focus (have := HK.out.size; simp; omega)); intro v' w' ho' hg hat; obtain ⟨av', cv', rfl⟩ := row_form ho'; obtain ⟨hcell, hfz, hc', hTab, hgk⟩ := after_push (l' := nb (p.up.edges.take k) F ++ [t]) (by { (repeat (first | with_reducible exact Below.refl _ _ | with_reducible refine Below.drew ?_ | (with_reducible refine Below.alloc ?_ ?_ _))); all_goals (first | exact Nat.le_refl _ | (simp; done)) }) HT.out hFN hv (by simpa [ownInts] using ho') hg hat; have y8 := hcell px 9 _ q8 hn1.out; have y0 := hcell ed 0 _ s0 hn2.out; have y1 := hcell ed 1 _ s1 hn2.out; have HTab := Lib.hid hTab; have HGK := Lib.hid hgk; clear hcell hTab hgk ho' hg hat)
              refine hK.out _ _ (⟨y8, y0, y1⟩) (fun hHeld2 => ?_)
              clear hK K
              try simp only [Act.put, List.setIfInBounds_toArray, List.set_cons_zero, List.set_cons_succ]
              refine wpAnyH_take (i := 18) (oi := _) (v := ?vba18) rfl (by kernel_rfl) (by kernel_rfl) (by kernel_rfl) (fun _ _ _ h => h) (Or.inl ⟨by rfl, ?hyba18⟩) (by assumption) ?restba18
              case hyba18 => (intro w hSw; (try dsimp only at hSw); go_simp <;> with_reducible rfl)
              try simp only [Act.put, List.setIfInBounds_toArray, List.set_cons_zero, List.set_cons_succ]
              refine wpAnyH_ready (rs := [19]) (by kernel_rfl) (by simp) ?_
              refine AllReadyH.cons (o := _) rfl (fun K hK => ?_) AllReadyH.nil
              go_simp
              refine hK.out _ _ (⟨(World.cell?_setCell_other _ _ _ _ (fun h => NT1.out _ h.symm)).trans y8, (World.cell?_setCell_other _ _ _ _ (fun h => NT2.out _ h.symm)).trans y0, (World.cell?_setCell_other _ _ _ _ (fun h => NT2.out _ h.symm)).trans y1⟩) (fun hHeld2 => ?_)
              clear hK K
              try simp only [Act.put, List.setIfInBounds_toArray, List.set_cons_zero, List.set_cons_succ]
              refine wpAnyH_done (by kernel_rfl) ?_ _
              go_wp2_with fail
              refine ⟨⟨k + 1, by omega, by go_num, ?_, ?_⟩, by simp [intOf]; omega⟩
              · exact (HK.out.grown HGK.out (fun q e => (HO.out.lt q e).1)).set _ _
              · refine HTab.out.congr fun s hs => ?_
                rw [ge_take hlt, nb_app, ← HX.out]
                by_cases e : s = F
                · subst e; rw [upd_same, if_pos rfl]
                · rw [upd_other _ _ e, if_neg (fun h => e (by have h1 : (F : Int) = (s : Int) := h; omega))]
            · go_simp
              refine hK.out _ _ ((fun hB : Below wb.heap.size wb _ => ⟨Below.keeps hB q8 (Nat.le_refl _), Below.keeps hB s0 (Nat.le_refl _), Below.keeps hB s1 (Nat.le_refl _)⟩) (((Below.refl _ _).drew).alloc (by simp) _)) (fun hHeld2 => ?_)
              clear hK K
              try simp only [Act.put, List.setIfInBounds_toArray, List.set_cons_zero, List.set_cons_succ]
              refine wpAnyH_ready (rs := [13]) (by kernel_rfl) (by simp) ?_
              refine AllReadyH.cons (o := _) rfl (fun K hK => ?_) AllReadyH.nil
              go_simp
              refine hK.out _ _ (by assumption) (fun hHeld2 => ?_)
              clear hK K
              try simp only [Act.put, List.setIfInBounds_toArray, List.set_cons_zero, List.set_cons_succ]
              refine wpAnyH_ready (rs := [17]) (by kernel_rfl) (by simp) ?_
              refine AllReadyH.cons (o := _) rfl (fun K hK => ?_) AllReadyH.nil
              (refine step_own_at rfl (.tmp 69) (.tmp 72) 22 rfl wd.heap.size 3 i0 _ 1 8 Try.underlying22 hi hz0 hz1 hz2 rfl (by decide) _ _ _ rfl (ownsRow_later HO.out ?_) _ _ _ [.int .i64 t] rfl rfl (cell_one_new _ _ _) ?_ ?_ ?_ ?_ ?_; (focus ((repeat (first | with_reducible exact Below.refl _ _ | with_reducible refine Below.drew ?_ | (with_reducible refine Below.alloc ?_ ?_ _))); all_goals (first | exact Nat.le_refl _ | (simp; done)))); (focus (intro u hu; simp at hu; subst hu; rfl)); (focus (have := HL.out; unfold maxLen; omega)); (focus (have := HL.out; omega)); (focus (have := HK.out.size; simp; omega)); intro v' w' ho' hg hat; obtain ⟨av', cv', rfl⟩ := row_form ho'; obtain ⟨hcell, hfz, hc', hTab, hgk⟩ := after_push (l' := nb (p.up.edges.take k) F ++ [t]) (by { (repeat (first | with_reducible exact Below.refl _ _ | with_reducible refine Below.drew ?_ | (with_reducible refine Below.alloc ?_ ?_ _))); all_goals (first | exact Nat.le_refl _ | (simp; done)) }) HT.out hFN hv (by simpa [ownInts] using ho') hg hat; have y8 := hcell px 9 _ q8 hn1.out; have y0 := hcell ed 0 _ s0 hn2.out; have y1 := hcell ed 1 _ s1 hn2.out; have HTab := Lib.hid hTab; have HGK := Lib.hid hgk; clear hcell hTab hgk ho' hg hat)
              refine hK.out _ _ (⟨y8, y0, y1⟩) (fun hHeld2 => ?_)
              clear hK K
              try simp only [Act.put, List.setIfInBounds_toArray, List.set_cons_zero, List.set_cons_succ]
              refine wpAnyH_take (i := 18) (oi := _) (v := ?vbb18) rfl (by kernel_rfl) (by kernel_rfl) (by kernel_rfl) (fun _ _ _ h => h) (Or.inl ⟨by rfl, ?hybb18⟩) (by assumption) ?restbb18
              case hybb18 => (intro w hSw; (try dsimp only at hSw); go_simp <;> with_reducible rfl)
              try simp only [Act.put, List.setIfInBounds_toArray, List.set_cons_zero, List.set_cons_succ]
              refine wpAnyH_ready (rs := [19]) (by kernel_rfl) (by simp) ?_
              refine AllReadyH.cons (o := _) rfl (fun K hK => ?_) AllReadyH.nil
              go_simp
              refine hK.out _ _ (⟨(World.cell?_setCell_other _ _ _ _ (fun h => NT1.out _ h.symm)).trans y8, (World.cell?_setCell_other _ _ _ _ (fun h => NT2.out _ h.symm)).trans y0, (World.cell?_setCell_other _ _ _ _ (fun h => NT2.out _ h.symm)).trans y1⟩) (fun hHeld2 => ?_)
              clear hK K
              try simp only [Act.put, List.setIfInBounds_toArray, List.set_cons_zero, List.set_cons_succ]
              refine wpAnyH_done (by kernel_rfl) ?_ _
              go_wp2_with fail
              refine ⟨⟨k + 1, by omega, by go_num, ?_, ?_⟩, by simp [intOf]; omega⟩
              · exact (HK.out.grown HGK.out (fun q e => (HO.out.lt q e).1)).set _ _
              · refine HTab.out.congr fun s hs => ?_
                rw [ge_take hlt, nb_app, ← HX.out]
                by_cases e : s = F
                · subst e; rw [upd_same, if_pos rfl]
                · rw [upd_other _ _ e, if_neg (fun h => e (by have h1 : (F : Int) = (s : Int) := h; omega))]
          · have hkk : k = p.up.edges.length := by omega
            subst hkk
            rw [List.take_length] at hT
            have q9 := (hK.px HPX2.out HNE.out.2).q9
            have HT : Hid (Tab wr wd.heap.size TU N2 (fun u => if u < 0 then upRow p u else nb p.up.edges u)) := hT.congr fun u hu => (if_neg (by omega)).symm
            have HK := Lib.hid hK
            clear hT hK HU0
            go_wp2_with fail
            clear q9
            go_loopw [81] (fun i w3 => ∃ k : Nat, k ≤ N2 ∧ i = .int .i64 k ∧ Keep wd w3 TU ∧ Tab w3 wd.heap.size TU N2 (fun u => if u < k then upRow p u else nb p.up.edges u)) (fun i _ => N2 - (intOf i).toNat)
            case atStart => exact ⟨0, Nat.zero_le _, rfl, HK.out, HT.out⟩
            case round =>
              clear HT HK
              obtain ⟨k, hk, rfl, hK, hT⟩ := hrel
              by_cases hlt : k < N2
              · have q9 := (hK.px HPX2.out HNE.out.2).q9
                have hrow : (if k < k then upRow p k else nb p.up.edges k) = nb p.up.edges k := if_neg (Nat.lt_irrefl _)
                have hT' := hT.congr (F' := upd (fun u => if u < k then upRow p u else nb p.up.edges u) k (nb p.up.edges k)) fun u hu => by
                  by_cases e : u = k
                  · subst e; rw [upd_same]; exact hrow
                  · rw [upd_other _ _ e]
                obtain ⟨av, cv, hv, ho⟩ := hT'.get hlt
                rw [upd_same] at hv ho
                have hlen : (nb p.up.edges k).length ≤ 2000 := Nat.le_trans (nb_len _ _) hEU
                clear hT
                go_wp2_with fail
                have z1 : px < wr.heap.size := cell_lt q9
                have z3 : TU < wr.heap.size := cell_lt hv
                have fz := hT'.frozen k
                have hn1 : Hid ((Value.slice av (nb p.up.edges k).length cv).ownBlock ≠ some px) := fun e => by have := (ho.lt px e).1; have := HPX2.out.lt; omega
                have nT1 : ∀ i, (⟨px, i, none⟩ : Addr) ≠ ⟨TU, k, none⟩ := fun i h => by injection h with h1; exact HNE.out.2 h1
                have NT1 := Lib.hid nT1; clear nT1
                have HK := Lib.hid hK; have HT := Lib.hid hT'; have HO := Lib.hid ho; have HL := Lib.hid hlen
                clear hK hT' ho hlen hrow
                go_cut [84] (fun s84 wx => Keep wd wx TU ∧ Tab wx wd.heap.size TU N2 (upd (fun u => if u < k then upRow p u else nb p.up.edges u) k (nb p.up.edges k ++ [(k : Int)])))
                case first =>
                  refine wp_region_held_drew (S := (fun w' => w'.cell? ⟨px, 9, none⟩ = some (.slice (some ⟨TU, 0, none⟩) N2 N2))) (by kernel_rfl) ?cs0 (fun hHeld => ?_)
                  case cs0 => exact (fun hB : Below wr.heap.size wr _ => Below.keeps hB q9 (Nat.le_refl _)) (Below.refl _ _).drew
                  refine wpAnyH_take (i := 0) (oi := _) (v := ?vc0) rfl (by kernel_rfl) (by kernel_rfl) (by kernel_rfl) (fun _ _ _ h => h) (Or.inl ⟨by rfl, ?hyc0⟩) (by assumption) ?restc0
                  case hyc0 => (intro w hSw; (try dsimp only at hSw); go_simp <;> with_reducible rfl)
                  try simp only [Act.put, List.setIfInBounds_toArray, List.set_cons_zero, List.set_cons_succ]
                  refine wpAnyH_take (i := 1) (oi := _) (v := ?vc1) rfl (by kernel_rfl) (by kernel_rfl) (by kernel_rfl) (fun _ _ _ h => h) (Or.inl ⟨by rfl, ?hyc1⟩) (by assumption) ?restc1
                  case hyc1 => (intro w hSw; (try dsimp only at hSw); go_simp <;> with_reducible rfl)
                  try simp only [Act.put, List.setIfInBounds_toArray, List.set_cons_zero, List.set_cons_succ]
                  refine wpAnyH_take (i := 2) (oi := _) (v := ?vc2) rfl (by kernel_rfl) (by kernel_rfl) (by kernel_rfl) (fun _ _ _ h => h) (Or.inl ⟨by rfl, ?hyc2⟩) (by assumption) ?restc2
                  case hyc2 => (intro w hSw; (try dsimp only at hSw); go_simp <;> with_reducible rfl)
                  try simp only [Act.put, List.setIfInBounds_toArray, List.set_cons_zero, List.set_cons_succ]
                  refine wpAnyH_take (i := 3) (oi := _) (v := ?vc3) rfl (by kernel_rfl) (by kernel_rfl) (by kernel_rfl) (fun _ _ _ h => h) (Or.inl ⟨by rfl, ?hyc3⟩) (by assumption) ?restc3
                  case hyc3 => (intro w hSw; (try dsimp only at hSw); go_simp <;> with_reducible rfl)
                  try simp only [Act.put, List.setIfInBounds_toArray, List.set_cons_zero, List.set_cons_succ]
                  refine wpAnyH_take (i := 4) (oi := _) (v := ?vc4) rfl (by kernel_rfl) (by kernel_rfl) (by kernel_rfl) (fun _ _ _ h => h) (Or.inl ⟨by rfl, ?hyc4⟩) (by assumption) ?restc4
                  case hyc4 => (intro w hSw; (try dsimp only at hSw); go_simp <;> with_reducible rfl)
                  try simp only [Act.put, List.setIfInBounds_toArray, List.set_cons_zero, List.set_cons_succ]
                  refine wpAnyH_take (i := 5) (oi := _) (v := ?vc5) rfl (by kernel_rfl) (by kernel_rfl) (by kernel_rfl) (fun _ _ _ h => h) (Or.inl ⟨by rfl, ?hyc5⟩) (by assumption) ?restc5
                  case hyc5 => (intro w hSw; (try dsimp only at hSw); go_simp <;> with_reducible rfl)
                  try simp only [Act.put, List.setIfInBounds_toArray, List.set_cons_zero, List.set_cons_succ]
                  refine wpAnyH_take (i := 6) (oi := _) (v := ?vc6) rfl (by kernel_rfl) (by kernel_rfl) (by kernel_rfl) (fun _ _ _ h => h) (Or.inl ⟨by rfl, ?hyc6⟩) (by assumption) ?restc6
                  case hyc6 => (intro w hSw; (try dsimp only at hSw); go_simp <;> with_reducible rfl)
                  try simp only [Act.put, List.setIfInBounds_toArray, List.set_cons_zero, List.set_cons_succ]
                  refine wpAnyH_take (i := 7) (oi := _) (v := ?vc7) rfl (by kernel_rfl) (by kernel_rfl) (by kernel_rfl) (fun _ _ _ h => h) (Or.inl ⟨by rfl, ?hyc7⟩) (by assumption) ?restc7
                  case hyc7 => (intro w hSw; (try dsimp only at hSw); go_simp <;> with_reducible rfl)
                  try simp only [Act.put, List.setIfInBounds_toArray, List.set_cons_zero, List.set_cons_succ]
                  refine wpAnyH_take (i := 8) (oi := _) (v := ?vc8) rfl (by kernel_rfl) (by kernel_rfl) (by kernel_rfl) (fun _ _ _ h => h) (Or.inl ⟨by rfl, ?hyc8⟩) (by assumption) ?restc8
                  case hyc8 => (intro w hSw; (try dsimp only at hSw); go_simp <;> with_reducible rfl)
                  try simp only [Act.put, List.setIfInBounds_toArray, List.set_cons_zero, List.set_cons_succ]
                  refine wpAnyH_take (i := 9) (oi := _) (v := ?vc9) rfl (by kernel_rfl) (by kernel_rfl) (by kernel_rfl) (fun _ _ _ h => h) (Or.inl ⟨by rfl, ?hyc9⟩) (by assumption) ?restc9
                  case hyc9 => (intro w hSw; (try dsimp only at hSw); go_simp <;> with_reducible rfl)
                  try simp only [Act.put, List.setIfInBounds_toArray, List.set_cons_zero, List.set_cons_succ]
                  refine wpAnyH_take (i := 10) (oi := _) (v := ?vc10) rfl (by kernel_rfl) (by kernel_rfl) (by kernel_rfl) (fun _ _ _ h => h) (Or.inl ⟨by rfl, ?hyc10⟩) (by assumption) ?restc10
                  case hyc10 => (intro w hSw; (try dsimp only at hSw); go_simp <;> with_reducible rfl)
                  try simp only [Act.put, List.setIfInBounds_toArray, List.set_cons_zero, List.set_cons_succ]
                  refine wpAnyH_take (i := 12) (oi := _) (v := ?vc12) rfl (by kernel_rfl) (by kernel_rfl) (by kernel_rfl) (fun _ _ _ h => h) (Or.inl ⟨by rfl, ?hyc12⟩) (by assumption) ?restc12
                  case hyc12 => (intro w hSw; (try dsimp only at hSw); go_simp <;> with_reducible rfl)
                  try simp only [Act.put, List.setIfInBounds_toArray, List.set_cons_zero, List.set_cons_succ]
                  refine wpAnyH_ready (rs := [11, 13]) (by kernel_rfl) (by simp) ?_
                  refine AllReadyH.cons (o := _) rfl (fun K hK => ?_) (AllReadyH.cons (o := _) rfl (fun K hK => ?_) AllReadyH.nil)
                  · go_simp
                    refine hK.out _ _ (by assumption) (fun hHeld2 => ?_)
                    clear hK K
                    try simp only [Act.put, List.setIfInBounds_toArray, List.set_cons_zero, List.set_cons_succ]
                    refine wpAnyH_ready (rs := [13]) (by kernel_rfl) (by simp) ?_
                    refine AllReadyH.cons (o := _) rfl (fun K hK => ?_) AllReadyH.nil
                    go_simp
                    refine hK.out _ _ ((fun hB : Below wr.heap.size wr _ => Below.keeps hB q9 (Nat.le_refl _)) (((Below.refl _ _).drew).alloc (by simp) _)) (fun hHeld2 => ?_)
                    clear hK K
                    try simp only [Act.put, List.setIfInBounds_toArray, List.set_cons_zero, List.set_cons_succ]
                    refine wpAnyH_ready (rs := [14]) (by kernel_rfl) (by simp) ?_
                    refine AllReadyH.cons (o := _) rfl (fun K hK => ?_) AllReadyH.nil
                    (refine step_own_at rfl (.tmp 95) (.tmp 97) 22 rfl wd.heap.size 3 i0 _ 1 8 Try.underlying22 hi hz0 hz1 hz2 rfl (by decide) _ _ _ rfl (ownsRow_later HO.out ?_) _ _ _ [.int .i64 k] rfl rfl (cell_one_new _ _ _) ?_ ?_ ?_ ?_ ?_; (focus ((repeat (first | with_reducible exact Below.refl _ _ | with_reducible refine Below.drew ?_ | (with_reducible refine Below.alloc ?_ ?_ _))); all_goals (first | exact Nat.le_refl _ | (simp; done)))); (focus (intro u hu; simp at hu; subst hu; rfl)); (focus (have := HL.out; unfold maxLen; omega)); (focus (have := HL.out; omega)); (focus (have := HK.out.size; simp; omega)); intro v' w' ho' hg hat; obtain ⟨av', cv', rfl⟩ := row_form ho'; obtain ⟨hcell, hfz, hc', hTab, hgk⟩ := after_push (l' := nb p.up.edges k ++ [(k : Int)]) (by { (repeat (first | with_reducible exact Below.refl _ _ | with_reducible refine Below.drew ?_ | (with_reducible refine Below.alloc ?_ ?_ _))); all_goals (first | exact Nat.le_refl _ | (simp; done)) }) HT.out hlt hv (by simpa [ownInts] using ho') hg hat; have y9 := hcell px 9 _ q9 hn1.out; have HTab := Lib.hid hTab; have HGK := Lib.hid hgk; clear hcell hTab hgk ho' hg hat)
                    refine hK.out _ _ (y9) (fun hHeld2 => ?_)
                    clear hK K
                    try simp only [Act.put, List.setIfInBounds_toArray, List.set_cons_zero, List.set_cons_succ]
                    refine wpAnyH_take (i := 15) (oi := _) (v := ?vca15) rfl (by kernel_rfl) (by kernel_rfl) (by kernel_rfl) (fun _ _ _ h => h) (Or.inl ⟨by rfl, ?hyca15⟩) (by assumption) ?restca15
                    case hyca15 => (intro w hSw; (try dsimp only at hSw); go_simp <;> with_reducible rfl)
                    try simp only [Act.put, List.setIfInBounds_toArray, List.set_cons_zero, List.set_cons_succ]
                    refine wpAnyH_ready (rs := [16]) (by kernel_rfl) (by simp) ?_
                    refine AllReadyH.cons (o := _) rfl (fun K hK => ?_) AllReadyH.nil
                    go_simp
                    refine hK.out _ _ ((World.cell?_setCell_other _ _ _ _ (fun h => NT1.out _ h.symm)).trans y9) (fun hHeld2 => ?_)
                    clear hK K
                    try simp only [Act.put, List.setIfInBounds_toArray, List.set_cons_zero, List.set_cons_succ]
                    refine wpAnyH_done (by kernel_rfl) ?_ _
                    go_wp2_with fail
                    go_meet
                    refine ⟨(HK.out.grown HGK.out (fun q e => (HO.out.lt q e).1)).set _ _, HTab.out.congr fun u hu => ?_⟩
                    by_cases e : u = k
                    · subst e; rw [upd_same, upd_same]
                    · rw [upd_other _ _ e, upd_other _ _ e, upd_other _ _ e]
                  · go_simp
                    refine hK.out _ _ ((fun hB : Below wr.heap.size wr _ => Below.keeps hB q9 (Nat.le_refl _)) (((Below.refl _ _).drew).alloc (by simp) _)) (fun hHeld2 => ?_)
                    clear hK K
                    try simp only [Act.put, List.setIfInBounds_toArray, List.set_cons_zero, List.set_cons_succ]
                    refine wpAnyH_ready (rs := [11]) (by kernel_rfl) (by simp) ?_
                    refine AllReadyH.cons (o := _) rfl (fun K hK => ?_) AllReadyH.nil
                    go_simp
                    refine hK.out _ _ (by assumption) (fun hHeld2 => ?_)
                    clear hK K
                    try simp only [Act.put, List.setIfInBounds_toArray, List.set_cons_zero, List.set_cons_succ]
                    refine wpAnyH_ready (rs := [14]) (by kernel_rfl) (by simp) ?_
                    refine AllReadyH.cons (o := _) rfl (fun K hK => ?_) AllReadyH.nil
                    (refine step_own_at rfl (.tmp 95) (.tmp 97) 22 rfl wd.heap.size 3 i0 _ 1 8 Try.underlying22 hi hz0 hz1 hz2 rfl (by decide) _ _ _ rfl (ownsRow_later HO.out ?_) _ _ _ [.int .i64 k] rfl rfl (cell_one_new _ _ _) ?_ ?_ ?_ ?_ ?_; (focus ((repeat (first | with_reducible exact Below.refl _ _ | with_reducible refine Below.drew ?_ | (with_reducible refine Below.alloc ?_ ?_ _))); all_goals (first | exact Nat.le_refl _ | (simp; done)))); (focus (intro u hu; simp at hu; subst hu; rfl)); (focus (have := HL.out; unfold maxLen; omega)); (focus (have := HL.out; omega)); (focus (have := HK.out.size; simp; omega)); intro v' w' ho' hg hat; obtain ⟨av', cv', rfl⟩ := row_form ho'; obtain ⟨hcell, hfz, hc', hTab, hgk⟩ := after_push (l' := nb p.up.edges k ++ [(k : Int)]) (by { (repeat (first | with_reducible exact Below.refl _ _ | with_reducible refine Below.drew ?_ | (with_reducible refine Below.alloc ?_ ?_ _))); all_goals (first | exact Nat.le_refl _ | (simp; done)) }) HT.out hlt hv (by simpa [ownInts] using ho') hg hat; have y9 := hcell px 9 _ q9 hn1.out; have HTab := Lib.hid hTab; have HGK := Lib.hid hgk; clear hcell hTab hgk ho' hg hat)
                    refine hK.out _ _ (y9) (fun hHeld2 => ?_)
                    clear hK K
                    try simp only [Act.put, List.setIfInBounds_toArray, List.set_cons_zero, List.set_cons_succ]
                    refine wpAnyH_take (i := 15) (oi := _) (v := ?vcb15) rfl (by kernel_rfl) (by kernel_rfl) (by kernel_rfl) (fun _ _ _ h => h) (Or.inl ⟨by rfl, ?hycb15⟩) (by assumption) ?restcb15
                    case hycb15 => (intro w hSw; (try dsimp only at hSw); go_simp <;> with_reducible rfl)
                    try simp only [Act.put, List.setIfInBounds_toArray, List.set_cons_zero, List.set_cons_succ]
                    refine wpAnyH_ready (rs := [16]) (by kernel_rfl) (by simp) ?_
                    refine AllReadyH.cons (o := _) rfl (fun K hK => ?_) AllReadyH.nil
                    go_simp
                    refine hK.out _ _ ((World.cell?_setCell_other _ _ _ _ (fun h => NT1.out _ h.symm)).trans y9) (fun hHeld2 => ?_)
                    clear hK K
                    try simp only [Act.put, List.setIfInBounds_toArray, List.set_cons_zero, List.set_cons_succ]
                    refine wpAnyH_done (by kernel_rfl) ?_ _
                    go_wp2_with fail
                    go_meet
                    refine ⟨(HK.out.grown HGK.out (fun q e => (HO.out.lt q e).1)).set _ _, HTab.out.congr fun u hu => ?_⟩
                    by_cases e : u = k
                    · subst e; rw [upd_same, upd_same]
                    · rw [upd_other _ _ e, upd_other _ _ e, upd_other _ _ e]
                case rest =>
                  clear HK HT HO q9 hv z1 z3 fz hn1
                  obtain ⟨hK, hT⟩ := hcut
                  have hne0 : nb p.up.edges k ++ [(k : Int)] ≠ [] := by simp
                  have hlen : (nb p.up.edges k ++ [(k : Int)]).length ≤ 100000 := by have := HL.out; simp; omega
                  have hup : Lib.compact (srt (nb p.up.edges k ++ [(k : Int)])) = upRow p k := rfl
                  generalize nb p.up.edges k ++ [(k : Int)] = ls at hne0 hlen hup hT
                  have q9 := (hK.px HPX2.out HNE.out.2).q9
                  obtain ⟨av, cv, hv, ho⟩ := hT.get hlt
                  rw [upd_same] at hv ho
                  have hn1 : Hid ((Value.slice av ls.length cv).ownBlock ≠ some px) := fun e => by have := (ho.lt px e).1; have := HPX2.out.lt; omega
                  have HNE0 := Lib.hid hne0; have HLEN := Lib.hid hlen; have HK := Lib.hid hK; have HT := Lib.hid hT; have HO := Lib.hid ho; have HUP := Lib.hid hup
                  clear hne0 hlen hK hT ho hup
                  go_wp2_with fail
                  refine (sort_own wd.heap.size ls _ _ HO.out HNE0.out HLEN.out).mono ?_
                  rintro e w' ⟨rfl, ho2, hg2⟩
                  have HT2 := Lib.hid ((HT.out.inplace hlt hv hg2 ho2).congr (F' := upd (fun u => if u < k then upRow p u else nb p.up.edges u) k (srt ls)) fun u hu => by
                    by_cases e : u = k
                    · subst e; rw [upd_same, upd_same]; rfl
                    · rw [upd_other _ _ e, upd_other _ _ e, upd_other _ _ e])
                  have HK2 := Lib.hid (HK.out.grown hg2 (fun q e => (HO.out.lt q e).1))
                  have hne1 : Hid (srt ls ≠ []) := fun h => HNE0.out (by have h1 := srt_len ls; rw [h] at h1; exact List.length_eq_zero_iff.1 h1.symm)
                  have hlen1 : Hid ((srt ls).length ≤ 100000) := by have h1 := srt_len ls; have := HLEN.out; unfold Hid; omega
                  have HUP1 : Hid (Lib.compact (srt ls) = upRow p k) := HUP.out
                  replace q9 := hg2.cell q9 (fun e => hn1.out e.symm)
                  clear HK HT HO hv hg2 ho2 hn1 HNE0 HLEN HUP
                  generalize srt ls = lt at *
                  obtain ⟨av, cv, hv, ho⟩ := HT2.out.get hlt
                  rw [upd_same] at hv ho
                  have z1 : px < w'.heap.size := cell_lt q9
                  have z3 : TU < w'.heap.size := cell_lt hv
                  have fz := HT2.out.frozen k
                  have hn1 : Hid ((Value.slice av lt.length cv).ownBlock ≠ some px) := fun e => by have := (ho.lt px e).1; have := HPX2.out.lt; omega
                  have HO := Lib.hid ho
                  clear ho
                  go_wp2_with fail
                  refine wp_region_held_drew (S := (fun w'' => w''.cell? ⟨px, 9, none⟩ = some (.slice (some ⟨TU, 0, none⟩) N2 N2))) (by kernel_rfl) ?ds0 (fun hHeld => ?_)
                  case ds0 => exact (fun hB : Below w'.heap.size w' _ => Below.keeps hB q9 (Nat.le_refl _)) (Below.refl _ _).drew
                  refine wpAnyH_take (i := 0) (oi := _) (v := ?vd0) rfl (by kernel_rfl) (by kernel_rfl) (by kernel_rfl) (fun _ _ _ h => h) (Or.inl ⟨by rfl, ?hyd0⟩) (by assumption) ?restd0
                  case hyd0 => (intro w hSw; (try dsimp only at hSw); go_simp <;> with_reducible rfl)
                  try simp only [Act.put, List.setIfInBounds_toArray, List.set_cons_zero, List.set_cons_succ]
                  refine wpAnyH_take (i := 1) (oi := _) (v := ?vd1) rfl (by kernel_rfl) (by kernel_rfl) (by kernel_rfl) (fun _ _ _ h => h) (Or.inl ⟨by rfl, ?hyd1⟩) (by assumption) ?restd1
                  case hyd1 => (intro w hSw; (try dsimp only at hSw); go_simp <;> with_reducible rfl)
                  try simp only [Act.put, List.setIfInBounds_toArray, List.set_cons_zero, List.set_cons_succ]
                  refine wpAnyH_take (i := 2) (oi := _) (v := ?vd2) rfl (by kernel_rfl) (by kernel_rfl) (by kernel_rfl) (fun _ _ _ h => h) (Or.inl ⟨by rfl, ?hyd2⟩) (by assumption) ?restd2
                  case hyd2 => (intro w hSw; (try dsimp only at hSw); go_simp <;> with_reducible rfl)
                  try simp only [Act.put, List.setIfInBounds_toArray, List.set_cons_zero, List.set_cons_succ]
                  refine wpAnyH_take (i := 3) (oi := _) (v := ?vd3) rfl (by kernel_rfl) (by kernel_rfl) (by kernel_rfl) (fun _ _ _ h => h) (Or.inl ⟨by rfl, ?hyd3⟩) (by assumption) ?restd3
                  case hyd3 => (intro w hSw; (try dsimp only at hSw); go_simp <;> with_reducible rfl)
                  try simp only [Act.put, List.setIfInBounds_toArray, List.set_cons_zero, List.set_cons_succ]
                  refine wpAnyH_take (i := 4) (oi := _) (v := ?vd4) rfl (by kernel_rfl) (by kernel_rfl) (by kernel_rfl) (fun _ _ _ h => h) (Or.inl ⟨by rfl, ?hyd4⟩) (by assumption) ?restd4
                  case hyd4 => (intro w hSw; (try dsimp only at hSw); go_simp <;> with_reducible rfl)
                  try simp only [Act.put, List.setIfInBounds_toArray, List.set_cons_zero, List.set_cons_succ]
                  refine wpAnyH_take (i := 5) (oi := _) (v := ?vd5) rfl (by kernel_rfl) (by kernel_rfl) (by kernel_rfl) (fun _ _ _ h => h) (Or.inl ⟨by rfl, ?hyd5⟩) (by assumption) ?restd5
                  case hyd5 => (intro w hSw; (try dsimp only at hSw); go_simp <;> with_reducible rfl)
                  try simp only [Act.put, List.setIfInBounds_toArray, List.set_cons_zero, List.set_cons_succ]
                  refine wpAnyH_take (i := 6) (oi := _) (v := ?vd6) rfl (by kernel_rfl) (by kernel_rfl) (by kernel_rfl) (fun _ _ _ h => h) (Or.inl ⟨by rfl, ?hyd6⟩) (by assumption) ?restd6
                  case hyd6 => (intro w hSw; (try dsimp only at hSw); go_simp <;> with_reducible rfl)
                  try simp only [Act.put, List.setIfInBounds_toArray, List.set_cons_zero, List.set_cons_succ]
                  refine wpAnyH_take (i := 7) (oi := _) (v := ?vd7) rfl (by kernel_rfl) (by kernel_rfl) (by kernel_rfl) (fun _ _ _ h => h) (Or.inl ⟨by rfl, ?hyd7⟩) (by assumption) ?restd7
                  case hyd7 => (intro w hSw; (try dsimp only at hSw); go_simp <;> with_reducible rfl)
                  try simp only [Act.put, List.setIfInBounds_toArray, List.set_cons_zero, List.set_cons_succ]
                  refine wpAnyH_take (i := 8) (oi := _) (v := ?vd8) rfl (by kernel_rfl) (by kernel_rfl) (by kernel_rfl) (fun _ _ _ h => h) (Or.inl ⟨by rfl, ?hyd8⟩) (by assumption) ?restd8
                  case hyd8 => (intro w hSw; (try dsimp only at hSw); go_simp <;> with_reducible rfl)
                  try simp only [Act.put, List.setIfInBounds_toArray, List.set_cons_zero, List.set_cons_succ]
                  refine wpAnyH_take (i := 9) (oi := _) (v := ?vd9) rfl (by kernel_rfl) (by kernel_rfl) (by kernel_rfl) (fun _ _ _ h => h) (Or.inl ⟨by rfl, ?hyd9⟩) (by assumption) ?restd9
                  case hyd9 => (intro w hSw; (try dsimp only at hSw); go_simp <;> with_reducible rfl)
                  try simp only [Act.put, List.setIfInBounds_toArray, List.set_cons_zero, List.set_cons_succ]
                  refine wpAnyH_take (i := 10) (oi := _) (v := ?vd10) rfl (by kernel_rfl) (by kernel_rfl) (by kernel_rfl) (fun _ _ _ h => h) (Or.inl ⟨by rfl, ?hyd10⟩) (by assumption) ?restd10
                  case hyd10 => (intro w hSw; (try dsimp only at hSw); go_simp <;> with_reducible rfl)
                  try simp only [Act.put, List.setIfInBounds_toArray, List.set_cons_zero, List.set_cons_succ]
                  refine wpAnyH_ready (rs := [11]) (by kernel_rfl) (by simp) ?_
                  refine AllReadyH.cons (o := _) rfl (fun K hK => ?_) AllReadyH.nil
                  go_simp
                  refine hK.out _ _ (by assumption) (fun hHeld2 => ?_)
                  clear hK K
                  try simp only [Act.put, List.setIfInBounds_toArray, List.set_cons_zero, List.set_cons_succ]
                  refine wpAnyH_ready (rs := [12]) (by kernel_rfl) (by simp) ?_
                  refine AllReadyH.cons (o := _) rfl (fun K hK => ?_) AllReadyH.nil
                  go_simp
                  (refine (compact_own wd.heap.size lt _ _ (ownsRow_later HO.out ?_) hne1.out hlen1.out).mono ?_; (focus ((repeat (first | with_reducible exact Below.refl _ _ | with_reducible refine Below.drew ?_ | (with_reducible refine Below.alloc ?_ ?_ _))); all_goals (first | exact Nat.le_refl _ | (simp; done)))); rintro e wx ⟨v', rfl, ho', hg, hat⟩; obtain ⟨av', cv', rfl⟩ := own_form ho'; obtain ⟨hcell, hfz, hc', hTab, hgk⟩ := after_push (l' := Lib.compact lt) (by { (repeat (first | with_reducible exact Below.refl _ _ | with_reducible refine Below.drew ?_ | (with_reducible refine Below.alloc ?_ ?_ _))); all_goals (first | exact Nat.le_refl _ | (simp; done)) }) HT2.out hlt hv ho' hg (.inl hat); have y9 := hcell px 9 _ q9 hn1.out; have HTab := Lib.hid hTab; have HGK := Lib.hid hgk; clear hcell hTab hgk ho' hg hat)
                  refine hK.out _ _ (y9) (fun hHeld2 => ?_)
                  clear hK K
                  try simp only [Act.put, List.setIfInBounds_toArray, List.set_cons_zero, List.set_cons_succ]
                  refine wpAnyH_take (i := 13) (oi := _) (v := ?vda13) rfl (by kernel_rfl) (by kernel_rfl) (by kernel_rfl) (fun _ _ _ h => h) (Or.inl ⟨by rfl, ?hyda13⟩) (by assumption) ?restda13
                  case hyda13 => (intro w hSw; (try dsimp only at hSw); go_simp <;> with_reducible rfl)
                  try simp only [Act.put, List.setIfInBounds_toArray, List.set_cons_zero, List.set_cons_succ]
                  refine wpAnyH_ready (rs := [14]) (by kernel_rfl) (by simp) ?_
                  refine AllReadyH.cons (o := _) rfl (fun K hK => ?_) AllReadyH.nil
                  go_simp
                  refine hK.out _ _ ((World.cell?_setCell_other _ _ _ _ (fun h => NT1.out _ h.symm)).trans y9) (fun hHeld2 => ?_)
                  clear hK K
                  try simp only [Act.put, List.setIfInBounds_toArray, List.set_cons_zero, List.set_cons_succ]
                  refine wpAnyH_done (by kernel_rfl) ?_ _
                  go_wp2_with fail
                  refine ⟨⟨k + 1, by omega, by go_num, ?_, ?_⟩, by simp [intOf]; omega⟩
                  · exact (HK2.out.grown HGK.out (fun q e => (HO.out.lt q e).1)).set _ _
                  · refine HTab.out.congr fun u hu => ?_
                    by_cases e : u = k
                    · subst e; rw [upd_same, if_pos (Nat.lt_succ_self _)]; exact HUP1.out
                    · rw [upd_other _ _ e, upd_other _ _ e]
                      by_cases h : u < k
                      · rw [if_pos h, if_pos (by omega)]
                      · rw [if_neg h, if_neg (by omega)]
              · have hkk : k = N2 := by omega
                subst hkk
                go_wp2
                go_ret
                have hb := HBW2.out wr hK
                refine ⟨px, rfl, ⟨⟨i1, e1, i2, e2, l1, l2, c1, d1, c2, d2, k1, k2, TL, TU, hK.px HPX2.out HNE.out.2, H1.out.later hb, H2.out.later hb, H3.out.later hb, H4.out.later hb, H5.out.later hb, H6.out.later hb, (hK.tab HTL.out HP.out.ne.1 hTUc).at, hT.at.congr fun u hu => if_pos hu⟩, HN1.out, HN2.out⟩, hb⟩
end Go.Proofs.Ytciopdlmjciieaa
