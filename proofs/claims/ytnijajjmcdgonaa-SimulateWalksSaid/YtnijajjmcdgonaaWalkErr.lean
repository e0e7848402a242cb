import Derived.Test.YtnijajjmcdgonaaMathC
import Derived.Test.YtnijajjmcdgonaaWalkC
namespace Go.Proofs.Ytnijajjmcdgonaa
open Go.RowKit
set_option linter.unusedVariables false

/-- The error of a graph, weights and a seed. -/
noncomputable def wkErr (g : G) (l : List Int) (seed X : Int) : Int :=
  if isG g = false then 5 else if wErr l ≠ 0 then wErr l else if seedOk seed = false then 3 else if between X 0 300 = false then 2 else if g.init.length = 0 then 1 else 0

set_option maxHeartbeats 3000000 in
set_option maxRecDepth 100000 in
theorem walkOf_err (g : G) (l : List Int) (seed X : Int) (vg vl : Value) (w : World) (hg : GraphAt w vg g) (hl : IntsAt w vl l) (hE : wkErr g l seed X ≠ 0) :
    Calls Try.prog 17 #[vg, vl, .agg #[.int .i64 seed, .int .i64 X]] w fun e w' =>
      e = .returned (.tuple #[.agg #[.int .i64 0, .slice none 0 0, .bool false], .int .i64 (wkErr g l seed X)]) ∧ Below w.heap.size w w' := by
  have hg' := hg
  have hl' := hl
  obtain ⟨vi, ve, rfl, ⟨ai, ci, rfl, hmi, hci⟩, ⟨ae, ce, rfl, hme, hce⟩⟩ := hg
  obtain ⟨al, cl, rfl, hml, hcl⟩ := hl
  have hfin : ∀ c, wkErr g l seed X = c → Hid (Ending.returned (.tuple #[.agg #[.int .i64 0, .slice none 0 0, .bool false], .int .i64 c]) = .returned (.tuple #[.agg #[.int .i64 0, .slice none 0 0, .bool false], .int .i64 (wkErr g l seed X)])) := fun c h => by unfold Hid; rw [h]
  have HE := Lib.hid hE
  clear hE hci hce hcl
  unfold maxLen at hmi hme hml
  go_enter Try.func17, Try.ntmps17
  go_wp2_with fail
  have hb0 : Below w.heap.size w (((w.alloc (Obj.cells #[Value.int IntKind.i64 g.n, Value.slice ai g.init.length ci, Value.slice ae g.edges.length ce] 34)).alloc (Obj.cells #[Value.int IntKind.i64 seed, Value.int IntKind.i64 X] 36)).alloc (Obj.cells #[Value.int IntKind.i64 0, Value.slice none 0 0, Value.bool false] 39)) := (((Below.refl _ _).alloc (Nat.le_refl _) _).alloc (by simp) _).alloc (by simp; omega) _
  refine (checkGraph_any g _ _ (hg'.later hb0)).mono ?_
  rintro e w1 ⟨rfl, hb1⟩
  have g1 : w1.cell? ⟨w.heap.size, 1, none⟩ = some (.slice ai g.init.length ci) := Below.keeps hb1 (by rw [World.cell?_alloc_past _ _ _ (by simp; omega), World.cell?_alloc_past _ _ _ (by simp), World.cell?_alloc_at _ _ _ _ rfl]; rfl) (by simp)
  have x0 : w1.cell? ⟨w.heap.size + 1, 0, none⟩ = some (.int .i64 seed) := Below.keeps hb1 (by rw [World.cell?_alloc_past _ _ _ (by simp), World.cell?_alloc_at _ _ _ _ (by simp)]; rfl) (by simp)
  have x1 : w1.cell? ⟨w.heap.size + 1, 1, none⟩ = some (.int .i64 X) := Below.keeps hb1 (by rw [World.cell?_alloc_past _ _ _ (by simp), World.cell?_alloc_at _ _ _ _ (by simp)]; rfl) (by simp)
  have r0 : w1.cell? ⟨w.heap.size + 1 + 1, 0, none⟩ = some (.int .i64 0) := Below.keeps hb1 (by rw [World.cell?_alloc_at _ _ _ _ (by simp)]; rfl) (by simp)
  have r1 : w1.cell? ⟨w.heap.size + 1 + 1, 1, none⟩ = some (.slice none 0 0) := Below.keeps hb1 (by rw [World.cell?_alloc_at _ _ _ _ (by simp)]; rfl) (by simp)
  have r2 : w1.cell? ⟨w.heap.size + 1 + 1, 2, none⟩ = some (.bool false) := Below.keeps hb1 (by rw [World.cell?_alloc_at _ _ _ _ (by simp)]; rfl) (by simp)
  have rf : ∀ i, w1.frozen? ⟨w.heap.size + 1 + 1, i, none⟩ = false := fun i => Below.keepsF hb1 (World.frozen?_alloc_at _ _ _ _ (by simp)) (by simp)
  have f0 := rf 0
  have f1 := rf 1
  have f2 := rf 2
  have hbw := hb0.trans (hb1.mono hb0.size)
  have hl1 := hl'.later hbw
  clear hb0 hb1 rf hg' hl'
  have hend : ∀ c, wkErr g l seed X = c → Hid (Ending.returned (.tuple #[.agg #[.int .i64 0, .slice none 0 0, .bool false], .int .i64 c]) = .returned (.tuple #[.agg #[.int .i64 0, .slice none 0 0, .bool false], .int .i64 (wkErr g l seed X)])) := hfin
  clear hfin
  cases hi : isG g
  · have HX := hend 5 (by unfold wkErr; rw [if_pos hi])
    have hge : gErr g = 5 := by rw [gErr_isG, if_neg (by simp [hi])]
    rw [hge]
    clear hge hi hend
    go_wp2
    refine bodyPost_ret (v := .tuple #[.agg #[.int .i64 0, .slice none 0 0, .bool false], .int .i64 5]) (by simp [results, Try.results17, go_sem, r0, r1, r2]) rfl ⟨HX.out, ?_⟩
    repeat (first | with_reducible exact hbw | (with_reducible refine Below.setCell ?_ ?_ _; rotate_left; (focus (show w.heap.size ≤ w.heap.size + 1 + 1; omega))))
  have hge : gErr g = 0 := by rw [gErr_isG, if_pos hi]
  rw [hge]
  clear hge
  have HI := Lib.hid hi; clear hi
  go_wp2_with fail
  refine (checkWeights_any l _ _ hl1).mono ?_
  rintro e w2 ⟨rfl, rfl⟩
  by_cases hw : wErr l = 0
  · rw [hw]
    have HW := Lib.hid hw; clear hw
    go_wp2_with fail
    refine (isSeed_any seed _).mono ?_
    rintro e w3 ⟨rfl, rfl⟩
    cases hs : seedOk seed
    · have HX := hend 3 (by unfold wkErr; rw [if_neg (by simp [HI.out]), if_neg (by simp [HW.out]), if_pos hs])
      clear hs hend
      go_wp2
      refine bodyPost_ret (v := .tuple #[.agg #[.int .i64 0, .slice none 0 0, .bool false], .int .i64 3]) (by simp [results, Try.results17, go_sem, r0, r1, r2]) rfl ⟨HX.out, ?_⟩
      repeat (first | with_reducible exact hbw | (with_reducible refine Below.setCell ?_ ?_ _; rotate_left; (focus (show w.heap.size ≤ w.heap.size + 1 + 1; omega))))
    have HS := Lib.hid hs; clear hs
    by_cases hX : 0 ≤ X ∧ X ≤ 300
    · have hbt : between X 0 300 = true := by unfold between; exact decide_eq_true hX
      have hI0 : g.init.length = 0 := by
        by_cases h : g.init.length = 0
        · exact h
        · exact absurd (by unfold wkErr; rw [if_neg (by simp [HI.out]), if_neg (by simp [HW.out]), if_neg (by simp [HS.out]), if_neg (by simp [hbt]), if_neg h]) HE.out
      have HX := hend 1 (by unfold wkErr; rw [if_neg (by simp [HI.out]), if_neg (by simp [HW.out]), if_neg (by simp [HS.out]), if_neg (by simp [hbt]), if_pos hI0])
      have hne : ((g.init.length : Int) == 0) = true := by rw [hI0]; rfl
      have hd1 : decide (X < 0) = false := decide_eq_false (by omega)
      have hd2 : decide (300 < X) = false := decide_eq_false (by omega)
      obtain ⟨hX1, hX2⟩ := hX
      clear hbt hI0 hend
      go_wp2
      refine bodyPost_ret (v := .tuple #[.agg #[.int .i64 0, .slice none 0 0, .bool false], .int .i64 1]) (by simp [results, Try.results17, go_sem, r0, r1, r2]) rfl ⟨HX.out, ?_⟩
      repeat (first | with_reducible exact hbw | (with_reducible refine Below.setCell ?_ ?_ _; rotate_left; (focus (show w.heap.size ≤ w.heap.size + 1 + 1; omega))))
    · have hbt : between X 0 300 = false := by unfold between; exact decide_eq_false hX
      have HX := hend 2 (by unfold wkErr; rw [if_neg (by simp [HI.out]), if_neg (by simp [HW.out]), if_neg (by simp [HS.out]), if_pos hbt])
      clear hbt hend
      have h2 : X < 0 ∨ 300 < X := by omega
      clear hX
      rcases h2 with h2 | h2
      · have hd1 : decide (X < 0) = true := decide_eq_true h2
        go_wp2
        refine bodyPost_ret (v := .tuple #[.agg #[.int .i64 0, .slice none 0 0, .bool false], .int .i64 2]) (by simp [results, Try.results17, go_sem, r0, r1, r2]) rfl ⟨HX.out, ?_⟩
        repeat (first | with_reducible exact hbw | (with_reducible refine Below.setCell ?_ ?_ _; rotate_left; (focus (show w.heap.size ≤ w.heap.size + 1 + 1; omega))))
      · have hd1 : decide (X < 0) = false := decide_eq_false (by omega)
        have hd2 : decide (300 < X) = true := decide_eq_true h2
        go_wp2
        refine bodyPost_ret (v := .tuple #[.agg #[.int .i64 0, .slice none 0 0, .bool false], .int .i64 2]) (by simp [results, Try.results17, go_sem, r0, r1, r2]) rfl ⟨HX.out, ?_⟩
        repeat (first | with_reducible exact hbw | (with_reducible refine Below.setCell ?_ ?_ _; rotate_left; (focus (show w.heap.size ≤ w.heap.size + 1 + 1; omega))))
  · have HX := hend (wErr l) (by unfold wkErr; rw [if_neg (by simp [HI.out]), if_pos hw])
    have hne : (wErr l != 0) = true := by simpa using hw
    clear hw hend
    go_wp2
    refine bodyPost_ret (v := .tuple #[.agg #[.int .i64 0, .slice none 0 0, .bool false], .int .i64 (wErr l)]) (by simp [results, Try.results17, go_sem, r0, r1, r2]) rfl ⟨HX.out, ?_⟩
    repeat (first | with_reducible exact hbw | (with_reducible refine Below.setCell ?_ ?_ _; rotate_left; (focus (show w.heap.size ≤ w.heap.size + 1 + 1; omega))))

/-- Two walks that are the same. -/
theorem same_yes (x : W3) (va vb : Value) (w : World) (ha : WalkAt w va x) (hb : WalkAt w vb x) :
    Calls Try.prog 22 #[va, vb] w fun e w' => e = .returned (.bool true) ∧ Below w.heap.size w w' := by
  obtain ⟨vs, rfl, hs⟩ := ha
  obtain ⟨vt, rfl, ht⟩ := hb
  obtain ⟨a, c, rfl⟩ : ∃ a c, vs = .slice a x.steps.length c := by obtain ⟨a, c, rfl, -, -⟩ := hs; exact ⟨a, c, rfl⟩
  obtain ⟨b, d, rfl⟩ : ∃ a c, vt = .slice a x.steps.length c := by obtain ⟨a, c, rfl, -, -⟩ := ht; exact ⟨a, c, rfl⟩
  have he1 : (x.first == x.first) = true := by simp
  have he2 : (x.stuck == x.stuck) = true := by simp
  go_enter Try.func22, Try.ntmps22
  go_wp2_with fail
  have hb0 : Below w.heap.size w ((w.alloc (Obj.cells #[Value.int IntKind.i64 x.first, Value.slice a x.steps.length c, Value.bool x.stuck] 39)).alloc (Obj.cells #[Value.int IntKind.i64 x.first, Value.slice b x.steps.length d, Value.bool x.stuck] 39)) := ((Below.refl _ _).alloc (Nat.le_refl _) _).alloc (by simp) _
  refine (equalInts_any _ _ x.steps x.steps _ (hs.later hb0) (ht.later hb0)).mono ?_
  rw [decide_eq_true rfl]
  rintro e w1 ⟨rfl, n, rfl⟩
  go_wp2
  go_ret
  exact ⟨rfl, below_drewN hb0 n⟩
end Go.Proofs.Ytnijajjmcdgonaa
