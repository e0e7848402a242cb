import Derived.Test.YtnijajjmcdgonaaWalkM
namespace Go.Proofs.Ytnijajjmcdgonaa
open Go.RowKit
set_option linter.unusedVariables false

set_option maxHeartbeats 800000 in
set_option maxRecDepth 100000 in
theorem leastWalk_ex (v : Value) (w : World) (hg : GraphAt w v exG) :
    Calls Try.prog 35 #[v, .int .i64 2] w fun e w' => ∃ v', e = .returned (.tuple #[.agg #[.int .i64 0, v', .bool false], .int .i64 0]) ∧ IntsAt w' v' [1] ∧ Below w.heap.size w w' := by
  have hg' := hg
  obtain ⟨vi, ve, rfl, hvi, -⟩ := hg
  have hn : exG.n = 3 := rfl
  rw [hn] at *
  go_enter Try.func35, Try.ntmps35
  go_wp2_with fail
  have hb0 : Below w.heap.size w (((w.alloc (Obj.cells #[.int .i64 3, vi, ve] 34)).alloc (Obj.cells #[.int .i64 2] 3)).alloc (Obj.cells #[.int .i64 0, .slice none 0 0, .bool false] 39)) := (((Below.refl _ _).alloc (Nat.le_refl _) _).alloc (by simp) _).alloc (by simp; omega) _
  refine (checkGraph_any exG _ _ (hg'.later hb0)).mono ?_
  rw [exG_err]
  rintro e w1 ⟨rfl, hb1⟩
  have c0 : w1.cell? ⟨w.heap.size, 0, none⟩ = some (.int .i64 3) := Below.keeps hb1 (by rw [World.cell?_alloc_past _ _ _ (by simp; omega), World.cell?_alloc_past _ _ _ (by simp), World.cell?_alloc_at _ _ _ _ rfl]; rfl) (by simp)
  have c1 : w1.cell? ⟨w.heap.size, 1, none⟩ = some vi := Below.keeps hb1 (by rw [World.cell?_alloc_past _ _ _ (by simp; omega), World.cell?_alloc_past _ _ _ (by simp), World.cell?_alloc_at _ _ _ _ rfl]; rfl) (by simp)
  have c2 : w1.cell? ⟨w.heap.size, 2, none⟩ = some ve := Below.keeps hb1 (by rw [World.cell?_alloc_past _ _ _ (by simp; omega), World.cell?_alloc_past _ _ _ (by simp), World.cell?_alloc_at _ _ _ _ rfl]; rfl) (by simp)
  have t0 : w1.cell? ⟨w.heap.size + 1, 0, none⟩ = some (.int .i64 2) := Below.keeps hb1 (by rw [World.cell?_alloc_past _ _ _ (by simp), World.cell?_alloc_at _ _ _ _ (by simp)]; rfl) (by simp)
  have r0 : w1.cell? ⟨w.heap.size + 1 + 1, 0, none⟩ = some (.int .i64 0) := Below.keeps hb1 (by rw [World.cell?_alloc_at _ _ _ _ (by simp)]; rfl) (by simp)
  have r1 : w1.cell? ⟨w.heap.size + 1 + 1, 1, none⟩ = some (.slice none 0 0) := Below.keeps hb1 (by rw [World.cell?_alloc_at _ _ _ _ (by simp)]; rfl) (by simp)
  have r2 : w1.cell? ⟨w.heap.size + 1 + 1, 2, none⟩ = some (.bool false) := Below.keeps hb1 (by rw [World.cell?_alloc_at _ _ _ _ (by simp)]; rfl) (by simp)
  have rf : ∀ i, w1.frozen? ⟨w.heap.size + 1 + 1, i, none⟩ = false := fun i => Below.keepsF hb1 (World.frozen?_alloc_at _ _ _ _ (by simp)) (by simp)
  have hbw : Below w.heap.size w w1 := hb0.trans (hb1.mono (by simp; omega))
  have hsz : w.heap.size + 1 + 1 < w1.heap.size := cell_lt r0
  clear hb0 hb1
  have hd1 : decide ((2 : Int) < 0) = false := rfl
  have hd2 : decide ((3 : Int) ≤ 2) = false := rfl
  go_wp2_with fail
  refine (least_ex _ _ (w.heap.size + 1) _ (hg'.later hbw) (hvi.later hbw) t0).mono ?_
  rintro e w2 ⟨v', rfl, hv, hb3⟩
  obtain ⟨g, c', rfl, hg1, hgc⟩ := hv
  have hb4 : Below w2.heap.size w2 (w2.alloc (Obj.cells #[.int .i64 0, .slice (some ⟨g, 0, none⟩) 1 c', .bool false] 39)) := (Below.refl _ _).alloc (Nat.le_refl _) _
  have hb5 : Below w1.heap.size w1 (w2.alloc (Obj.cells #[.int .i64 0, .slice (some ⟨g, 0, none⟩) 1 c', .bool false] 39)) := hb3.trans (hb4.mono hb3.size)
  have q0 := Below.keeps hb5 r0 (Nat.le_refl _)
  have q1 := Below.keeps hb5 r1 (Nat.le_refl _)
  have q2 := Below.keeps hb5 r2 (Nat.le_refl _)
  have qf0 := Below.keepsF hb5 (rf 0) (by show w.heap.size + 1 + 1 < w1.heap.size; omega)
  have qf1 := Below.keepsF hb5 (rf 1) (by show w.heap.size + 1 + 1 < w1.heap.size; omega)
  have qf2 := Below.keepsF hb5 (rf 2) (by show w.heap.size + 1 + 1 < w1.heap.size; omega)
  have hiv := Below.keeps hb4 hgc (Nat.le_refl _)
  have hbw5 := hbw.trans (hb5.mono hbw.size)
  have hs12 := hb3.size
  clear r0 r1 r2 rf c0 c1 c2 t0 hb3 hb4 hgc
  go_wp2_with fail
  have y0 : (w2.alloc (Obj.cells #[.int .i64 0, .slice (some ⟨g, 0, none⟩) 1 c', .bool false] 39)).cell? ⟨w2.heap.size, 0, none⟩ = some (.int .i64 0) := World.cell?_alloc_at _ _ _ _ rfl
  generalize (w2.alloc (Obj.cells #[.int .i64 0, .slice (some ⟨g, 0, none⟩) 1 c', .bool false] 39)) = w3 at *
  refine bodyPost_ret (v := .tuple #[.agg #[.int .i64 0, .slice (some ⟨g, 0, none⟩) 1 c', .bool false], .int .i64 0]) (by simp [results, Try.results35, go_sem, q0, q1, q2]) rfl ⟨_, rfl, ?_, ?_⟩
  · refine ⟨_, _, rfl, by decide, fun j hj => ?_⟩
    have : j = 0 := by simp at hj; omega
    subst this
    exact ⟨g, 0, rfl, (World.cell?_setCell_other _ _ _ _ (by intro h; injection h with h1; omega)).trans ((World.cell?_setCell_other _ _ _ _ (by intro h; injection h with h1; omega)).trans ((World.cell?_setCell_other _ _ _ _ (by intro h; injection h with h1; omega)).trans hiv))⟩
  · exact ((hbw5.setCell (by show w.heap.size ≤ w.heap.size + 1 + 1; omega) _).setCell (by show w.heap.size ≤ w.heap.size + 1 + 1; omega) _).setCell (by show w.heap.size ≤ w.heap.size + 1 + 1; omega) _
end Go.Proofs.Ytnijajjmcdgonaa
