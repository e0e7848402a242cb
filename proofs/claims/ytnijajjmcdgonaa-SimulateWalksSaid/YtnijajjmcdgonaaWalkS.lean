import Derived.Test.YtnijajjmcdgonaaWalkO
namespace Go.Proofs.Ytnijajjmcdgonaa
open Go.RowKit
set_option linter.unusedVariables false

theorem ints_form {w : World} {v : Value} {l : List Int} (h : IntsAt w v l) : ∃ a c, v = .slice a l.length c := by
  obtain ⟨a, c, rfl, -, -⟩ := h
  exact ⟨a, c, rfl⟩

set_option maxHeartbeats 2000000 in
set_option maxRecDepth 100000 in
theorem awake_true : AwakeSaid := by
  intro w
  go_enter Try.func10, Try.ntmps10
  go_wp2_with fail
  refine (numbersOf_ok 1 2 _ ⟨by decide, by decide⟩ ⟨by decide, by decide⟩).mono ?_
  rintro e w1 ⟨v1, rfl, ho1, hb1⟩
  have i1 : IntsAt w1 v1 [48271, 182605794] := by have := IntsAt.of_own ho1; rwa [show (2 : Int).toNat = 2 from rfl, nums_ex] at this
  clear ho1
  go_wp2_with fail
  refine (example_any _).mono ?_
  rintro e w2 ⟨vg, rfl, hg2, hb2⟩
  go_wp2_with fail
  refine (equal_any _).mono ?_
  rintro e w3 ⟨vl, rfl, hl3, hb3⟩
  go_wp2_with fail
  refine (walkOf_ex1 _ _ _ (hg2.later hb3) (IntsAt.of_own hl3)).mono ?_
  rintro e w4 ⟨vx, rfl, ix, hb4⟩
  have b14 : Below w1.heap.size w1 w4 := hb2.trans ((hb3.mono hb2.size).trans (hb4.mono (Nat.le_trans hb2.size hb3.size)))
  replace i1 := i1.later b14
  have hb : Below w.heap.size w w4 := hb1.trans (b14.mono hb1.size)
  clear hb1 hb2 hb3 hb4 b14 hg2 hl3
  obtain ⟨ax, cx, rfl⟩ := ints_form ix
  go_wp2_with fail
  have hbX : Below w4.heap.size w4 (w4.alloc (Obj.cells #[.int .i64 0, .slice ax 2 cx, .bool false] 39)) := (Below.refl _ _).alloc (Nat.le_refl _) _
  have x1 : (w4.alloc (Obj.cells #[.int .i64 0, .slice ax 2 cx, .bool false] 39)).cell? ⟨w4.heap.size, 1, none⟩ = some (.slice ax 2 cx) := World.cell?_alloc_at _ _ _ _ rfl
  have x2 : (w4.alloc (Obj.cells #[.int .i64 0, .slice ax 2 cx, .bool false] 39)).cell? ⟨w4.heap.size, 2, none⟩ = some (.bool false) := World.cell?_alloc_at _ _ _ _ rfl
  replace i1 := i1.later hbX
  replace ix := ix.later hbX
  replace hb := hb.trans (hbX.mono hb.size)
  clear hbX
  generalize (w4.alloc (Obj.cells #[.int .i64 0, .slice ax 2 cx, .bool false] 39)) = w5 at *
  generalize w4.heap.size = px at *
  refine (equal_any _).mono ?_
  rintro e w6 ⟨vl, rfl, hl6, hb6⟩
  obtain ⟨g, cg, rfl, hg1, hg2, hg3, hg4, hg5⟩ := own_head (a := 1) (l := ones 11) hl6
  have hsx : px < w5.heap.size := cell_lt x1
  have hb7 : Below w5.heap.size w5 (w6.setCell ⟨g, 0, none⟩ (.int .i64 0)) := hb6.setCell hg1 _
  have hl7 := hg5 0
  have hg4' := hg4
  go_wp2_with fail
  clear hg5 hg3 hg4 hg4' hl6 hb6
  replace i1 := i1.later hb7
  replace ix := ix.later hb7
  replace x1 := Below.keeps hb7 x1 (Nat.le_refl _)
  replace x2 := Below.keeps hb7 x2 (Nat.le_refl _)
  replace hb := hb.trans (hb7.mono hb.size)
  clear hb7 hg2
  generalize (w6.setCell ⟨g, 0, none⟩ (.int .i64 0)) = w7 at *
  refine (example_any _).mono ?_
  rintro e w8 ⟨vg, rfl, hg8, hb8⟩
  go_wp2_with fail
  refine (walkOf_ex0 _ _ _ hg8 (hl7.later hb8)).mono ?_
  rintro e w9 ⟨vy, rfl, iy, hb9⟩
  obtain ⟨ay, cy, rfl⟩ := ints_form iy
  have b79 : Below w7.heap.size w7 w9 := hb8.trans (hb9.mono hb8.size)
  replace i1 := i1.later b79
  replace ix := ix.later b79
  replace x1 := Below.keeps b79 x1 (Nat.le_refl _)
  replace x2 := Below.keeps b79 x2 (Nat.le_refl _)
  replace hb := hb.trans (b79.mono hb.size)
  clear hb8 hb9 b79 hl7 hg8
  go_wp2_with fail
  have hbX : Below w9.heap.size w9 (w9.alloc (Obj.cells #[.int .i64 0, .slice ay 1 cy, .bool true] 39)) := (Below.refl _ _).alloc (Nat.le_refl _) _
  have y1 : (w9.alloc (Obj.cells #[.int .i64 0, .slice ay 1 cy, .bool true] 39)).cell? ⟨w9.heap.size, 1, none⟩ = some (.slice ay 1 cy) := World.cell?_alloc_at _ _ _ _ rfl
  have y2 : (w9.alloc (Obj.cells #[.int .i64 0, .slice ay 1 cy, .bool true] 39)).cell? ⟨w9.heap.size, 2, none⟩ = some (.bool true) := World.cell?_alloc_at _ _ _ _ rfl
  replace i1 := i1.later hbX
  replace ix := ix.later hbX
  replace iy := iy.later hbX
  replace x1 := Below.keeps hbX x1 (Nat.le_refl _)
  replace x2 := Below.keeps hbX x2 (Nat.le_refl _)
  replace hb := hb.trans (hbX.mono hb.size)
  clear hbX
  generalize (w9.alloc (Obj.cells #[.int .i64 0, .slice ay 1 cy, .bool true] 39)) = wA at *
  generalize w9.heap.size = py at *
  refine (example_any _).mono ?_
  rintro e wB ⟨vg, rfl, hgB, hbB⟩
  go_wp2_with fail
  refine (distancesIn_ex _ _ hgB).mono ?_
  rintro e wC ⟨vd, rfl, id, hbC⟩
  go_wp2_with fail
  refine (example_any _).mono ?_
  rintro e wD ⟨vg, rfl, hgD, hbD⟩
  go_wp2_with fail
  refine (leastWalk_ex _ _ hgD).mono ?_
  rintro e wE ⟨vz, rfl, iz, hbE⟩
  obtain ⟨az, cz, rfl⟩ := ints_form iz
  have bCE : Below wC.heap.size wC wE := hbD.trans (hbE.mono hbD.size)
  have bAC : Below wA.heap.size wA wC := hbB.trans (hbC.mono hbB.size)
  have bAE : Below wA.heap.size wA wE := bAC.trans (bCE.mono bAC.size)
  replace id := id.later bCE
  replace i1 := i1.later bAE
  replace ix := ix.later bAE
  replace iy := iy.later bAE
  replace x1 := Below.keeps bAE x1 (Nat.le_refl _)
  replace x2 := Below.keeps bAE x2 (Nat.le_refl _)
  replace y1 := Below.keeps bAE y1 (Nat.le_refl _)
  replace y2 := Below.keeps bAE y2 (Nat.le_refl _)
  replace hb := hb.trans (bAE.mono hb.size)
  clear bCE bAC bAE hbB hbC hbD hbE hgB hgD
  go_wp2_with fail
  have hbX : Below wE.heap.size wE (wE.alloc (Obj.cells #[.int .i64 0, .slice az 1 cz, .bool false] 39)) := (Below.refl _ _).alloc (Nat.le_refl _) _
  have z1 : (wE.alloc (Obj.cells #[.int .i64 0, .slice az 1 cz, .bool false] 39)).cell? ⟨wE.heap.size, 1, none⟩ = some (.slice az 1 cz) := World.cell?_alloc_at _ _ _ _ rfl
  have hsE : wE.heap.size + 1 = (wE.alloc (Obj.cells #[.int .i64 0, .slice az 1 cz, .bool false] 39)).heap.size := by simp
  replace id := id.later hbX
  replace i1 := i1.later hbX
  replace ix := ix.later hbX
  replace iy := iy.later hbX
  replace iz := iz.later hbX
  replace x1 := Below.keeps hbX x1 (Nat.le_refl _)
  replace x2 := Below.keeps hbX x2 (Nat.le_refl _)
  replace y1 := Below.keeps hbX y1 (Nat.le_refl _)
  replace y2 := Below.keeps hbX y2 (Nat.le_refl _)
  replace hb := hb.trans (hbX.mono hb.size)
  clear hbX
  generalize (wE.alloc (Obj.cells #[.int .i64 0, .slice az 1 cz, .bool false] 39)) = wF at *
  generalize wE.heap.size = pz at *
  have hbL := (Below.refl wF.heap.size wF).alloc (Nat.le_refl _) (Obj.cells #[.int .i64 48271, .int .i64 182605794] 3)
  refine (equal_yes _ _ _ _ (i1.later hbL) (lit2 wF _ _ _ _ hsE)).mono ?_
  rintro e wG ⟨rfl, hbG⟩
  have bFG : Below wF.heap.size wF wG := hbL.trans (hbG.mono (by simp))
  clear hsE hbL hbG i1
  replace id := id.later bFG
  replace ix := ix.later bFG
  replace iy := iy.later bFG
  replace iz := iz.later bFG
  replace x1 := Below.keeps bFG x1 (Nat.le_refl _)
  replace x2 := Below.keeps bFG x2 (Nat.le_refl _)
  replace y1 := Below.keeps bFG y1 (Nat.le_refl _)
  replace y2 := Below.keeps bFG y2 (Nat.le_refl _)
  replace z1 := Below.keeps bFG z1 (Nat.le_refl _)
  replace hb := hb.trans (bFG.mono hb.size)
  clear bFG
  go_wp2_with fail
  have hbL := (Below.refl wG.heap.size wG).alloc (Nat.le_refl _) (Obj.cells #[.int .i64 0, .int .i64 2] 3)
  refine (equal_yes _ _ _ _ (ix.later hbL) (lit2 wG _ _ _ _ rfl)).mono ?_
  rintro e wH ⟨rfl, hbH⟩
  have bGH : Below wG.heap.size wG wH := hbL.trans (hbH.mono (by simp))
  clear hbL hbH ix x1
  replace id := id.later bGH
  replace iy := iy.later bGH
  replace iz := iz.later bGH
  replace x2 := Below.keeps bGH x2 (Nat.le_refl _)
  replace y1 := Below.keeps bGH y1 (Nat.le_refl _)
  replace y2 := Below.keeps bGH y2 (Nat.le_refl _)
  replace z1 := Below.keeps bGH z1 (Nat.le_refl _)
  replace hb := hb.trans (bGH.mono hb.size)
  clear bGH
  go_wp2_with fail
  have hbL := (Below.refl wH.heap.size wH).alloc (Nat.le_refl _) (Obj.cells #[.int .i64 1] 3)
  refine (equal_yes _ _ _ _ (iy.later hbL) (lit1 wH _ _ _ rfl)).mono ?_
  rintro e wI ⟨rfl, hbI⟩
  have bHI : Below wH.heap.size wH wI := hbL.trans (hbI.mono (by simp))
  clear hbL hbI iy y1 x2
  replace id := id.later bHI
  replace iz := iz.later bHI
  replace y2 := Below.keeps bHI y2 (Nat.le_refl _)
  replace z1 := Below.keeps bHI z1 (Nat.le_refl _)
  replace hb := hb.trans (bHI.mono hb.size)
  clear bHI
  go_wp2_with fail
  have hbL := (Below.refl wI.heap.size wI).alloc (Nat.le_refl _) (Obj.cells #[.int .i64 0, .int .i64 1, .int .i64 1] 3)
  refine (equal_yes _ _ _ _ (id.later hbL) (lit3 wI _ _ _ _ _ rfl)).mono ?_
  rintro e wJ ⟨rfl, hbJ⟩
  have bIJ : Below wI.heap.size wI wJ := hbL.trans (hbJ.mono (by simp))
  clear hbL hbJ id y2
  replace iz := iz.later bIJ
  replace z1 := Below.keeps bIJ z1 (Nat.le_refl _)
  replace hb := hb.trans (bIJ.mono hb.size)
  clear bIJ
  go_wp2_with fail
  have hbL := (Below.refl wJ.heap.size wJ).alloc (Nat.le_refl _) (Obj.cells #[.int .i64 1] 3)
  refine (equal_yes _ _ _ _ (iz.later hbL) (lit1 wJ _ _ _ rfl)).mono ?_
  rintro e wK ⟨rfl, hbK⟩
  have bJK : Below wJ.heap.size wJ wK := hbL.trans (hbK.mono (by simp))
  replace hb := hb.trans (bJK.mono hb.size)
  clear hbL hbK bJK iz z1
  go_wp2
  go_ret
  exact ⟨rfl, hb⟩
end Go.Proofs.Ytnijajjmcdgonaa
