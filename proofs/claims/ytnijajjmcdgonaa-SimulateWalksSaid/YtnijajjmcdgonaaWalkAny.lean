import Derived.Test.YtnijajjmcdgonaaWalkErr
import Derived.Test.YtnijajjmcdgonaaWalkV
namespace Go.Proofs.Ytnijajjmcdgonaa
open Go.RowKit
set_option linter.unusedVariables false

/-- The walk that WalkOf answers with. -/
noncomputable def wkRes (g : G) (l : List Int) (seed X : Int) : W3 :=
  if wkErr g l seed X = 0 then ⟨walkFirst g seed, (walkK g l seed (walkFirst g seed) X.toNat).2, decide (sumTo g l (walkK g l seed (walkFirst g seed) X.toNat).1 g.edges.length = 0)⟩ else ⟨0, [], false⟩

theorem wk_fine {g : G} {l : List Int} {seed X : Int} (h : wkErr g l seed X = 0) : isG g = true ∧ wErr l = 0 ∧ seedOk seed = true ∧ (0 ≤ X ∧ X ≤ 300) ∧ g.init.length ≠ 0 := by
  unfold wkErr at h
  by_cases h1 : isG g = false
  · rw [if_pos h1] at h; cases h
  rw [if_neg h1] at h
  by_cases h2 : wErr l ≠ 0
  · rw [if_pos h2] at h; exact absurd h h2
  rw [if_neg h2] at h
  by_cases h3 : seedOk seed = false
  · rw [if_pos h3] at h; cases h
  rw [if_neg h3] at h
  by_cases h4 : between X 0 300 = false
  · rw [if_pos h4] at h; cases h
  rw [if_neg h4] at h
  by_cases h5 : g.init.length = 0
  · rw [if_pos h5] at h; cases h
  exact ⟨by simpa using h1, by simpa using h2, by simpa using h3, by unfold between at h4; simpa using h4, h5⟩

theorem seed_ok {seed : Int} (h : seedOk seed = true) : 1 ≤ seed ∧ seed < 2147483647 := by unfold seedOk at h; simpa using h

theorem wk_parts {g : G} {l : List Int} {seed X : Int} (h : wkErr g l seed X = 0) : Fine g l ∧ (1 ≤ seed ∧ seed < 2147483647) ∧ (0 ≤ X ∧ X ≤ 300) ∧ g.init.length ≠ 0 := by
  obtain ⟨h1, h2, h3, h4, h5⟩ := wk_fine h
  exact ⟨fine_of ((isG_iff g).1 h1) h2, seed_ok h3, h4, h5⟩

/-- WalkOf, for any arguments: the walk or the error. -/
theorem walkOf_any (g : G) (l : List Int) (seed X : Int) (R : W3) (E : Int) (hRE : Hid (R = wkRes g l seed X ∧ E = wkErr g l seed X)) (vg vl : Value) (w : World) (hg : GraphAt w vg g) (hl : IntsAt w vl l) :
    Calls Try.prog 17 #[vg, vl, .agg #[.int .i64 seed, .int .i64 X]] w fun e w' =>
      ∃ v, e = .returned (.tuple #[.agg #[.int .i64 R.first, v, .bool R.stuck], .int .i64 E]) ∧ ownInts w' w.heap.size v R.steps ∧ Below w.heap.size w w' := by
  obtain ⟨hR, hE⟩ := hRE
  by_cases h0 : wkErr g l seed X = 0
  · obtain ⟨hF, hs, hX, hI⟩ := wk_parts h0
    refine (walkOf_ok g l seed X vg vl w hg hl hF hs hX hI).mono ?_
    rintro e w' ⟨v, rfl, h1, h2⟩
    rw [hR, hE, h0]
    unfold wkRes
    rw [if_pos h0]
    exact ⟨v, rfl, h1, h2⟩
  · refine (walkOf_err g l seed X vg vl w hg hl h0).mono ?_
    rintro e w' ⟨rfl, h2⟩
    rw [hR, hE]
    unfold wkRes
    rw [if_neg h0]
    exact ⟨_, rfl, World.ownsRow_nil _ _ _ _, h2⟩
end Go.Proofs.Ytnijajjmcdgonaa
