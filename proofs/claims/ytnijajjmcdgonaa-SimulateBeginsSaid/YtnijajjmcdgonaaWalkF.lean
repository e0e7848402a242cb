import Derived.Test.YtnijajjmcdgonaaWalkE
namespace Go.Proofs.Ytnijajjmcdgonaa
open Go.RowKit
set_option linter.unusedVariables false

/-- The error of a graph. -/
noncomputable def gErr (g : G) : Int := if wGraph g = true ∧ g.n ≤ 400 then 0 else 5

set_option maxHeartbeats 400000 in
theorem checkGraph_any (g : G) (v : Value) (w : World) (hg : GraphAt w v g) :
    Calls Try.prog 43 #[v] w fun e w' => e = .returned (.int .i64 (gErr g)) ∧ Below w.heap.size w w' := by
  have hg' := hg
  obtain ⟨vi, ve, rfl, -, -⟩ := hg
  have hfin : ∀ r, (if wGraph g = true ∧ g.n ≤ 400 then (0 : Int) else 5) = r → r = gErr g := fun r h => by rw [← h]; rfl
  cases hw : wGraph g
  · have HX := Lib.hid (hfin 5 (by rw [if_neg (by simp [hw])]))
    have HW := Lib.hid hw; clear hw hfin
    go_enter Try.func43, Try.ntmps43
    go_wp2_with fail
    refine (walksGraph_any g _ _ (hg'.later ((Below.refl _ _).alloc (Nat.le_refl _) _))).mono ?_
    rw [HW.out]
    rintro e w1 ⟨rfl, hb1⟩
    have hb2 : Below w.heap.size w w1 := ((Below.refl _ _).alloc (Nat.le_refl _) _).trans (hb1.mono (by simp))
    clear hb1
    go_wp2
    go_ret
    exact ⟨ret_int HX.out, hb2⟩
  · have HW := Lib.hid hw
    obtain ⟨r, HX, hr⟩ : ∃ r, Hid (r = gErr g) ∧ ((g.n ≤ 400 ∧ r = 0) ∨ (¬ g.n ≤ 400 ∧ r = 5)) := by
      by_cases h4 : g.n ≤ 400
      · exact ⟨0, Lib.hid (hfin 0 (by rw [if_pos ⟨hw, h4⟩])), .inl ⟨h4, rfl⟩⟩
      · exact ⟨5, Lib.hid (hfin 5 (by rw [if_neg (fun h => h4 h.2)])), .inr ⟨h4, rfl⟩⟩
    clear hw hfin
    rcases hr with ⟨h4, rfl⟩ | ⟨h4, rfl⟩
    all_goals
      go_enter Try.func43, Try.ntmps43
      go_wp2_with fail
      refine (walksGraph_any g _ _ (hg'.later ((Below.refl _ _).alloc (Nat.le_refl _) _))).mono ?_
      rw [HW.out]
      rintro e w1 ⟨rfl, hb1⟩
      have hc : w1.cell? ⟨w.heap.size, 0, none⟩ = some (.int .i64 g.n) := Below.keeps hb1 (World.cell?_alloc_at _ _ _ _ rfl) (by simp)
      have hb2 : Below w.heap.size w w1 := ((Below.refl _ _).alloc (Nat.le_refl _) _).trans (hb1.mono (by simp))
      clear hb1
      go_wp2
      go_ret
      exact ⟨ret_int HX.out, hb2⟩

/-- Is a weight one. -/
def wtOk (x : Int) : Prop := 0 ≤ x ∧ x ≤ 100
instance : DecidablePred wtOk := fun x => inferInstanceAs (Decidable (0 ≤ x ∧ x ≤ 100))
def wErr (l : List Int) : Int := if l.length ≠ 12 then 6 else if ∀ k, k < l.length → wtOk (gi l k) then 0 else 3

set_option maxHeartbeats 800000 in
set_option maxRecDepth 100000 in
theorem indexFunc_any (l : List Int) (v : Value) (w : World) (hl : IntsAt w v l) :
    Calls Try.prog 63 #[v, .func (.func 57) #[] #[]] w fun e w' =>
      ∃ r : Int, e = .returned (.int .i64 r) ∧ -1 ≤ r ∧ (r < 0 ↔ ∀ k, k < l.length → wtOk (gi l k)) ∧ w' = w := by
  obtain ⟨a, c, rfl, hm, hc⟩ := hl
  unfold maxLen at hm
  go_enter Try.func63, Try.ntmps63
  go_wp2
  go_loop [8] (fun i => ∃ k : Nat, k ≤ l.length ∧ i = .int .i64 k ∧ Hid (∀ j, j < k → wtOk (gi l j))) (fun i => l.length - (intOf i).toNat)
  case atStart => exact ⟨0, Nat.zero_le _, rfl, fun j hj => by omega⟩
  case round =>
    obtain ⟨k, hk, rfl, hall⟩ := hrel
    by_cases hlt : k < l.length
    · obtain ⟨b, o, e1, c1⟩ := hc k hlt
      subst e1
      by_cases d1 : gi l k < 0
      · have HX : Hid (((k : Int) < 0 ↔ ∀ k, k < l.length → wtOk (gi l k))) := ⟨fun h => by omega, fun h => absurd (h k hlt).1 (by omega)⟩
        go_wp2
        go_ret
        exact ⟨_, rfl, by omega, HX.out, rfl⟩
      · by_cases d2 : 100 < gi l k
        · have HX : Hid (((k : Int) < 0 ↔ ∀ k, k < l.length → wtOk (gi l k))) := ⟨fun h => by omega, fun h => absurd (h k hlt).2 (by omega)⟩
          go_wp2
          go_ret
          exact ⟨_, rfl, by omega, HX.out, rfl⟩
        · have HO : Hid (wtOk (gi l k)) := ⟨by omega, by omega⟩
          go_wp2
          exact ⟨⟨k + 1, by omega, by go_num, fun j hj => (by rcases Nat.lt_succ_iff_lt_or_eq.1 hj with h | h; exact hall.out j h; rw [h]; exact HO.out)⟩, by simp [intOf]; omega⟩
    · have hkk : k = l.length := by omega
      subst hkk
      go_wp2
      go_ret
      exact ⟨_, rfl, by omega, ⟨fun _ => hall.out, fun _ => by omega⟩, rfl⟩

set_option maxHeartbeats 800000 in
theorem checkWeights_any (l : List Int) (v : Value) (w : World) (hl : IntsAt w v l) :
    Calls Try.prog 44 #[v] w fun e w' => e = .returned (.int .i64 (wErr l)) ∧ w' = w := by
  have hl' := hl
  obtain ⟨a, c, rfl, hm, hc⟩ := hl
  unfold maxLen at hm
  by_cases h12 : l.length = 12
  · have hne : ((l.length : Int) != 12) = false := by simp [h12]
    have hfin : ∀ r : Int, (r < 0 ↔ ∀ k, k < l.length → wtOk (gi l k)) → (if r < 0 then (0 : Int) else 3) = wErr l := fun r h => by
      unfold wErr; rw [if_neg (show ¬ l.length ≠ 12 by omega)]; by_cases hr : r < 0
      · rw [if_pos hr, if_pos (h.1 hr)]
      · rw [if_neg hr, if_neg (fun h' => hr (h.2 h'))]
    have HF := Lib.hid hfin; clear hfin h12 hc
    go_enter Try.func44, Try.ntmps44
    go_wp2_with fail
    go_in
    go_wp2_with fail
    refine (indexFunc_any l _ _ hl').mono ?_
    rintro e w1 ⟨r, rfl, hr, hiff, rfl⟩
    have HI := Lib.hid (HF.out r hiff); clear hiff
    by_cases hr0 : r < 0
    · rw [if_pos hr0] at HI
      go_wp2
      go_ret
      exact ⟨ret_int HI.out, rfl⟩
    · rw [if_neg hr0] at HI
      go_wp2
      go_ret
      exact ⟨ret_int HI.out, rfl⟩
  · have hne : ((l.length : Int) != 12) = true := by simpa using (by omega : ¬ (l.length : Int) = 12)
    have HX : Hid ((6 : Int) = wErr l) := by unfold wErr; rw [if_pos h12]; rfl
    clear h12
    go_enter Try.func44, Try.ntmps44
    go_wp2
    go_ret
    exact ⟨ret_int HX.out, rfl⟩
end Go.Proofs.Ytnijajjmcdgonaa
