import Derived.Test.YtnijajjmcdgonaaMathA
namespace Go.Proofs.Ytnijajjmcdgonaa
open Go.RowKit
set_option linter.unusedVariables false

def exG : G := ⟨3, [0], [⟨0, 1, 0⟩, ⟨0, 2, 1⟩, ⟨1, 0, 0⟩]⟩

set_option maxHeartbeats 800000 in
set_option maxRecDepth 100000 in
theorem example_any (w : World) : Calls Try.prog 39 #[] w fun e w' => ∃ v, e = .returned v ∧ GraphAt w' v exG ∧ Below w.heap.size w w' := by
  go_enter Try.func39, Try.ntmps39
  go_wp2
  refine bodyPost_ret (v := .agg #[.int .i64 3, .slice (some ⟨w.heap.size + 1, 0, none⟩) 1 1, .slice (some ⟨w.heap.size + 1 + 1, 0, none⟩) 3 3]) (by simp [results, Try.results39, go_sem]) rfl ⟨_, rfl, ?_, ?_⟩
  · refine ⟨_, _, rfl, ⟨_, _, rfl, by simp [exG, maxLen], ?_⟩, ⟨_, _, rfl, by simp [exG, maxLen], ?_⟩⟩
    · intro j hj
      have : j = 0 := by simp [exG] at hj; omega
      subst this
      exact ⟨_, _, rfl, by rw [World.cell?_alloc_past _ _ _ (by simp), World.cell?_alloc_at _ _ _ _ (by simp)]; rfl⟩
    · intro j hj
      have hj3 : j < 3 := by simpa [exG] using hj
      refine ⟨_, _, rfl, ?_, ?_, ?_⟩
      all_goals
        rw [World.cell?_alloc_at _ _ _ _ (by simp)]
        match j, hj3 with
        | 0, _ => rfl
        | 1, _ => rfl
        | 2, _ => rfl
  · exact (((Below.refl _ _).alloc (Nat.le_refl _) _).alloc (by simp) _).alloc (by simp; omega) _

def ones (k : Nat) : List Int := List.replicate k 1

set_option maxHeartbeats 800000 in
set_option maxRecDepth 100000 in
theorem equal_any (w : World) : Calls Try.prog 40 #[] w fun e w' => ∃ v, e = .returned v ∧ ownInts w' w.heap.size v (ones 12) ∧ Below w.heap.size w w' := by
  obtain ⟨i0, hi, hz0, hz1, hz2⟩ := info_parts infoInt
  go_enter Try.func40, Try.ntmps40
  go_wp2
  go_loopw [1, 2] (fun v i wr => ∃ k : Nat, k ≤ 12 ∧ i = .int .i64 k ∧ ownInts wr w.heap.size v (ones k) ∧ Below w.heap.size w wr) (fun _ i _ => 12 - (intOf i).toNat)
  case atStart => exact ⟨0, Nat.zero_le _, rfl, World.ownsRow_nil _ _ _ _, Below.refl _ _⟩
  case round =>
    obtain ⟨k, hk, rfl, hown, hnx⟩ := hrel
    have HL : Hid ((ones k).length = k) := List.length_replicate
    by_cases hlt : k < 12
    · go_wp2_with (at_builtin; refine wpList_append_own _ rfl _ _ 23 rfl w.heap.size 3 i0 (.int .i64 0) 1 8 Try.underlying23 hi hz0 hz1 hz2 rfl (by decide) _ _ _ rfl (hown.alloc _) ⟨wr.heap.size, 0, none⟩ 1 1 [.int .i64 1] rfl rfl ?c1 ?c2 ?c3 ?c4 ?c5 ?_)
      case c1 =>
        intro j u hj
        match j, hj with
        | 0, hj => simp at hj; subst hj; simp [Addr.add]
      case c2 => intro u hu; simp at hu; subst hu; rfl
      case c3 => rw [HL.out]; unfold maxLen; omega
      case c4 => rw [HL.out]; omega
      case c5 => have := hnx.size; simp; omega
      · intro v' w' hown' hgrow _
        have R1 : ownInts w' w.heap.size v' (ones (k + 1)) := by simpa [ownInts, ones, List.replicate_succ'] using hown'
        have R2 : Below w.heap.size w w' := (hnx.alloc (hnx.size) _).grown hgrow (by have := hnx.size; simp; omega) (fun j hj => (hown.lt j hj).1)
        clear hown' hgrow hown hnx
        go_wp2
        go_roundw
        case rel => exact ⟨k + 1, by omega, by go_num, R1, R2⟩
        case measure => simp [intOf]; omega
    · have : k = 12 := by omega
      subst this
      go_wp2
      go_ret
      exact ⟨_, rfl, hown, hnx⟩
end Go.Proofs.Ytnijajjmcdgonaa
