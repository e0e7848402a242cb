import Derived.Test.YtnijajjmcdgonaaWalkJ
import Derived.Laws.CopyOwn
import Derived.OwnWalk
import Derived.Deep.RegionLaw
namespace Go.Proofs.Ytnijajjmcdgonaa
open Go.RowKit
set_option linter.unusedVariables false

set_option maxHeartbeats 400000 in
theorem mul13 (w : World) : Calls Try.prog 65 #[.int .u64 1, .int .u64 3] w fun e w' => e = .returned (.tuple #[.int .u64 0, .int .u64 3]) ∧ w = w' := by
  go_enter Try.func65, Try.ntmps65
  go_wp2
  go_ret2
  exact ⟨by kernel_rfl, rfl⟩

set_option maxHeartbeats 800000 in
set_option maxRecDepth 100000 in
theorem repeat3 (b : Nat) (w : World) (hc : w.cell? ⟨b, 0, none⟩ = some (.int .i64 (-1))) :
    Calls Try.prog 60 #[.slice (some ⟨b, 0, none⟩) 1 1, .int .i64 3] w fun e w' => ∃ v', e = .returned v' ∧ ownInts w' w.heap.size v' [-1, -1, -1] ∧ Below w.heap.size w w' := by
  obtain ⟨i0, hi, hz0, hz1, hz2⟩ := info_parts infoInt
  have hsz1 : (Try.prog.info? 3).map (·.size) = some 1 := by rw [hi]; simp [hz1]
  go_enter Try.func60, Try.ntmps60
  go_wp2_with (first | (at_make; refine wpList_make_full w rfl _ _ 23 rfl w.heap.size 3 i0 (.int .i64 0) 1 Try.underlying23 hi hz0 hz1 .i64 .i64 3 3 3 rfl rfl rfl rfl (by rw [hz2]; decide) (by decide) (Nat.le_refl _) ?_) | (go_at_call 65; refine (mul13 _).mono ?_; rintro e w' ⟨rfl, rfl⟩))
  intro w1 hown hgrow
  have hrow : w1.heap[w.heap.size]? = some (.cells ([.int .i64 0, .int .i64 0, .int .i64 0] : List Value).toArray 3 (0, 0)) := by
    obtain ⟨_, h⟩ := hown
    rcases h with ⟨h, _⟩ | ⟨g, cap, cur, h1, h2, h3, h4, h5, h6, h7⟩
    · cases h
    · injection h1 with h1 h8 h9
      injection h1 with h1
      injection h1 with h1
      subst h1 h9
      rw [h3]
      have : cur.toList = [.int .i64 0, .int .i64 0, .int .i64 0] := by
        rw [List.take_of_length_le (by rw [Array.length_toList, h6]; exact Nat.le_refl _)] at h7
        rw [h7]; kernel_rfl
      rw [← this]
  have hb1 : Below w.heap.size w w1 := (Below.refl _ _).grown hgrow (Nat.le_refl _) (fun j hj => by cases hj)
  have hc1 : w1.cell? ⟨b, 0, none⟩ = some (.int .i64 (-1)) := Below.keeps hb1 hc (Nat.le_refl _)
  clear hown hgrow
  go_wp2_with (with_reducible refine wpList_copy_splice rfl _ _ 23 23 rfl 3 Try.underlying23 hsz1 (some ⟨w.heap.size, 0, none⟩) (some ⟨b, 0, none⟩) 3 3 1 1 rfl rfl w.heap.size 0 [.int .i64 0, .int .i64 0, .int .i64 0] 3 hrow [.int .i64 (-1)] rfl ?d1 (by decide) ?d2 w.heap.size w hb1 (Nat.le_refl _) ?d3)
  case d1 =>
    intro j v hj
    match j, hj with
    | 0, hj => simp at hj; subst hj; exact hc1
  case d2 => intro v hv; simp at hv; subst hv; rfl
  case d3 =>
    intro w2 hr2' hb2
    have hr2 : w2.heap[w.heap.size]? = some (.cells ([.int .i64 (-1), .int .i64 0, .int .i64 0] : List Value).toArray 3 (0, 0)) := hr2'.out
    have HB2 := Lib.hid hb2; have HR2 := Lib.hid hr2
    clear hr2' hrow hc1 hb1 hb2 hr2
    go_wp2_with fail
    have hcA : ∀ (j : Nat) (v : Value), ([Value.int .i64 (-1)] : List Value)[j]? = some v → w2.cell? ((⟨w.heap.size, 0, none⟩ : Addr).add j) = some v := by
      intro j v hj
      match j, hj with
      | 0, hj => simp at hj; subst hj; simp [Addr.add, World.cell?, HR2.out]
    have HA := Lib.hid hcA; clear hcA
    have HAd : Hid (∀ (j : Nat) (v : Value), ([Value.int .i64 (-1)] : List Value)[j]? = some v → w2.drew.cell? ((⟨w.heap.size, 0, none⟩ : Addr).add j) = some v) := HA.out
    have HRd : Hid (w2.drew.heap[w.heap.size]? = some (.cells ([.int .i64 (-1), .int .i64 0, .int .i64 0] : List Value).toArray 3 (0, 0))) := HR2.out
    have HBd : Hid (Below w.heap.size w w2.drew) := HB2.out.drew
    have H1c : Hid (∀ v ∈ ([Value.int .i64 (-1)] : List Value), v.oneCell' = true) := fun v hv => by simp at hv; subst hv; rfl
    refine wp_loop_rounds 3 ?_
    rw [rounds_succ]
    go_wp2_with fail
    go_region_law ((with_reducible refine step_copy_splice rfl (.tmp 41) (.tmp 44) 23 23 rfl 3 Try.underlying23 hsz1 (some ⟨w.heap.size, 1, none⟩) (some ⟨w.heap.size, 0, none⟩) 2 2 1 3 (by kernel_rfl) (by kernel_rfl) w.heap.size 1 [.int .i64 (-1), .int .i64 0, .int .i64 0] 3 HRd.out [.int .i64 (-1)] (by kernel_rfl) (fun _ => ⟨rfl, _, rfl, HAd.out⟩) (by decide) H1c.out w.heap.size w HBd.out (Nat.le_refl _) ?_; intro w3 hr3 hb3))
    have HR3 : Hid (w3.heap[w.heap.size]? = some (.cells ([.int .i64 (-1), .int .i64 (-1), .int .i64 0] : List Value).toArray 3 (0, 0))) := hr3.out
    have HB3 := Lib.hid hb3
    clear hr3 hb3 HA HAd HRd HBd HR2 HB2
    have HAd : Hid (∀ (j : Nat) (v : Value), ([Value.int .i64 (-1)] : List Value)[j]? = some v → w3.drew.cell? ((⟨w.heap.size, 0, none⟩ : Addr).add j) = some v) := by
      intro j v hj
      match j, hj with
      | 0, hj =>
        simp at hj; subst hj
        show w3.cell? _ = _
        simp [Addr.add, World.cell?, HR3.out]
    have HRd : Hid (w3.drew.heap[w.heap.size]? = some (.cells ([.int .i64 (-1), .int .i64 (-1), .int .i64 0] : List Value).toArray 3 (0, 0))) := HR3.out
    have HBd : Hid (Below w.heap.size w w3.drew) := HB3.out.drew
    go_wp2_with fail
    rw [rounds_succ]
    go_wp2_with fail
    go_region_law ((with_reducible refine step_copy_splice rfl (.tmp 41) (.tmp 44) 23 23 rfl 3 Try.underlying23 hsz1 (some ⟨w.heap.size, 2, none⟩) (some ⟨w.heap.size, 0, none⟩) 1 1 2 3 (by kernel_rfl) (by kernel_rfl) w.heap.size 2 [.int .i64 (-1), .int .i64 (-1), .int .i64 0] 3 HRd.out [.int .i64 (-1)] (by kernel_rfl) (fun _ => ⟨rfl, _, rfl, HAd.out⟩) (by decide) H1c.out w.heap.size w HBd.out (Nat.le_refl _) ?_; intro w4 hr4 hb4))
    have HR4 : Hid (w4.heap[w.heap.size]? = some (.cells ([.int .i64 (-1), .int .i64 (-1), .int .i64 (-1)] : List Value).toArray 3 (0, 0))) := hr4.out
    have HB4 := Lib.hid hb4
    clear hr4 hb4 HAd HRd HBd HR3 HB3
    go_wp2_with fail
    rw [rounds_succ]
    go_wp2
    go_ret
    refine ⟨_, rfl, ⟨rfl, .inr ⟨w.heap.size, 3, _, rfl, Nat.le_refl _, HR4.out, Nat.le_refl _, by decide, rfl, rfl⟩⟩, HB4.out⟩
end Go.Proofs.Ytnijajjmcdgonaa
