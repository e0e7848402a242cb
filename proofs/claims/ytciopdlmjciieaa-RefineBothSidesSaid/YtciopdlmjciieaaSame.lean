import Derived.Test.YtciopdlmjciieaaRowsL
namespace Go.Proofs.Ytciopdlmjciieaa
open Go.RowKit
set_option linter.unusedVariables false

theorem equal_q (x y : Value) (l : List Int) (w : World) (hx : IntsAt w x l) (hy : IntsAt w y l) :
    Calls Try.prog 24 #[x, y] w fun e w' => e = .returned (.bool true) ∧ ∃ n, w' = w.drewN n := by
  refine (equalInts_any x y l l w hx hy).mono ?_
  rintro e w' ⟨rfl, h⟩
  exact ⟨by rw [decide_eq_true rfl], h⟩

set_option maxHeartbeats 1000000 in
set_option maxRecDepth 100000 in
/-- ref.SameFault of two that read the same. -/
theorem sameFault_yes (k a : Int) (l : List Int) (x y : Value) (w : World) (hx : IntsAt w x l) (hy : IntsAt w y l) :
    Calls Try.prog 22 #[.agg #[.int .i64 k, .int .i64 a, x], .agg #[.int .i64 k, .int .i64 a, y]] w fun e w' => e = .returned (.bool true) ∧ Below w.heap.size w w' := by
  obtain ⟨ax, cx, rfl, hmx, hcx⟩ := hx
  obtain ⟨ay, cy, rfl, hmy, hcy⟩ := hy
  have hb : Below w.heap.size w ((w.alloc (Obj.cells #[.int .i64 k, .int .i64 a, .slice ax l.length cx] 49)).alloc (Obj.cells #[.int .i64 k, .int .i64 a, .slice ay l.length cy] 49)) := ((Below.refl _ _).alloc (Nat.le_refl _) _).alloc (by simp) _
  have HX := Lib.hid (IntsAt.later (w := w) (v := .slice ax l.length cx) (l := l) ⟨_, _, rfl, hmx, hcx⟩ hb); have HY := Lib.hid (IntsAt.later (w := w) (v := .slice ay l.length cy) (l := l) ⟨_, _, rfl, hmy, hcy⟩ hb)
  have hx : Hid (∀ i v, #[Value.int .i64 k, .int .i64 a, .slice ax l.length cx][i]? = some v → ((w.alloc (Obj.cells #[.int .i64 k, .int .i64 a, .slice ax l.length cx] 49)).alloc (Obj.cells #[.int .i64 k, .int .i64 a, .slice ay l.length cy] 49)).cell? ⟨w.heap.size, i, none⟩ = some v) := fun i v h =>
    Below.keeps ((Below.refl _ _).alloc (Nat.le_refl _) _) (box_cell w #[Value.int .i64 k, .int .i64 a, .slice ax l.length cx] 49 i v h) (Nat.le_refl _)
  have hy : Hid (∀ i v, #[Value.int .i64 k, .int .i64 a, .slice ay l.length cy][i]? = some v → ((w.alloc (Obj.cells #[.int .i64 k, .int .i64 a, .slice ax l.length cx] 49)).alloc (Obj.cells #[.int .i64 k, .int .i64 a, .slice ay l.length cy] 49)).cell? ⟨w.heap.size + 1, i, none⟩ = some v) := fun i v h => by
    have := box_cell (w.alloc (Obj.cells #[.int .i64 k, .int .i64 a, .slice ax l.length cx] 49)) #[Value.int .i64 k, .int .i64 a, .slice ay l.length cy] 49 i v h
    simpa using this
  have HB := Lib.hid hb
  clear hb hmx hcx hmy hcy
  go_enter Try.func22, Try.ntmps22
  go_upto_region 1 with (fail)
  generalize (w.alloc (Obj.cells #[.int .i64 k, .int .i64 a, .slice ax l.length cx] 49)).alloc (Obj.cells #[.int .i64 k, .int .i64 a, .slice ay l.length cy] 49) = wb at *
  have x0 := hx.out 0 _ rfl; have x1 := hx.out 1 _ rfl; have x2 := hx.out 2 _ rfl
  have y0 := hy.out 0 _ rfl; have y1 := hy.out 1 _ rfl; have y2 := hy.out 2 _ rfl
  clear hx hy
  have q1 : (k == k) = true := by simp
  have q2 : (a == a) = true := by simp
  go_wp2_with fail
  refine (equal_q _ _ l _ HX.out HY.out).mono ?_
  rintro e w' ⟨rfl, n, rfl⟩
  go_wp2
  go_ret
  exact ⟨rfl, below_drewN HB.out _⟩

set_option maxHeartbeats 1000000 in
set_option maxRecDepth 100000 in
/-- base.EqualLists of two that read the same. -/
theorem equalLists_yes (L : List (List Int)) (x y : Value) (w : World) (hx : RowsV w x L) (hy : RowsV w y L) :
    Calls Try.prog 23 #[x, y] w fun e w' => e = .returned (.bool true) ∧ Below w.heap.size w w' := by
  obtain ⟨ax, cx, rfl, hmx, hcx⟩ := hx
  obtain ⟨ay, cy, rfl, hmy, hcy⟩ := hy
  unfold maxLen at hmx hmy
  have HX := Lib.hid hcx; have HY := Lib.hid hcy
  have q1 : ((L.length : Int) != (L.length : Int)) = false := by simp
  clear hcx hcy
  go_enter Try.func23, Try.ntmps23
  go_upto_region 4 with (fail)
  clear q1
  go_loopw [5] (fun i wr => ∃ k : Nat, k ≤ L.length ∧ i = .int .i64 k ∧ Hid (Below w.heap.size w wr)) (fun i _ => L.length - (intOf i).toNat)
  case atStart => exact ⟨0, Nat.zero_le _, rfl, Below.refl _ _⟩
  case round =>
    obtain ⟨k, hk, rfl, hb⟩ := hrel
    by_cases hlt : k < L.length
    · obtain ⟨b1, o1, g1, c1, e1, x1, X1⟩ := HX.out k L[k] (List.getElem?_eq_getElem hlt)
      obtain ⟨b2, o2, g2, c2, e2, x2, X2⟩ := HY.out k L[k] (List.getElem?_eq_getElem hlt)
      subst e1 e2
      replace x1 := Below.keeps hb.out x1 (Nat.le_refl _)
      replace x2 := Below.keeps hb.out x2 (Nat.le_refl _)
      have HX1 := Lib.hid (X1.later hb.out); have HX2 := Lib.hid (X2.later hb.out)
      clear X1 X2
      generalize L[k] = l at *
      go_wp2_with fail
      go_quiet ((go_at_call 24; exact Calls.quiet_of (equal_q _ _ l _ (HX1.out.later (below_drewN (Below.refl _ _) _)) (HX2.out.later (below_drewN (Below.refl _ _) _)))))
      go_wp2
      exact ⟨⟨k + 1, by omega, by go_num, below_drewN hb.out _⟩, by simp [intOf]; omega⟩
    · have hkk : k = L.length := by omega
      subst hkk
      go_wp2
      go_ret
      exact ⟨rfl, hb.out⟩
end Go.Proofs.Ytciopdlmjciieaa
