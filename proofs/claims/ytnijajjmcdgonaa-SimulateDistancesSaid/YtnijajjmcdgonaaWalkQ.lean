import Derived.Test.YtnijajjmcdgonaaWalkP
import Derived.Deep.RegionHeld3
namespace Go.Proofs.Ytnijajjmcdgonaa
open Go.RowKit
set_option linter.unusedVariables false

theorem one_yes (w : World) : Calls Try.prog 58 #[.bool true] w fun e w' => e = .returned (.int .i64 1) ∧ w' = w := by
  go_enter Try.func58, Try.ntmps58
  go_wp2
  go_ret
  exact ⟨rfl, rfl⟩
theorem one_no (w : World) : Calls Try.prog 58 #[.bool false] w fun e w' => e = .returned (.int .i64 0) ∧ w' = w := by
  go_enter Try.func58, Try.ntmps58
  go_wp2
  go_ret
  exact ⟨rfl, rfl⟩

/-- What FirstInts says of two lists of one length. -/
def FirstSaid (l m : List Int) (r : Int) : Prop :=
  (∃ k, k < l.length ∧ (∀ j, j < k → gi l j = gi m j) ∧ ((gi l k < gi m k ∧ r = -1) ∨ (gi m k < gi l k ∧ r = 1))) ∨ ((∀ j, j < l.length → gi l j = gi m j) ∧ r = 0)

set_option maxHeartbeats 1600000 in
set_option maxRecDepth 100000 in
theorem firstInts_any (x y : Value) (l m : List Int) (w : World) (hx : IntsAt w x l) (hy : IntsAt w y m) (hl : l.length = m.length) :
    Calls Try.prog 46 #[x, y] w fun e w' => (∃ r, e = .returned (.int .i64 r) ∧ Hid (FirstSaid l m r)) ∧ ∃ n, w' = w.drewN n := by
  obtain ⟨a, ca, rfl, hm1, hc1⟩ := hx
  obtain ⟨b, cb, rfl, hm2, hc2⟩ := hy
  unfold maxLen at hm1 hm2
  have HL := Lib.hid hl
  rw [← hl] at hm2 ⊢
  have H1 := Lib.hid hc1; have H2 := Lib.hid hc2
  clear hc1 hc2 hl
  go_enter Try.func46, Try.ntmps46
  go_wp2
  go_loopw [5] (fun i wr => ∃ k : Nat, k ≤ l.length ∧ i = .int .i64 k ∧ Hid (∀ j, j < k → gi l j = gi m j) ∧ ∃ n, wr = w.drewN n)
    (fun i _ => l.length - (intOf i).toNat)
  case atStart => exact ⟨0, Nat.zero_le _, rfl, fun j hj => by omega, 0, rfl⟩
  case round =>
    obtain ⟨k, hk, rfl, hsame, n, rfl⟩ := hrel
    by_cases hlt : k < l.length
    · obtain ⟨b1, o1, e1, c1⟩ := H1.out k hlt
      obtain ⟨b2, o2, e2, c2⟩ := H2.out k (by rw [← HL.out]; exact hlt)
      subst e1 e2
      have hd1 : decide ((k : Int) < (l.length : Int)) = true := decide_eq_true (by omega)
      rcases Int.lt_trichotomy (gi l k) (gi m k) with h | h | h
      · have HS : Hid (FirstSaid l m (-1)) := .inl ⟨k, hlt, hsame.out, .inl ⟨h, rfl⟩⟩
        have hne : (gi l k != gi m k) = true := by simpa using (by omega : ¬ gi l k = gi m k)
        go_wp2
        go_quiet (fail)
        go_wp2_with fail
        have d1 : ((w.drewN n).drewN nq).cell? ⟨b1, o1 + k, none⟩ = some (.int .i64 (gi l k)) := by simpa using c1
        have d2 : ((w.drewN n).drewN nq).cell? ⟨b2, o2 + k, none⟩ = some (.int .i64 (gi m k)) := by simpa using c2
        have HW : Hid (∃ q, (w.drewN n).drewN nq = w.drewN q) := ⟨_, World.drewN_drewN ..⟩
        clear c1 c2
        generalize (w.drewN n).drewN nq = wX at *
        go_quiet ((go_at_call 58; exact Calls.quiet_of_same (one_yes _)))
        go_wp2
        go_ret
        obtain ⟨q, hq⟩ := HW.out
        exact ⟨⟨_, rfl, HS⟩, _, by rw [hq, World.drewN_drewN]⟩
      · have HE := Lib.hid h
        have hne : (gi l k != gi m k) = false := by rw [h]; simp
        clear h
        go_wp2
        go_quiet (fail)
        go_wp2
        exact ⟨⟨k + 1, by omega, by go_num, fun j hj => (by rcases Nat.lt_succ_iff_lt_or_eq.1 hj with h | h; exact hsame.out j h; rw [h]; exact HE.out), _, rfl⟩, by simp [intOf]; omega⟩
      · have HS : Hid (FirstSaid l m 1) := .inl ⟨k, hlt, hsame.out, .inr ⟨h, rfl⟩⟩
        have hne : (gi l k != gi m k) = true := by simpa using (by omega : ¬ gi l k = gi m k)
        have hnl : decide (gi l k < gi m k) = false := decide_eq_false (by omega)
        go_wp2
        go_quiet (fail)
        go_wp2_with fail
        have d1 : ((w.drewN n).drewN nq).cell? ⟨b1, o1 + k, none⟩ = some (.int .i64 (gi l k)) := by simpa using c1
        have d2 : ((w.drewN n).drewN nq).cell? ⟨b2, o2 + k, none⟩ = some (.int .i64 (gi m k)) := by simpa using c2
        have HW : Hid (∃ q, (w.drewN n).drewN nq = w.drewN q) := ⟨_, World.drewN_drewN ..⟩
        clear c1 c2
        generalize (w.drewN n).drewN nq = wX at *
        go_quiet ((go_at_call 58; exact Calls.quiet_of_same (one_no _)))
        go_wp2
        go_ret
        obtain ⟨q, hq⟩ := HW.out
        exact ⟨⟨_, rfl, HS⟩, _, by rw [hq, World.drewN_drewN]⟩
    · have hkk : k = l.length := by omega
      subst hkk
      have HS : Hid (FirstSaid l m 0) := .inr ⟨hsame.out, rfl⟩
      go_wp2_with (go_at_call 58; refine (one_no _).mono ?_; rintro e w' ⟨rfl, rfl⟩)
      go_ret
      exact ⟨⟨_, rfl, HS⟩, _, rfl⟩

set_option maxHeartbeats 400000 in
theorem edgeInts_any (e : E) (w : World) :
    Calls Try.prog 47 #[.agg #[.int .i64 e.f, .int .i64 e.t, .int .i64 e.a]] w fun x w' => ∃ v, x = .returned v ∧ IntsAt w' v [e.f, e.t, e.a] ∧ Below w.heap.size w w' := by
  go_enter Try.func47, Try.ntmps47
  go_wp2
  go_ret
  refine ⟨_, rfl, ⟨_, _, rfl, by simp [maxLen], fun j hj => ⟨_, _, rfl, ?_⟩⟩, ((Below.refl _ _).alloc (Nat.le_refl _) _).alloc (by simp) _⟩
  rw [World.cell?_alloc_at _ _ _ _ (by simp)]
  have hj3 : j < 3 := by simpa using hj
  match j, hj3 with
  | 0, _ => rfl
  | 1, _ => rfl
  | 2, _ => rfl

theorem first_cmp {x y : E} {r : Int} (h : FirstSaid [x.f, x.t, x.a] [y.f, y.t, y.a] r) : r = cmpE x y := by
  have g0 : ∀ a b c : Int, gi [a, b, c] 0 = a := fun _ _ _ => rfl
  have g1 : ∀ a b c : Int, gi [a, b, c] 1 = b := fun _ _ _ => rfl
  have g2 : ∀ a b c : Int, gi [a, b, c] 2 = c := fun _ _ _ => rfl
  unfold cmpE or3 cmpI
  rcases h with ⟨k, hk, hs, hr⟩ | ⟨hs, hr⟩
  · have hk3 : k < 3 := by simpa using hk
    match k, hk3 with
    | 0, _ =>
      simp only [g0] at hr
      rcases hr with ⟨h, rfl⟩ | ⟨h, rfl⟩
      · simp [h]
      · have : ¬ x.f < y.f := by omega
        simp [h, this]
    | 1, _ =>
      have h0 := hs 0 (by omega)
      simp only [g0] at h0
      simp only [g1] at hr
      rcases hr with ⟨h, rfl⟩ | ⟨h, rfl⟩
      · simp [h, h0]
      · have : ¬ x.t < y.t := by omega
        simp [h, h0, this]
    | 2, _ =>
      have h0 := hs 0 (by omega)
      have h1 := hs 1 (by omega)
      simp only [g0] at h0
      simp only [g1] at h1
      simp only [g2] at hr
      rcases hr with ⟨h, rfl⟩ | ⟨h, rfl⟩
      · simp [h, h0, h1]
      · have : ¬ x.a < y.a := by omega
        simp [h, h0, h1, this]
  · have h0 := hs 0 (by simp)
    have h1 := hs 1 (by simp)
    have h2 := hs 2 (by simp)
    simp only [g0] at h0
    simp only [g1] at h1
    simp only [g2] at h2
    simp [h0, h1, h2, hr]
end Go.Proofs.Ytnijajjmcdgonaa
