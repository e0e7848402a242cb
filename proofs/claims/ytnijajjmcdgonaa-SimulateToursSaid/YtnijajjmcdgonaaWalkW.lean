import Derived.Test.YtnijajjmcdgonaaWalkR
import Derived.Test.YtnijajjmcdgonaaWalkH
namespace Go.Proofs.Ytnijajjmcdgonaa
open Go.RowKit
set_option linter.unusedVariables false

/-! Which walks are accepted: the mathematics. -/
def stepsErr (g : G) : Int → List Int → Int × Int
  | s, [] => (s, 0)
  | s, i :: r => if i < 0 ∨ (g.edges.length : Int) ≤ i then (0, 3) else if (ge g.edges i.toNat).f ≠ s then (0, 14) else stepsErr g (ge g.edges i.toNat).t r
def ckW (g : G) (first : Int) (l : List Int) : Int × Int :=
  if 300 < l.length then (0, 2) else if first ∈ g.init then stepsErr g first l else (0, 10)
theorem stepsErr_out {g : G} {s i : Int} {r : List Int} (h : i < 0 ∨ (g.edges.length : Int) ≤ i) : stepsErr g s (i :: r) = (0, 3) := by rw [stepsErr, if_pos h]
theorem stepsErr_clash {g : G} {s i : Int} {r : List Int} (h : ¬ (i < 0 ∨ (g.edges.length : Int) ≤ i)) (h2 : (ge g.edges i.toNat).f ≠ s) : stepsErr g s (i :: r) = (0, 14) := by rw [stepsErr, if_neg h, if_pos h2]
theorem stepsErr_next {g : G} {s i : Int} {r : List Int} (h : ¬ (i < 0 ∨ (g.edges.length : Int) ≤ i)) (h2 : (ge g.edges i.toNat).f = s) : stepsErr g s (i :: r) = stepsErr g (ge g.edges i.toNat).t r := by rw [stepsErr, if_neg h, if_neg (by simp [h2])]

/-- First states that ascend within a graph are no more than its states. -/
theorem init_le {g : G} (h : ∀ k, k < g.init.length → initOk g k) : ∀ k : Nat, k < g.init.length → (k : Int) ≤ gi g.init k
  | 0, hk => (h 0 hk).1
  | k + 1, hk => by
    have h1 := init_le h k (by omega)
    have h2 : gi g.init k < gi g.init (k + 1) := (h (k + 1) hk).2.2 (by omega)
    omega
theorem bOk_iff (g : G) : bOk g ↔ graphOk g ∧ g.n ≤ 400 := by
  constructor
  · intro h
    exact ⟨⟨h.1, h.2.2.2.1, h.2.2.2.2.1, h.2.2.2.2.2⟩, h.2.1⟩
  · rintro ⟨⟨h1, h2, h3, h4⟩, h5⟩
    refine ⟨h1, h5, ?_, h2, h3, h4⟩
    rcases Nat.eq_zero_or_pos g.init.length with h | h
    · omega
    · have ha := init_le h3 (g.init.length - 1) (by omega)
      have hb := (h3 (g.init.length - 1) (by omega)).2.1
      omega
theorem gErr_isG (g : G) : gErr g = if isG g = true then 0 else 5 := by
  unfold gErr
  by_cases h : wGraph g = true ∧ g.n ≤ 400
  · rw [if_pos h, if_pos ((isG_iff g).2 ((bOk_iff g).2 ⟨(wGraph_iff g).1 h.1, h.2⟩))]
  · rw [if_neg h, if_neg fun h2 => h (by have := (bOk_iff g).1 ((isG_iff g).1 h2); exact ⟨(wGraph_iff g).2 this.1, this.2⟩)]

theorem mem_gi {l : List Int} {x : Int} : x ∈ l ↔ ∃ k, k < l.length ∧ gi l k = x := by
  constructor
  · intro h
    obtain ⟨k, hk, rfl⟩ := List.getElem_of_mem h
    exact ⟨k, hk, by simp [gi, List.getElem?_eq_getElem hk]⟩
  · rintro ⟨k, hk, rfl⟩
    exact gi_mem hk

set_option maxHeartbeats 800000 in
set_option maxRecDepth 100000 in
theorem holds_any (l : List Int) (x : Int) (v : Value) (w : World) (hl : IntsAt w v l) :
    Calls Try.prog 50 #[v, .int .i64 x] w fun e w' => e = .returned (.bool (decide (x ∈ l))) ∧ w' = w := by
  obtain ⟨a, c, rfl, hm, hc⟩ := hl
  unfold maxLen at hm
  have HE : ∀ r : Bool, (r = true ↔ x ∈ l) → Hid (r = decide (x ∈ l)) := fun r h => by unfold Hid; cases r <;> simp_all
  have H := Lib.hid hc; clear hc
  go_enter Try.func50, Try.ntmps50
  go_wp2
  go_loop [5] (fun i => ∃ k : Nat, k ≤ l.length ∧ i = .int .i64 k ∧ Hid (∀ j, j < k → gi l j ≠ x)) (fun i => l.length - (intOf i).toNat)
  case atStart => exact ⟨0, Nat.zero_le _, rfl, fun j hj => by omega⟩
  case round =>
    obtain ⟨k, hk, rfl, hall⟩ := hrel
    by_cases hlt : k < l.length
    · obtain ⟨b, o, e1, c1⟩ := H.out k hlt
      subst e1
      by_cases he : gi l k = x
      · have HX := HE true ⟨fun _ => mem_gi.2 ⟨k, hlt, he⟩, fun _ => rfl⟩
        have heq : (gi l k == x) = true := by simpa using he
        clear he
        go_wp2
        go_ret
        exact ⟨ret_bool HX.out, rfl⟩
      · have HN := Lib.hid he
        have heq : (gi l k == x) = false := by simpa using he
        clear he
        go_wp2
        go_round
        case rel => exact ⟨k + 1, by omega, by go_num, fun j hj => (by rcases Nat.lt_succ_iff_lt_or_eq.1 hj with h | h; exact hall.out j h; rw [h]; exact HN.out)⟩
        case measure => simp [intOf]; omega
    · have hkk : k = l.length := by omega
      subst hkk
      have HX := HE false ⟨fun h => (by cases h), fun h => by obtain ⟨j, hj, e⟩ := mem_gi.1 h; exact absurd e (hall.out j hj)⟩
      go_wp2
      go_ret
      exact ⟨ret_bool HX.out, rfl⟩

/-- What Index says of a number in a list. -/
def IdxSaid (l : List Int) (x r : Int) : Prop := (0 ≤ r ∧ x ∈ l) ∨ (r = -1 ∧ x ∉ l)
set_option maxHeartbeats 800000 in
set_option maxRecDepth 100000 in
theorem index_any (l : List Int) (x : Int) (v : Value) (w : World) (hl : IntsAt w v l) :
    Calls Try.prog 64 #[v, .int .i64 x] w fun e w' => (∃ r, e = .returned (.int .i64 r) ∧ Hid (IdxSaid l x r)) ∧ w' = w := by
  obtain ⟨a, c, rfl, hm, hc⟩ := hl
  unfold maxLen at hm
  have H := Lib.hid hc; clear hc
  go_enter Try.func64, Try.ntmps64
  go_wp2
  go_loop [8] (fun i => ∃ k : Nat, k ≤ l.length ∧ i = .int .i64 k ∧ Hid (∀ j, j < k → gi l j ≠ x)) (fun i => l.length - (intOf i).toNat)
  case atStart => exact ⟨0, Nat.zero_le _, rfl, fun j hj => by omega⟩
  case round =>
    obtain ⟨k, hk, rfl, hall⟩ := hrel
    by_cases hlt : k < l.length
    · obtain ⟨b, o, e1, c1⟩ := H.out k hlt
      subst e1
      by_cases he : gi l k = x
      · have HX : Hid (IdxSaid l x (k : Int)) := .inl ⟨by omega, mem_gi.2 ⟨k, hlt, he⟩⟩
        have heq : (x == gi l k) = true := by simpa using he.symm
        clear he
        go_wp2
        go_ret
        exact ⟨⟨_, rfl, HX⟩, rfl⟩
      · have HN := Lib.hid he
        have heq : (x == gi l k) = false := by simpa using fun h => he h.symm
        clear he
        go_wp2
        go_round
        case rel => exact ⟨k + 1, by omega, by go_num, fun j hj => (by rcases Nat.lt_succ_iff_lt_or_eq.1 hj with h | h; exact hall.out j h; rw [h]; exact HN.out)⟩
        case measure => simp [intOf]; omega
    · have hkk : k = l.length := by omega
      subst hkk
      have HX : Hid (IdxSaid l x (-1)) := .inr ⟨rfl, fun h => by obtain ⟨j, hj, e⟩ := mem_gi.1 h; exact absurd e (hall.out j hj)⟩
      go_wp2
      go_ret
      exact ⟨⟨_, rfl, HX⟩, rfl⟩
set_option maxHeartbeats 400000 in
theorem contains_any (l : List Int) (x : Int) (v : Value) (w : World) (hl : IntsAt w v l) :
    Calls Try.prog 59 #[v, .int .i64 x] w fun e w' => e = .returned (.bool (decide (x ∈ l))) ∧ w' = w := by
  go_enter Try.func59, Try.ntmps59
  go_wp2_with fail
  refine (index_any l x _ _ hl).mono ?_
  rintro e w' ⟨⟨r, rfl, hr⟩, rfl⟩
  rcases hr.out with ⟨h, hx⟩ | ⟨h, hx⟩
  · have HX := Lib.hid (decide_eq_true hx).symm
    have hd : decide (0 ≤ r) = true := decide_eq_true h
    clear hx
    go_wp2
    go_ret
    exact ⟨ret_bool HX.out, rfl⟩
  · have HX := Lib.hid (decide_eq_false hx).symm
    subst h
    clear hx
    go_wp2
    go_ret
    exact ⟨ret_bool HX.out, rfl⟩

/-- A walk that came in or was made, by value. -/
structure W3 where
  first : Int
  steps : List Int
  stuck : Bool
def WalkAt (w : World) (v : Value) (x : W3) : Prop := ∃ vs, v = .agg #[.int .i64 x.first, vs, .bool x.stuck] ∧ IntsAt w vs x.steps
theorem WalkAt.later {w w' : World} {v : Value} {x : W3} (h : WalkAt w v x) (hb : Below w.heap.size w w') : WalkAt w' v x := by
  obtain ⟨vs, rfl, h⟩ := h
  exact ⟨vs, rfl, h.later hb⟩
end Go.Proofs.Ytnijajjmcdgonaa
