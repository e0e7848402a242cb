import Derived.Test.YtnijajjmcdgonaaMathA
namespace Go.Proofs.Ytnijajjmcdgonaa
open Go.RowKit
set_option linter.unusedVariables false

def fewB (g : G) : Bool := decide (g.n ≤ 20 ∧ g.init.length ≤ 22 ∧ g.edges.length ≤ 60)

set_option maxHeartbeats 800000 in
theorem few_any (g : G) (v : Value) (w : World) (hg : GraphAt w v g) :
    Calls Try.prog 16 #[v] w fun e w' => e = .returned (.bool (fewB g)) ∧ Below w.heap.size w w' := by
  obtain ⟨vi, ve, rfl, ⟨ai, ci, rfl, hmi, hci⟩, ⟨ae, ce, rfl, hme, hce⟩⟩ := hg
  have hfin : ∀ r : Bool, (r = true ↔ g.n ≤ 20 ∧ g.init.length ≤ 22 ∧ g.edges.length ≤ 60) → r = fewB g := fun r h => by unfold fewB; cases r <;> simp_all
  unfold maxLen at hmi hme
  clear hci hce
  obtain ⟨r, HX, hr⟩ : ∃ r, Hid (r = fewB g) ∧ ((¬ g.n ≤ 20 ∧ r = false) ∨ (g.n ≤ 20 ∧ ¬ g.init.length ≤ 22 ∧ r = false) ∨ (g.n ≤ 20 ∧ g.init.length ≤ 22 ∧ ¬ g.edges.length ≤ 60 ∧ r = false) ∨ (g.n ≤ 20 ∧ g.init.length ≤ 22 ∧ g.edges.length ≤ 60 ∧ r = true)) := by
    by_cases h1 : g.n ≤ 20
    · by_cases h2 : g.init.length ≤ 22
      · by_cases h3 : g.edges.length ≤ 60
        · exact ⟨true, Lib.hid (hfin true ⟨fun _ => ⟨h1, h2, h3⟩, fun _ => rfl⟩), .inr (.inr (.inr ⟨h1, h2, h3, rfl⟩))⟩
        · exact ⟨false, Lib.hid (hfin false ⟨fun h => (by cases h), fun h => absurd h.2.2 h3⟩), .inr (.inr (.inl ⟨h1, h2, h3, rfl⟩))⟩
      · exact ⟨false, Lib.hid (hfin false ⟨fun h => (by cases h), fun h => absurd h.2.1 h2⟩), .inr (.inl ⟨h1, h2, rfl⟩)⟩
    · exact ⟨false, Lib.hid (hfin false ⟨fun h => (by cases h), fun h => absurd h.1 h1⟩), .inl ⟨h1, rfl⟩⟩
  clear hfin
  rcases hr with ⟨h1, rfl⟩ | ⟨h1, h2, rfl⟩ | ⟨h1, h2, h3, rfl⟩ | ⟨h1, h2, h3, rfl⟩
  all_goals
    go_enter Try.func16, Try.ntmps16
    go_wp2
    go_ret
    first
      | exact ⟨ret_bool HX.out, (Below.refl _ _).alloc (Nat.le_refl _) _⟩
      | exact ⟨ret_bool ((decide_eq_false (by omega)).trans HX.out), (Below.refl _ _).alloc (Nat.le_refl _) _⟩
      | exact ⟨ret_bool ((decide_eq_true (by omega)).trans HX.out), (Below.refl _ _).alloc (Nat.le_refl _) _⟩

set_option maxHeartbeats 800000 in
set_option maxRecDepth 100000 in
theorem ownInts_any (l : List Int) (v : Value) (w : World) (hl : IntsAt w v l) (hr : l.length ≤ 100000) :
    Calls Try.prog 19 #[v] w fun e w' => ∃ v', e = .returned v' ∧ ownInts w' w.heap.size v' l ∧ Below w.heap.size w w' := by
  obtain ⟨i0, hi, hz0, hz1, hz2⟩ := info_parts infoInt
  obtain ⟨a, c, rfl, hm, hc⟩ := hl
  have hown := World.ownsRow_lit (base := w.heap.size) (e := 3) (size := 1) w #[] 0 (Nat.le_refl _) (Nat.zero_le _) rfl
  have hb0 : Below w.heap.size w (w.alloc (.cells #[] 3)) := (Below.refl _ _).alloc (Nat.le_refl _) _
  rcases a with _ | a
  · have h0 : l.length = 0 := by
      rcases Nat.eq_zero_or_pos l.length with h | h
      · exact h
      · obtain ⟨_, _, e, _⟩ := hc 0 h; cases e
    have hl0 : l = [] := List.length_eq_zero_iff.1 h0
    subst hl0
    go_enter Try.func19, Try.ntmps19
    go_wp2
    go_ret
    exact ⟨_, rfl, hown, hb0⟩
  · have hcell : ∀ j u, (l.map (Value.int .i64))[j]? = some u → w.cell? (a.add j) = some u := by
      intro j u hj
      have hjl : j < l.length := by
        have := (List.getElem?_eq_some_iff.1 hj).1
        simpa using this
      obtain ⟨b, off, e, h⟩ := hc j hjl
      injection e with e
      subst e
      rw [List.getElem?_map, List.getElem?_eq_getElem hjl] at hj
      simp at hj
      subst hj
      have : gi l j = l[j] := by simp [gi, List.getElem?_eq_getElem hjl]
      rw [← this]
      by_cases h0 : j = 0
      · subst h0; simpa [Addr.add] using h
      · simpa [Addr.add, h0] using h
    have HC := Lib.hid hcell; clear hcell hc
    go_enter Try.func19, Try.ntmps19
    go_wp2_with (at_builtin; refine wpList_append_own _ rfl _ _ 23 rfl w.heap.size 3 i0 (.int .i64 0) 1 8 Try.underlying23 hi hz0 hz1 hz2 rfl (by decide) _ 0 [] rfl hown a l.length c (l.map (Value.int .i64)) rfl ?c0 ?c1 ?c2 ?c3 ?c4 ?c5 ?_)
    case c1 =>
      intro j u hj
      refine Below.keeps hb0 (HC.out j _ ?_) (Nat.le_refl _)
      rw [List.getElem?_map, hj]; rfl
    case c2 => intro u hu; rfl
    case c4 => omega
    · intro v' w' hown' hgrow _
      have R1 : ownInts w' w.heap.size v' l := hown'
      have R2 : Below w.heap.size w w' := hb0.grown hgrow (by simp) (fun j hj => by injection hj with hj; simp at hj; omega)
      clear hown' hgrow hown hb0
      go_wp2
      go_ret
      exact ⟨_, rfl, R1, R2⟩

theorem wErr_le (l : List Int) : wErr l = 0 ↔ l.length = 12 ∧ ∀ k, k < l.length → wtOk (gi l k) := by
  unfold wErr
  by_cases h : l.length ≠ 12
  · rw [if_pos h]; simp; intro h2; exact absurd h2 h
  · rw [if_neg h]
    by_cases h2 : ∀ k, k < l.length → wtOk (gi l k)
    · rw [if_pos h2]; simp; exact ⟨by omega, h2⟩
    · rw [if_neg h2]; simp; intro _; simpa using h2

set_option maxHeartbeats 800000 in
set_option maxRecDepth 100000 in
theorem weightsErr_any (l : List Int) (v : Value) (w : World) (hl : IntsAt w v l) :
    Calls Try.prog 21 #[v] w fun e w' => e = .returned (.int .i64 (wErr l)) ∧ w' = w := by
  obtain ⟨a, c, rfl, hm, hc⟩ := hl
  unfold maxLen at hm
  by_cases h12 : l.length = 12
  · have hneq : ((l.length : Int) != 12) = false := by rw [h12]; rfl
    have HE : Hid (∀ r, ((∀ k, k < l.length → wtOk (gi l k)) → r = 0) → ((¬ ∀ k, k < l.length → wtOk (gi l k)) → r = 3) → r = wErr l) := fun r h1 h2 => by
      unfold wErr
      rw [if_neg (by simp [h12])]
      by_cases h : ∀ k, k < l.length → wtOk (gi l k)
      · rw [if_pos h]; exact h1 h
      · rw [if_neg h]; exact h2 h
    have H := Lib.hid hc; clear hc
    have H12 := Lib.hid h12; clear h12
    go_enter Try.func21, Try.ntmps21
    go_wp2
    go_loop [3] (fun i => ∃ k : Nat, k ≤ l.length ∧ i = .int .i64 k ∧ Hid (∀ j, j < k → wtOk (gi l j))) (fun i => l.length - (intOf i).toNat)
    case atStart => exact ⟨0, Nat.zero_le _, rfl, fun j hj => by omega⟩
    case round =>
      obtain ⟨k, hk, rfl, hall⟩ := hrel
      by_cases hlt : k < l.length
      · obtain ⟨b, o, e1, c1⟩ := H.out k hlt
        subst e1
        by_cases hw : wtOk (gi l k)
        · have HB : Hid (between (gi l k) 0 100 = true) := by unfold Hid between; unfold wtOk at hw; simpa using hw
          have HW := Lib.hid hw; clear hw
          go_wp2_with fail
          refine (between_any _ _ _ _).mono ?_
          rw [HB.out]
          rintro e w' ⟨rfl, rfl⟩
          go_wp2
          go_round
          case rel => exact ⟨k + 1, by omega, by go_num, fun j hj => (by rcases Nat.lt_succ_iff_lt_or_eq.1 hj with h | h; exact hall.out j h; rw [h]; exact HW.out)⟩
          case measure => simp [intOf]; omega
        · have HB : Hid (between (gi l k) 0 100 = false) := by unfold Hid between; unfold wtOk at hw; simpa using hw
          have HX : Hid ((3 : Int) = wErr l) := HE.out 3 (fun h => absurd (h k hlt) hw) (fun _ => rfl)
          clear hw
          go_wp2_with fail
          refine (between_any _ _ _ _).mono ?_
          rw [HB.out]
          rintro e w' ⟨rfl, rfl⟩
          go_wp2
          go_ret
          exact ⟨ret_int HX.out, rfl⟩
      · have hkk : k = l.length := by omega
        subst hkk
        have HX : Hid ((0 : Int) = wErr l) := HE.out 0 (fun _ => rfl) (fun h => absurd hall.out h)
        go_wp2
        go_ret
        exact ⟨ret_int HX.out, rfl⟩
  · have hneq : ((l.length : Int) != 12) = true := by simpa using (by omega : ¬ (l.length : Int) = 12)
    have HX : Hid ((6 : Int) = wErr l) := by unfold Hid wErr; rw [if_pos h12]
    clear hc h12
    go_enter Try.func21, Try.ntmps21
    go_wp2
    go_ret
    exact ⟨ret_int HX.out, rfl⟩
end Go.Proofs.Ytnijajjmcdgonaa
