import Derived.Test.YtnijajjmcdgonaaWalkI
namespace Go.Proofs.Ytnijajjmcdgonaa
open Go.RowKit
set_option linter.unusedVariables false

set_option maxHeartbeats 800000 in
set_option maxRecDepth 100000 in
theorem clone_any (l : List Int) (v : Value) (w : World) (hl : IntsAt w v l) (hr : l.length ≤ 100000) :
    Calls Try.prog 61 #[v] w fun e w' => ∃ v', e = .returned v' ∧ ownInts w' w.heap.size v' l ∧ Below w.heap.size w w' := by
  obtain ⟨i0, hi, hz0, hz1, hz2⟩ := info_parts infoInt
  obtain ⟨a, c, rfl, hm, hc⟩ := hl
  rcases a with _ | a
  · have h0 : l.length = 0 := by
      rcases Nat.eq_zero_or_pos l.length with h | h
      · exact h
      · obtain ⟨_, _, e, _⟩ := hc 0 h; cases e
    have hl0 : l = [] := List.length_eq_zero_iff.1 h0
    subst hl0
    have he := Lib.run_eql_slice_nil (P := Try.prog) w 23 3 none 0 c 0 0 Try.underlying23
    go_enter Try.func61, Try.ntmps61
    go_wp2
    go_ret
    exact ⟨_, rfl, World.ownsRow_nil _ _ _ _, Below.refl _ _⟩
  · have he := Lib.run_eql_slice_nil (P := Try.prog) w 23 3 (some a) l.length c 0 0 Try.underlying23
    have hcell : ∀ j u, (l.map (Value.int .i64))[j]? = some u → w.cell? (a.add j) = some u := by
      intro j u hj
      have hjl : j < l.length := by
        have := (List.getElem?_eq_some_iff.1 hj).1
        simpa using this
      obtain ⟨b, off, e, h⟩ := hc j hjl
      injection e with e
      subst e
      rw [List.getElem?_map, List.getElem?_eq_getElem hjl] at hj
      simp at hj
      subst hj
      have : gi l j = l[j] := by simp [gi, List.getElem?_eq_getElem hjl]
      rw [← this]
      by_cases h0 : j = 0
      · subst h0; simpa [Addr.add] using h
      · simpa [Addr.add, h0] using h
    have HC := Lib.hid hcell; clear hcell hc
    have hown := World.ownsRow_lit (base := w.heap.size) (e := 3) (size := 1) w #[] 0 (Nat.le_refl _) (Nat.zero_le _) rfl
    have hb0 : Below w.heap.size w (w.alloc (.cells #[] 3)) := (Below.refl _ _).alloc (Nat.le_refl _) _
    go_enter Try.func61, Try.ntmps61
    go_wp2_with (at_builtin; refine wpList_append_own _ rfl _ _ 23 rfl w.heap.size 3 i0 (.int .i64 0) 1 8 Try.underlying23 hi hz0 hz1 hz2 rfl (by decide) _ 0 [] rfl hown a l.length c (l.map (Value.int .i64)) rfl ?c0 ?c1 ?c2 ?c3 ?c4 ?c5 ?_)
    case c1 =>
      intro j u hj
      refine Below.keeps hb0 (HC.out j _ ?_) (Nat.le_refl _)
      rw [List.getElem?_map, hj]; rfl
    case c2 => intro u hu; rfl
    case c4 => omega
    · intro v' w' hown' hgrow _
      have R1 : ownInts w' w.heap.size v' l := hown'
      have R2 : Below w.heap.size w w' := hb0.grown hgrow (by simp) (fun j hj => by injection hj with hj; simp at hj; omega)
      clear hown' hgrow hown hb0
      go_wp2
      go_ret
      exact ⟨_, rfl, R1, R2⟩
end Go.Proofs.Ytnijajjmcdgonaa
