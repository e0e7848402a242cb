import Derived.Test.YtnijajjmcdgonaaWalkErr
namespace Go.Proofs.Ytnijajjmcdgonaa
open Go.RowKit
set_option linter.unusedVariables false

set_option maxHeartbeats 3000000 in
set_option maxRecDepth 100000 in
theorem possible_any (g : G) (l : List Int) (s : Int) (vg vl : Value) (w : World) (hg : GraphAt w vg g) (hl : IntsAt w vl l) (hF : Fine g l) :
    Calls Try.prog 48 #[vg, vl, .int .i64 s] w fun e w' =>
      ∃ v, e = .returned (.tuple #[v, .int .i64 (sumTo g l s g.edges.length)]) ∧ ownInts w' (w.heap.size + 1) v (selTo g l s g.edges.length) ∧ Below w.heap.size w w' := by
  obtain ⟨vi, ve, rfl, -, ⟨ae, ce, rfl, hme, hce⟩⟩ := hg
  obtain ⟨al, cl, rfl, hml, hcl⟩ := hl
  obtain ⟨i0, hi, hz0, hz1, hz2⟩ := info_parts infoInt
  have hel : g.edges.length ≤ 2000 := hF.ok.2.1
  unfold maxLen at hme hml
  go_enter Try.func48, Try.ntmps48
  go_wp2
  have hb0 : Below w.heap.size w (w.alloc (Obj.cells #[Value.int IntKind.i64 g.n, vi, Value.slice ae g.edges.length ce] 34)) := (Below.refl _ _).alloc (Nat.le_refl _) _
  have hs0 : w.heap.size + 1 ≤ (w.alloc (Obj.cells #[Value.int IntKind.i64 g.n, vi, Value.slice ae g.edges.length ce] 34)).heap.size := by simp
  have hg0 : (w.alloc (Obj.cells #[Value.int IntKind.i64 g.n, vi, Value.slice ae g.edges.length ce] 34)).cell? ⟨w.heap.size, 2, none⟩ = some (.slice ae g.edges.length ce) := World.cell?_alloc_at _ _ _ _ rfl
  generalize (w.alloc (Obj.cells #[Value.int IntKind.i64 g.n, vi, Value.slice ae g.edges.length ce] 34)) = w0 at *
  go_loopw [8, 9, 10] (fun v q i wr => ∃ k : Nat, k ≤ g.edges.length ∧ i = .int .i64 k ∧ q = .int .i64 (sumTo g l s k) ∧ ownInts wr (w.heap.size + 1) v (selTo g l s k) ∧
      Below w.heap.size w wr ∧ w.heap.size + 1 ≤ wr.heap.size ∧ wr.cell? ⟨w.heap.size, 2, none⟩ = some (.slice ae g.edges.length ce)) (fun _ _ i _ => g.edges.length - (intOf i).toNat)
  case atStart => exact ⟨0, Nat.zero_le _, rfl, rfl, World.ownsRow_nil _ _ _ _, hb0, hs0, hg0⟩
  case round =>
    clear hg0 hb0 hs0
    obtain ⟨k, hk, rfl, rfl, hown, hb, hsz, hg2⟩ := hrel
    by_cases hlt : k < g.edges.length
    · obtain ⟨b, o, e1, c1, c2, c3⟩ := hce.later hb k hlt
      subst e1
      obtain ⟨ha0, ha1, ha2, ha3⟩ := hF.act hlt
      have ha4 : (ge g.edges k).a < (l.length : Int) := by omega
      obtain ⟨b', o', e1, c4⟩ := hcl.later hb _ ha2
      subst e1
      unfold wtOk at ha3
      have hsum := sumTo_bd hF s k hk
      have hlen := selTo_len g l s k
      have hbb : b < wr.heap.size := cell_lt c1
      have hbb' : b' < wr.heap.size := cell_lt c4
      have hbw : w.heap.size < wr.heap.size := by omega
      by_cases d1 : (ge g.edges k).f = s
      · have d1' : ((ge g.edges k).f == s) = true := by simpa using d1
        have D1 := Lib.hid d1; clear d1
        by_cases d2 : 0 < gi l (ge g.edges k).a.toNat
        · have hch : Hid (chosen g l s k) := ⟨D1.out, d2⟩
          go_wp2_with (at_builtin; refine wpList_append_own _ rfl _ _ 23 rfl (w.heap.size + 1) 3 i0 (.int .i64 0) 1 8 Try.underlying23 hi hz0 hz1 hz2 rfl (by decide) _ _ _ rfl (hown.alloc _) ⟨wr.heap.size, 0, none⟩ 1 1 [.int .i64 (k : Int)] rfl rfl ?c1 ?c2 ?c3 ?c4 ?c5 ?_)
          case c1 =>
            intro j u hj
            match j, hj with
            | 0, hj => simp at hj; subst hj; simp [Addr.add]
          case c2 => intro u hu; simp at hu; subst hu; rfl
          case c3 => unfold maxLen; omega
          case c4 => omega
          case c5 => simp; omega
          · intro v' w' hown' hgrow _
            have R1 : ownInts w' (w.heap.size + 1) v' (selTo g l s (k + 1)) := by rw [selTo_yes hch.out]; simpa [ownInts] using hown'
            have R2 : Below w.heap.size w w' := (hb.alloc hb.size _).grown hgrow (by simp; omega) (fun j hj => by have := (hown.lt j hj).1; omega)
            have R3 : w.heap.size + 1 ≤ w'.heap.size := by have := hgrow.size; simp at this; omega
            have R4 : Hid (sumTo g l s k + gi l (ge g.edges k).a.toNat = sumTo g l s (k + 1)) := (sumTo_yes hch.out).symm
            have R5 : w'.cell? ⟨w.heap.size, 2, none⟩ = some (.slice (some ⟨b, o, none⟩) g.edges.length ce) := hgrow.cell ((World.cell?_alloc_past _ _ _ (by show w.heap.size < _; omega)).trans hg2) (fun h => by have := (hown.lt _ h.symm).1; simp at this; omega)
            obtain ⟨b2, o2, e2, k1, k2, k3⟩ := hce.later R2 k hlt
            injection e2 with e2
            injection e2 with e2 e3 e4
            subst e2 e3
            obtain ⟨b'', o'', e1, c5⟩ := hcl.later R2 _ ha2
            injection e1 with e1
            injection e1 with e1 e2 e3
            subst e1 e2
            clear hown' hgrow hown c1 c2 c3 c4 d1' hg2
            go_wp2
            rw [R4.out]
            exact ⟨⟨k + 1, by omega, by go_num, rfl, R1, R2, R3, R5⟩, by simp [intOf]; omega⟩
        · have hch : Hid (¬ chosen g l s k) := fun h => d2 h.2
          have R4 : Hid (sumTo g l s k = sumTo g l s (k + 1)) := (sumTo_no hch.out).symm
          have R1 : Hid (ownInts wr (w.heap.size + 1) u8 (selTo g l s (k + 1))) := by unfold Hid; rw [selTo_no hch.out]; exact hown
          have d2' : decide (0 < gi l (ge g.edges k).a.toNat) = false := decide_eq_false d2
          go_wp2
          rw [R4.out]
          exact ⟨⟨k + 1, by omega, by go_num, rfl, R1.out, hb, hsz, hg2⟩, by simp [intOf]; omega⟩
      · have d1' : ((ge g.edges k).f == s) = false := by simpa using d1
        have hch : Hid (¬ chosen g l s k) := fun h => d1 h.1
        have R4 : Hid (sumTo g l s k = sumTo g l s (k + 1)) := (sumTo_no hch.out).symm
        have R1 : Hid (ownInts wr (w.heap.size + 1) u8 (selTo g l s (k + 1))) := by unfold Hid; rw [selTo_no hch.out]; exact hown
        clear d1
        go_wp2
        rw [R4.out]
        exact ⟨⟨k + 1, by omega, by go_num, rfl, R1.out, hb, hsz, hg2⟩, by simp [intOf]; omega⟩
    · have hkk : k = g.edges.length := by omega
      subst hkk
      obtain ⟨av, cv, rfl⟩ := own_form hown
      go_wp2
      go_ret2
      exact ⟨_, rfl, hown, hb⟩
end Go.Proofs.Ytnijajjmcdgonaa
