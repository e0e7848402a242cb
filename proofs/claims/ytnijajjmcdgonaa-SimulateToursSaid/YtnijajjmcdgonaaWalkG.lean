import Derived.Test.YtnijajjmcdgonaaWalkF
namespace Go.Proofs.Ytnijajjmcdgonaa
open Go.RowKit
set_option linter.unusedVariables false

def chosen (g : G) (l : List Int) (s : Int) (i : Nat) : Prop := (ge g.edges i).f = s ∧ 0 < gi l (ge g.edges i).a.toNat
instance (g : G) (l : List Int) (s : Int) (i : Nat) : Decidable (chosen g l s i) := inferInstanceAs (Decidable (_ ∧ _))
def selTo (g : G) (l : List Int) (s : Int) : Nat → List Int
  | 0 => []
  | k + 1 => if chosen g l s k then selTo g l s k ++ [(k : Int)] else selTo g l s k
def sumTo (g : G) (l : List Int) (s : Int) : Nat → Int
  | 0 => 0
  | k + 1 => if chosen g l s k then sumTo g l s k + gi l (ge g.edges k).a.toNat else sumTo g l s k
theorem selTo_yes {g : G} {l : List Int} {s : Int} {k : Nat} (h : chosen g l s k) : selTo g l s (k + 1) = selTo g l s k ++ [(k : Int)] := by simp [selTo, h]
theorem selTo_no {g : G} {l : List Int} {s : Int} {k : Nat} (h : ¬ chosen g l s k) : selTo g l s (k + 1) = selTo g l s k := by simp [selTo, h]
theorem sumTo_yes {g : G} {l : List Int} {s : Int} {k : Nat} (h : chosen g l s k) : sumTo g l s (k + 1) = sumTo g l s k + gi l (ge g.edges k).a.toNat := by simp [sumTo, h]
theorem sumTo_no {g : G} {l : List Int} {s : Int} {k : Nat} (h : ¬ chosen g l s k) : sumTo g l s (k + 1) = sumTo g l s k := by simp [sumTo, h]
theorem selTo_len (g : G) (l : List Int) (s : Int) : ∀ k, (selTo g l s k).length ≤ k
  | 0 => by simp [selTo]
  | k + 1 => by
    have := selTo_len g l s k
    by_cases h : chosen g l s k
    · rw [selTo_yes h]; simp; omega
    · rw [selTo_no h]; omega
/-- A graph and weights as WalkOf takes them. -/
structure Fine (g : G) (l : List Int) : Prop where
  ok : graphOk g
  n : g.n ≤ 400
  len : l.length = 12
  wt : ∀ k, k < l.length → wtOk (gi l k)
theorem Fine.act {g : G} {l : List Int} (h : Fine g l) {k : Nat} (hk : k < g.edges.length) : 0 ≤ (ge g.edges k).a ∧ (ge g.edges k).a < 12 ∧ (ge g.edges k).a.toNat < l.length ∧ wtOk (gi l (ge g.edges k).a.toNat) := by
  have h1 := h.ok.2.2.2 k hk
  have h2 : (ge g.edges k).a.toNat < l.length := by rw [h.len]; have := h1.1.2.2; have := h1.2.2.1; omega
  exact ⟨h1.1.2.2, h1.2.2.1, h2, h.wt _ h2⟩
theorem sumTo_bd {g : G} {l : List Int} (h : Fine g l) (s : Int) : ∀ k, k ≤ g.edges.length → 0 ≤ sumTo g l s k ∧ sumTo g l s k ≤ 100 * k
  | 0, _ => by simp [sumTo]
  | k + 1, hk => by
    have ih := sumTo_bd h s k (by omega)
    have ha := (h.act (k := k) (by omega)).2.2.2
    unfold wtOk at ha
    by_cases hc : chosen g l s k
    · rw [sumTo_yes hc]; omega
    · rw [sumTo_no hc]; omega

set_option maxHeartbeats 2000000 in
set_option maxRecDepth 100000 in
theorem weighted_any (g : G) (l : List Int) (s : Int) (vg vl : Value) (w : World) (hg : GraphAt w vg g) (hl : IntsAt w vl l) (hF : Fine g l) :
    Calls Try.prog 45 #[vg, vl, .int .i64 s] w fun e w' =>
      ∃ v, e = .returned (.tuple #[v, .int .i64 (sumTo g l s g.edges.length)]) ∧ ownInts w' (w.heap.size + 1) v (selTo g l s g.edges.length) ∧ Below w.heap.size w w' := by
  obtain ⟨vi, ve, rfl, -, ⟨ae, ce, rfl, hme, hce⟩⟩ := hg
  obtain ⟨al, cl, rfl, hml, hcl⟩ := hl
  obtain ⟨i0, hi, hz0, hz1, hz2⟩ := info_parts infoInt
  have hel : g.edges.length ≤ 2000 := hF.ok.2.1
  unfold maxLen at hme hml
  go_enter Try.func45, Try.ntmps45
  go_wp2
  have hb0 : Below w.heap.size w (w.alloc (Obj.cells #[Value.int IntKind.i64 g.n, vi, Value.slice ae g.edges.length ce] 34)) := (Below.refl _ _).alloc (Nat.le_refl _) _
  have hs0 : w.heap.size + 1 ≤ (w.alloc (Obj.cells #[Value.int IntKind.i64 g.n, vi, Value.slice ae g.edges.length ce] 34)).heap.size := by simp
  generalize (w.alloc (Obj.cells #[Value.int IntKind.i64 g.n, vi, Value.slice ae g.edges.length ce] 34)) = w0 at *
  go_loopw [8, 9, 15] (fun v q i wr => ∃ k : Nat, k ≤ g.edges.length ∧ i = .int .i64 k ∧ q = .int .i64 (sumTo g l s k) ∧ ownInts wr (w.heap.size + 1) v (selTo g l s k) ∧
      Below w.heap.size w wr ∧ w.heap.size + 1 ≤ wr.heap.size) (fun _ _ i _ => g.edges.length - (intOf i).toNat)
  case atStart => exact ⟨0, Nat.zero_le _, rfl, rfl, World.ownsRow_nil _ _ _ _, hb0, hs0⟩
  case round =>
    obtain ⟨k, hk, rfl, rfl, hown, hb, hsz⟩ := hrel
    by_cases hlt : k < g.edges.length
    · obtain ⟨b, o, e1, c1, c2, c3⟩ := hce.later hb k hlt
      subst e1
      obtain ⟨ha0, ha1, ha2, ha3⟩ := hF.act hlt
      have ha4 : (ge g.edges k).a < (l.length : Int) := by omega
      obtain ⟨b', o', e1, c4⟩ := hcl.later hb _ ha2
      subst e1
      unfold wtOk at ha3
      have hsum := sumTo_bd hF s k hk
      have hlen := selTo_len g l s k
      have hbb : b < wr.heap.size := cell_lt c1
      have hbb' : b' < wr.heap.size := cell_lt c4
      by_cases d1 : (ge g.edges k).f = s
      · have d1' : ((ge g.edges k).f == s) = true := by simpa using d1
        have D1 := Lib.hid d1; clear d1
        by_cases d2 : 0 < gi l (ge g.edges k).a.toNat
        · have hch : Hid (chosen g l s k) := ⟨D1.out, d2⟩
          go_wp2_with (at_builtin; refine wpList_append_own _ rfl _ _ 23 rfl (w.heap.size + 1) 3 i0 (.int .i64 0) 1 8 Try.underlying23 hi hz0 hz1 hz2 rfl (by decide) _ _ _ rfl ((hown.alloc _).alloc _) ⟨wr.heap.size + 1, 0, none⟩ 1 1 [.int .i64 (k : Int)] rfl rfl ?c1 ?c2 ?c3 ?c4 ?c5 ?_)
          case c1 =>
            intro j u hj
            match j, hj with
            | 0, hj => simp at hj; subst hj; simp [Addr.add]
          case c2 => intro u hu; simp at hu; subst hu; rfl
          case c3 => unfold maxLen; omega
          case c4 => omega
          case c5 => simp; omega
          · intro v' w' hown' hgrow _
            have R1 : ownInts w' (w.heap.size + 1) v' (selTo g l s (k + 1)) := by rw [selTo_yes hch.out]; simpa [ownInts] using hown'
            have R2 : Below w.heap.size w w' := ((hb.alloc hb.size _).alloc (by simp; omega) _).grown hgrow (by simp; omega) (fun j hj => by have := (hown.lt j hj).1; omega)
            have R3 : w.heap.size + 1 ≤ w'.heap.size := by have := hgrow.size; simp at this; omega
            have R4 : Hid (sumTo g l s k + gi l (ge g.edges k).a.toNat = sumTo g l s (k + 1)) := (sumTo_yes hch.out).symm
            have k1 : w'.cell? ⟨wr.heap.size, 0, none⟩ = some (.int .i64 (ge g.edges k).f) := hgrow.cell (by rw [World.cell?_alloc_past _ _ _ (by simp)]; exact World.cell?_alloc_at _ _ _ _ rfl) (fun h => by have := (hown.lt _ h.symm).2; simp at this)
            have k2 : w'.cell? ⟨wr.heap.size, 2, none⟩ = some (.int .i64 (ge g.edges k).a) := hgrow.cell (by rw [World.cell?_alloc_past _ _ _ (by simp)]; exact World.cell?_alloc_at _ _ _ _ rfl) (fun h => by have := (hown.lt _ h.symm).2; simp at this)
            obtain ⟨b'', o'', e1, c5⟩ := hcl.later R2 _ ha2
            injection e1 with e1
            injection e1 with e1 e2 e3
            subst e1 e2
            clear hown' hgrow hown c1 c2 c3 c4 d1'
            go_wp2
            rw [R4.out]
            exact ⟨⟨k + 1, by omega, by go_num, rfl, R1, R2, R3⟩, by simp [intOf]; omega⟩
        · have hch : Hid (¬ chosen g l s k) := fun h => d2 h.2
          have R1 : ownInts (wr.alloc (Obj.cells #[.int .i64 (ge g.edges k).f, .int .i64 (ge g.edges k).t, .int .i64 (ge g.edges k).a] 74)) (w.heap.size + 1) u8 (selTo g l s (k + 1)) := by rw [selTo_no hch.out]; exact hown.alloc _
          have R4 : Hid (sumTo g l s k = sumTo g l s (k + 1)) := (sumTo_no hch.out).symm
          have R2 := hb.alloc hb.size (Obj.cells #[.int .i64 (ge g.edges k).f, .int .i64 (ge g.edges k).t, .int .i64 (ge g.edges k).a] 74)
          go_wp2
          rw [R4.out]
          exact ⟨⟨k + 1, by omega, by go_num, rfl, R1, R2, by simp; omega⟩, by simp [intOf]; omega⟩
      · have hch : Hid (¬ chosen g l s k) := fun h => d1 h.1
        have d1' : ((ge g.edges k).f == s) = false := by simpa using d1
        have R1 : ownInts (wr.alloc (Obj.cells #[.int .i64 (ge g.edges k).f, .int .i64 (ge g.edges k).t, .int .i64 (ge g.edges k).a] 74)) (w.heap.size + 1) u8 (selTo g l s (k + 1)) := by rw [selTo_no hch.out]; exact hown.alloc _
        have R4 : Hid (sumTo g l s k = sumTo g l s (k + 1)) := (sumTo_no hch.out).symm
        have R2 := hb.alloc hb.size (Obj.cells #[.int .i64 (ge g.edges k).f, .int .i64 (ge g.edges k).t, .int .i64 (ge g.edges k).a] 74)
        clear d1
        go_wp2
        rw [R4.out]
        exact ⟨⟨k + 1, by omega, by go_num, rfl, R1, R2, by simp; omega⟩, by simp [intOf]; omega⟩
    · have hkk : k = g.edges.length := by omega
      subst hkk
      go_wp2
      go_ret2
      exact ⟨_, rfl, hown, hb⟩
end Go.Proofs.Ytnijajjmcdgonaa
