import Derived.Test.YtnijajjmcdgonaaWalkW
namespace Go.Proofs.Ytnijajjmcdgonaa
open Go.RowKit
set_option linter.unusedVariables false

/-- What a function keeps in memory of a graph and a walk that came by value: its first two blocks. -/
structure CI (w wr : World) (g : G) (x : W3) (ai : Option Addr) (ci : Nat) (ae : Option Addr) (ce : Nat) (aw : Option Addr) (cs : Nat) : Prop where
  gi : GI w wr g ai ci ae ce
  x0 : wr.cell? ⟨w.heap.size + 1, 0, none⟩ = some (.int .i64 x.first)
  x1 : wr.cell? ⟨w.heap.size + 1, 1, none⟩ = some (.slice aw x.steps.length cs)
  x2 : wr.cell? ⟨w.heap.size + 1, 2, none⟩ = some (.bool x.stuck)
  hs : IntsCells wr aw x.steps
  mi : g.init.length ≤ maxLen
  me : g.edges.length ≤ maxLen
  ms : x.steps.length ≤ maxLen
theorem CI.later {w wr wr' : World} {g : G} {x : W3} {ai : Option Addr} {ci : Nat} {ae : Option Addr} {ce : Nat} {aw : Option Addr} {cs : Nat} (h : CI w wr g x ai ci ae ce aw cs) (hb : Below wr.heap.size wr wr') : CI w wr' g x ai ci ae ce aw cs :=
  ⟨h.gi.later hb, Below.keeps hb h.x0 (Nat.le_refl _), Below.keeps hb h.x1 (Nat.le_refl _), Below.keeps hb h.x2 (Nat.le_refl _), h.hs.later hb, h.mi, h.me, h.ms⟩
theorem CI.graph {w wr : World} {g : G} {x : W3} {ai : Option Addr} {ci : Nat} {ae : Option Addr} {ce : Nat} {aw : Option Addr} {cs : Nat} (h : CI w wr g x ai ci ae ce aw cs) :
    GraphAt wr (.agg #[.int .i64 g.n, .slice ai g.init.length ci, .slice ae g.edges.length ce]) g :=
  ⟨_, _, rfl, ⟨_, _, rfl, h.mi, h.gi.hi⟩, ⟨_, _, rfl, h.me, h.gi.he⟩⟩
theorem CI.walk {w wr : World} {g : G} {x : W3} {ai : Option Addr} {ci : Nat} {ae : Option Addr} {ce : Nat} {aw : Option Addr} {cs : Nat} (h : CI w wr g x ai ci ae ce aw cs) :
    WalkAt wr (.agg #[.int .i64 x.first, .slice aw x.steps.length cs, .bool x.stuck]) x :=
  ⟨_, rfl, ⟨_, _, rfl, h.ms, h.hs⟩⟩
theorem CI.made (w : World) (g : G) (x : W3) (ai : Option Addr) (ci : Nat) (ae : Option Addr) (ce : Nat) (aw : Option Addr) (cs : Nat) (t t' : TypeId) (h1 : IntsCells w ai g.init) (h2 : EdgesCells w ae g.edges) (h3 : IntsCells w aw x.steps) (mi : g.init.length ≤ maxLen) (me : g.edges.length ≤ maxLen) (ms : x.steps.length ≤ maxLen) :
    CI w ((w.alloc (Obj.cells #[Value.int IntKind.i64 g.n, Value.slice ai g.init.length ci, Value.slice ae g.edges.length ce] t)).alloc (Obj.cells #[Value.int IntKind.i64 x.first, Value.slice aw x.steps.length cs, Value.bool x.stuck] t')) g x ai ci ae ce aw cs :=
  ⟨(GI.made w g ai ci ae ce t h1 h2).later ((Below.refl _ _).alloc (Nat.le_refl _) _), by rw [World.cell?_alloc_at _ _ _ _ (by simp)]; rfl, by rw [World.cell?_alloc_at _ _ _ _ (by simp)]; rfl, by rw [World.cell?_alloc_at _ _ _ _ (by simp)]; rfl,
    (h3.later ((Below.refl _ _).alloc (Nat.le_refl _) _)).later ((Below.refl _ _).alloc (Nat.le_refl _) _), mi, me, ms⟩

set_option maxHeartbeats 2000000 in
set_option maxRecDepth 100000 in
theorem checkSteps_any (g : G) (x : W3) (vg vx : Value) (w : World) (hg : GraphAt w vg g) (hx : WalkAt w vx x) :
    Calls Try.prog 49 #[vg, vx] w fun e w' => e = .returned (.tuple #[.int .i64 (ckW g x.first x.steps).1, .int .i64 (ckW g x.first x.steps).2]) ∧ Below w.heap.size w w' := by
  obtain ⟨vi, ve, rfl, ⟨ai, ci, rfl, hmi, hci⟩, ⟨ae, ce, rfl, hme, hce⟩⟩ := hg
  obtain ⟨vs, rfl, ⟨aw, cs, rfl, hms, hcs⟩⟩ := hx
  have hC := CI.made w g x ai ci ae ce aw cs 34 39 hci hce hcs hmi hme hms
  have HC := Lib.hid hC
  clear hci hce hcs hC
  unfold maxLen at hmi hme hms
  have hfin : ∀ p : Int × Int, ckW g x.first x.steps = p → Hid (Ending.returned (.tuple #[.int .i64 p.1, .int .i64 p.2]) = .returned (.tuple #[.int .i64 (ckW g x.first x.steps).1, .int .i64 (ckW g x.first x.steps).2])) := fun p h => by unfold Hid; rw [h]
  by_cases h3 : 300 < x.steps.length
  · have HX := hfin (0, 2) (by unfold ckW; rw [if_pos h3])
    have hd : decide ((300 : Int) < (x.steps.length : Int)) = true := decide_eq_true (by omega)
    clear hfin h3
    go_enter Try.func49, Try.ntmps49
    go_wp2
    go_ret2
    exact ⟨HX.out, HC.out.gi.bw⟩
  have hd : decide ((300 : Int) < (x.steps.length : Int)) = false := decide_eq_false (by omega)
  by_cases hin : x.first ∈ g.init
  · have hck : ckW g x.first x.steps = stepsErr g x.first x.steps := by unfold ckW; rw [if_neg h3, if_pos hin]
    have HCK := Lib.hid hck; clear hck
    have HIN := Lib.hid hin; clear hin
    go_enter Try.func49, Try.ntmps49
    go_wp2_with fail
    generalize ((w.alloc (Obj.cells #[Value.int IntKind.i64 g.n, Value.slice ai g.init.length ci, Value.slice ae g.edges.length ce] 34)).alloc (Obj.cells #[Value.int IntKind.i64 x.first, Value.slice aw x.steps.length cs, Value.bool x.stuck] 39)) = w0 at *
    refine (contains_any g.init x.first _ _ ⟨_, _, rfl, HC.out.mi, HC.out.gi.hi⟩).mono ?_
    rw [decide_eq_true HIN.out]
    rintro e w1 ⟨rfl, rfl⟩
    have x0 := HC.out.x0
    have x1 := HC.out.x1
    have g2 := HC.out.gi.g2
    go_wp2
    go_loop [6, 24] (fun s i => ∃ (k : Nat) (st : Int), k ≤ x.steps.length ∧ i = .int .i64 k ∧ s = .int .i64 st ∧ Hid (stepsErr g x.first x.steps = stepsErr g st (x.steps.drop k))) (fun _ i => x.steps.length - (intOf i).toNat)
    case atStart => exact ⟨0, _, Nat.zero_le _, rfl, rfl, by unfold Hid; rw [List.drop_zero]⟩
    case round =>
      obtain ⟨k, st, hk, rfl, rfl, hst⟩ := hrel
      by_cases hlt : k < x.steps.length
      · obtain ⟨b, o, e1, c1⟩ := HC.out.hs k hlt
        subst e1
        have hst2 : Hid (ckW g x.first x.steps = stepsErr g st (gi x.steps k :: x.steps.drop (k + 1))) := by unfold Hid; rw [HCK.out, hst.out, drop_at hlt]
        clear hst
        by_cases d1 : gi x.steps k < 0
        · have HX := hfin (0, 3) (hst2.out.trans (stepsErr_out (.inl d1)))
          have HF := Lib.hid hfin; clear hfin
          go_wp2
          go_ret2
          exact ⟨HX.out, HC.out.gi.bw⟩
        · by_cases d2 : (g.edges.length : Int) ≤ gi x.steps k
          · have HX := hfin (0, 3) (hst2.out.trans (stepsErr_out (.inr d2)))
            have d2' : decide ((g.edges.length : Int) ≤ gi x.steps k) = true := decide_eq_true d2
            have HF := Lib.hid hfin; clear hfin
            go_wp2
            go_ret2
            exact ⟨HX.out, HC.out.gi.bw⟩
          · have hno : ¬ (gi x.steps k < 0 ∨ (g.edges.length : Int) ≤ gi x.steps k) := by omega
            obtain ⟨n, hn⟩ := Int.eq_ofNat_of_zero_le (show 0 ≤ gi x.steps k by omega)
            have hnl : n < g.edges.length := by omega
            have hn2 : (gi x.steps k).toNat = n := by omega
            obtain ⟨be, oe, ee, k0, k1, -⟩ := HC.out.gi.he n hnl
            subst ee
            have hn0 : (0 : Int) ≤ (n : Int) := by omega
            have hn1 : (n : Int) < (g.edges.length : Int) := by omega
            have hd3 : decide ((g.edges.length : Int) ≤ (n : Int)) = false := decide_eq_false (by omega)
            have hd3' : decide (g.edges.length ≤ n) = false := decide_eq_false (by omega)
            have hd4 : decide ((n : Int) < 0) = false := decide_eq_false (by omega)
            by_cases d3 : (ge g.edges n).f = st
            · have HS : Hid (stepsErr g x.first x.steps = stepsErr g (ge g.edges n).t (x.steps.drop (k + 1))) := by
                unfold Hid; rw [← HCK.out, hst2.out, stepsErr_next hno (by rw [hn2]; exact d3), hn2]
              have hne : ((ge g.edges n).f != st) = false := by simp [d3]
              have HF := Lib.hid hfin; clear hfin
              rw [hn] at c1
              clear hn hn2 hno d1 d2 d3 hst2
              go_wp2
              go_round
              case rel => exact ⟨k + 1, _, by omega, by go_num, rfl, HS⟩
              case measure => simp [intOf]; omega
            · have HX := hfin (0, 14) (hst2.out.trans (stepsErr_clash hno (by rw [hn2]; exact d3)))
              have hne : ((ge g.edges n).f != st) = true := by simpa using d3
              have HF := Lib.hid hfin; clear hfin
              rw [hn] at c1
              clear hn hn2 hno d1 d2 d3 hst2
              go_wp2
              go_ret2
              exact ⟨HX.out, HC.out.gi.bw⟩
      · have hkk : k = x.steps.length := by omega
        subst hkk
        have HX := hfin (st, 0) (by rw [HCK.out, hst.out, List.drop_length]; rfl)
        have HF := Lib.hid hfin; clear hfin
        clear hst
        go_wp2
        go_ret2
        exact ⟨HX.out, HC.out.gi.bw⟩
  · have HX := hfin (0, 10) (by unfold ckW; rw [if_neg h3, if_neg hin])
    have HIN := Lib.hid hin; clear hin hfin
    go_enter Try.func49, Try.ntmps49
    go_wp2_with fail
    generalize ((w.alloc (Obj.cells #[Value.int IntKind.i64 g.n, Value.slice ai g.init.length ci, Value.slice ae g.edges.length ce] 34)).alloc (Obj.cells #[Value.int IntKind.i64 x.first, Value.slice aw x.steps.length cs, Value.bool x.stuck] 39)) = w0 at *
    refine (contains_any g.init x.first _ _ ⟨_, _, rfl, HC.out.mi, HC.out.gi.hi⟩).mono ?_
    rw [decide_eq_false HIN.out]
    rintro e w1 ⟨rfl, rfl⟩
    go_wp2
    go_ret2
    exact ⟨HX.out, HC.out.gi.bw⟩
end Go.Proofs.Ytnijajjmcdgonaa
