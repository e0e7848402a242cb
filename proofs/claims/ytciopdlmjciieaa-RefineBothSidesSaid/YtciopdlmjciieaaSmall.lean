import Derived.Test.YtciopdlmjciieaaBox
namespace Go.Proofs.Ytciopdlmjciieaa
open Go.RowKit
set_option linter.unusedVariables false

/-- A Boolean comes back. -/
def BoolPost (w : World) (e : Ending) (w' : World) : Prop := ∃ b, e = .returned (.bool b) ∧ Below w.heap.size w w'
/-- A graph in a box of a call's own. -/
structure GB (w wr : World) (g : G) (a b : Option Addr) (c d : Nat) : Prop where
  g0 : wr.cell? ⟨w.heap.size, 0, none⟩ = some (.int .i64 g.n)
  g1 : wr.cell? ⟨w.heap.size, 1, none⟩ = some (.slice a g.init.length c)
  g2 : wr.cell? ⟨w.heap.size, 2, none⟩ = some (.slice b g.edges.length d)
theorem GB.made (w : World) (g : G) (a b : Option Addr) (c d : Nat) (t : TypeId) : GB w (w.alloc (Obj.cells #[.int .i64 g.n, .slice a g.init.length c, .slice b g.edges.length d] t)) g a b c d :=
  ⟨box_cell _ _ _ 0 _ rfl, box_cell _ _ _ 1 _ rfl, box_cell _ _ _ 2 _ rfl⟩

set_option maxHeartbeats 1000000 in
set_option maxRecDepth 100000 in
theorem small_any (g : G) (v : Value) (w : World) (hg : GraphAt w v g) :
    Calls Try.prog 25 #[v] w (BoolPost w) := by
  obtain ⟨vi, ve, rfl, ⟨ai, ci, rfl, hmi, hci⟩, ⟨ae, ce, rfl, hme, hce⟩⟩ := hg
  have hb0 : Below w.heap.size w (w.alloc (Obj.cells #[Value.int IntKind.i64 g.n, Value.slice ai g.init.length ci, Value.slice ae g.edges.length ce] 25)) := (Below.refl _ _).alloc (Nat.le_refl _) _
  have hG := GB.made w g ai ae ci ce 25
  have HB := Lib.hid hb0; clear hb0 hci hce hmi hme
  go_enter Try.func25, Try.ntmps25
  go_upto_region 1 with (fail)
  generalize (w.alloc (Obj.cells #[Value.int IntKind.i64 g.n, Value.slice ai g.init.length ci, Value.slice ae g.edges.length ce] 25)) = w0 at *
  have g0 := hG.g0; have g1 := hG.g1; have g2 := hG.g2
  clear hG
  generalize g.init.length = n1 at *
  generalize g.edges.length = n2 at *
  generalize g.n = n0 at *
  by_cases h1 : n0 ≤ 7
  · by_cases h2 : (n1 : Int) ≤ 45
    · by_cases h3 : (n2 : Int) ≤ 24
      · go_wp2; go_ret; exact ⟨_, rfl, HB.out⟩
      · go_wp2; go_ret; exact ⟨_, rfl, HB.out⟩
    · go_wp2; go_ret; exact ⟨_, rfl, HB.out⟩
  · by_cases h4 : 40 < n0
    · by_cases h2 : (n1 : Int) ≤ 45
      · by_cases h3 : (n2 : Int) ≤ 24
        · go_wp2; go_ret; exact ⟨_, rfl, HB.out⟩
        · go_wp2; go_ret; exact ⟨_, rfl, HB.out⟩
      · go_wp2; go_ret; exact ⟨_, rfl, HB.out⟩
    · go_wp2; go_ret; exact ⟨_, rfl, HB.out⟩

set_option maxHeartbeats 1000000 in
set_option maxRecDepth 100000 in
theorem few_any (p : P2) (v : Value) (w : World) (hv : PairV w v p) :
    Calls Try.prog 6 #[v] w (BoolPost w) := by
  obtain ⟨i1, e1, i2, e2, l1, l2, c1, d1, c2, d2, k1, k2, rfl, hR⟩ := hv.open
  have HR := Lib.hid hR; clear hR hv
  go_enter Try.func6, Try.ntmps6
  go_wp2_with fail
  have hB := PB.made HR.out 27
  clear HR
  generalize w.alloc _ = wb at *
  refine (small_any p.lo _ _ hB.r.lo).mono ?_
  rintro e wa ⟨x, rfl, hba⟩
  replace hB := hB.later hba
  clear hba
  cases x with
  | false =>
    have HB := Lib.hid hB; clear hB
    go_wp2
    go_ret
    exact ⟨_, rfl, HB.out.bw⟩
  | true =>
    have b3 := hB.b3; have b4 := hB.b4; have b5 := hB.b5
    have HB := Lib.hid hB; clear hB
    go_wp2_with fail
    refine (small_any p.up _ _ HB.out.r.up).mono ?_
    rintro e wc ⟨y, rfl, hbc⟩
    have hB := HB.out.later hbc
    clear HB hbc b3 b4 b5
    have b6 := hB.b6; have b7 := hB.b7
    have HB := Lib.hid hB; clear hB
    cases y with
    | false =>
      go_wp2
      go_ret
      exact ⟨_, rfl, HB.out.bw⟩
    | true =>
      by_cases h5 : (p.ll.length : Int) ≤ 45
      · by_cases h6 : (p.ul.length : Int) ≤ 45
        · go_wp2; go_ret; exact ⟨_, rfl, HB.out.bw⟩
        · go_wp2; go_ret; exact ⟨_, rfl, HB.out.bw⟩
      · go_wp2; go_ret; exact ⟨_, rfl, HB.out.bw⟩
end Go.Proofs.Ytciopdlmjciieaa
