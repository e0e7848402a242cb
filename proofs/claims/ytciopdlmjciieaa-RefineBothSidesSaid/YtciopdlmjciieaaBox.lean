import Derived.Test.YtciopdlmjciieaaPairD
import Derived.Test.YtciopdlmjciieaaConcat
namespace Go.Proofs.Ytciopdlmjciieaa
open Go.RowKit
set_option linter.unusedVariables false

structure PairFull (p : P2) : Prop extends PairOk p where
  lab : ∀ x ∈ p.ll ++ p.ul, 0 ≤ x ∧ x ≤ 10000
theorem box_cell (w : World) (cs : Array Value) (t : TypeId) (i : Nat) (v : Value) (h : cs[i]? = some v) : (w.alloc (.cells cs t)).cell? ⟨w.heap.size, i, none⟩ = some v := by
  rw [World.cell?_alloc_at _ _ _ _ rfl]; exact h
abbrev pCells (p : P2) (i1 e1 i2 e2 l1 l2 : Option Addr) (c1 d1 c2 d2 k1 k2 : Nat) : Array Value := #[.int .i64 p.lo.n, .slice i1 p.lo.init.length c1, .slice e1 p.lo.edges.length d1, .int .i64 p.up.n, .slice i2 p.up.init.length c2, .slice e2 p.up.edges.length d2, .slice l1 p.ll.length k1, .slice l2 p.ul.length k2]
/-- A pair that came by value: what its slices read as. -/
structure PR (w : World) (p : P2) (i1 e1 i2 e2 l1 l2 : Option Addr) (c1 d1 c2 d2 k1 k2 : Nat) : Prop where
  r1 : IntsAt w (.slice i1 p.lo.init.length c1) p.lo.init
  r2 : EdgesAt w (.slice e1 p.lo.edges.length d1) p.lo.edges
  r3 : IntsAt w (.slice i2 p.up.init.length c2) p.up.init
  r4 : EdgesAt w (.slice e2 p.up.edges.length d2) p.up.edges
  r5 : IntsAt w (.slice l1 p.ll.length k1) p.ll
  r6 : IntsAt w (.slice l2 p.ul.length k2) p.ul
theorem PairV.open {w : World} {v : Value} {p : P2} (h : PairV w v p) : ∃ i1 e1 i2 e2 l1 l2 c1 d1 c2 d2 k1 k2, v = .agg (pCells p i1 e1 i2 e2 l1 l2 c1 d1 c2 d2 k1 k2) ∧ PR w p i1 e1 i2 e2 l1 l2 c1 d1 c2 d2 k1 k2 := by
  obtain ⟨_, _, _, _, _, _, rfl, ⟨i1, c1, rfl, hm1, h1⟩, ⟨e1, d1, rfl, hm2, h2⟩, ⟨i2, c2, rfl, hm3, h3⟩, ⟨e2, d2, rfl, hm4, h4⟩, ⟨l1, k1, rfl, hm5, h5⟩, ⟨l2, k2, rfl, hm6, h6⟩⟩ := h
  exact ⟨i1, e1, i2, e2, l1, l2, c1, d1, c2, d2, k1, k2, rfl, ⟨_, _, rfl, hm1, h1⟩, ⟨_, _, rfl, hm2, h2⟩, ⟨_, _, rfl, hm3, h3⟩, ⟨_, _, rfl, hm4, h4⟩, ⟨_, _, rfl, hm5, h5⟩, ⟨_, _, rfl, hm6, h6⟩⟩
theorem PR.later {w w' : World} {p : P2} {i1 e1 i2 e2 l1 l2 : Option Addr} {c1 d1 c2 d2 k1 k2 : Nat} (h : PR w p i1 e1 i2 e2 l1 l2 c1 d1 c2 d2 k1 k2) (hb : Below w.heap.size w w') : PR w' p i1 e1 i2 e2 l1 l2 c1 d1 c2 d2 k1 k2 :=
  ⟨h.r1.later hb, h.r2.later hb, h.r3.later hb, h.r4.later hb, h.r5.later hb, h.r6.later hb⟩
theorem PR.val {w : World} {p : P2} {i1 e1 i2 e2 l1 l2 : Option Addr} {c1 d1 c2 d2 k1 k2 : Nat} (h : PR w p i1 e1 i2 e2 l1 l2 c1 d1 c2 d2 k1 k2) : PairV w (.agg (pCells p i1 e1 i2 e2 l1 l2 c1 d1 c2 d2 k1 k2)) p :=
  ⟨_, _, _, _, _, _, rfl, h.r1, h.r2, h.r3, h.r4, h.r5, h.r6⟩
/-- A pair in a box of a call's own. -/
structure PB (w wr : World) (p : P2) (i1 e1 i2 e2 l1 l2 : Option Addr) (c1 d1 c2 d2 k1 k2 : Nat) : Prop where
  b0 : wr.cell? ⟨w.heap.size, 0, none⟩ = some (.int .i64 p.lo.n)
  b1 : wr.cell? ⟨w.heap.size, 1, none⟩ = some (.slice i1 p.lo.init.length c1)
  b2 : wr.cell? ⟨w.heap.size, 2, none⟩ = some (.slice e1 p.lo.edges.length d1)
  b3 : wr.cell? ⟨w.heap.size, 3, none⟩ = some (.int .i64 p.up.n)
  b4 : wr.cell? ⟨w.heap.size, 4, none⟩ = some (.slice i2 p.up.init.length c2)
  b5 : wr.cell? ⟨w.heap.size, 5, none⟩ = some (.slice e2 p.up.edges.length d2)
  b6 : wr.cell? ⟨w.heap.size, 6, none⟩ = some (.slice l1 p.ll.length k1)
  b7 : wr.cell? ⟨w.heap.size, 7, none⟩ = some (.slice l2 p.ul.length k2)
  r : PR wr p i1 e1 i2 e2 l1 l2 c1 d1 c2 d2 k1 k2
  bw : Below w.heap.size w wr
theorem PB.later {w wr w' : World} {p : P2} {i1 e1 i2 e2 l1 l2 : Option Addr} {c1 d1 c2 d2 k1 k2 : Nat} (h : PB w wr p i1 e1 i2 e2 l1 l2 c1 d1 c2 d2 k1 k2) (hb : Below wr.heap.size wr w') : PB w w' p i1 e1 i2 e2 l1 l2 c1 d1 c2 d2 k1 k2 :=
  ⟨Below.keeps hb h.b0 (Nat.le_refl _), Below.keeps hb h.b1 (Nat.le_refl _), Below.keeps hb h.b2 (Nat.le_refl _), Below.keeps hb h.b3 (Nat.le_refl _), Below.keeps hb h.b4 (Nat.le_refl _), Below.keeps hb h.b5 (Nat.le_refl _), Below.keeps hb h.b6 (Nat.le_refl _), Below.keeps hb h.b7 (Nat.le_refl _), h.r.later hb, h.bw.trans (hb.mono h.bw.size)⟩
theorem PB.made {w : World} {p : P2} {i1 e1 i2 e2 l1 l2 : Option Addr} {c1 d1 c2 d2 k1 k2 : Nat} (h : PR w p i1 e1 i2 e2 l1 l2 c1 d1 c2 d2 k1 k2) (t : TypeId) : PB w (w.alloc (Obj.cells #[.int .i64 p.lo.n, .slice i1 p.lo.init.length c1, .slice e1 p.lo.edges.length d1, .int .i64 p.up.n, .slice i2 p.up.init.length c2, .slice e2 p.up.edges.length d2, .slice l1 p.ll.length k1, .slice l2 p.ul.length k2] t)) p i1 e1 i2 e2 l1 l2 c1 d1 c2 d2 k1 k2 :=
  ⟨box_cell _ _ _ 0 _ rfl, box_cell _ _ _ 1 _ rfl, box_cell _ _ _ 2 _ rfl, box_cell _ _ _ 3 _ rfl, box_cell _ _ _ 4 _ rfl, box_cell _ _ _ 5 _ rfl, box_cell _ _ _ 6 _ rfl, box_cell _ _ _ 7 _ rfl, h.later ((Below.refl _ _).alloc (Nat.le_refl _) _), (Below.refl _ _).alloc (Nat.le_refl _) _⟩
theorem PB.lt {w wr : World} {p : P2} {i1 e1 i2 e2 l1 l2 : Option Addr} {c1 d1 c2 d2 k1 k2 : Nat} (h : PB w wr p i1 e1 i2 e2 l1 l2 c1 d1 c2 d2 k1 k2) : w.heap.size < wr.heap.size := cell_lt h.b0
theorem PR.lo {w : World} {p : P2} {i1 e1 i2 e2 l1 l2 : Option Addr} {c1 d1 c2 d2 k1 k2 : Nat} (h : PR w p i1 e1 i2 e2 l1 l2 c1 d1 c2 d2 k1 k2) : GraphAt w (.agg #[.int .i64 p.lo.n, .slice i1 p.lo.init.length c1, .slice e1 p.lo.edges.length d1]) p.lo := ⟨_, _, rfl, h.r1, h.r2⟩
theorem PR.up {w : World} {p : P2} {i1 e1 i2 e2 l1 l2 : Option Addr} {c1 d1 c2 d2 k1 k2 : Nat} (h : PR w p i1 e1 i2 e2 l1 l2 c1 d1 c2 d2 k1 k2) : GraphAt w (.agg #[.int .i64 p.up.n, .slice i2 p.up.init.length c2, .slice e2 p.up.edges.length d2]) p.up := ⟨_, _, rfl, h.r3, h.r4⟩
end Go.Proofs.Ytciopdlmjciieaa
