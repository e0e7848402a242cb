import Derived.Test.YtnijajjmcdgonaaCovA
import Derived.Test.YtnijajjmcdgonaaWalkL
import Derived.Deep.Heap
import Derived.Laws.OwnMore
import Derived.Deep.RegionHeld3
namespace Go.Proofs.Ytnijajjmcdgonaa
open Go.RowKit
set_option linter.unusedVariables false

/-- 'make' of a slice, as go_simp leaves it in a region that draws its order. -/
theorem upon_make {P : Program} {w : World} {o : Oper} {a : Act} {K : Act → World → Prop} {Q : Exit → Act → World → Prop} (t : TypeId)
    (base : Nat) (e : TypeId) (i : TypeInfo) (z : Value) (size : Nat) (h1 : P.underlying t = some (.slice e)) (h2 : P.info? e = some i) (h3 : i.zero = some z) (h4 : i.size = size)
    (kl kc : IntKind) (n : Nat) (b2 : i.bytes * n ≤ 281474976710656) (b3 : n ≤ maxLen) (b4 : base ≤ w.heap.size)
    (hK : ∀ w', w'.ownsRow base e size (.slice (some ⟨w.heap.size, 0, none⟩) n n) n (madeCells z.cells (n * size)).toList → w.grownBy w' none → K (a.put o.dst (.slice (some ⟨w.heap.size, 0, none⟩) n n)) w') :
    Oper.upon P o a K Q (((Instr.makeSlice t (.int kl (n : Int)) (.int kc (n : Int))).run P w).andThen fun v w' => .ok (.value v) w') := by
  obtain ⟨w', hrun, r1, r2⟩ := run_make_full (P := P) w base t e i z size h1 h2 h3 h4 kl kc n b2 b3 b4
  rw [hrun]
  exact hK w' r1 r2

theorem alloc_size (w : World) (o : Obj) : (w.alloc o).heap.size = w.heap.size + 1 := by simp
theorem drew_size (w : World) : w.drew.heap.size = w.heap.size := rfl
theorem own_zero {w : World} {B n : Nat} {v : Value} (h : w.ownsRow B 3 1 v n (madeCells (Value.cells (.int .i64 0)) (n * 1)).toList) : ownInts w B v (List.replicate n 0) := by
  unfold ownInts
  rw [List.length_replicate, List.map_replicate]
  have : (madeCells (Value.cells (.int .i64 0)) (n * 1)).toList = List.replicate n (Value.int .i64 0) := by
    show (madeCells #[Value.int .i64 0] (n * 1)).toList = _
    rw [toList_madeCells_one, Nat.mul_one]
  rw [this] at h
  exact h

theorem own_other {w : World} {B g n c : Nat} {l : List Int} (h : ownInts w B (.slice (some ⟨g, 0, none⟩) n c) l) {a : Addr} (ha : g ≠ a.block) (u : Value) : ownInts (w.setCell a u) B (.slice (some ⟨g, 0, none⟩) n c) l := by
  obtain ⟨h0, h⟩ := h
  refine ⟨h0, ?_⟩
  rcases h with h | ⟨g', cap, cur, h1, h2, h3, h4⟩
  · exact .inl h
  · refine .inr ⟨g', cap, cur, h1, h2, ?_, h4⟩
    injection h1 with h1
    injection h1 with h1
    injection h1 with h1
    subst h1
    rw [Deep.blk_setCell_other w a u g ha]
    exact h3

/-- A coverage that is being made: its block m, its two rows. -/
structure CM (wr : World) (B m gS gE N M : Nat) (S E : List Int) : Prop where
  c0 : wr.cell? ⟨m, 0, none⟩ = some (.slice (some ⟨gS, 0, none⟩) N N)
  c1 : wr.cell? ⟨m, 1, none⟩ = some (.slice (some ⟨gE, 0, none⟩) M M)
  oS : ownInts wr B (.slice (some ⟨gS, 0, none⟩) N N) S
  oE : ownInts wr B (.slice (some ⟨gE, 0, none⟩) M M) E
  lS : S.length = N
  lE : E.length = M
  ne : gS ≠ gE ∧ m ≠ gS ∧ m ≠ gE
  bm : B ≤ m
theorem own_ge {w : World} {B g n c : Nat} {l : List Int} (h : ownInts w B (.slice (some ⟨g, 0, none⟩) n c) l) : B ≤ g ∧ g < w.heap.size := World.ownsRow.lt h g rfl
theorem CM.later {wr wr' : World} {B m gS gE N M : Nat} {S E : List Int} (h : CM wr B m gS gE N M S E) (hb : Below wr.heap.size wr wr') : CM wr' B m gS gE N M S E :=
  ⟨Below.keeps hb h.c0 (Nat.le_refl _), Below.keeps hb h.c1 (Nat.le_refl _), ownsRow_later h.oS hb, ownsRow_later h.oE hb, h.lS, h.lE, h.ne, h.bm⟩
theorem CM.setS {wr : World} {B m gS gE N M : Nat} {S E : List Int} (h : CM wr B m gS gE N M S E) (j : Nat) (u : Int) : CM (wr.setCell ⟨gS, j, none⟩ (.int .i64 u)) B m gS gE N M (S.set j u) E :=
  ⟨(World.cell?_setCell_other _ _ _ _ (by intro e; injection e with e1; exact h.ne.2.1 e1.symm)).trans h.c0, (World.cell?_setCell_other _ _ _ _ (by intro e; injection e with e1; exact h.ne.2.1 e1.symm)).trans h.c1,
    own_store' h.oS _ _, own_other h.oE (fun e => h.ne.1 e.symm) _, by rw [List.length_set]; exact h.lS, h.lE, h.ne, h.bm⟩
theorem CM.setE {wr : World} {B m gS gE N M : Nat} {S E : List Int} (h : CM wr B m gS gE N M S E) (j : Nat) (u : Int) : CM (wr.setCell ⟨gE, j, none⟩ (.int .i64 u)) B m gS gE N M S (E.set j u) :=
  ⟨(World.cell?_setCell_other _ _ _ _ (by intro e; injection e with e1; exact h.ne.2.2 e1.symm)).trans h.c0, (World.cell?_setCell_other _ _ _ _ (by intro e; injection e with e1; exact h.ne.2.2 e1.symm)).trans h.c1,
    own_other h.oS (fun e => h.ne.1 e) _, own_store' h.oE _ _, h.lS, by rw [List.length_set]; exact h.lE, h.ne, h.bm⟩
theorem cm_late {wx : World} {B gS gE N M : Nat} {S E : List Int} (t : TypeId) (hs : B ≤ wx.heap.size) (oS : ownInts wx B (.slice (some ⟨gS, 0, none⟩) N N) S) (oE : ownInts wx B (.slice (some ⟨gE, 0, none⟩) M M) E) (hne : gS ≠ gE) (lS : S.length = N) (lE : E.length = M) :
    CM (wx.alloc (Obj.cells #[.slice (some ⟨gS, 0, none⟩) N N, .slice (some ⟨gE, 0, none⟩) M M] t)) B wx.heap.size gS gE N M S E :=
  ⟨World.cell?_alloc_at _ _ _ _ rfl, World.cell?_alloc_at _ _ _ _ rfl, ownsRow_later oS ((Below.refl _ _).alloc (Nat.le_refl _) _), ownsRow_later oE ((Below.refl _ _).alloc (Nat.le_refl _) _), lS, lE, ⟨hne, by have := (own_ge oS).2; omega, by have := (own_ge oE).2; omega⟩, hs⟩
theorem cm_early {wx : World} {B m gS gE N M : Nat} {S E : List Int} {x0 x1 : Value} (hs : B ≤ m) (oS : ownInts wx B (.slice (some ⟨gS, 0, none⟩) N N) S) (oE : ownInts wx B (.slice (some ⟨gE, 0, none⟩) M M) E) (hne : gS ≠ gE ∧ m ≠ gS ∧ m ≠ gE) (lS : S.length = N) (lE : E.length = M)
    (m0 : wx.cell? ⟨m, 0, none⟩ = some x0) (m1 : wx.cell? ⟨m, 1, none⟩ = some x1) (p0 : x0.oneCell' = true) (p1 : x1.oneCell' = true) :
    CM ((wx.setCell ⟨m, 0, none⟩ (.slice (some ⟨gS, 0, none⟩) N N)).setCell ⟨m, 1, none⟩ (.slice (some ⟨gE, 0, none⟩) M M)) B m gS gE N M S E := by
  have n01 : (⟨m, 0, none⟩ : Addr) ≠ ⟨m, 1, none⟩ := by intro h; injection h with h1 h2; omega
  refine ⟨?_, ?_, ?_, ?_, lS, lE, hne, hs⟩
  · rw [World.cell?_setCell_other _ _ _ _ n01.symm]; exact World.cell?_setCell_same _ _ _ m0
  · exact World.cell?_setCell_same _ _ _ ((World.cell?_setCell_other _ _ _ _ n01).trans m1)
  · exact own_other (own_other oS (fun e => hne.2.1 e.symm) _) (fun e => hne.2.1 e.symm) _
  · exact own_other (own_other oE (fun e => hne.2.2 e.symm) _) (fun e => hne.2.2 e.symm) _
end Go.Proofs.Ytnijajjmcdgonaa
