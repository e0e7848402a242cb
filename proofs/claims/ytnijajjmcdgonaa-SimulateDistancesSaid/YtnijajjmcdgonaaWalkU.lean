import Derived.Test.YtnijajjmcdgonaaWalkT
import Derived.Test.YtnijajjmcdgonaaWalkH
import Derived.Deep.RegionLaw
namespace Go.Proofs.Ytnijajjmcdgonaa
open Go.RowKit
set_option linter.unusedVariables false

theorem row_form {w : World} {B : Nat} {t : TypeId} {k : Nat} {v : Value} {n : Nat} {l : List Value} (h : w.ownsRow B t k v n l) : ∃ a c, v = .slice a n c := by
  rcases h.2 with ⟨rfl, rfl⟩ | ⟨g, cap, cur, rfl, -⟩
  · exact ⟨_, _, rfl⟩
  · exact ⟨_, _, rfl⟩
theorem own_ne {w : World} {B : Nat} {v : Value} {l : List Int} (h : ownInts w B v l) (k : Nat) (hk : k < B ∨ w.heap.size ≤ k) : v.ownBlock = none ∨ v.ownBlock ≠ some k := by
  refine .inr fun e => ?_
  have := h.lt k e
  omega
theorem after_A {wb wA wE : World} {B : Nat} {o : Obj} {v : Value} {l : List Int} (hb : Below wb.heap.size wb wA) (hB0 : wb.heap.size ≤ B) (hB : ownInts wA B v l) (hg : (wA.alloc o).grownBy wE (some wA.heap.size)) :
    Below wb.heap.size wb wE ∧ ownInts wE wb.heap.size v l := by
  have hs := hb.size
  refine ⟨(hb.alloc hs o).grown hg (by simp; omega) (fun k hk => by injection hk with hk; omega), ?_⟩
  exact own_mono (World.ownsRow.kept (hB.alloc o) hg (own_ne hB _ (.inr (Nat.le_refl _)))) hB0
theorem after_B {wb W0 wA wE : World} {o : Obj} {v : Value} {l : List Int} (hb : Below wb.heap.size wb wA) (h0 : wb.heap.size ≤ W0.heap.size) (hB : ownInts wA (W0.alloc o).heap.size v l) (hg : wA.grownBy wE (some W0.heap.size)) :
    Below wb.heap.size wb wE ∧ ownInts wE wb.heap.size v l :=
  ⟨hb.grown hg hb.size (fun k hk => by injection hk with hk; omega), own_mono (World.ownsRow.kept hB hg (own_ne hB _ (.inl (by simp)))) (by simp; omega)⟩

set_option maxHeartbeats 8000000 in
set_option maxRecDepth 100000 in
theorem ownGraph_any (g : G) (v : Value) (w : World) (hg : GraphAt w v g) (h1 : g.init.length ≤ 100000) (h2 : g.edges.length ≤ 100000) :
    Calls Try.prog 18 #[v] w fun e w' => ∃ v', e = .returned v' ∧ GraphAt w' v' g ∧ Below w.heap.size w w' := by
  obtain ⟨i0, hi, hz0, hz1, hz2⟩ := info_parts infoEdge
  obtain ⟨vi, ve, rfl, hI, ⟨ae, ce, rfl, hme, hce⟩⟩ := hg
  obtain ⟨ai, ci, rfl⟩ : ∃ a c, vi = .slice a g.init.length c := by obtain ⟨a, c, rfl, -, -⟩ := hI; exact ⟨a, c, rfl⟩
  unfold maxLen at hme
  go_enter Try.func18, Try.ntmps18
  go_wp2_with fail
  have hb0 : Below w.heap.size w ((w.alloc (Obj.cells #[Value.int IntKind.i64 g.n, Value.slice ai g.init.length ci, Value.slice ae g.edges.length ce] 34)).alloc (Obj.cells #[.int .i64 0, .slice none 0 0, .slice none 0 0] 34)) := ((Below.refl _ _).alloc (Nat.le_refl _) _).alloc (by simp) _
  have q0 : ((w.alloc (Obj.cells #[Value.int IntKind.i64 g.n, Value.slice ai g.init.length ci, Value.slice ae g.edges.length ce] 34)).alloc (Obj.cells #[.int .i64 0, .slice none 0 0, .slice none 0 0] 34)).cell? ⟨w.heap.size, 0, none⟩ = some (.int .i64 g.n) := by rw [World.cell?_alloc_past _ _ _ (by simp), World.cell?_alloc_at _ _ _ _ rfl]; rfl
  have q1 : ((w.alloc (Obj.cells #[Value.int IntKind.i64 g.n, Value.slice ai g.init.length ci, Value.slice ae g.edges.length ce] 34)).alloc (Obj.cells #[.int .i64 0, .slice none 0 0, .slice none 0 0] 34)).cell? ⟨w.heap.size, 1, none⟩ = some (.slice ai g.init.length ci) := by rw [World.cell?_alloc_past _ _ _ (by simp), World.cell?_alloc_at _ _ _ _ rfl]; rfl
  have q2 : ((w.alloc (Obj.cells #[Value.int IntKind.i64 g.n, Value.slice ai g.init.length ci, Value.slice ae g.edges.length ce] 34)).alloc (Obj.cells #[.int .i64 0, .slice none 0 0, .slice none 0 0] 34)).cell? ⟨w.heap.size, 2, none⟩ = some (.slice ae g.edges.length ce) := by rw [World.cell?_alloc_past _ _ _ (by simp), World.cell?_alloc_at _ _ _ _ rfl]; rfl
  have qf : ∀ i, ((w.alloc (Obj.cells #[Value.int IntKind.i64 g.n, Value.slice ai g.init.length ci, Value.slice ae g.edges.length ce] 34)).alloc (Obj.cells #[.int .i64 0, .slice none 0 0, .slice none 0 0] 34)).frozen? ⟨w.heap.size, i, none⟩ = false := fun i => by rw [World.frozen?_alloc_past _ _ _ (by simp), World.frozen?_alloc_at _ _ _ _ rfl]
  have hsz : w.heap.size + 1 < ((w.alloc (Obj.cells #[Value.int IntKind.i64 g.n, Value.slice ai g.init.length ci, Value.slice ae g.edges.length ce] 34)).alloc (Obj.cells #[.int .i64 0, .slice none 0 0, .slice none 0 0] 34)).heap.size := by simp
  have r0 : ((w.alloc (Obj.cells #[Value.int IntKind.i64 g.n, Value.slice ai g.init.length ci, Value.slice ae g.edges.length ce] 34)).alloc (Obj.cells #[.int .i64 0, .slice none 0 0, .slice none 0 0] 34)).cell? ⟨w.heap.size + 1, 0, none⟩ = some (.int .i64 0) := by rw [World.cell?_alloc_at _ _ _ _ (by simp)]; rfl
  have r1 : ((w.alloc (Obj.cells #[Value.int IntKind.i64 g.n, Value.slice ai g.init.length ci, Value.slice ae g.edges.length ce] 34)).alloc (Obj.cells #[.int .i64 0, .slice none 0 0, .slice none 0 0] 34)).cell? ⟨w.heap.size + 1, 1, none⟩ = some (.slice none 0 0) := by rw [World.cell?_alloc_at _ _ _ _ (by simp)]; rfl
  have r2 : ((w.alloc (Obj.cells #[Value.int IntKind.i64 g.n, Value.slice ai g.init.length ci, Value.slice ae g.edges.length ce] 34)).alloc (Obj.cells #[.int .i64 0, .slice none 0 0, .slice none 0 0] 34)).cell? ⟨w.heap.size + 1, 2, none⟩ = some (.slice none 0 0) := by rw [World.cell?_alloc_at _ _ _ _ (by simp)]; rfl
  have rf : ∀ i, ((w.alloc (Obj.cells #[Value.int IntKind.i64 g.n, Value.slice ai g.init.length ci, Value.slice ae g.edges.length ce] 34)).alloc (Obj.cells #[.int .i64 0, .slice none 0 0, .slice none 0 0] 34)).frozen? ⟨w.heap.size + 1, i, none⟩ = false := fun i => World.frozen?_alloc_at _ _ _ _ (by simp)
  have hsw : w.heap.size < ((w.alloc (Obj.cells #[Value.int IntKind.i64 g.n, Value.slice ai g.init.length ci, Value.slice ae g.edges.length ce] 34)).alloc (Obj.cells #[.int .i64 0, .slice none 0 0, .slice none 0 0] 34)).heap.size := by simp; omega
  replace hI := hI.later hb0
  replace hce := hce.later hb0
  generalize ((w.alloc (Obj.cells #[Value.int IntKind.i64 g.n, Value.slice ai g.init.length ci, Value.slice ae g.edges.length ce] 34)).alloc (Obj.cells #[.int .i64 0, .slice none 0 0, .slice none 0 0] 34)) = wb at *
  have HE := Lib.hid (edges_any hce)
  have HI := Lib.hid hI
  have QF := Lib.hid qf
  have RF := Lib.hid rf; have R0 := Lib.hid r0; have R1 := Lib.hid r1; have R2 := Lib.hid r2; have Q0 := Lib.hid q0
  clear hce hI qf rf r0 r1 r2 q0
  have hrow : ∀ W : World, wb.heap.size ≤ W.heap.size → Hid ((W.alloc (.cells #[] 74)).ownsRow wb.heap.size 74 3 (.slice (some ⟨W.heap.size, 0, none⟩) 0 0) 0 []) := fun W hW => World.ownsRow_lit (base := wb.heap.size) (e := 74) (size := 3) W #[] 0 hW (Nat.zero_le _) rfl
  go_region_law
    ((first
      | (go_simp; go_at_call 19; refine (ownInts_any g.init _ _ (HI.out.later ?_) h1).mono ?_; (focus ((repeat (first | with_reducible exact Below.refl _ _ | with_reducible assumption | with_reducible refine Below.drew ?_ | (with_reducible refine Below.alloc ?_ ?_ _))); all_goals (first | exact Nat.le_refl _ | exact hbA.size | (simp; done) | (simp; exact hbA.size) | (simp; exact Nat.le_succ_of_le hbA.size)))); rintro e wA ⟨vA, rfl, oA, hA⟩; obtain ⟨aA, cA, rfl⟩ := own_form oA; have hbA : Below wb.heap.size wb wA := Below.trans (b := _) (by { (repeat (first | with_reducible exact Below.refl _ _ | with_reducible assumption | with_reducible refine Below.drew ?_ | (with_reducible refine Below.alloc ?_ ?_ _))); all_goals (first | exact Nat.le_refl _ | exact hbA.size | (simp; done) | (simp; exact hbA.size) | (simp; exact Nat.le_succ_of_le hbA.size)) }) (hA.mono (by (first | exact Nat.le_refl _ | exact hbA.size | (simp; done) | (simp; exact hbA.size) | (simp; exact Nat.le_succ_of_le hbA.size)))); have a1 := Below.keeps hbA q1 (Nat.le_refl _); have a2 := Below.keeps hbA q2 (Nat.le_refl _); have hlA : w.heap.size < wA.heap.size := cell_lt a2)
      | (refine step_own rfl (.tmp 6) (.tmp 8) 32 rfl wb.heap.size 74 i0 _ 3 24 Try.underlying32 hi hz0 hz1 hz2 rfl (by decide) _ 0 [] rfl ?_ ae g.edges.length ce (eCells g.edges) rfl (eCells_len _) ?_ (eCells_one _) ?_ ?_ ?_ ?_; (focus (first | exact (hrow _ hbA.size).out | exact ownsRow_later (ownsRow_later (hrow _ (Nat.le_refl _)).out ((Below.refl _ _).drew)) hA)); (focus (intro j u hj; obtain ⟨ad, ead, had⟩ := HE.out j u hj; refine ⟨ad, ead, Below.keeps (B := wb.heap.size) (w := wb) ?_ had (Nat.le_refl _)⟩; (repeat (first | with_reducible exact Below.refl _ _ | with_reducible assumption | with_reducible refine Below.drew ?_ | (with_reducible refine Below.alloc ?_ ?_ _))); all_goals (first | exact Nat.le_refl _ | exact hbA.size | (simp; done) | (simp; exact hbA.size) | (simp; exact Nat.le_succ_of_le hbA.size)))); (focus (unfold maxLen; omega)); (focus omega); (focus (first | exact Nat.le_refl _ | exact hbA.size | (simp; done) | (simp; exact hbA.size) | (simp; exact Nat.le_succ_of_le hbA.size))); intro vE wE oE gE; (first | (have hR := after_A hbA (Nat.le_refl _) oA gE) | (have hR := after_B hbA (Nat.le_refl _) oA gE)); have e1 := Below.keeps hR.1 q1 (Nat.le_refl _); have e2 := Below.keeps hR.1 q2 (Nat.le_refl _); have f1 := Below.keepsF hR.1 (QF.out 1) hsw; have f2 := Below.keepsF hR.1 (QF.out 2) hsw; obtain ⟨aE, cE, rfl⟩ := row_form oE)))
  all_goals
    have hbE := hR.1
    have oI := hR.2
    have oE' : ownEdges wE wb.heap.size (.slice aE g.edges.length cE) g.edges := by simpa using oE
    have e0 := Below.keeps hbE Q0.out (Nat.le_refl _)
    have s0 := Below.keeps hbE R0.out (Nat.le_refl _)
    have s1 := Below.keeps hbE R1.out (Nat.le_refl _)
    have s2 := Below.keeps hbE R2.out (Nat.le_refl _)
    have t0 := Below.keepsF hbE (RF.out 0) hsz
    have t1 := Below.keepsF hbE (RF.out 1) hsz
    have t2 := Below.keepsF hbE (RF.out 2) hsz
    have hbw := hb0.trans (hbE.mono hb0.size)
    clear hR oE gE oA hA hbA hb0 hbE a1 a2 q1 q2 hrow
    go_wp2
    refine bodyPost_ret (v := .agg #[.int .i64 g.n, .slice aA g.init.length cA, .slice aE g.edges.length cE]) (by simp [results, Try.results18, go_sem, s0, s1, s2]) rfl ⟨_, rfl, ⟨_, _, rfl, ?_, ?_⟩, ?_⟩
    · refine IntsAt.of_own (B := wb.heap.size) ?_
      repeat (first | with_reducible exact oI | (with_reducible refine ownsRow_setCell_below ?_ ?_ _; rotate_left; (focus (show _ < wb.heap.size; first | exact hsw | exact hsz))))
    · refine EdgesAt.of_own (B := wb.heap.size) ?_
      repeat (first | with_reducible exact oE' | (with_reducible refine ownsRow_setCell_below ?_ ?_ _; rotate_left; (focus (show _ < wb.heap.size; first | exact hsw | exact hsz))))
    · repeat (first | with_reducible exact hbw | (with_reducible refine Below.setCell ?_ ?_ _; rotate_left; (focus (first | exact Nat.le_refl _ | exact Nat.le_succ _))))
end Go.Proofs.Ytnijajjmcdgonaa
