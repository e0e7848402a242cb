import Derived.Test.YtciopdlmjciieaaExM
import Derived.Test.YtciopdlmjciieaaOwnG
namespace Go.Proofs.Ytciopdlmjciieaa
open Go.RowKit
set_option linter.unusedVariables false
set_option linter.unusedSimpArgs false

theorem ints_lit (W : World) (B : Nat) (l : List Int) (k : Nat) (hk : W.heap.size = k) (hB : B ≤ k) (hl : l.length ≤ 100) :
    ownInts (W.alloc (.cells (l.map (Value.int .i64)).toArray 3)) B (.slice (some ⟨k, 0, none⟩) l.length l.length) l := by
  subst hk
  exact World.ownsRow_lit (base := B) (e := 3) (size := 1) W (l.map (Value.int .i64)).toArray l.length hB (Nat.le_trans hl (by decide)) (by simp)
theorem edges_lit (W : World) (B : Nat) (l : List E) (k : Nat) (hk : W.heap.size = k) (hB : B ≤ k) (hl : l.length ≤ 100) :
    ownEdges (W.alloc (.cells (eCells l).toArray 81)) B (.slice (some ⟨k, 0, none⟩) l.length l.length) l := by
  subst hk
  exact World.ownsRow_lit (base := B) (e := 81) (size := 3) W (eCells l).toArray l.length hB (Nat.le_trans hl (by decide)) (by simpa using eCells_len l)

set_option maxHeartbeats 800000 in
set_option maxRecDepth 100000 in
theorem example_own (w : World) : Calls Try.prog 20 #[] w fun e w' => e = .returned (.agg #[.int .i64 3, .slice (some ⟨w.heap.size + 1, 0, none⟩) 1 1, .slice (some ⟨w.heap.size + 1 + 1, 0, none⟩) 2 2, .int .i64 2, .slice (some ⟨w.heap.size + 1 + 1 + 1, 0, none⟩) 1 1, .slice (some ⟨w.heap.size + 1 + 1 + 1 + 1, 0, none⟩) 1 1, .slice (some ⟨w.heap.size + 1 + 1 + 1 + 1 + 1, 0, none⟩) 3 3, .slice (some ⟨w.heap.size + 1 + 1 + 1 + 1 + 1 + 1, 0, none⟩) 2 2]) ∧
    ownInts w' w.heap.size (.slice (some ⟨w.heap.size + 1, 0, none⟩) 1 1) [0] ∧ ownEdges w' w.heap.size (.slice (some ⟨w.heap.size + 1 + 1, 0, none⟩) 2 2) [⟨0, 1, 0⟩, ⟨1, 2, 0⟩] ∧ ownInts w' w.heap.size (.slice (some ⟨w.heap.size + 1 + 1 + 1, 0, none⟩) 1 1) [0] ∧ ownEdges w' w.heap.size (.slice (some ⟨w.heap.size + 1 + 1 + 1 + 1, 0, none⟩) 1 1) [⟨0, 1, 0⟩] ∧ ownInts w' w.heap.size (.slice (some ⟨w.heap.size + 1 + 1 + 1 + 1 + 1, 0, none⟩) 3 3) [0, 0, 1] ∧ ownInts w' w.heap.size (.slice (some ⟨w.heap.size + 1 + 1 + 1 + 1 + 1 + 1, 0, none⟩) 2 2) [0, 1] ∧ Below w.heap.size w w' := by
  go_enter Try.func20, Try.ntmps20
  go_wp2
  refine bodyPost_ret (v := .agg #[.int .i64 3, .slice (some ⟨w.heap.size + 1, 0, none⟩) 1 1, .slice (some ⟨w.heap.size + 1 + 1, 0, none⟩) 2 2, .int .i64 2, .slice (some ⟨w.heap.size + 1 + 1 + 1, 0, none⟩) 1 1, .slice (some ⟨w.heap.size + 1 + 1 + 1 + 1, 0, none⟩) 1 1, .slice (some ⟨w.heap.size + 1 + 1 + 1 + 1 + 1, 0, none⟩) 3 3, .slice (some ⟨w.heap.size + 1 + 1 + 1 + 1 + 1 + 1, 0, none⟩) 2 2]) (by simp [results, Try.results20, go_sem]) rfl ⟨rfl, ?_, ?_, ?_, ?_, ?_, ?_, ?_⟩
  · exact (((((ints_lit _ _ [0] _ (by simp) (by omega) (by decide)).alloc _).alloc _).alloc _).alloc _).alloc _
  · exact ((((edges_lit _ _ [⟨0, 1, 0⟩, ⟨1, 2, 0⟩] _ (by simp) (by omega) (by decide)).alloc _).alloc _).alloc _).alloc _
  · exact (((ints_lit _ _ [0] _ (by simp) (by omega) (by decide)).alloc _).alloc _).alloc _
  · exact ((edges_lit _ _ [⟨0, 1, 0⟩] _ (by simp) (by omega) (by decide)).alloc _).alloc _
  · exact (ints_lit _ _ [0, 0, 1] _ (by simp) (by omega) (by decide)).alloc _
  · exact ints_lit _ _ [0, 1] _ (by simp) (by omega) (by decide)
  · exact (((((((Below.refl _ _).alloc (Nat.le_refl _) _).alloc (by simp) _).alloc (by simp; omega) _).alloc (by simp; omega) _).alloc (by simp; omega) _).alloc (by simp; omega) _).alloc (by simp; omega) _
theorem example_any (w : World) : Calls Try.prog 20 #[] w fun e w' => ∃ v, e = .returned v ∧ PairV w' v Ex ∧ Below w.heap.size w w' :=
  (example_own w).mono fun _ _ ⟨he, h1, h2, h3, h4, h5, h6, hb⟩ => ⟨_, he, ⟨_, _, _, _, _, _, rfl, IntsAt.of_own h1, EdgesAt.of_own h2, IntsAt.of_own h3, EdgesAt.of_own h4, IntsAt.of_own h5, IntsAt.of_own h6⟩, hb⟩

theorem cells_newL (W : World) (l : List Value) (t : TypeId) (k : Nat) (hk : W.heap.size = k) : ∀ j u, l[j]? = some u → (W.alloc (.cells l.toArray t)).cell? ((⟨k, 0, none⟩ : Addr).add j) = some u := by
  subst hk
  intro j u hj
  have hadd : (⟨W.heap.size, 0, none⟩ : Addr).add j = ⟨W.heap.size, 0 + j, none⟩ := by unfold Addr.add; split <;> simp_all
  rw [hadd, Nat.zero_add]
  exact box_cell W _ t j u (by simpa using hj)
set_option maxHeartbeats 4000000 in
set_option maxRecDepth 100000 in
theorem back_any (w : World) : Calls Try.prog 21 #[] w fun e w' => ∃ v, e = .returned v ∧ PairV w' v Bk ∧ Below w.heap.size w w' := by
  obtain ⟨i0, hi, hz0, hz1, hz2⟩ := info_parts infoEdge
  go_enter Try.func21, Try.ntmps21
  go_wp2_with fail
  have hr : Hid (∀ i v, #[Value.int .i64 0, .slice none 0 0, .slice none 0 0, .int .i64 0, .slice none 0 0, .slice none 0 0, .slice none 0 0, .slice none 0 0][i]? = some v → (w.alloc (Obj.cells #[.int .i64 0, .slice none 0 0, .slice none 0 0, .int .i64 0, .slice none 0 0, .slice none 0 0, .slice none 0 0, .slice none 0 0] 27)).cell? ⟨w.heap.size, i, none⟩ = some v) := fun i v h => box_cell _ _ _ i v h
  have hrf : Hid (∀ i, (w.alloc (Obj.cells #[.int .i64 0, .slice none 0 0, .slice none 0 0, .int .i64 0, .slice none 0 0, .slice none 0 0, .slice none 0 0, .slice none 0 0] 27)).frozen? ⟨w.heap.size, i, none⟩ = false) := fun i => World.frozen?_alloc_at _ _ _ _ rfl
  have HB0 : Hid (Below w.heap.size w (w.alloc (Obj.cells #[.int .i64 0, .slice none 0 0, .slice none 0 0, .int .i64 0, .slice none 0 0, .slice none 0 0, .slice none 0 0, .slice none 0 0] 27))) := (Below.refl _ _).alloc (Nat.le_refl _) _
  generalize w.alloc (Obj.cells #[.int .i64 0, .slice none 0 0, .slice none 0 0, .int .i64 0, .slice none 0 0, .slice none 0 0, .slice none 0 0, .slice none 0 0] 27) = W0 at *
  have HWS : Hid (w.heap.size < W0.heap.size) := cell_lt (hr.out 0 _ rfl)
  generalize hrb : w.heap.size = rb at *
  have HRB := Lib.hid hrb
  clear hrb
  refine (example_own W0).mono ?_
  rintro e wa ⟨rfl, h1, h2, h3, h4, h5, h6, hba⟩
  have hsa : W0.heap.size + 1 + 1 + 1 + 1 + 1 + 1 < wa.heap.size := (h6.lt _ rfl).2
  have hs1 := hba.size
  have HX : Hid (∀ i v, (#[Value.int .i64 3, .slice (some ⟨W0.heap.size + 1, 0, none⟩) 1 1, .slice (some ⟨W0.heap.size + 1 + 1, 0, none⟩) 2 2, .int .i64 2, .slice (some ⟨W0.heap.size + 1 + 1 + 1, 0, none⟩) 1 1, .slice (some ⟨W0.heap.size + 1 + 1 + 1 + 1, 0, none⟩) 1 1, .slice (some ⟨W0.heap.size + 1 + 1 + 1 + 1 + 1, 0, none⟩) 3 3, .slice (some ⟨W0.heap.size + 1 + 1 + 1 + 1 + 1 + 1, 0, none⟩) 2 2] : Array Value)[i]? = some v → (wa.alloc (Obj.cells #[.int .i64 3, .slice (some ⟨W0.heap.size + 1, 0, none⟩) 1 1, .slice (some ⟨W0.heap.size + 1 + 1, 0, none⟩) 2 2, .int .i64 2, .slice (some ⟨W0.heap.size + 1 + 1 + 1, 0, none⟩) 1 1, .slice (some ⟨W0.heap.size + 1 + 1 + 1 + 1, 0, none⟩) 1 1, .slice (some ⟨W0.heap.size + 1 + 1 + 1 + 1 + 1, 0, none⟩) 3 3, .slice (some ⟨W0.heap.size + 1 + 1 + 1 + 1 + 1 + 1, 0, none⟩) 2 2] 27)).cell? ⟨wa.heap.size, i, none⟩ = some v) := fun i v h => box_cell _ _ _ i v h
  have HXF : Hid (∀ i, (wa.alloc (Obj.cells #[.int .i64 3, .slice (some ⟨W0.heap.size + 1, 0, none⟩) 1 1, .slice (some ⟨W0.heap.size + 1 + 1, 0, none⟩) 2 2, .int .i64 2, .slice (some ⟨W0.heap.size + 1 + 1 + 1, 0, none⟩) 1 1, .slice (some ⟨W0.heap.size + 1 + 1 + 1 + 1, 0, none⟩) 1 1, .slice (some ⟨W0.heap.size + 1 + 1 + 1 + 1 + 1, 0, none⟩) 3 3, .slice (some ⟨W0.heap.size + 1 + 1 + 1 + 1 + 1 + 1, 0, none⟩) 2 2] 27)).frozen? ⟨wa.heap.size, i, none⟩ = false) := fun i => World.frozen?_alloc_at _ _ _ _ rfl
  have hB1 : Below W0.heap.size W0 (wa.alloc (Obj.cells #[.int .i64 3, .slice (some ⟨W0.heap.size + 1, 0, none⟩) 1 1, .slice (some ⟨W0.heap.size + 1 + 1, 0, none⟩) 2 2, .int .i64 2, .slice (some ⟨W0.heap.size + 1 + 1 + 1, 0, none⟩) 1 1, .slice (some ⟨W0.heap.size + 1 + 1 + 1 + 1, 0, none⟩) 1 1, .slice (some ⟨W0.heap.size + 1 + 1 + 1 + 1 + 1, 0, none⟩) 3 3, .slice (some ⟨W0.heap.size + 1 + 1 + 1 + 1 + 1 + 1, 0, none⟩) 2 2] 27)) := hba.alloc hs1 _
  have hZ : Hid ((wa.alloc (Obj.cells #[.int .i64 3, .slice (some ⟨W0.heap.size + 1, 0, none⟩) 1 1, .slice (some ⟨W0.heap.size + 1 + 1, 0, none⟩) 2 2, .int .i64 2, .slice (some ⟨W0.heap.size + 1 + 1 + 1, 0, none⟩) 1 1, .slice (some ⟨W0.heap.size + 1 + 1 + 1 + 1, 0, none⟩) 1 1, .slice (some ⟨W0.heap.size + 1 + 1 + 1 + 1 + 1, 0, none⟩) 3 3, .slice (some ⟨W0.heap.size + 1 + 1 + 1 + 1 + 1 + 1, 0, none⟩) 2 2] 27)).heap.size = wa.heap.size + 1) := by unfold Hid; simp
  replace h1 := h1.alloc (Obj.cells #[.int .i64 3, .slice (some ⟨W0.heap.size + 1, 0, none⟩) 1 1, .slice (some ⟨W0.heap.size + 1 + 1, 0, none⟩) 2 2, .int .i64 2, .slice (some ⟨W0.heap.size + 1 + 1 + 1, 0, none⟩) 1 1, .slice (some ⟨W0.heap.size + 1 + 1 + 1 + 1, 0, none⟩) 1 1, .slice (some ⟨W0.heap.size + 1 + 1 + 1 + 1 + 1, 0, none⟩) 3 3, .slice (some ⟨W0.heap.size + 1 + 1 + 1 + 1 + 1 + 1, 0, none⟩) 2 2] 27)
  replace h2 := h2.alloc (Obj.cells #[.int .i64 3, .slice (some ⟨W0.heap.size + 1, 0, none⟩) 1 1, .slice (some ⟨W0.heap.size + 1 + 1, 0, none⟩) 2 2, .int .i64 2, .slice (some ⟨W0.heap.size + 1 + 1 + 1, 0, none⟩) 1 1, .slice (some ⟨W0.heap.size + 1 + 1 + 1 + 1, 0, none⟩) 1 1, .slice (some ⟨W0.heap.size + 1 + 1 + 1 + 1 + 1, 0, none⟩) 3 3, .slice (some ⟨W0.heap.size + 1 + 1 + 1 + 1 + 1 + 1, 0, none⟩) 2 2] 27)
  replace h3 := h3.alloc (Obj.cells #[.int .i64 3, .slice (some ⟨W0.heap.size + 1, 0, none⟩) 1 1, .slice (some ⟨W0.heap.size + 1 + 1, 0, none⟩) 2 2, .int .i64 2, .slice (some ⟨W0.heap.size + 1 + 1 + 1, 0, none⟩) 1 1, .slice (some ⟨W0.heap.size + 1 + 1 + 1 + 1, 0, none⟩) 1 1, .slice (some ⟨W0.heap.size + 1 + 1 + 1 + 1 + 1, 0, none⟩) 3 3, .slice (some ⟨W0.heap.size + 1 + 1 + 1 + 1 + 1 + 1, 0, none⟩) 2 2] 27)
  replace h4 := h4.alloc (Obj.cells #[.int .i64 3, .slice (some ⟨W0.heap.size + 1, 0, none⟩) 1 1, .slice (some ⟨W0.heap.size + 1 + 1, 0, none⟩) 2 2, .int .i64 2, .slice (some ⟨W0.heap.size + 1 + 1 + 1, 0, none⟩) 1 1, .slice (some ⟨W0.heap.size + 1 + 1 + 1 + 1, 0, none⟩) 1 1, .slice (some ⟨W0.heap.size + 1 + 1 + 1 + 1 + 1, 0, none⟩) 3 3, .slice (some ⟨W0.heap.size + 1 + 1 + 1 + 1 + 1 + 1, 0, none⟩) 2 2] 27)
  replace h5 := h5.alloc (Obj.cells #[.int .i64 3, .slice (some ⟨W0.heap.size + 1, 0, none⟩) 1 1, .slice (some ⟨W0.heap.size + 1 + 1, 0, none⟩) 2 2, .int .i64 2, .slice (some ⟨W0.heap.size + 1 + 1 + 1, 0, none⟩) 1 1, .slice (some ⟨W0.heap.size + 1 + 1 + 1 + 1, 0, none⟩) 1 1, .slice (some ⟨W0.heap.size + 1 + 1 + 1 + 1 + 1, 0, none⟩) 3 3, .slice (some ⟨W0.heap.size + 1 + 1 + 1 + 1 + 1 + 1, 0, none⟩) 2 2] 27)
  replace h6 := h6.alloc (Obj.cells #[.int .i64 3, .slice (some ⟨W0.heap.size + 1, 0, none⟩) 1 1, .slice (some ⟨W0.heap.size + 1 + 1, 0, none⟩) 2 2, .int .i64 2, .slice (some ⟨W0.heap.size + 1 + 1 + 1, 0, none⟩) 1 1, .slice (some ⟨W0.heap.size + 1 + 1 + 1 + 1, 0, none⟩) 1 1, .slice (some ⟨W0.heap.size + 1 + 1 + 1 + 1 + 1, 0, none⟩) 3 3, .slice (some ⟨W0.heap.size + 1 + 1 + 1 + 1 + 1 + 1, 0, none⟩) 2 2] 27)
  have HH1 := Lib.hid h1; have HH2 := Lib.hid h2; have HH3 := Lib.hid h3; have HH4 := Lib.hid h4; have HH5 := Lib.hid h5; have HH6 := Lib.hid h6
  clear h1 h2 h3 h4 h5 h6 hba
  have x2 := HX.out 2 _ rfl
  go_upto_region 2 with (fail)
  generalize wa.alloc (Obj.cells #[.int .i64 3, .slice (some ⟨W0.heap.size + 1, 0, none⟩) 1 1, .slice (some ⟨W0.heap.size + 1 + 1, 0, none⟩) 2 2, .int .i64 2, .slice (some ⟨W0.heap.size + 1 + 1 + 1, 0, none⟩) 1 1, .slice (some ⟨W0.heap.size + 1 + 1 + 1 + 1, 0, none⟩) 1 1, .slice (some ⟨W0.heap.size + 1 + 1 + 1 + 1 + 1, 0, none⟩) 3 3, .slice (some ⟨W0.heap.size + 1 + 1 + 1 + 1 + 1 + 1, 0, none⟩) 2 2] 27) = W1 at *
  generalize hbb : wa.heap.size = bb at *
  clear hbb
  go_wp2_with (at_builtin; refine wpList_append_own_at _ rfl _ _ 23 rfl W0.heap.size 81 i0 _ 3 24 Try.underlying23 hi hz0 hz1 hz2 rfl (by decide) _ _ _ rfl (HH2.out.alloc _) ⟨W1.heap.size, 0, none⟩ 1 1 (eCells [⟨2, 0, 0⟩]) rfl rfl ?c1 ?c2 ?c3 ?c4 ?c5 ?_)
  case c1 => exact cells_newL _ _ _ _ rfl
  case c2 => exact eCells_one _
  case c3 => decide
  case c4 => decide
  case c5 => have := hZ.out; simp; omega
  intro v' w' hown hgrow hnn hat
  obtain ⟨a9, c9, rfl⟩ := row_form hown
  have HE9 : Hid (ownEdges w' W0.heap.size (.slice a9 3 c9) Bk.lo.edges) := hown
  have hZ2 : (W1.alloc (Obj.cells #[Value.int .i64 2, .int .i64 0, .int .i64 0] 81)).heap.size = W1.heap.size + 1 := by simp
  have hz := hZ.out
  have HB9 : Hid (Below W0.heap.size W0 w') := (hB1.alloc (by omega) _).grown hgrow (by rw [hZ2]; omega) (fun k hk => by simp [Value.ownBlock] at hk; omega)
  have K1 : Hid (ownInts w' W0.heap.size (.slice (some ⟨W0.heap.size + 1, 0, none⟩) 1 1) [0]) := World.ownsRow.kept (HH1.out.alloc _) hgrow (.inr (by simp [Value.ownBlock] <;> omega))
  have K3 : Hid (ownInts w' W0.heap.size (.slice (some ⟨W0.heap.size + 1 + 1 + 1, 0, none⟩) 1 1) [0]) := World.ownsRow.kept (HH3.out.alloc _) hgrow (.inr (by simp [Value.ownBlock] <;> omega))
  have K4 : Hid (ownEdges w' W0.heap.size (.slice (some ⟨W0.heap.size + 1 + 1 + 1 + 1, 0, none⟩) 1 1) [⟨0, 1, 0⟩]) := World.ownsRow.kept (HH4.out.alloc _) hgrow (.inr (by simp [Value.ownBlock] <;> omega))
  have K5 : Hid (ownInts w' W0.heap.size (.slice (some ⟨W0.heap.size + 1 + 1 + 1 + 1 + 1, 0, none⟩) 3 3) [0, 0, 1]) := World.ownsRow.kept (HH5.out.alloc _) hgrow (.inr (by simp [Value.ownBlock] <;> omega))
  have K6 : Hid (ownInts w' W0.heap.size (.slice (some ⟨W0.heap.size + 1 + 1 + 1 + 1 + 1 + 1, 0, none⟩) 2 2) [0, 1]) := World.ownsRow.kept (HH6.out.alloc _) hgrow (.inr (by simp [Value.ownBlock] <;> omega))
  have hxk : ∀ a : Addr, a.block = bb → w'.heap[a.block]? = W1.heap[a.block]? := fun a ha => by
    rw [hgrow.block _ (by rw [hZ2]; omega) (by simp [Value.ownBlock]; omega)]
    exact heap_alloc_old _ _ _ (by omega)
  have y : ∀ i v, (#[Value.int .i64 3, .slice (some ⟨W0.heap.size + 1, 0, none⟩) 1 1, .slice (some ⟨W0.heap.size + 1 + 1, 0, none⟩) 2 2, .int .i64 2, .slice (some ⟨W0.heap.size + 1 + 1 + 1, 0, none⟩) 1 1, .slice (some ⟨W0.heap.size + 1 + 1 + 1 + 1, 0, none⟩) 1 1, .slice (some ⟨W0.heap.size + 1 + 1 + 1 + 1 + 1, 0, none⟩) 3 3, .slice (some ⟨W0.heap.size + 1 + 1 + 1 + 1 + 1 + 1, 0, none⟩) 2 2] : Array Value)[i]? = some v → w'.cell? ⟨bb, i, none⟩ = some v := fun i v h => (World.cell?_of_block (hxk _ rfl)).trans (HX.out i v h)
  have yf : ∀ i, w'.frozen? ⟨bb, i, none⟩ = false := fun i => (World.frozen?_of_block (hxk _ rfl)).trans (HXF.out i)
  have y0 := y 0 _ rfl; have y1 := y 1 _ rfl; have y2 := y 2 _ rfl; have y3 := y 3 _ rfl; have y4 := y 4 _ rfl; have y5 := y 5 _ rfl; have y6 := y 6 _ rfl; have y7 := y 7 _ rfl
  have yf2 := yf 2
  have rd : ∀ i v, #[Value.int .i64 0, .slice none 0 0, .slice none 0 0, .int .i64 0, .slice none 0 0, .slice none 0 0, .slice none 0 0, .slice none 0 0][i]? = some v → w'.cell? ⟨rb, i, none⟩ = some v := fun i v h => Below.keeps HB9.out (hr.out i v h) (Nat.le_refl _)
  have r0 := rd 0 _ rfl; have r1 := rd 1 _ rfl; have r2 := rd 2 _ rfl; have r3 := rd 3 _ rfl; have r4 := rd 4 _ rfl; have r5 := rd 5 _ rfl; have r6 := rd 6 _ rfl; have r7 := rd 7 _ rfl
  have f0 := Below.keepsF HB9.out (hrf.out 0) HWS.out; have f1 := Below.keepsF HB9.out (hrf.out 1) HWS.out; have f2 := Below.keepsF HB9.out (hrf.out 2) HWS.out; have f3 := Below.keepsF HB9.out (hrf.out 3) HWS.out; have f4 := Below.keepsF HB9.out (hrf.out 4) HWS.out; have f5 := Below.keepsF HB9.out (hrf.out 5) HWS.out; have f6 := Below.keepsF HB9.out (hrf.out 6) HWS.out; have f7 := Below.keepsF HB9.out (hrf.out 7) HWS.out
  have hws := HWS.out
  have hne : rb ≠ bb := by omega
  have hne2 : bb ≠ rb := by omega
  have HA9 : Hid (a9 = none ∨ ∃ g o, a9 = some ⟨g, o, none⟩ ∧ g ≠ bb ∧ g ≠ rb) := by
    rcases a9 with _ | ⟨g, o, s⟩
    · exact .inl rfl
    · refine .inr ⟨g, o, ?_, ?_, ?_⟩
      · obtain ⟨-, h | ⟨g', cap, cur, h, -⟩⟩ := hown
        · exact absurd h.1 (by simp)
        · injection h with h; injection h with h; cases h; rfl
      · rcases hat with h | h <;> simp [Value.ownBlock] at h <;> omega
      · rcases hat with h | h <;> simp [Value.ownBlock] at h <;> omega
  clear rd y yf hxk hgrow hown hat x2 HX HXF HH1 HH2 HH3 HH4 HH5 HH6 hB1 hZ hZ2 hz hr hrf
  have HO9 : ∀ b, b = bb ∨ b = rb → (Value.slice a9 3 c9).ownBlock = none ∨ (Value.slice a9 3 c9).ownBlock ≠ some b := fun b hb => by
    rcases HA9.out with h | ⟨g, o, h, h1, h2⟩
    · rw [h]; exact .inl rfl
    · rw [h]; refine .inr ?_
      simp only [Value.ownBlock]
      intro e; injection e with e; rcases hb with h | h <;> omega
  have HO := Lib.hid HO9
  clear HO9 HA9
  go_wp2
  refine bodyPost_ret (v := .agg #[.int .i64 3, .slice (some ⟨W0.heap.size + 1, 0, none⟩) 1 1, .slice a9 3 c9, .int .i64 2, .slice (some ⟨W0.heap.size + 1 + 1 + 1, 0, none⟩) 1 1, .slice (some ⟨W0.heap.size + 1 + 1 + 1 + 1, 0, none⟩) 1 1, .slice (some ⟨W0.heap.size + 1 + 1 + 1 + 1 + 1, 0, none⟩) 3 3, .slice (some ⟨W0.heap.size + 1 + 1 + 1 + 1 + 1 + 1, 0, none⟩) 2 2]) (by simp [results, Try.results21, go_sem, r0, r1, r2, r3, r4, r5, r6, r7, hne, hne2]) rfl ⟨_, rfl, ⟨_, _, _, _, _, _, rfl, IntsAt.of_own (B := W0.heap.size) ?_, EdgesAt.of_own (B := W0.heap.size) ?_, IntsAt.of_own (B := W0.heap.size) ?_, EdgesAt.of_own (B := W0.heap.size) ?_, IntsAt.of_own (B := W0.heap.size) ?_, IntsAt.of_own (B := W0.heap.size) ?_⟩, ?_⟩
  · repeat (with_reducible refine row_set ?_ (.inr (by simp [Value.ownBlock] <;> omega)) _)
    exact K1.out
  · repeat (first | with_reducible exact HE9.out | with_reducible refine row_set ?_ (HO.out _ (by first | exact .inl rfl | exact .inr rfl)) _)
  · repeat (with_reducible refine row_set ?_ (.inr (by simp [Value.ownBlock] <;> omega)) _)
    exact K3.out
  · repeat (with_reducible refine row_set ?_ (.inr (by simp [Value.ownBlock] <;> omega)) _)
    exact K4.out
  · repeat (with_reducible refine row_set ?_ (.inr (by simp [Value.ownBlock] <;> omega)) _)
    exact K5.out
  · repeat (with_reducible refine row_set ?_ (.inr (by simp [Value.ownBlock] <;> omega)) _)
    exact K6.out
  · rw [HRB.out]
    repeat (with_reducible refine Below.setCell ?_ ?_ _; rotate_left; (focus (show rb ≤ _; simp only []; omega)))
    have hh := HB0.out.size
    exact HB0.out.trans (HB9.out.mono (by omega))
end Go.Proofs.Ytciopdlmjciieaa
