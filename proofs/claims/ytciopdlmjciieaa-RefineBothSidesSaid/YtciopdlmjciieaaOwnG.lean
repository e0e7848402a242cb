import Derived.Test.YtciopdlmjciieaaGraph
namespace Go.Proofs.Ytciopdlmjciieaa
open Go.RowKit
set_option linter.unusedVariables false

/-- Appending what no memory holds changes nothing. -/
theorem run_append_none {P : Program} {w : World} (base : Nat) (t ty e : TypeId) (i : TypeInfo) (size : Nat) (ht : P.underlying t = some (.slice e)) (hi : P.info? e = some i)
    (v : Value) (n : Nat) (xs : List Value) (hown : w.ownsRow base e size v n xs) (c : Nat) : (Builtin.append_ #[t, t] ty #[v, .slice none 0 c]).run P w = .ok v w := by
  obtain ⟨-, ⟨rfl, rfl⟩ | ⟨g, cap, cur, rfl, -, -, hcap, -⟩⟩ := hown <;> simp [Builtin.append_, run_underlying ht, sizeOf, typeInfo, Builtin.lenOf, Builtin.firstCells, storeCells, *]
/-- Appending what came in, nil or not, to a row of one's own, as a step of a region that draws its order. -/
theorem step_own {P : Program} {w : World} {ops : Array Oper} {o : Oper} {a : Act} {K : Act → World → Prop} {Q : Exit → Act → World → Prop} {E : Prop} (hgd : o.guard = none) (s x : Operand) (t : TypeId)
    (ho : o.op = .call { callee := .builtin .append, args := #[s, x], argTypes := #[t, t] })
    (base : Nat) (e : TypeId) (i : TypeInfo) (z : Value) (size bytes : Nat) (ht : P.underlying t = some (.slice e)) (hi : P.info? e = some i) (hz : i.zero = some z)
    (hsize : i.size = size) (hby : i.bytes = bytes) (hzs : z.cells.size = size) (hsz : 0 < size)
    (v : Value) (n : Nat) (xs : List Value) (hs : a.eval s = v) (hown : w.ownsRow base e size v n xs)
    (A : Option Addr) (m c : Nat) (news : List Value) (hx : a.eval x = .slice A m c) (hl : news.length = m * size) (hnews : ∀ j u, news[j]? = some u → ∃ ad, A = some ad ∧ w.cell? (ad.add j) = some u) (h1 : ∀ u ∈ news, u.oneCell' = true)
    (h63 : n + m ≤ maxLen) (hbytes : (n + m) * bytes ≤ 140737488355328) (hbase : base ≤ w.heap.size)
    (h : ∀ v' w', w'.ownsRow base e size v' (n + m) (xs ++ news) → w.grownBy w' v.ownBlock → K (a.put o.dst v') w') :
    if Region.wanted o (yielded ops a.tmps) = true then Oper.wp P o a w K Q else E := by
  rw [if_pos (by simp [Region.wanted, hgd])]
  rcases A with _ | ad
  · have hn : news = [] := by
      rcases news with _ | ⟨u, r⟩
      · rfl
      · obtain ⟨_, h, _⟩ := hnews 0 u rfl; cases h
    subst hn
    have hm : m = 0 := by
      have : m * size = 0 := by simpa using hl.symm
      rcases Nat.mul_eq_zero.1 this with h | h
      · exact h
      · omega
    subst hm
    have hrun := run_append_none (P := P) (w := w) base t o.type e i size ht hi v n xs hown c
    unfold Oper.wp execOp
    simp only [ho, resolve, invoke, builtin, Sem.run_bind, Sem.run_pure, Result.andThen_ok, List.map_toArray, List.map_cons, List.map_nil, hs, hx, hrun]
    exact h v w (by simpa using hown) (World.grownBy.refl w _)
  · exact wp_append_own w s x t ho base e i z size bytes ht hi hz hsize hby hzs hsz v n xs hs hown ad m c news hx hl (fun j u hj => by obtain ⟨_, e, h⟩ := hnews j u hj; injection e with e; subst e; exact h) h1 h63 hbytes hbase fun v' w' h2 h3 _ => h v' w' h2 h3
/-- The cells of edges, one after the other. -/
def eCells : List E → List Value
  | [] => []
  | e :: r => .int .i64 e.f :: .int .i64 e.t :: .int .i64 e.a :: eCells r
theorem eCells_len : ∀ l, (eCells l).length = l.length * 3
  | [] => rfl
  | e :: r => by simp [eCells, eCells_len r]; omega
theorem eCells_at : ∀ (l : List E) (j : Nat), j < l.length → (eCells l)[j * 3]? = some (.int .i64 (ge l j).f) ∧ (eCells l)[j * 3 + 1]? = some (.int .i64 (ge l j).t) ∧ (eCells l)[j * 3 + 2]? = some (.int .i64 (ge l j).a)
  | [], j, h => by simp at h
  | e :: r, 0, _ => ⟨rfl, rfl, rfl⟩
  | e :: r, j + 1, h => by
    have ih := eCells_at r j (by simpa using h)
    have e1 : (j + 1) * 3 = j * 3 + 1 + 1 + 1 := by omega
    have e2 : ge (e :: r) (j + 1) = ge r j := by simp [ge]
    rw [e1, e2]
    simpa [eCells] using ih
theorem eCells_one : ∀ l, ∀ u ∈ eCells l, u.oneCell' = true
  | [], u, h => by simp [eCells] at h
  | e :: r, u, h => by
    simp only [eCells, List.mem_cons] at h
    rcases h with rfl | rfl | rfl | h
    · rfl
    · rfl
    · rfl
    · exact eCells_one r u h
/-- Edges that lie in memory, cell by cell. -/
theorem edges_cells {w : World} {ad : Addr} {l : List E} (h : EdgesCells w (some ad) l) : ∀ j u, (eCells l)[j]? = some u → w.cell? (ad.add j) = some u := by
  intro j u hj
  have hlt : j < l.length * 3 := by
    have := (List.getElem?_eq_some_iff.1 hj).1
    rwa [eCells_len] at this
  obtain ⟨b, off, e, c0, c1, c2⟩ := h (j / 3) (by omega)
  injection e with e
  subst e
  obtain ⟨a0, a1, a2⟩ := eCells_at l (j / 3) (by omega)
  have hadd : ∀ k, (⟨b, off, none⟩ : Addr).add k = ⟨b, off + k, none⟩ := fun k => by
    by_cases hk : k = 0
    · subst hk; simp [Addr.add]
    · simp [Addr.add, hk]
  rw [hadd]
  have h3 : j = j / 3 * 3 ∨ j = j / 3 * 3 + 1 ∨ j = j / 3 * 3 + 2 := by omega
  rcases h3 with h3 | h3 | h3
  · rw [h3] at hj ⊢; rw [a0] at hj; injection hj with hj; subst hj; exact c0
  · rw [h3] at hj ⊢; rw [a1] at hj; injection hj with hj; subst hj; exact c1
  · rw [h3] at hj ⊢; rw [a2] at hj; injection hj with hj; subst hj; exact c2
theorem edges_any {w : World} {A : Option Addr} {l : List E} (h : EdgesCells w A l) (j : Nat) (u : Value) (hj : (eCells l)[j]? = some u) : ∃ ad, A = some ad ∧ w.cell? (ad.add j) = some u := by
  have hlt : j < l.length * 3 := by
    have := (List.getElem?_eq_some_iff.1 hj).1
    rwa [eCells_len] at this
  obtain ⟨b, off, e, -⟩ := h 0 (by omega)
  subst e
  exact ⟨_, rfl, edges_cells h j u hj⟩
/-- A slice of edges of a call's own. -/
abbrev ownEdges (w : World) (B : Nat) (v : Value) (l : List E) : Prop := w.ownsRow B 81 3 v l.length (eCells l)
theorem EdgesAt.of_own {w : World} {B : Nat} {v : Value} {l : List E} (h : ownEdges w B v l) : EdgesAt w v l := by
  obtain ⟨hlen, h⟩ := h
  rcases h with ⟨rfl, h0⟩ | ⟨g, cap, cur, rfl, hB, hg, hn, hm, hs, ht⟩
  · exact ⟨none, 0, by rw [h0], by rw [h0]; exact Nat.zero_le _, fun j hj => by omega⟩
  · have key : ∀ j u, j < l.length * 3 → (eCells l)[j]? = some u → w.cell? ⟨g, 0 + j, none⟩ = some u := by
      intro j u hj hu
      rw [← ht, List.getElem?_take_of_lt hj] at hu
      have h3 : cur[j]? = some u := by rw [← Array.getElem?_toList]; exact hu
      unfold World.cell?
      simp only [hg, Nat.zero_add]
      simpa using h3
    refine ⟨_, _, rfl, Nat.le_trans hn hm, fun j hj => ⟨g, 0, rfl, ?_⟩⟩
    obtain ⟨a0, a1, a2⟩ := eCells_at l j hj
    exact ⟨key _ _ (by omega) a0, key _ _ (by omega) a1, key _ _ (by omega) a2⟩
theorem infoEdge : (Try.prog.info? 81).map (fun i => (i.zero, i.size, i.bytes)) = some (some (.agg #[.int .i64 0, .int .i64 0, .int .i64 0]), 3, 24) := by kernel_rfl
theorem after_A {wb wA wE : World} {B : Nat} {o : Obj} {v : Value} {l : List Int} (hb : Below wb.heap.size wb wA) (hB0 : wb.heap.size ≤ B) (hB : ownInts wA B v l) (hg : (wA.alloc o).grownBy wE (some wA.heap.size)) :
    Below wb.heap.size wb wE ∧ ownInts wE wb.heap.size v l := by
  have hs := hb.size
  refine ⟨(hb.alloc hs o).grown hg (by simp; omega) (fun k hk => by injection hk with hk; omega), ?_⟩
  exact own_mono (World.ownsRow.kept (hB.alloc o) hg (own_ne hB _ (.inr (Nat.le_refl _)))) hB0
theorem after_B {wb W0 wA wE : World} {o : Obj} {v : Value} {l : List Int} (hb : Below wb.heap.size wb wA) (h0 : wb.heap.size ≤ W0.heap.size) (hB : ownInts wA (W0.alloc o).heap.size v l) (hg : wA.grownBy wE (some W0.heap.size)) :
    Below wb.heap.size wb wE ∧ ownInts wE wb.heap.size v l :=
  ⟨hb.grown hg hb.size (fun k hk => by injection hk with hk; omega), own_mono (World.ownsRow.kept hB hg (own_ne hB _ (.inl (by simp)))) (by simp; omega)⟩
set_option maxHeartbeats 8000000 in
set_option maxRecDepth 100000 in
theorem ownGraph_own (g : G) (v : Value) (w : World) (hg : GraphAt w v g) (h1 : g.init.length ≤ 100000) (h2 : g.edges.length ≤ 100000) :
    Calls Try.prog 31 #[v] w fun e w' => ∃ vi ve, e = .returned (.agg #[.int .i64 g.n, vi, ve]) ∧ ownInts w' w.heap.size vi g.init ∧ ownEdges w' w.heap.size ve g.edges ∧ Below w.heap.size w w' := by
  obtain ⟨i0, hi, hz0, hz1, hz2⟩ := info_parts infoEdge
  obtain ⟨vi, ve, rfl, hI, ⟨ae, ce, rfl, hme, hce⟩⟩ := hg
  obtain ⟨ai, ci, rfl⟩ : ∃ a c, vi = .slice a g.init.length c := by obtain ⟨a, c, rfl, -, -⟩ := hI; exact ⟨a, c, rfl⟩
  unfold maxLen at hme
  go_enter Try.func31, Try.ntmps31
  go_wp2_with fail
  have hb0 : Below w.heap.size w ((w.alloc (Obj.cells #[Value.int IntKind.i64 g.n, Value.slice ai g.init.length ci, Value.slice ae g.edges.length ce] 25)).alloc (Obj.cells #[.int .i64 0, .slice none 0 0, .slice none 0 0] 25)) := ((Below.refl _ _).alloc (Nat.le_refl _) _).alloc (by simp) _
  have q0 : ((w.alloc (Obj.cells #[Value.int IntKind.i64 g.n, Value.slice ai g.init.length ci, Value.slice ae g.edges.length ce] 25)).alloc (Obj.cells #[.int .i64 0, .slice none 0 0, .slice none 0 0] 25)).cell? ⟨w.heap.size, 0, none⟩ = some (.int .i64 g.n) := by rw [World.cell?_alloc_past _ _ _ (by simp), World.cell?_alloc_at _ _ _ _ rfl]; rfl
  have q1 : ((w.alloc (Obj.cells #[Value.int IntKind.i64 g.n, Value.slice ai g.init.length ci, Value.slice ae g.edges.length ce] 25)).alloc (Obj.cells #[.int .i64 0, .slice none 0 0, .slice none 0 0] 25)).cell? ⟨w.heap.size, 1, none⟩ = some (.slice ai g.init.length ci) := by rw [World.cell?_alloc_past _ _ _ (by simp), World.cell?_alloc_at _ _ _ _ rfl]; rfl
  have q2 : ((w.alloc (Obj.cells #[Value.int IntKind.i64 g.n, Value.slice ai g.init.length ci, Value.slice ae g.edges.length ce] 25)).alloc (Obj.cells #[.int .i64 0, .slice none 0 0, .slice none 0 0] 25)).cell? ⟨w.heap.size, 2, none⟩ = some (.slice ae g.edges.length ce) := by rw [World.cell?_alloc_past _ _ _ (by simp), World.cell?_alloc_at _ _ _ _ rfl]; rfl
  have qf : ∀ i, ((w.alloc (Obj.cells #[Value.int IntKind.i64 g.n, Value.slice ai g.init.length ci, Value.slice ae g.edges.length ce] 25)).alloc (Obj.cells #[.int .i64 0, .slice none 0 0, .slice none 0 0] 25)).frozen? ⟨w.heap.size, i, none⟩ = false := fun i => by rw [World.frozen?_alloc_past _ _ _ (by simp), World.frozen?_alloc_at _ _ _ _ rfl]
  have hsz : w.heap.size + 1 < ((w.alloc (Obj.cells #[Value.int IntKind.i64 g.n, Value.slice ai g.init.length ci, Value.slice ae g.edges.length ce] 25)).alloc (Obj.cells #[.int .i64 0, .slice none 0 0, .slice none 0 0] 25)).heap.size := by simp
  have r0 : ((w.alloc (Obj.cells #[Value.int IntKind.i64 g.n, Value.slice ai g.init.length ci, Value.slice ae g.edges.length ce] 25)).alloc (Obj.cells #[.int .i64 0, .slice none 0 0, .slice none 0 0] 25)).cell? ⟨w.heap.size + 1, 0, none⟩ = some (.int .i64 0) := by rw [World.cell?_alloc_at _ _ _ _ (by simp)]; rfl
  have r1 : ((w.alloc (Obj.cells #[Value.int IntKind.i64 g.n, Value.slice ai g.init.length ci, Value.slice ae g.edges.length ce] 25)).alloc (Obj.cells #[.int .i64 0, .slice none 0 0, .slice none 0 0] 25)).cell? ⟨w.heap.size + 1, 1, none⟩ = some (.slice none 0 0) := by rw [World.cell?_alloc_at _ _ _ _ (by simp)]; rfl
  have r2 : ((w.alloc (Obj.cells #[Value.int IntKind.i64 g.n, Value.slice ai g.init.length ci, Value.slice ae g.edges.length ce] 25)).alloc (Obj.cells #[.int .i64 0, .slice none 0 0, .slice none 0 0] 25)).cell? ⟨w.heap.size + 1, 2, none⟩ = some (.slice none 0 0) := by rw [World.cell?_alloc_at _ _ _ _ (by simp)]; rfl
  have rf : ∀ i, ((w.alloc (Obj.cells #[Value.int IntKind.i64 g.n, Value.slice ai g.init.length ci, Value.slice ae g.edges.length ce] 25)).alloc (Obj.cells #[.int .i64 0, .slice none 0 0, .slice none 0 0] 25)).frozen? ⟨w.heap.size + 1, i, none⟩ = false := fun i => World.frozen?_alloc_at _ _ _ _ (by simp)
  have hsw : w.heap.size < ((w.alloc (Obj.cells #[Value.int IntKind.i64 g.n, Value.slice ai g.init.length ci, Value.slice ae g.edges.length ce] 25)).alloc (Obj.cells #[.int .i64 0, .slice none 0 0, .slice none 0 0] 25)).heap.size := by simp; omega
  replace hI := hI.later hb0
  replace hce := hce.later hb0
  generalize ((w.alloc (Obj.cells #[Value.int IntKind.i64 g.n, Value.slice ai g.init.length ci, Value.slice ae g.edges.length ce] 25)).alloc (Obj.cells #[.int .i64 0, .slice none 0 0, .slice none 0 0] 25)) = wb at *
  have HE := Lib.hid (edges_any hce)
  have HI := Lib.hid hI
  have QF := Lib.hid qf
  have RF := Lib.hid rf; have R0 := Lib.hid r0; have R1 := Lib.hid r1; have R2 := Lib.hid r2; have Q0 := Lib.hid q0
  clear hce hI qf rf r0 r1 r2 q0
  have hrow : ∀ W : World, wb.heap.size ≤ W.heap.size → Hid ((W.alloc (.cells #[] 81)).ownsRow wb.heap.size 81 3 (.slice (some ⟨W.heap.size, 0, none⟩) 0 0) 0 []) := fun W hW => World.ownsRow_lit (base := wb.heap.size) (e := 81) (size := 3) W #[] 0 hW (Nat.zero_le _) rfl
  go_region_law
    ((first
      | (go_simp; go_at_call 17; refine (ownInts_any g.init _ _ (HI.out.later ?_) h1).mono ?_; (focus ((repeat (first | with_reducible exact Below.refl _ _ | with_reducible assumption | with_reducible refine Below.drew ?_ | (with_reducible refine Below.alloc ?_ ?_ _))); all_goals (first | exact Nat.le_refl _ | exact hbA.size | (simp; done) | (simp; exact hbA.size) | (simp; exact Nat.le_succ_of_le hbA.size)))); rintro e wA ⟨vA, rfl, oA, hA⟩; obtain ⟨aA, cA, rfl⟩ := own_form oA; have hbA : Below wb.heap.size wb wA := Below.trans (b := _) (by { (repeat (first | with_reducible exact Below.refl _ _ | with_reducible assumption | with_reducible refine Below.drew ?_ | (with_reducible refine Below.alloc ?_ ?_ _))); all_goals (first | exact Nat.le_refl _ | exact hbA.size | (simp; done) | (simp; exact hbA.size) | (simp; exact Nat.le_succ_of_le hbA.size)) }) (hA.mono (by (first | exact Nat.le_refl _ | exact hbA.size | (simp; done) | (simp; exact hbA.size) | (simp; exact Nat.le_succ_of_le hbA.size)))); have a1 := Below.keeps hbA q1 (Nat.le_refl _); have a2 := Below.keeps hbA q2 (Nat.le_refl _); have hlA : w.heap.size < wA.heap.size := cell_lt a2)
      | (refine step_own rfl (.tmp 6) (.tmp 8) 23 rfl wb.heap.size 81 i0 _ 3 24 Try.underlying23 hi hz0 hz1 hz2 rfl (by decide) _ 0 [] rfl ?_ ae g.edges.length ce (eCells g.edges) rfl (eCells_len _) ?_ (eCells_one _) ?_ ?_ ?_ ?_; (focus (first | exact (hrow _ hbA.size).out | exact ownsRow_later (ownsRow_later (hrow _ (Nat.le_refl _)).out ((Below.refl _ _).drew)) hA)); (focus (intro j u hj; obtain ⟨ad, ead, had⟩ := HE.out j u hj; refine ⟨ad, ead, Below.keeps (B := wb.heap.size) (w := wb) ?_ had (Nat.le_refl _)⟩; (repeat (first | with_reducible exact Below.refl _ _ | with_reducible assumption | with_reducible refine Below.drew ?_ | (with_reducible refine Below.alloc ?_ ?_ _))); all_goals (first | exact Nat.le_refl _ | exact hbA.size | (simp; done) | (simp; exact hbA.size) | (simp; exact Nat.le_succ_of_le hbA.size)))); (focus (unfold maxLen; omega)); (focus omega); (focus (first | exact Nat.le_refl _ | exact hbA.size | (simp; done) | (simp; exact hbA.size) | (simp; exact Nat.le_succ_of_le hbA.size))); intro vE wE oE gE; (first | (have hR := after_A hbA (Nat.le_refl _) oA gE) | (have hR := after_B hbA (Nat.le_refl _) oA gE)); have e1 := Below.keeps hR.1 q1 (Nat.le_refl _); have e2 := Below.keeps hR.1 q2 (Nat.le_refl _); have f1 := Below.keepsF hR.1 (QF.out 1) hsw; have f2 := Below.keepsF hR.1 (QF.out 2) hsw; obtain ⟨aE, cE, rfl⟩ := row_form oE)))
  all_goals
    have hbE := hR.1
    have oI := hR.2
    have oE' : ownEdges wE wb.heap.size (.slice aE g.edges.length cE) g.edges := by simpa using oE
    have e0 := Below.keeps hbE Q0.out (Nat.le_refl _)
    have s0 := Below.keeps hbE R0.out (Nat.le_refl _)
    have s1 := Below.keeps hbE R1.out (Nat.le_refl _)
    have s2 := Below.keeps hbE R2.out (Nat.le_refl _)
    have t0 := Below.keepsF hbE (RF.out 0) hsz
    have t1 := Below.keepsF hbE (RF.out 1) hsz
    have t2 := Below.keepsF hbE (RF.out 2) hsz
    have hbw := hb0.trans (hbE.mono hb0.size)
    have hsz0 := Lib.hid hb0.size
    clear hR oE gE oA hA hbA hb0 hbE a1 a2 q1 q2 hrow
    go_wp2
    refine bodyPost_ret (v := .agg #[.int .i64 g.n, .slice aA g.init.length cA, .slice aE g.edges.length cE]) (by simp [results, Try.results31, go_sem, s0, s1, s2]) rfl ⟨_, _, rfl, ?_, ?_, ?_⟩
    · refine row_mono (B := wb.heap.size) ?_ hsz0.out
      repeat (first | with_reducible exact oI | (with_reducible refine ownsRow_setCell_below ?_ ?_ _; rotate_left; (focus (show _ < wb.heap.size; first | exact hsw | exact hsz))))
    · refine row_mono (B := wb.heap.size) ?_ hsz0.out
      repeat (first | with_reducible exact oE' | (with_reducible refine ownsRow_setCell_below ?_ ?_ _; rotate_left; (focus (show _ < wb.heap.size; first | exact hsw | exact hsz))))
    · repeat (first | with_reducible exact hbw | (with_reducible refine Below.setCell ?_ ?_ _; rotate_left; (focus (first | exact Nat.le_refl _ | exact Nat.le_succ _))))
theorem ownGraph_any (g : G) (v : Value) (w : World) (hg : GraphAt w v g) (h1 : g.init.length ≤ 100000) (h2 : g.edges.length ≤ 100000) :
    Calls Try.prog 31 #[v] w fun e w' => ∃ v', e = .returned v' ∧ GraphAt w' v' g ∧ Below w.heap.size w w' :=
  (ownGraph_own g v w hg h1 h2).mono fun _ _ ⟨vi, ve, he, hi, hE, hb⟩ => ⟨_, he, ⟨vi, ve, rfl, IntsAt.of_own hi, EdgesAt.of_own hE⟩, hb⟩
end Go.Proofs.Ytciopdlmjciieaa
