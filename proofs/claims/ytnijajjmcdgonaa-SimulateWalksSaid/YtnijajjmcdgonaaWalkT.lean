import Derived.Test.YtnijajjmcdgonaaWalkR
namespace Go.Proofs.Ytnijajjmcdgonaa
open Go.RowKit
set_option linter.unusedVariables false

/-- Appending what no memory holds changes nothing. -/
theorem run_append_none {P : Program} {w : World} (base : Nat) (t ty e : TypeId) (i : TypeInfo) (size : Nat) (ht : P.underlying t = some (.slice e)) (hi : P.info? e = some i)
    (v : Value) (n : Nat) (xs : List Value) (hown : w.ownsRow base e size v n xs) (c : Nat) : (Builtin.append_ #[t, t] ty #[v, .slice none 0 c]).run P w = .ok v w := by
  obtain ⟨-, ⟨rfl, rfl⟩ | ⟨g, cap, cur, rfl, -, -, hcap, -⟩⟩ := hown <;> simp [Builtin.append_, run_underlying ht, sizeOf, typeInfo, Builtin.lenOf, Builtin.firstCells, storeCells, *]

/-- Appending what came in, nil or not, to a row of one's own, as a step of a region that draws its order. -/
theorem step_own {P : Program} {w : World} {ops : Array Oper} {o : Oper} {a : Act} {K : Act → World → Prop} {Q : Exit → Act → World → Prop} {E : Prop} (hgd : o.guard = none) (s x : Operand) (t : TypeId)
    (ho : o.op = .call { callee := .builtin .append, args := #[s, x], argTypes := #[t, t] })
    (base : Nat) (e : TypeId) (i : TypeInfo) (z : Value) (size bytes : Nat) (ht : P.underlying t = some (.slice e)) (hi : P.info? e = some i) (hz : i.zero = some z)
    (hsize : i.size = size) (hby : i.bytes = bytes) (hzs : z.cells.size = size) (hsz : 0 < size)
    (v : Value) (n : Nat) (xs : List Value) (hs : a.eval s = v) (hown : w.ownsRow base e size v n xs)
    (A : Option Addr) (m c : Nat) (news : List Value) (hx : a.eval x = .slice A m c) (hl : news.length = m * size) (hnews : ∀ j u, news[j]? = some u → ∃ ad, A = some ad ∧ w.cell? (ad.add j) = some u) (h1 : ∀ u ∈ news, u.oneCell' = true)
    (h63 : n + m ≤ maxLen) (hbytes : (n + m) * bytes ≤ 140737488355328) (hbase : base ≤ w.heap.size)
    (h : ∀ v' w', w'.ownsRow base e size v' (n + m) (xs ++ news) → w.grownBy w' v.ownBlock → K (a.put o.dst v') w') :
    if Region.wanted o (yielded ops a.tmps) = true then Oper.wp P o a w K Q else E := by
  rw [if_pos (by simp [Region.wanted, hgd])]
  rcases A with _ | ad
  · have hn : news = [] := by
      rcases news with _ | ⟨u, r⟩
      · rfl
      · obtain ⟨_, h, _⟩ := hnews 0 u rfl; cases h
    subst hn
    have hm : m = 0 := by
      have : m * size = 0 := by simpa using hl.symm
      rcases Nat.mul_eq_zero.1 this with h | h
      · exact h
      · omega
    subst hm
    have hrun := run_append_none (P := P) (w := w) base t o.type e i size ht hi v n xs hown c
    unfold Oper.wp execOp
    simp only [ho, resolve, invoke, builtin, Sem.run_bind, Sem.run_pure, Result.andThen_ok, List.map_toArray, List.map_cons, List.map_nil, hs, hx, hrun]
    exact h v w (by simpa using hown) (World.grownBy.refl w _)
  · exact wp_append_own w s x t ho base e i z size bytes ht hi hz hsize hby hzs hsz v n xs hs hown ad m c news hx hl (fun j u hj => by obtain ⟨_, e, h⟩ := hnews j u hj; injection e with e; subst e; exact h) h1 h63 hbytes hbase fun v' w' h2 h3 _ => h v' w' h2 h3

/-- The cells of edges, one after the other. -/
def eCells : List E → List Value
  | [] => []
  | e :: r => .int .i64 e.f :: .int .i64 e.t :: .int .i64 e.a :: eCells r
theorem eCells_len : ∀ l, (eCells l).length = l.length * 3
  | [] => rfl
  | e :: r => by simp [eCells, eCells_len r]; omega
theorem eCells_at : ∀ (l : List E) (j : Nat), j < l.length → (eCells l)[j * 3]? = some (.int .i64 (ge l j).f) ∧ (eCells l)[j * 3 + 1]? = some (.int .i64 (ge l j).t) ∧ (eCells l)[j * 3 + 2]? = some (.int .i64 (ge l j).a)
  | [], j, h => by simp at h
  | e :: r, 0, _ => ⟨rfl, rfl, rfl⟩
  | e :: r, j + 1, h => by
    have ih := eCells_at r j (by simpa using h)
    have e1 : (j + 1) * 3 = j * 3 + 1 + 1 + 1 := by omega
    have e2 : ge (e :: r) (j + 1) = ge r j := by simp [ge]
    rw [e1, e2]
    simpa [eCells] using ih
theorem eCells_one : ∀ l, ∀ u ∈ eCells l, u.oneCell' = true
  | [], u, h => by simp [eCells] at h
  | e :: r, u, h => by
    simp only [eCells, List.mem_cons] at h
    rcases h with rfl | rfl | rfl | h
    · rfl
    · rfl
    · rfl
    · exact eCells_one r u h
/-- Edges that lie in memory, cell by cell. -/
theorem edges_cells {w : World} {ad : Addr} {l : List E} (h : EdgesCells w (some ad) l) : ∀ j u, (eCells l)[j]? = some u → w.cell? (ad.add j) = some u := by
  intro j u hj
  have hlt : j < l.length * 3 := by
    have := (List.getElem?_eq_some_iff.1 hj).1
    rwa [eCells_len] at this
  obtain ⟨b, off, e, c0, c1, c2⟩ := h (j / 3) (by omega)
  injection e with e
  subst e
  obtain ⟨a0, a1, a2⟩ := eCells_at l (j / 3) (by omega)
  have hadd : ∀ k, (⟨b, off, none⟩ : Addr).add k = ⟨b, off + k, none⟩ := fun k => by
    by_cases hk : k = 0
    · subst hk; simp [Addr.add]
    · simp [Addr.add, hk]
  rw [hadd]
  have h3 : j = j / 3 * 3 ∨ j = j / 3 * 3 + 1 ∨ j = j / 3 * 3 + 2 := by omega
  rcases h3 with h3 | h3 | h3
  · rw [h3] at hj ⊢; rw [a0] at hj; injection hj with hj; subst hj; exact c0
  · rw [h3] at hj ⊢; rw [a1] at hj; injection hj with hj; subst hj; exact c1
  · rw [h3] at hj ⊢; rw [a2] at hj; injection hj with hj; subst hj; exact c2
theorem edges_any {w : World} {A : Option Addr} {l : List E} (h : EdgesCells w A l) (j : Nat) (u : Value) (hj : (eCells l)[j]? = some u) : ∃ ad, A = some ad ∧ w.cell? (ad.add j) = some u := by
  have hlt : j < l.length * 3 := by
    have := (List.getElem?_eq_some_iff.1 hj).1
    rwa [eCells_len] at this
  obtain ⟨b, off, e, -⟩ := h 0 (by omega)
  subst e
  exact ⟨_, rfl, edges_cells h j u hj⟩
/-- A slice of edges of a call's own. -/
abbrev ownEdges (w : World) (B : Nat) (v : Value) (l : List E) : Prop := w.ownsRow B 74 3 v l.length (eCells l)
theorem EdgesAt.of_own {w : World} {B : Nat} {v : Value} {l : List E} (h : ownEdges w B v l) : EdgesAt w v l := by
  obtain ⟨hlen, h⟩ := h
  rcases h with ⟨rfl, h0⟩ | ⟨g, cap, cur, rfl, hB, hg, hn, hm, hs, ht⟩
  · exact ⟨none, 0, by rw [h0], by rw [h0]; exact Nat.zero_le _, fun j hj => by omega⟩
  · have key : ∀ j u, j < l.length * 3 → (eCells l)[j]? = some u → w.cell? ⟨g, 0 + j, none⟩ = some u := by
      intro j u hj hu
      rw [← ht, List.getElem?_take_of_lt hj] at hu
      have h3 : cur[j]? = some u := by rw [← Array.getElem?_toList]; exact hu
      unfold World.cell?
      simp only [hg, Nat.zero_add]
      simpa using h3
    refine ⟨_, _, rfl, Nat.le_trans hn hm, fun j hj => ⟨g, 0, rfl, ?_⟩⟩
    obtain ⟨a0, a1, a2⟩ := eCells_at l j hj
    exact ⟨key _ _ (by omega) a0, key _ _ (by omega) a1, key _ _ (by omega) a2⟩

theorem infoEdge : (Try.prog.info? 74).map (fun i => (i.zero, i.size, i.bytes)) = some (some (.agg #[.int .i64 0, .int .i64 0, .int .i64 0]), 3, 24) := by kernel_rfl
end Go.Proofs.Ytnijajjmcdgonaa
