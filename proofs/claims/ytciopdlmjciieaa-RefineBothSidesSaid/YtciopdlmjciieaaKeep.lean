import Derived.Test.YtciopdlmjciieaaPairD
namespace Go.Proofs.Ytciopdlmjciieaa
open Go.RowKit
set_option linter.unusedVariables false

/-- All blocks but one are as they were. -/
structure Keep (w w' : World) (T : Nat) : Prop where
  os : w'.os = w.os
  tape : w'.tape = w.tape
  output : w'.output = w.output
  size : w.heap.size ≤ w'.heap.size
  block : ∀ k, k < w.heap.size → k ≠ T → w'.heap[k]? = w.heap[k]?
theorem Keep.refl (w : World) (T : Nat) : Keep w w T := ⟨rfl, rfl, rfl, Nat.le_refl _, fun _ _ _ => rfl⟩
theorem Keep.later {w w1 w2 : World} {T B : Nat} (h : Keep w w1 T) (hb : Below B w1 w2) (hB : w.heap.size ≤ B) : Keep w w2 T :=
  ⟨hb.os.trans h.os, hb.tape.trans h.tape, hb.output.trans h.output, Nat.le_trans h.size hb.size, fun k hk hT => (hb.block k (by omega)).trans (h.block k hk hT)⟩
theorem Keep.grown {w w1 w2 : World} {T : Nat} {row : Option Nat} (h : Keep w w1 T) (hg : w1.grownBy w2 row) (hr : ∀ k, row = some k → w.heap.size ≤ k) : Keep w w2 T :=
  ⟨hg.os.trans h.os, hg.tape.trans h.tape, hg.output.trans h.output, Nat.le_trans h.size hg.size, fun k hk hT => (hg.block k (Nat.lt_of_lt_of_le hk h.size) (fun e => by have := hr k e.symm; omega)).trans (h.block k hk hT)⟩
theorem Keep.set {w w1 : World} {T : Nat} (h : Keep w w1 T) (j : Nat) (u : Value) : Keep w (w1.setCell ⟨T, j, none⟩ u) T :=
  ⟨h.os, h.tape, h.output, by simp [World.setCell]; exact h.size, fun k hk hT => (Deep.blk_setCell_other w1 ⟨T, j, none⟩ u k hT).trans (h.block k hk hT)⟩
theorem Keep.below {w w1 : World} {T : Nat} (h : Keep w w1 T) {B : Nat} (hB : B ≤ T) (hS : B ≤ w.heap.size) : Below B w w1 := ⟨h.os, h.tape, h.output, h.size, fun k hk => h.block k (by omega) (by omega)⟩
theorem Keep.px {w w1 : World} {T px : Nat} {p : P2} {i1 e1 i2 e2 l1 l2 : Option Addr} {c1 d1 c2 d2 k1 k2 TL TU N1 N2 : Nat} (h : Keep w w1 T) (hp : PX w px p i1 e1 i2 e2 l1 l2 c1 d1 c2 d2 k1 k2 TL TU N1 N2) (hne : px ≠ T) : PX w1 px p i1 e1 i2 e2 l1 l2 c1 d1 c2 d2 k1 k2 TL TU N1 N2 :=
  hp.under (B := 0) (h.block px hp.lt hne)
theorem Keep.cell {w w1 : World} {T b i : Nat} {v : Value} (h : Keep w w1 T) (hc : w.cell? ⟨b, i, none⟩ = some v) (hne : b ≠ T) : w1.cell? ⟨b, i, none⟩ = some v :=
  (World.cell?_of_block (h.block b (cell_lt hc) hne)).trans hc
theorem Keep.tab {w w1 : World} {T B T' n : Nat} {F : Nat → List Int} (h : Keep w w1 T) (ht : Tab w B T' n F) (hne : T' ≠ T) (hB : T < B) : Tab w1 B T' n F := by
  obtain ⟨rv, h1, h2, h3⟩ := ht.ex
  refine ⟨rv, h1.of_block (h.block T' h1.lt hne), fun j hj => ?_, h3⟩
  obtain ⟨h0, h4⟩ := h2 j hj
  refine ⟨h0, ?_⟩
  rcases h4 with h4 | ⟨g, cap, cur, e1, e2, e3, e4⟩
  · exact .inl h4
  · exact .inr ⟨g, cap, cur, e1, e2, (h.block g (Array.getElem?_eq_some_iff.1 e3).1 (by omega)).trans e3, e4⟩
theorem Keep.rows {w w1 : World} {T T' n : Nat} {v : Nat → Value} (h : Keep w w1 T) (ht : w.rowIs T' 22 n v) (hne : T' ≠ T) : w1.rowIs T' 22 n v := ht.of_block (h.block T' ht.lt hne)

/-- Appending one number to a row of one's own, as a step of a region that draws its order: where the new row lies, too. -/
theorem step_own_at {P : Program} {w : World} {ops : Array Oper} {o : Oper} {a : Act} {K : Act → World → Prop} {Q : Exit → Act → World → Prop} {E : Prop} (hgd : o.guard = none) (s x : Operand) (t : TypeId)
    (ho : o.op = .call { callee := .builtin .append, args := #[s, x], argTypes := #[t, t] })
    (base : Nat) (e : TypeId) (i : TypeInfo) (z : Value) (size bytes : Nat) (ht : P.underlying t = some (.slice e)) (hi : P.info? e = some i) (hz : i.zero = some z)
    (hsize : i.size = size) (hby : i.bytes = bytes) (hzs : z.cells.size = size) (hsz : 0 < size)
    (v : Value) (n : Nat) (xs : List Value) (hs : a.eval s = v) (hown : w.ownsRow base e size v n xs)
    (ad : Addr) (m c : Nat) (news : List Value) (hx : a.eval x = .slice (some ad) m c) (hl : news.length = m * size) (hnews : ∀ j u, news[j]? = some u → w.cell? (ad.add j) = some u) (h1 : ∀ u ∈ news, u.oneCell' = true)
    (h63 : n + m ≤ maxLen) (hbytes : (n + m) * bytes ≤ 140737488355328) (hbase : base ≤ w.heap.size)
    (h : ∀ v' w', w'.ownsRow base e size v' (n + m) (xs ++ news) → w.grownBy w' v.ownBlock → (v'.ownBlock = v.ownBlock ∨ v'.ownBlock = some w.heap.size) → K (a.put o.dst v') w') :
    if Region.wanted o (yielded ops a.tmps) = true then Oper.wp P o a w K Q else E := by
  rw [if_pos (by simp [Region.wanted, hgd])]
  obtain ⟨v', w', hr, h2, h3, h4, h5⟩ := run_append_own_at (P := P) w base t o.type e i z size bytes ht hi hz hsize hby hzs hsz v n xs hown ad m c news hl hnews h1 h63 hbytes hbase
  unfold Oper.wp execOp
  simp only [ho, resolve, invoke, builtin, Sem.run_bind, Sem.run_pure, Result.andThen_ok, List.map_toArray, List.map_cons, List.map_nil, hs, hx, hr]
  exact h v' w' h2 h3 h5

theorem below_grownBy {wb W w' : World} {row : Option Nat} (hb : Below wb.heap.size wb W) (hg : W.grownBy w' row) : wb.grownBy w' row :=
  ⟨hg.os.trans hb.os, hg.tape.trans hb.tape, hg.output.trans hb.output, Nat.le_trans hb.size hg.size, fun k hk hr => (hg.block k (Nat.lt_of_lt_of_le hk hb.size) hr).trans (hb.block k hk)⟩
/-- What is so behind an append to one of the rows of a table. -/
theorem after_push {wb W w' : World} {T n j M : Nat} {F : Nat → List Int} {v v' : Value} {l' : List Int} (hb : Below wb.heap.size wb W) (hT : Tab wb M T n F) (hj : j < n) (hv : wb.cell? ⟨T, j, none⟩ = some v) (ho : ownInts w' M v' l') (hg : W.grownBy w' v.ownBlock)
    (hat : v'.ownBlock = v.ownBlock ∨ v'.ownBlock = some W.heap.size) :
    (∀ b i u, wb.cell? ⟨b, i, none⟩ = some u → v.ownBlock ≠ some b → w'.cell? ⟨b, i, none⟩ = some u) ∧ w'.frozen? ⟨T, j, none⟩ = false ∧ w'.cell? ⟨T, j, none⟩ = some v ∧ Tab (w'.setCell ⟨T, j, none⟩ v') M T n (upd F j l') ∧ wb.grownBy w' v.ownBlock := by
  have hgb := below_grownBy hb hg
  have hTs := hT.lt
  have hTn : v.ownBlock ≠ some T := by
    obtain ⟨rv, h1, h2, h3⟩ := hT.ex
    have hvj : rv j = v := by have := h1.cell hj; rw [hv] at this; injection this with this; exact this.symm
    rcases own_block_ne (g := 0) (h2 j hj) h1 with h | h
    · rw [hvj] at h; rw [h]; simp
    · rw [hvj] at h; exact h
  refine ⟨fun b i u hc hne => hgb.cell hc (fun e => hne e.symm), ?_, hgb.cell hv (fun e => hTn e.symm), Tab.put hT hj hv hgb ho ?_, hgb⟩
  · rw [World.frozen?_of_block (w := wb) (hgb.block T hTs (fun e => hTn e.symm))]
    exact hT.frozen j
  · rcases hat with h | h
    · exact .inl h
    · exact .inr ⟨_, h, hb.size⟩
end Go.Proofs.Ytciopdlmjciieaa
