import Derived.Test.YtnijajjmcdgonaaLeastA
import Derived.Test.YtnijajjmcdgonaaWalkT
namespace Go.Proofs.Ytnijajjmcdgonaa
open Go.RowKit
set_option linter.unusedVariables false

theorem alloc_sizeL (w : World) (o : Obj) : (w.alloc o).heap.size = w.heap.size + 1 := by simp
theorem drew_sizeL (w : World) : w.drew.heap.size = w.heap.size := rfl
/-- A walk's block as it comes to be, all of it nought. -/
structure YC (w : World) (B m : Nat) : Prop where
  ge : B ≤ m
  hp : w.heap[m]? = some (.cells #[.int .i64 0, .slice none 0 0, .bool false] 39 (0, 0))
theorem YC.c0 {w : World} {B m : Nat} (h : YC w B m) : w.cell? ⟨m, 0, none⟩ = some (.int .i64 0) := by simp [World.cell?, h.hp]
theorem YC.c1 {w : World} {B m : Nat} (h : YC w B m) : w.cell? ⟨m, 1, none⟩ = some (.slice none 0 0) := by simp [World.cell?, h.hp]
theorem YC.c2 {w : World} {B m : Nat} (h : YC w B m) : w.cell? ⟨m, 2, none⟩ = some (.bool false) := by simp [World.cell?, h.hp]
theorem YC.fz {w : World} {B m : Nat} (h : YC w B m) (i : Nat) : w.frozen? ⟨m, i, none⟩ = false := by simp [World.frozen?, h.hp]
theorem YC.lt {w : World} {B m : Nat} (h : YC w B m) : m < w.heap.size := (Array.getElem?_eq_some_iff.1 h.hp).1
theorem YC.later {w w' : World} {B m : Nat} (h : YC w B m) (hb : Below w.heap.size w w') : YC w' B m := ⟨h.ge, (hb.block m h.lt).trans h.hp⟩
theorem yc_made {W X : World} {B : Nat} (hX : Below (W.alloc (.cells #[.int .i64 0, .slice none 0 0, .bool false] 39)).heap.size (W.alloc (.cells #[.int .i64 0, .slice none 0 0, .bool false] 39)) X) (hW : B ≤ W.heap.size) : YC X B W.heap.size :=
  YC.later (w := W.alloc (.cells #[.int .i64 0, .slice none 0 0, .bool false] 39)) ⟨hW, by show (W.heap.push _)[W.heap.size]? = _; simp⟩ hX
theorem yc_alloc {W X w' : World} {B : Nat} (h : Below X.heap.size X w') (hX : Below (W.alloc (.cells #[.int .i64 0, .slice none 0 0, .bool false] 39)).heap.size (W.alloc (.cells #[.int .i64 0, .slice none 0 0, .bool false] 39)) X) (hW : B ≤ W.heap.size) : YC w' B W.heap.size :=
  (yc_made hX hW).later h
theorem yc_allocK {W X w' : World} {B : Nat} {G : Prop} (h : Below X.heap.size X w') (hX : Below (W.alloc (.cells #[.int .i64 0, .slice none 0 0, .bool false] 39)).heap.size (W.alloc (.cells #[.int .i64 0, .slice none 0 0, .bool false] 39)) X) (hW : B ≤ W.heap.size) (k : YC w' B W.heap.size → G) : G := k (yc_alloc h hX hW)
/-- What of blocks of another type an append leaves alone. -/
def Keeps (X w' : World) : Prop := ∀ (m : Nat) (cs : Array Value) (t : TypeId) (f : Nat × Nat), X.heap[m]? = some (Obj.cells cs t f) → t ≠ 3 → w'.heap[m]? = some (Obj.cells cs t f)
theorem yc_new {W X w' : World} {B : Nat} (hk : Keeps X w') (hX : Below (W.alloc (.cells #[.int .i64 0, .slice none 0 0, .bool false] 39)).heap.size (W.alloc (.cells #[.int .i64 0, .slice none 0 0, .bool false] 39)) X) (hW : B ≤ W.heap.size) : YC w' B W.heap.size :=
  ⟨hW, hk _ _ _ _ (yc_made hX hW).hp (by decide)⟩
theorem yc_kept {wC X w' : World} {B m : Nat} (hk : Keeps X w') (y : YC wC B m) (hX : Below wC.heap.size wC X) : YC w' B m :=
  ⟨y.ge, hk _ _ _ _ (y.later hX).hp (by decide)⟩
theorem qc_now {W X : World} {i : Int} {t : TypeId} (hX : Below (W.alloc (.cells #[.int .i64 i] t)).heap.size (W.alloc (.cells #[.int .i64 i] t)) X) : X.cell? ⟨W.heap.size, 0, none⟩ = some (.int .i64 i) :=
  Below.keeps hX (World.cell?_alloc_at _ _ _ _ rfl) (Nat.le_refl _)
theorem qc_alloc {W X w' : World} {i : Int} {t : TypeId} (h : Below X.heap.size X w') (hX : Below (W.alloc (.cells #[.int .i64 i] t)).heap.size (W.alloc (.cells #[.int .i64 i] t)) X) : w'.cell? ⟨W.heap.size, 0, none⟩ = some (.int .i64 i) :=
  Below.keeps h (qc_now hX) (Nat.le_refl _)

theorem yc_newK {W X w' : World} {B : Nat} {G : Prop} (hk : Keeps X w') (hX : Below (W.alloc (.cells #[.int .i64 0, .slice none 0 0, .bool false] 39)).heap.size (W.alloc (.cells #[.int .i64 0, .slice none 0 0, .bool false] 39)) X) (hW : B ≤ W.heap.size) (k : YC w' B W.heap.size → G) : G := k (yc_new hk hX hW)
theorem yc_keptK {wC X w' : World} {B m : Nat} {G : Prop} (hk : Keeps X w') (y : YC wC B m) (hX : Below wC.heap.size wC X) (k : YC w' B m → G) : G := k (yc_kept hk y hX)
theorem qc_allocK {W X w' : World} {i : Int} {t : TypeId} {G : Prop} (h : Below X.heap.size X w') (hX : Below (W.alloc (.cells #[.int .i64 i] t)).heap.size (W.alloc (.cells #[.int .i64 i] t)) X) (k : w'.cell? ⟨W.heap.size, 0, none⟩ = some (.int .i64 i) → G) : G := k (qc_alloc h hX)

theorem row_not {w : World} {B size n : Nat} {e : TypeId} {v : Value} {xs : List Value} (h : w.ownsRow B e size v n xs) {m : Nat} {cs : Array Value} {t : TypeId} {f : Nat × Nat} (hm : w.heap[m]? = some (.cells cs t f)) (hne : t ≠ e) : v.ownBlock ≠ some m := by
  intro hv
  rcases h.2 with ⟨rfl, -⟩ | ⟨g, cap, cur, rfl, -, hg, -⟩
  · cases hv
  · simp [Value.ownBlock] at hv
    subst hv
    rw [hg] at hm
    injection hm with hm
    injection hm with h1 h2
    exact hne h2.symm

/-- One number more at the end of a walk's own steps, as a step of a region that draws its order. -/
theorem grow_steps {w : World} {ops : Array Oper} {o : Oper} {a : Act} {K : Act → World → Prop} {Q : Exit → Act → World → Prop} {E : Prop} (hgd : o.guard = none) {s x : Operand}
    (ho : o.op = .call { callee := .builtin .append, args := #[s, x], argTypes := #[23, 23] })
    {wC w6 : World} {L0 : List Int} {i : Int} {aC : Option Addr} {cC q k : Nat} (hl : L0.length ≤ 400) (hs : a.eval s = .slice aC L0.length cC) (oC : ownInts wC w6.heap.size (.slice aC L0.length cC) L0)
    (hCX : Below wC.heap.size wC w) (h6 : Below w6.heap.size w6 w) (hx : a.eval x = .slice (some ⟨q, 0, none⟩) 1 k) (hq : w.cell? ⟨q, 0, none⟩ = some (.int .i64 i))
    (h : ∀ aE cE w', ownInts w' w6.heap.size (.slice aE (L0.length + 1) cE) (L0 ++ [i]) → Below w6.heap.size w6 w' → Keeps w w' → K (a.put o.dst (.slice aE (L0.length + 1) cE)) w') :
    if Region.wanted o (yielded ops a.tmps) = true then Oper.wp Try.prog o a w K Q else E := by
  obtain ⟨i0, hi, hz0, hz1, hz2⟩ := info_parts infoInt
  have oX : w.ownsRow w6.heap.size 3 1 (.slice aC L0.length cC) L0.length (L0.map (.int .i64)) := ownsRow_later oC hCX
  refine step_own hgd s x 23 ho w6.heap.size 3 i0 (.int .i64 0) 1 8 Try.underlying23 hi hz0 hz1 hz2 rfl (by decide) _ L0.length (L0.map (.int .i64)) hs oX (some ⟨q, 0, none⟩) 1 k [.int .i64 i] hx rfl ?_ ?_ ?_ ?_ h6.size ?_
  · intro j u hj
    rcases j with _ | j
    · simp at hj
      subst hj
      exact ⟨_, rfl, hq⟩
    · simp at hj
  · intro u hu
    simp at hu
    subst hu
    rfl
  · unfold maxLen; omega
  · omega
  · intro v' w' h1 h2
    obtain ⟨aE, cE, rfl⟩ := row_form h1
    refine h aE cE w' ?_ (h6.grown h2 h6.size fun j hj => (oX.lt j hj).1) ?_
    · unfold ownInts
      have e1 : (L0 ++ [i]).length = L0.length + 1 := by simp
      have e2 : (L0 ++ [i]).map (Value.int .i64) = L0.map (.int .i64) ++ [.int .i64 i] := by simp
      rw [e1, e2]
      exact h1
    · intro m cs t f hm hne
      rw [h2.block m (Array.getElem?_eq_some_iff.1 hm).1 (fun e => row_not oX hm hne e.symm)]
      exact hm

theorem y_late {wx w6 : World} {n c : Nat} {L : List Int} {f : Int} {a : Option Addr} (t : TypeId) (o : ownInts wx w6.heap.size (.slice a n c) L) (hn : n = L.length) (hb : Below w6.heap.size w6 wx) :
    w6.heap.size ≤ wx.heap.size ∧ (wx.alloc (.cells #[.int .i64 f, .slice a n c, .bool false] t)).cell? ⟨wx.heap.size, 0, none⟩ = some (.int .i64 f) ∧ (wx.alloc (.cells #[.int .i64 f, .slice a n c, .bool false] t)).cell? ⟨wx.heap.size, 1, none⟩ = some (.slice a L.length c) ∧
    (wx.alloc (.cells #[.int .i64 f, .slice a n c, .bool false] t)).cell? ⟨wx.heap.size, 2, none⟩ = some (.bool false) ∧ ownInts (wx.alloc (.cells #[.int .i64 f, .slice a n c, .bool false] t)) w6.heap.size (.slice a L.length c) L ∧ Below w6.heap.size w6 (wx.alloc (.cells #[.int .i64 f, .slice a n c, .bool false] t)) := by
  subst hn
  exact ⟨hb.size, World.cell?_alloc_at _ _ _ _ rfl, World.cell?_alloc_at _ _ _ _ rfl, World.cell?_alloc_at _ _ _ _ rfl, ownsRow_later o ((Below.refl _ _).alloc (Nat.le_refl _) _), hb.alloc hb.size _⟩
theorem y_early {wx w6 : World} {n c m : Nat} {L : List Int} {f : Int} {a : Option Addr} (y : YC wx w6.heap.size m) (o : ownInts wx w6.heap.size (.slice a n c) L) (hn : n = L.length) (hb : Below w6.heap.size w6 wx) :
    w6.heap.size ≤ m ∧ (((wx.setCell ⟨m, 0, none⟩ (.int .i64 f)).setCell ⟨m, 1, none⟩ (.slice a n c)).setCell ⟨m, 2, none⟩ (.bool false)).cell? ⟨m, 0, none⟩ = some (.int .i64 f) ∧ (((wx.setCell ⟨m, 0, none⟩ (.int .i64 f)).setCell ⟨m, 1, none⟩ (.slice a n c)).setCell ⟨m, 2, none⟩ (.bool false)).cell? ⟨m, 1, none⟩ = some (.slice a L.length c) ∧
    (((wx.setCell ⟨m, 0, none⟩ (.int .i64 f)).setCell ⟨m, 1, none⟩ (.slice a n c)).setCell ⟨m, 2, none⟩ (.bool false)).cell? ⟨m, 2, none⟩ = some (.bool false) ∧ ownInts (((wx.setCell ⟨m, 0, none⟩ (.int .i64 f)).setCell ⟨m, 1, none⟩ (.slice a n c)).setCell ⟨m, 2, none⟩ (.bool false)) w6.heap.size (.slice a L.length c) L ∧
    Below w6.heap.size w6 (((wx.setCell ⟨m, 0, none⟩ (.int .i64 f)).setCell ⟨m, 1, none⟩ (.slice a n c)).setCell ⟨m, 2, none⟩ (.bool false)) := by
  subst hn
  have n01 : (⟨m, 0, none⟩ : Addr) ≠ ⟨m, 1, none⟩ := by intro h; injection h with h1 h2; omega
  have n02 : (⟨m, 0, none⟩ : Addr) ≠ ⟨m, 2, none⟩ := by intro h; injection h with h1 h2; omega
  have n12 : (⟨m, 1, none⟩ : Addr) ≠ ⟨m, 2, none⟩ := by intro h; injection h with h1 h2; omega
  have hne : (Value.slice a L.length c).ownBlock ≠ some m := row_not o y.hp (by decide)
  refine ⟨y.ge, ?_, ?_, ?_, ?_, ((hb.setCell y.ge _).setCell y.ge _).setCell y.ge _⟩
  · rw [World.cell?_setCell_other _ _ _ _ n02.symm, World.cell?_setCell_other _ _ _ _ n01.symm]
    exact World.cell?_setCell_same _ _ _ y.c0
  · rw [World.cell?_setCell_other _ _ _ _ n12.symm]
    exact World.cell?_setCell_same _ _ _ ((World.cell?_setCell_other _ _ _ _ n01).trans y.c1)
  · exact World.cell?_setCell_same _ _ _ ((World.cell?_setCell_other _ _ _ _ n12).trans ((World.cell?_setCell_other _ _ _ _ n02).trans y.c2))
  · exact row_set (a := ⟨m, 2, none⟩) (row_set (a := ⟨m, 1, none⟩) (row_set (a := ⟨m, 0, none⟩) o (.inr hne) _) (.inr hne) _) (.inr hne) _
end Go.Proofs.Ytnijajjmcdgonaa
