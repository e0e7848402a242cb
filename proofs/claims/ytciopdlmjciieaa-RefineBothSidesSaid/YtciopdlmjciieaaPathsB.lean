import Derived.Test.YtciopdlmjciieaaPathsA
import Derived.Test.YtciopdlmjciieaaTabB
namespace Go.Proofs.Ytciopdlmjciieaa
open Go.RowKit
set_option linter.unusedVariables false

/-- A table of paths, and the queue of states. -/
structure TQ (w : World) (B T n : Nat) (o : Nat → Option (List Int)) (vq : Value) (q : List Int) : Prop where
  ex : ∃ rv : Nat → Value, w.rowIs T 22 n rv ∧ ∀ j, j < n → (o j = none ∧ rv j = .slice none 0 0) ∨ ∃ l g c, o j = some l ∧ rv j = .slice (some ⟨g, 0, none⟩) l.length c ∧ ownInts w B (.slice (some ⟨g, 0, none⟩) l.length c) l ∧ vq.ownBlock ≠ some g
  own : ownInts w B vq q
section
variable {w w' : World} {B T n : Nat} {o : Nat → Option (List Int)} {vq : Value} {q : List Int}
theorem TQ.lt (h : TQ w B T n o vq q) : T < w.heap.size := by obtain ⟨rv, h1, -⟩ := h.ex; exact h1.lt
theorem TQ.fz (h : TQ w B T n o vq q) (j : Nat) : w.frozen? ⟨T, j, none⟩ = false := by obtain ⟨rv, h1, -⟩ := h.ex; exact h1.frozen j
theorem TQ.later (h : TQ w B T n o vq q) (hb : Below w.heap.size w w') : TQ w' B T n o vq q := by
  obtain ⟨rv, h1, h2⟩ := h.ex
  refine ⟨⟨rv, h1.of_block (hb.block T h1.lt), fun j hj => ?_⟩, ownsRow_later h.own hb⟩
  rcases h2 j hj with h3 | ⟨l, g, c, e1, e2, e3, e4⟩
  · exact .inl h3
  · exact .inr ⟨l, g, c, e1, e2, ownsRow_later e3 hb, e4⟩
theorem TQ.get (h : TQ w B T n o vq q) {j : Nat} (hj : j < n) : (o j = none ∧ w.cell? ⟨T, j, none⟩ = some (.slice none 0 0)) ∨ ∃ l g c, o j = some l ∧ w.cell? ⟨T, j, none⟩ = some (.slice (some ⟨g, 0, none⟩) l.length c) ∧ ownInts w B (.slice (some ⟨g, 0, none⟩) l.length c) l := by
  obtain ⟨rv, h1, h2⟩ := h.ex
  have hc := h1.cell hj
  rcases h2 j hj with ⟨h3, h4⟩ | ⟨l, g, c, e1, e2, e3, e4⟩
  · rw [h4] at hc; exact .inl ⟨h3, hc⟩
  · rw [e2] at hc; exact .inr ⟨l, g, c, e1, hc, e3⟩
theorem TQ.cell (h : TQ w B T n o vq q) {j : Nat} (hj : j < n) : ∃ a m c, w.cell? ⟨T, j, none⟩ = some (.slice a m c) := by
  rcases h.get hj with ⟨-, h⟩ | ⟨l, g, c, -, h, -⟩
  · exact ⟨_, _, _, h⟩
  · exact ⟨_, _, _, h⟩
theorem TQ.put (h : TQ w B T n o vq q) (hb : Below w.heap.size w w') {j : Nat} {v' : Value} {l' : List Int} (ho : ownInts w' w.heap.size v' l') (hne : l' ≠ []) (hB : B ≤ w.heap.size) : TQ (w'.setCell ⟨T, j, none⟩ v') B T n (upd o j (some l')) vq q := by
  obtain ⟨rv, h1, h2⟩ := (h.later hb).ex
  have hlen : 0 < l'.length := by rcases l' with _ | ⟨a, r⟩; exact absurd rfl hne; simp
  obtain ⟨g, c, rfl, hg1, hg2⟩ := own_ptr ho hlen
  have ho' : ownInts w' B (.slice (some ⟨g, 0, none⟩) l'.length c) l' := row_mono ho hB
  have hq := (h.later hb).own
  refine ⟨⟨upd rv j (.slice (some ⟨g, 0, none⟩) l'.length c), (h1.set j _).congr fun i hi => rfl, fun i hi => ?_⟩, row_set hq (own_block_ne (g := 0) hq h1) _⟩
  by_cases e : i = j
  · subst e
    rw [upd_same, upd_same]
    exact .inr ⟨l', g, c, rfl, rfl, row_set ho' (own_block_ne (g := 0) ho' h1) _, fun e => by have := (h.own.lt g e).2; omega⟩
  · rw [upd_other _ _ e, upd_other _ _ e]
    rcases h2 i hi with h3 | ⟨l, g', c', e1, e2, e3, e4⟩
    · exact .inl h3
    · exact .inr ⟨l, g', c', e1, e2, row_set e3 (own_block_ne (g := 0) e3 h1) _, e4⟩
theorem TQ.push (h : TQ w B T n o vq q) {W : World} (hb : Below w.heap.size w W) {vq' : Value} {q' : List Int} (hg : W.grownBy w' vq.ownBlock) (ho : ownInts w' B vq' q') (hat : vq'.ownBlock = vq.ownBlock ∨ vq'.ownBlock = some W.heap.size) : TQ w' B T n o vq' q' := by
  obtain ⟨rv, h1, h2⟩ := (h.later hb).ex
  have hq := (h.later hb).own
  have hT : some T ≠ vq.ownBlock := fun e => by
    rcases own_block_ne (g := 0) hq h1 with h3 | h3
    · rw [h3] at e; cases e
    · exact h3 e.symm
  refine ⟨⟨rv, h1.of_block (hg.block T h1.lt hT), fun j hj => ?_⟩, ho⟩
  rcases h2 j hj with h3 | ⟨l, g, c, e1, e2, e3, e4⟩
  · exact .inl h3
  · refine .inr ⟨l, g, c, e1, e2, World.ownsRow.kept e3 hg (.inr fun e => e4 (by rw [← e]; rfl)), ?_⟩
    rcases hat with h4 | h4
    · rw [h4]; exact e4
    · rw [h4]
      intro e
      injection e with e
      have := (e3.lt g rfl).2
      omega
theorem TQ.start (h1 : w.rowIs T 22 n (fun _ => .slice none 0 0)) (ho : ownInts w B vq q) : TQ w B T n (fun _ => none) vq q := ⟨⟨_, h1, fun j hj => .inl ⟨rfl, rfl⟩⟩, ho⟩
/-- Paths that can be read. -/
def PathsAt (w : World) (B T n : Nat) (o : Nat → Option (List Int)) : Prop := ∀ j, j < n → (o j = none ∧ w.cell? ⟨T, j, none⟩ = some (.slice none 0 0)) ∨ ∃ l g c, o j = some l ∧ B ≤ g ∧ w.cell? ⟨T, j, none⟩ = some (.slice (some ⟨g, 0, none⟩) l.length c) ∧ IntsAt w (.slice (some ⟨g, 0, none⟩) l.length c) l
theorem PathsAt.later (h : PathsAt w B T n o) (hb : Below w.heap.size w w') : PathsAt w' B T n o := fun j hj => by
  rcases h j hj with ⟨h1, h2⟩ | ⟨l, g, c, h1, h4, h2, h3⟩
  · exact .inl ⟨h1, Below.keeps hb h2 (Nat.le_refl _)⟩
  · exact .inr ⟨l, g, c, h1, h4, Below.keeps hb h2 (Nat.le_refl _), h3.later hb⟩
theorem PathsAt.lower {B' : Nat} (h : PathsAt w B T n o) (hB : B' ≤ B) : PathsAt w B' T n o := fun j hj => by
  rcases h j hj with h1 | ⟨l, g, c, h1, h4, h2, h3⟩
  · exact .inl h1
  · exact .inr ⟨l, g, c, h1, Nat.le_trans hB h4, h2, h3⟩
theorem TQ.at (h : TQ w B T n o vq q) : PathsAt w B T n o := fun j hj => by
  rcases h.get hj with h1 | ⟨l, g, c, h1, h2, h3⟩
  · exact .inl h1
  · exact .inr ⟨l, g, c, h1, (h3.lt g rfl).1, h2, IntsAt.of_own h3⟩
/-- What is stored below a row of a path doesn't change it. -/
theorem ints_set {g c : Nat} {l : List Int} (h : IntsAt w (.slice (some ⟨g, 0, none⟩) l.length c) l) {a : Addr} (ha : a.block ≠ g) (u : Value) : IntsAt (w.setCell a u) (.slice (some ⟨g, 0, none⟩) l.length c) l := by
  obtain ⟨a', c', e, hm, hc⟩ := h
  injection e with e1 e2 e3
  subst e1 e3
  refine ⟨_, _, rfl, hm, fun j hj => ?_⟩
  obtain ⟨b, o, e, hh⟩ := hc j hj
  injection e with e
  injection e with e1 e2
  subst e1 e2
  exact ⟨g, 0, rfl, (World.cell?_setCell_other _ _ _ _ (by intro e; apply ha; rw [e])).trans hh⟩
end

/-- What paths keeps in memory. -/
structure PK (w wr : World) (px : Nat) (p : P2) (N1 N2 T B : Nat) (o : Nat → Option (List Int)) (vq : Value) (q : List Int) : Prop where
  x : PairX wr px p N1 N2
  t : TQ wr B T N1 o vq q
  bw : Below w.heap.size w wr
  sz : B ≤ wr.heap.size
  b : T < B ∧ w.heap.size ≤ T
section
variable {w wr w' : World} {px : Nat} {p : P2} {N1 N2 T B : Nat} {o : Nat → Option (List Int)} {vq : Value} {q : List Int}
theorem PK.later (h : PK w wr px p N1 N2 T B o vq q) (hb : Below wr.heap.size wr w') : PK w w' px p N1 N2 T B o vq q := ⟨h.x.later hb, h.t.later hb, h.bw.trans (hb.mono h.bw.size), Nat.le_trans h.sz hb.size, h.b⟩
theorem PK.put (h : PK w wr px p N1 N2 T B o vq q) (h0 : PairX w px p N1 N2) (hb : Below wr.heap.size wr w') {j : Nat} {v' : Value} {l' : List Int} (ho : ownInts w' wr.heap.size v' l') (hne : l' ≠ []) : PK w (w'.setCell ⟨T, j, none⟩ v') px p N1 N2 T B (upd o j (some l')) vq q := by
  have hbw : Below w.heap.size w (w'.setCell ⟨T, j, none⟩ v') := (h.bw.trans (hb.mono h.bw.size)).setCell h.b.2 _
  exact ⟨h0.later hbw, h.t.put hb ho hne h.sz, hbw, by simp [World.setCell]; exact Nat.le_trans h.sz hb.size, h.b⟩
theorem PK.push (h : PK w wr px p N1 N2 T B o vq q) (h0 : PairX w px p N1 N2) {W : World} (hb : Below wr.heap.size wr W) {vq' : Value} {q' : List Int} (hg : W.grownBy w' vq.ownBlock) (ho : ownInts w' B vq' q') (hat : vq'.ownBlock = vq.ownBlock ∨ vq'.ownBlock = some W.heap.size) : PK w w' px p N1 N2 T B o vq' q' := by
  have hbw : Below w.heap.size w w' := (h.bw.trans (hb.mono h.bw.size)).grown hg (Nat.le_trans h.bw.size hb.size) (fun k hk => by have := (h.t.own.lt k hk).1; have := h.b; omega)
  exact ⟨h0.later hbw, h.t.push hb hg ho hat, hbw, Nat.le_trans h.sz (Nat.le_trans hb.size hg.size), h.b⟩
end
end Go.Proofs.Ytciopdlmjciieaa
