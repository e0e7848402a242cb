import Derived.Test.YtciopdlmjciieaaPairD
import Derived.ProofKit
import Derived.OpenShut
import Derived.Carry
import Derived.ChangeSlices
import Derived.Lib.SmallJoins
import Derived.Deep.Slices
namespace Go.Proofs.Ytciopdlmjciieaa
open Go.ChangeShapes Go.WideShapes Go.ChangeAt Go.RowKit Go.Joins Go.Deep
set_option linter.unusedVariables false

theorem laidOut : laidOutB Try.prog = true := by kernel_rfl
theorem cellsInt : Try.prog.cellsOf 3 = 1 := by kernel_rfl
theorem cellsEdge : Try.prog.cellsOf 81 = 3 := by kernel_rfl

section
variable {H : Type} {enc : TypeId × Value → H} {w : World} {base : Nat} {held : Bool}

set_option maxRecDepth 100000 in
/-- A slice of numbers that came in reads as numbers. -/
theorem ints_open {n : Nat} {u : Value} {y : DataW H × List MemPlace} (h : DataW.trod enc Try.prog w base (fun _ => true) held n 22 [u] = some y) : ∃ l, IntsAt w u l := by
  rcases open_ints Try.underlying22 Try.underlying3 cellsInt h with ⟨hcs, -⟩ | ⟨a, len, cap, zs, hcs, -, hl, hm, hz, -, hcell, -⟩
  · injection hcs with hcs _
    subst hcs
    exact ⟨[], none, 0, rfl, Nat.zero_le _, fun j hj => by simp at hj⟩
  · injection hcs with hcs _
    subst hcs
    simp only [if_true] at hz
    have hlen : (zs.take len).length = len := by simp; omega
    refine ⟨zs.take len, some a, cap, by rw [hlen], by rw [hlen]; exact Nat.le_trans hl hm, fun j hj => ?_⟩
    rw [hlen] at hj
    have hc := hcell j (by omega)
    obtain ⟨b, off, spot⟩ := a
    have hspot : spot = none := by simpa [Addr.add] using World.cell?_spot (hcell 0 (by omega))
    subst hspot
    refine ⟨b, off, rfl, ?_⟩
    rw [add_plain] at hc
    rw [hc]
    have : gi (zs.take len) j = zs.getD j 0 := by
      unfold gi
      rw [List.getElem?_take_of_lt hj, List.getD_eq_getElem?_getD]
    rw [this]

/-- One edge after the other. -/
theorem edges_all {P : Nat → E → Prop} : ∀ (n : Nat), (∀ i, i < n → ∃ e, P i e) → ∃ l : List E, l.length = n ∧ ∀ i, i < n → P i (ge l i)
  | 0, _ => ⟨[], rfl, fun i h => by omega⟩
  | n + 1, h => by
    obtain ⟨l, hl, ha⟩ := edges_all n fun i hi => h i (by omega)
    obtain ⟨e, he⟩ := h n (by omega)
    refine ⟨l ++ [e], by simp [hl], fun i hi => ?_⟩
    by_cases hin : i < n
    · have : ge (l ++ [e]) i = ge l i := by unfold ge; rw [List.getElem?_append_left (by omega)]
      rw [this]; exact ha i hin
    · have : i = n := by omega
      subst this
      have : ge (l ++ [e]) i = e := by unfold ge; rw [← hl]; simp
      rw [this]; exact he

set_option maxRecDepth 100000 in
/-- A slice of edges that came in reads as edges. -/
theorem edges_open {n : Nat} {u : Value} {y : DataW H × List MemPlace} (h : DataW.trod enc Try.prog w base (fun _ => true) held n 23 [u] = some y) : ∃ l, EdgesAt w u l := by
  rcases open_slice Try.underlying23 h with ⟨hcs, -⟩ | ⟨a, len, cap, m, n', D, Pl, hcs, -, hl, hm, hmm, -, hi⟩
  · injection hcs with hcs _
    subst hcs
    exact ⟨[], none, 0, rfl, Nat.zero_le _, fun j hj => by simp at hj⟩
  · injection hcs with hcs _
    subst hcs
    simp only [if_true] at hmm
    subst hmm
    have each : ∀ i, i < len → ∃ e : E, ∃ b off, some a = some (⟨b, off, none⟩ : Addr) ∧
        w.cell? ⟨b, off + i * 3, none⟩ = some (.int .i64 e.f) ∧ w.cell? ⟨b, off + i * 3 + 1, none⟩ = some (.int .i64 e.t) ∧ w.cell? ⟨b, off + i * 3 + 2, none⟩ = some (.int .i64 e.a) := by
      intro i hin
      obtain ⟨cs', hc, ht⟩ := hi i (by omega)
      rw [cellsEdge] at hc
      obtain ⟨_, hcl, hat⟩ := World.cells?_some hc
      obtain ⟨y0, y1, y2, n2, -, -, h0, h1, h2⟩ := trod_struct3 Try.underlying81 ht
      match cs', hcl with
      | [c0, c1, c2], _ =>
        have e0 : DataW.trod enc Try.prog w base (fun _ => true) held n2 3 [c0] = some y0 := h0
        have e1 : DataW.trod enc Try.prog w base (fun _ => true) held n2 3 [c1] = some y1 := h1
        have e2 : DataW.trod enc Try.prog w base (fun _ => true) held n2 3 [c2] = some y2 := h2
        obtain ⟨f, hf, -, -⟩ := DataW.trod_int Try.underlying3 e0
        obtain ⟨t, htt, -, -⟩ := DataW.trod_int Try.underlying3 e1
        obtain ⟨x, hx, -, -⟩ := DataW.trod_int Try.underlying3 e2
        injection hf with hf _
        injection htt with htt _
        injection hx with hx _
        subst hf htt hx
        have a0 := hat 0 (by omega)
        have a1 := hat 1 (by omega)
        have a2 := hat 2 (by omega)
        obtain ⟨b, off, spot⟩ := a
        have hspot : spot = none := by
          obtain ⟨cz, hcz, -⟩ := hi 0 (by omega)
          rw [cellsEdge] at hcz
          obtain ⟨_, hzl, hzt⟩ := World.cells?_some hcz
          have hz0 := hzt 0 (by omega)
          rw [List.getElem?_eq_getElem (by omega)] at hz0
          simpa [Addr.add] using World.cell?_spot hz0
        subst hspot
        rw [add_plain, add_plain] at a0 a1 a2
        exact ⟨⟨f, t, x⟩, b, off, rfl, by simpa using a0, by simpa using a1, by simpa using a2⟩
    obtain ⟨l, hln, hall⟩ := edges_all len each
    exact ⟨l, some a, m, by rw [hln], by rw [hln]; exact Nat.le_trans hl hm, fun j hj => hall j (by omega)⟩
end

theorem cellsSl : Try.prog.cellsOf 22 = 1 := by kernel_rfl
theorem cellsEs : Try.prog.cellsOf 23 = 1 := by kernel_rfl
theorem cellsGr : Try.prog.cellsOf 25 = 3 := by kernel_rfl
theorem array8 {α : Type} {cs : Array α} (h : cs.size = 8) : ∃ c0 c1 c2 c3 c4 c5 c6 c7, cs = #[c0, c1, c2, c3, c4, c5, c6, c7] := by
  obtain ⟨l⟩ := cs
  match l, h with
  | [c0, c1, c2, c3, c4, c5, c6, c7], _ => exact ⟨c0, c1, c2, c3, c4, c5, c6, c7, rfl⟩
section
variable {H : Type} {enc : TypeId × Value → H} {w : World} {base : Nat} {held : Bool}
set_option maxRecDepth 100000 in
/-- Three cells that read as a graph. -/
theorem graph_cells {n : Nat} {u0 u1 u2 : Value} {y : DataW H × List MemPlace} (h : DataW.trod enc Try.prog w base (fun _ => true) held n 25 [u0, u1, u2] = some y) :
    ∃ g : G, u0 = .int .i64 g.n ∧ IntsAt w u1 g.init ∧ EdgesAt w u2 g.edges := by
  obtain ⟨y0, y1, y2, n2, -, -, h0, h1, h2⟩ := trod_struct3 Try.underlying25 h
  have t0 : DataW.trod enc Try.prog w base (fun _ => true) held n2 3 [u0] = some y0 := by simpa [cellsInt] using h0
  have t1 : DataW.trod enc Try.prog w base (fun _ => true) held n2 22 [u1] = some y1 := by simpa [cellsSl] using h1
  have t2 : DataW.trod enc Try.prog w base (fun _ => true) held n2 23 [u2] = some y2 := by simpa [cellsEs] using h2
  obtain ⟨k, hk, -, -⟩ := DataW.trod_int Try.underlying3 t0
  injection hk with hk _
  obtain ⟨l, hl⟩ := ints_open t1
  obtain ⟨l2, hl2⟩ := edges_open t2
  exact ⟨⟨k, l, l2⟩, hk, hl, hl2⟩
set_option maxRecDepth 100000 in
/-- A pair that came in by value reads as a pair. -/
theorem pair_open {b0 : Nat} {r : Reach} {v : Value} {d : DataW H} {p : List MemPlace} (hv : Value.okWide Try.prog w r b0 27 v)
    (h : DataW.Trod enc Try.prog w base (fun _ => true) held 27 v d p) : ∃ q : P2, PairV w v q := by
  obtain ⟨cs, rfl, hsz⟩ := okWide_struct Try.underlying27 hv
  obtain ⟨c0, c1, c2, c3, c4, c5, c6, c7, rfl⟩ := array8 (hsz.trans (by kernel_rfl))
  obtain ⟨fuel, hf⟩ := h
  obtain ⟨y0, y1, y2, y3, n, -, -, h0, h1, h2, h3⟩ := trod_struct4 Try.underlying27 hf
  have t0 : DataW.trod enc Try.prog w base (fun _ => true) held n 25 [c0, c1, c2] = some y0 := by simpa [Value.cells, cellsGr] using h0
  have t1 : DataW.trod enc Try.prog w base (fun _ => true) held n 25 [c3, c4, c5] = some y1 := by simpa [Value.cells, cellsGr] using h1
  have t2 : DataW.trod enc Try.prog w base (fun _ => true) held n 22 [c6] = some y2 := by simpa [Value.cells, cellsSl] using h2
  have t3 : DataW.trod enc Try.prog w base (fun _ => true) held n 22 [c7] = some y3 := by simpa [Value.cells, cellsSl] using h3
  obtain ⟨g, rfl, g1, g2⟩ := graph_cells t0
  obtain ⟨g', rfl, g3, g4⟩ := graph_cells t1
  obtain ⟨l, hl⟩ := ints_open t2
  obtain ⟨l', hl'⟩ := ints_open t3
  exact ⟨⟨g, g', l, l'⟩, _, _, _, _, _, _, rfl, g1, g2, g3, g4, hl, hl'⟩
end
set_option maxRecDepth 100000 in
theorem ints_arg {H : Type} {enc : TypeId × Value → H} {w : World} {base b0 : Nat} {held : Bool} {r : Reach} {v : Value} {d : DataW H} {p : List MemPlace} (hv : Value.okWide Try.prog w r b0 22 v)
    (h : DataW.Trod enc Try.prog w base (fun _ => true) held 22 v d p) : ∃ l, IntsAt w v l := by
  obtain ⟨a, n, c, rfl⟩ := okWide_slice Try.underlying22 hv
  obtain ⟨fuel, hf⟩ := h
  exact ints_open hf
end Go.Proofs.Ytciopdlmjciieaa
