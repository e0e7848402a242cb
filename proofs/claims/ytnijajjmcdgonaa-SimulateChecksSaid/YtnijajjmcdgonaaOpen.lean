import Derived.Test.YtnijajjmcdgonaaWalkE
import Derived.ProofKit
import Derived.OpenShut
import Derived.Carry
import Derived.ChangeSlices
import Derived.Lib.SmallJoins
import Derived.Deep.Slices
namespace Go.Proofs.Ytnijajjmcdgonaa
open Go.ChangeShapes Go.WideShapes Go.ChangeAt Go.RowKit Go.Joins Go.Deep
set_option linter.unusedVariables false

theorem laidOut : laidOutB Try.prog = true := by kernel_rfl
theorem cellsInt : Try.prog.cellsOf 3 = 1 := by kernel_rfl
theorem cellsEdge : Try.prog.cellsOf 74 = 3 := by kernel_rfl

section
variable {H : Type} {enc : TypeId × Value → H} {w : World} {base : Nat} {held : Bool}

set_option maxRecDepth 100000 in
/-- A slice of numbers that came in reads as numbers. -/
theorem ints_open {n : Nat} {u : Value} {y : DataW H × List MemPlace} (h : DataW.trod enc Try.prog w base (fun _ => true) held n 23 [u] = some y) : ∃ l, IntsAt w u l := by
  rcases open_ints Try.underlying23 Try.underlying3 cellsInt h with ⟨hcs, -⟩ | ⟨a, len, cap, zs, hcs, -, hl, hm, hz, -, hcell, -⟩
  · injection hcs with hcs _
    subst hcs
    exact ⟨[], none, 0, rfl, Nat.zero_le _, fun j hj => by simp at hj⟩
  · injection hcs with hcs _
    subst hcs
    simp only [if_true] at hz
    have hlen : (zs.take len).length = len := by simp; omega
    refine ⟨zs.take len, some a, cap, by rw [hlen], by rw [hlen]; exact Nat.le_trans hl hm, fun j hj => ?_⟩
    rw [hlen] at hj
    have hc := hcell j (by omega)
    obtain ⟨b, off, spot⟩ := a
    have hspot : spot = none := by simpa [Addr.add] using World.cell?_spot (hcell 0 (by omega))
    subst hspot
    refine ⟨b, off, rfl, ?_⟩
    rw [add_plain] at hc
    rw [hc]
    have : gi (zs.take len) j = zs.getD j 0 := by
      unfold gi
      rw [List.getElem?_take_of_lt hj, List.getD_eq_getElem?_getD]
    rw [this]

/-- One edge after the other. -/
theorem edges_all {P : Nat → E → Prop} : ∀ (n : Nat), (∀ i, i < n → ∃ e, P i e) → ∃ l : List E, l.length = n ∧ ∀ i, i < n → P i (ge l i)
  | 0, _ => ⟨[], rfl, fun i h => by omega⟩
  | n + 1, h => by
    obtain ⟨l, hl, ha⟩ := edges_all n fun i hi => h i (by omega)
    obtain ⟨e, he⟩ := h n (by omega)
    refine ⟨l ++ [e], by simp [hl], fun i hi => ?_⟩
    by_cases hin : i < n
    · have : ge (l ++ [e]) i = ge l i := by unfold ge; rw [List.getElem?_append_left (by omega)]
      rw [this]; exact ha i hin
    · have : i = n := by omega
      subst this
      have : ge (l ++ [e]) i = e := by unfold ge; rw [← hl]; simp
      rw [this]; exact he

set_option maxRecDepth 100000 in
/-- A slice of edges that came in reads as edges. -/
theorem edges_open {n : Nat} {u : Value} {y : DataW H × List MemPlace} (h : DataW.trod enc Try.prog w base (fun _ => true) held n 32 [u] = some y) : ∃ l, EdgesAt w u l := by
  rcases open_slice Try.underlying32 h with ⟨hcs, -⟩ | ⟨a, len, cap, m, n', D, Pl, hcs, -, hl, hm, hmm, -, hi⟩
  · injection hcs with hcs _
    subst hcs
    exact ⟨[], none, 0, rfl, Nat.zero_le _, fun j hj => by simp at hj⟩
  · injection hcs with hcs _
    subst hcs
    simp only [if_true] at hmm
    subst hmm
    have each : ∀ i, i < len → ∃ e : E, ∃ b off, some a = some (⟨b, off, none⟩ : Addr) ∧
        w.cell? ⟨b, off + i * 3, none⟩ = some (.int .i64 e.f) ∧ w.cell? ⟨b, off + i * 3 + 1, none⟩ = some (.int .i64 e.t) ∧ w.cell? ⟨b, off + i * 3 + 2, none⟩ = some (.int .i64 e.a) := by
      intro i hin
      obtain ⟨cs', hc, ht⟩ := hi i (by omega)
      rw [cellsEdge] at hc
      obtain ⟨_, hcl, hat⟩ := World.cells?_some hc
      obtain ⟨y0, y1, y2, n2, -, -, h0, h1, h2⟩ := trod_struct3 Try.underlying74 ht
      match cs', hcl with
      | [c0, c1, c2], _ =>
        have e0 : DataW.trod enc Try.prog w base (fun _ => true) held n2 3 [c0] = some y0 := h0
        have e1 : DataW.trod enc Try.prog w base (fun _ => true) held n2 3 [c1] = some y1 := h1
        have e2 : DataW.trod enc Try.prog w base (fun _ => true) held n2 3 [c2] = some y2 := h2
        obtain ⟨f, hf, -, -⟩ := DataW.trod_int Try.underlying3 e0
        obtain ⟨t, htt, -, -⟩ := DataW.trod_int Try.underlying3 e1
        obtain ⟨x, hx, -, -⟩ := DataW.trod_int Try.underlying3 e2
        injection hf with hf _
        injection htt with htt _
        injection hx with hx _
        subst hf htt hx
        have a0 := hat 0 (by omega)
        have a1 := hat 1 (by omega)
        have a2 := hat 2 (by omega)
        obtain ⟨b, off, spot⟩ := a
        have hspot : spot = none := by
          obtain ⟨cz, hcz, -⟩ := hi 0 (by omega)
          rw [cellsEdge] at hcz
          obtain ⟨_, hzl, hzt⟩ := World.cells?_some hcz
          have hz0 := hzt 0 (by omega)
          rw [List.getElem?_eq_getElem (by omega)] at hz0
          simpa [Addr.add] using World.cell?_spot hz0
        subst hspot
        rw [add_plain, add_plain] at a0 a1 a2
        exact ⟨⟨f, t, x⟩, b, off, rfl, by simpa using a0, by simpa using a1, by simpa using a2⟩
    obtain ⟨l, hln, hall⟩ := edges_all len each
    exact ⟨l, some a, m, by rw [hln], by rw [hln]; exact Nat.le_trans hl hm, fun j hj => hall j (by omega)⟩
end

set_option maxRecDepth 100000 in
/-- A graph that came in by value reads as a graph. -/
theorem graph_open {H : Type} {enc : TypeId × Value → H} {w : World} {base b0 : Nat} {held : Bool} {r : Reach} {v : Value} {d : DataW H} {p : List MemPlace} (hv : Value.okWide Try.prog w r b0 34 v)
    (h : DataW.Trod enc Try.prog w base (fun _ => true) held 34 v d p) : ∃ g, GraphAt w v g := by
  obtain ⟨u0, u1, u2, y0, y1, y2, n, rfl, -, -, t0, t1, t2⟩ := open_agg3 Try.underlying34 (by kernel_rfl) (by kernel_rfl) hv h
  have t0 : DataW.trod enc Try.prog w base (fun _ => true) held n 3 [u0] = some y0 := t0
  have t1 : DataW.trod enc Try.prog w base (fun _ => true) held n 23 [u1] = some y1 := t1
  have t2 : DataW.trod enc Try.prog w base (fun _ => true) held n 32 [u2] = some y2 := t2
  obtain ⟨k, hk, -, -⟩ := DataW.trod_int Try.underlying3 t0
  injection hk with hk _
  subst hk
  obtain ⟨l, hl⟩ := ints_open t1
  obtain ⟨l2, hl2⟩ := edges_open t2
  exact ⟨⟨k, l, l2⟩, _, _, rfl, hl, hl2⟩
set_option maxRecDepth 100000 in
theorem ints_arg {H : Type} {enc : TypeId × Value → H} {w : World} {base b0 : Nat} {held : Bool} {r : Reach} {v : Value} {d : DataW H} {p : List MemPlace} (hv : Value.okWide Try.prog w r b0 23 v)
    (h : DataW.Trod enc Try.prog w base (fun _ => true) held 23 v d p) : ∃ l, IntsAt w v l := by
  obtain ⟨a, n, c, rfl⟩ := okWide_slice Try.underlying23 hv
  obtain ⟨fuel, hf⟩ := h
  exact ints_open hf
set_option maxRecDepth 100000 in
theorem seed_open {H : Type} {enc : TypeId × Value → H} {w : World} {base b0 : Nat} {held : Bool} {r : Reach} {v : Value} {d : DataW H} {p : List MemPlace} (hv : Value.okWide Try.prog w r b0 36 v)
    (h : DataW.Trod enc Try.prog w base (fun _ => true) held 36 v d p) : ∃ s x, v = .agg #[.int .i64 s, .int .i64 x] := by
  obtain ⟨u0, u1, y0, y1, n, rfl, -, -, t0, t1⟩ := open_agg2 Try.underlying36 (by kernel_rfl) (by kernel_rfl) hv h
  have t0 : DataW.trod enc Try.prog w base (fun _ => true) held n 3 [u0] = some y0 := t0
  have t1 : DataW.trod enc Try.prog w base (fun _ => true) held n 3 [u1] = some y1 := t1
  obtain ⟨k, hk, -, -⟩ := DataW.trod_int Try.underlying3 t0
  obtain ⟨k', hk', -, -⟩ := DataW.trod_int Try.underlying3 t1
  injection hk with hk _
  injection hk' with hk' _
  subst hk hk'
  exact ⟨_, _, rfl⟩
end Go.Proofs.Ytnijajjmcdgonaa
