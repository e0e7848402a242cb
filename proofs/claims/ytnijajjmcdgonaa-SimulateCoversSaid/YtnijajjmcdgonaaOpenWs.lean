import Derived.Test.YtnijajjmcdgonaaOpenW
import Derived.Test.YtnijajjmcdgonaaCovA
namespace Go.Proofs.Ytnijajjmcdgonaa
open Go.ChangeShapes Go.WideShapes Go.ChangeAt Go.RowKit Go.Joins Go.Deep
set_option linter.unusedVariables false

theorem cellsWalk : Try.prog.cellsOf 39 = 3 := by kernel_rfl
/-- One walk after the other. -/
theorem walks_all {P : Nat → W3 → Prop} : ∀ (n : Nat), (∀ i, i < n → ∃ e, P i e) → ∃ l : List W3, l.length = n ∧ ∀ i, i < n → P i (gw l i)
  | 0, _ => ⟨[], rfl, fun i h => by omega⟩
  | n + 1, h => by
    obtain ⟨l, hl, ha⟩ := walks_all n fun i hi => h i (by omega)
    obtain ⟨e, he⟩ := h n (by omega)
    refine ⟨l ++ [e], by simp [hl], fun i hi => ?_⟩
    by_cases hin : i < n
    · have : gw (l ++ [e]) i = gw l i := by unfold gw; rw [List.getElem?_append_left (by omega)]
      rw [this]; exact ha i hin
    · have : i = n := by omega
      subst this
      have : gw (l ++ [e]) i = e := by unfold gw; rw [← hl]; simp
      rw [this]; exact he

section
variable {H : Type} {enc : TypeId × Value → H} {w : World} {base : Nat} {held : Bool}
set_option maxRecDepth 100000 in
/-- A slice of walks that came in reads as walks. -/
theorem walks_open {n : Nat} {u : Value} {y : DataW H × List MemPlace} (h : DataW.trod enc Try.prog w base (fun _ => true) held n 52 [u] = some y) : ∃ l, WalksAt w u l := by
  rcases open_slice Try.underlying52 h with ⟨hcs, -⟩ | ⟨a, len, cap, m, n', D, Pl, hcs, -, hl, hm, hmm, -, hi⟩
  · injection hcs with hcs _
    subst hcs
    exact ⟨[], none, 0, rfl, Nat.zero_le _, fun j hj => by simp at hj⟩
  · injection hcs with hcs _
    subst hcs
    simp only [if_true] at hmm
    subst hmm
    have each : ∀ i, i < len → ∃ e : W3, ∃ b off aw cs, some a = some (⟨b, off, none⟩ : Addr) ∧
        w.cell? ⟨b, off + i * 3, none⟩ = some (.int .i64 e.first) ∧ w.cell? ⟨b, off + i * 3 + 1, none⟩ = some (.slice aw e.steps.length cs) ∧ w.cell? ⟨b, off + i * 3 + 2, none⟩ = some (.bool e.stuck) ∧ e.steps.length ≤ maxLen ∧ IntsCells w aw e.steps := by
      intro i hin
      obtain ⟨cs', hc, ht⟩ := hi i (by omega)
      rw [cellsWalk] at hc
      obtain ⟨_, hcl, hat⟩ := World.cells?_some hc
      obtain ⟨y0, y1, y2, n2, -, -, h0, h1, h2⟩ := trod_struct3 Try.underlying39 ht
      match cs', hcl with
      | [c0, c1, c2], _ =>
        have e0 : DataW.trod enc Try.prog w base (fun _ => true) held n2 3 [c0] = some y0 := h0
        have e1 : DataW.trod enc Try.prog w base (fun _ => true) held n2 23 [c1] = some y1 := h1
        have e2 : DataW.trod enc Try.prog w base (fun _ => true) held n2 4 [c2] = some y2 := h2
        obtain ⟨f, hf, -, -⟩ := DataW.trod_int Try.underlying3 e0
        obtain ⟨L, hL⟩ := ints_open e1
        obtain ⟨x, hx, -⟩ := DataW.trod_bool Try.underlying4 e2
        injection hf with hf _
        injection hx with hx _
        subst hf hx
        obtain ⟨aw, cw, rfl, hLm, hLc⟩ := hL
        have a0 := hat 0 (by omega)
        have a1 := hat 1 (by omega)
        have a2 := hat 2 (by omega)
        obtain ⟨b, off, spot⟩ := a
        have hspot : spot = none := by
          obtain ⟨cz, hcz, -⟩ := hi 0 (by omega)
          rw [cellsWalk] at hcz
          obtain ⟨_, hzl, hzt⟩ := World.cells?_some hcz
          have hz0 := hzt 0 (by omega)
          rw [List.getElem?_eq_getElem (by omega)] at hz0
          simpa [Addr.add] using World.cell?_spot hz0
        subst hspot
        rw [add_plain, add_plain] at a0 a1 a2
        exact ⟨⟨f, L, x⟩, b, off, aw, cw, rfl, by simpa using a0, by simpa using a1, by simpa using a2, hLm, hLc⟩
    obtain ⟨l, hln, hall⟩ := walks_all len each
    exact ⟨l, some a, m, by rw [hln], by rw [hln]; exact Nat.le_trans hl hm, fun j hj => hall j (by omega)⟩
end
set_option maxRecDepth 100000 in
theorem walks_arg {H : Type} {enc : TypeId × Value → H} {w : World} {base b0 : Nat} {held : Bool} {r : Reach} {v : Value} {d : DataW H} {p : List MemPlace} (hv : Value.okWide Try.prog w r b0 52 v)
    (h : DataW.Trod enc Try.prog w base (fun _ => true) held 52 v d p) : ∃ l, WalksAt w v l := by
  obtain ⟨a, n, c, rfl⟩ := okWide_slice Try.underlying52 hv
  obtain ⟨fuel, hf⟩ := h
  exact walks_open hf
end Go.Proofs.Ytnijajjmcdgonaa
