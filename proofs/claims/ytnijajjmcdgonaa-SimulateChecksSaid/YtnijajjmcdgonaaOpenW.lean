import Derived.Test.YtnijajjmcdgonaaOpen
import Derived.Test.YtnijajjmcdgonaaWalkW
namespace Go.Proofs.Ytnijajjmcdgonaa
open Go.ChangeShapes Go.WideShapes Go.ChangeAt Go.RowKit Go.Joins Go.Deep
set_option linter.unusedVariables false

set_option maxRecDepth 100000 in
/-- A walk that came in by value reads as a walk. -/
theorem walk_open {H : Type} {enc : TypeId × Value → H} {w : World} {base b0 : Nat} {held : Bool} {r : Reach} {v : Value} {d : DataW H} {p : List MemPlace} (hv : Value.okWide Try.prog w r b0 39 v)
    (h : DataW.Trod enc Try.prog w base (fun _ => true) held 39 v d p) : ∃ x, WalkAt w v x := by
  obtain ⟨u0, u1, u2, y0, y1, y2, n, rfl, -, -, t0, t1, t2⟩ := open_agg3 Try.underlying39 (by kernel_rfl) (by kernel_rfl) hv h
  have t0 : DataW.trod enc Try.prog w base (fun _ => true) held n 3 [u0] = some y0 := t0
  have t1 : DataW.trod enc Try.prog w base (fun _ => true) held n 23 [u1] = some y1 := t1
  have t2 : DataW.trod enc Try.prog w base (fun _ => true) held n 4 [u2] = some y2 := t2
  obtain ⟨k, hk, -, -⟩ := DataW.trod_int Try.underlying3 t0
  injection hk with hk _
  subst hk
  obtain ⟨l, hl⟩ := ints_open t1
  obtain ⟨b, hb, -⟩ := DataW.trod_bool Try.underlying4 t2
  injection hb with hb _
  subst hb
  exact ⟨⟨k, l, b⟩, _, rfl, hl⟩
end Go.Proofs.Ytnijajjmcdgonaa
