import Derived.Test.YtnijajjmcdgonaaTourA
namespace Go.Proofs.Ytnijajjmcdgonaa
open Go.RowKit
set_option linter.unusedVariables false

set_option maxHeartbeats 400000 in
/-- The question that a tour asks of a step: is it left? -/
theorem wantedT_any (s q : Int) (p b n m : Nat) (S : Int → Bool) (w : World) (hp : w.cell? ⟨p, 0, none⟩ = some (.map (some b))) (hL : LeftIn w b n S m) (hm : m ≤ 4000) :
    Calls Try.prog 54 #[.int .i64 s, .int .i64 q, .pointer (some ⟨p, 0, none⟩)] w fun e w' => e = .returned (.bool (S s)) ∧ w' = w := by
  have hrun := hL.look hm s
  clear hL hm
  go_enter Try.func54, Try.ntmps54
  go_wp2
  go_ret
  exact ⟨rfl, rfl⟩

section
variable {w : World} {ops : Array Oper} {rest : List Oper} {o : Oper} {a : Act} {Q : Exit → Act → World → Prop}
/-- The three things that a tour does with what is left, where they stand in the code. -/
theorem left_put_at (hg : o.guard = none) (mo xo vo : Operand) (hop : o.op = Op.mapUpdate 91 mo xo vo) {b n m k : Nat} {S : Int → Bool} (hm : a.eval mo = .map (some b)) (hx : a.eval xo = .int .i64 k) (hv : a.eval vo = .bool true)
    (hL : LeftIn w b n S m) (hn : n ≤ 4000) (hk : k < m) (hm4 : m ≤ 4000) (hS : S k = false)
    (hK : ∀ w', LeftIn w' b (n + 1) (addS S k) m → w.mapTurned w' b → wpList Try.prog ops Q rest (a.put o.dst undef) w') : wpList Try.prog ops Q (o :: rest) a w := by
  refine wpList_plain hg fun K' hK' => ?_
  obtain ⟨w', hrun, r1, r2⟩ := hL.put hn hk hm4 hS
  unfold Oper.wp
  simp [execOp, hop, hm, hx, hv, hrun, Result.andThen]
  exact hK' _ _ (hK w' r1 r2)
theorem left_del_at (hg : o.guard = none) (mo xo : Operand) (hop : o.op = Op.call { callee := Callee.builtin Builtin.delete, args := #[mo, xo], argTypes := #[91, 3] }) {b n m : Nat} {x : Int} {S : Int → Bool} (hm : a.eval mo = .map (some b)) (hx : a.eval xo = .int .i64 x)
    (hL : LeftIn w b n S m) (h0 : 0 ≤ x) (hk : x < m) (hm4 : m ≤ 4000)
    (hK : ∀ w', LeftIn w' b n (delS S x) m → w.mapTurned w' b → wpList Try.prog ops Q rest (a.put o.dst (.tuple #[])) w') : wpList Try.prog ops Q (o :: rest) a w := by
  refine wpList_plain hg fun K' hK' => ?_
  obtain ⟨k, rfl⟩ : ∃ k : Nat, x = k := ⟨x.toNat, by omega⟩
  obtain ⟨w', hrun, r1, r2⟩ := hL.del (k := k) (by omega) hm4 o.type
  unfold Oper.wp
  simp [execOp, hop, resolve, invoke, builtin, hm, hx, hrun, Result.andThen]
  exact hK' _ _ (hK w' r1 r2)
theorem left_len_at (hg : o.guard = none) (mo : Operand) (hop : o.op = Op.call { callee := Callee.builtin Builtin.len, args := #[mo], argTypes := #[91] }) {b n m : Nat} {S : Int → Bool} (hm : a.eval mo = .map (some b))
    (hL : LeftIn w b n S m) {c : Nat} (hc : cnt S m = c) (hK : wpList Try.prog ops Q rest (a.put o.dst (.int .i64 (c : Nat))) w) : wpList Try.prog ops Q (o :: rest) a w := by
  refine wpList_plain hg fun K' hK' => ?_
  subst hc
  unfold Oper.wp
  simp [execOp, hop, resolve, invoke, builtin, hm, hL.len o.type, Result.andThen]
  exact hK' _ _ hK
end
end Go.Proofs.Ytnijajjmcdgonaa
