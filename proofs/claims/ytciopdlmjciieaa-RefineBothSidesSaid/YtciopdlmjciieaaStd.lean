import Derived.Test.YtciopdlmjciieaaBase
namespace Go.Proofs.Ytciopdlmjciieaa
open Go.RowKit
set_option linter.unusedVariables false

/-- What IndexFunc says of a list. -/
def IdxF (l : List Int) (p : Int → Bool) (r : Int) : Prop := (∃ k : Nat, k < l.length ∧ r = k ∧ p (gi l k) = true ∧ ∀ j, j < k → p (gi l j) = false) ∨ (r = -1 ∧ ∀ j, j < l.length → p (gi l j) = false)

/-- A function value that answers a question of each number of a list and changes nothing. -/
def Asks (K : Nat) (lb : Array Value) (p : Int → Bool) (l : List Int) (w : World) : Prop :=
  ∀ n j, j < l.length → Calls Try.prog K (#[Value.int .i64 (gi l j)] ++ lb) (w.drewN n) fun e w' => e = .returned (.bool (p (gi l j))) ∧ ∃ m, w' = (w.drewN n).drewN m

set_option maxHeartbeats 400000 in
set_option maxRecDepth 100000 in
theorem indexF_any (K : Nat) (lb : Array Value) (p : Int → Bool) (hK : ∀ (args : Array Value) (W : World), Sem.run Try.prog (callFunc K args) W = .ok (.enter K args) W) (l : List Int) (v : Value) (w : World) (hl : IntsAt w v l) (hp : Asks K lb p l w) :
    Calls Try.prog 55 #[v, .func (.func K) #[] lb] w fun e w' => (∃ r : Int, e = .returned (.int .i64 r) ∧ Hid (IdxF l p r)) ∧ ∃ m, w' = w.drewN m := by
  obtain ⟨a, c, rfl, hm, hc⟩ := hl
  unfold maxLen at hm
  have H := Lib.hid hc; clear hc
  have HP := Lib.hid hp; clear hp
  go_enter Try.func55, Try.ntmps55
  go_wp2
  go_loopw [8] (fun i wr => ∃ k q : Nat, k ≤ l.length ∧ i = .int .i64 k ∧ wr = w.drewN q ∧ Hid (∀ j, j < k → p (gi l j) = false)) (fun i _ => l.length - (intOf i).toNat)
  case atStart => exact ⟨0, 0, Nat.zero_le _, rfl, rfl, fun j hj => by omega⟩
  case round =>
    obtain ⟨k, q, hk, rfl, rfl, hall⟩ := hrel
    by_cases hlt : k < l.length
    · obtain ⟨b, o, e1, c1⟩ := H.out k hlt
      subst e1
      have hcall := HP.out q k hlt
      cases hq : p (gi l k) with
      | true =>
        have HX : Hid (IdxF l p k) := .inl ⟨k, hlt, rfl, hq, hall.out⟩
        rw [hq] at hcall
        clear hq
        go_wp2_with ((with_reducible refine (hcall).mono ?_); rintro e w' ⟨rfl, q', rfl⟩)
        go_ret
        exact ⟨⟨_, rfl, HX⟩, _, rfl⟩
      | false =>
        have HN := Lib.hid hq
        rw [hq] at hcall
        clear hq
        go_wp2_with ((with_reducible refine (hcall).mono ?_); rintro e w' ⟨rfl, q', rfl⟩)
        go_roundw
        case rel => exact ⟨k + 1, _, by omega, by go_num, rfl, fun j hj => (by rcases Nat.lt_succ_iff_lt_or_eq.1 hj with h | h; exact hall.out j h; rw [h]; exact HN.out)⟩
        case measure => simp [intOf]; omega
    · have hkk : k = l.length := by omega
      subst hkk
      have HX : Hid (IdxF l p (-1)) := .inr ⟨rfl, hall.out⟩
      go_wp2
      go_ret
      exact ⟨⟨_, rfl, HX⟩, _, rfl⟩

def anyP (p : Int → Bool) (l : List Int) : Bool := l.any p
theorem anyP_yes {p : Int → Bool} {l : List Int} {k : Nat} (hk : k < l.length) (h : p (gi l k) = true) : anyP p l = true := by
  unfold anyP; rw [List.any_eq_true]; exact ⟨_, gi_mem hk, h⟩
theorem anyP_no {p : Int → Bool} {l : List Int} (h : ∀ j, j < l.length → p (gi l j) = false) : anyP p l = false := by
  unfold anyP; rw [List.any_eq_false]
  intro x hx
  obtain ⟨j, hj, rfl⟩ := mem_gi.1 hx
  simp [h j hj]

set_option maxHeartbeats 400000 in
theorem containsF_any (K : Nat) (lb : Array Value) (p : Int → Bool) (hK : ∀ (args : Array Value) (W : World), Sem.run Try.prog (callFunc K args) W = .ok (.enter K args) W) (l : List Int) (v : Value) (w : World) (hl : IntsAt w v l) (hp : Asks K lb p l w) :
    Calls Try.prog 34 #[v, .func (.func K) #[] lb] w fun e w' => e = .returned (.bool (anyP p l)) ∧ ∃ m, w' = w.drewN m := by
  go_enter Try.func34, Try.ntmps34
  go_wp2_with fail
  refine (indexF_any K lb p hK l _ _ hl hp).mono ?_
  rintro e w' ⟨⟨r, rfl, hr⟩, m, rfl⟩
  rcases hr.out with ⟨k, hk, rfl, hx, -⟩ | ⟨rfl, hx⟩
  · have HX := Lib.hid (anyP_yes hk hx).symm
    clear hx hr
    go_wp2
    go_ret
    exact ⟨ret_bool HX.out, _, rfl⟩
  · have HX := Lib.hid (anyP_no hx).symm
    clear hx hr
    go_wp2
    go_ret
    exact ⟨ret_bool HX.out, _, rfl⟩
end Go.Proofs.Ytciopdlmjciieaa
