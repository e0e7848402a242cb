import Derived.Test.YtciopdlmjciieaaLeadM
import Derived.Test.YtciopdlmjciieaaSimOf
import Derived.Test.YtciopdlmjciieaaRanksOf
namespace Go.Proofs.Ytciopdlmjciieaa
open Go.RowKit
set_option linter.unusedVariables false

/-- The pair of the document's examples, and the one with a step back. -/
def Ex : P2 := ⟨⟨3, [0], [⟨0, 1, 0⟩, ⟨1, 2, 0⟩]⟩, ⟨2, [0], [⟨0, 1, 0⟩]⟩, [0, 0, 1], [0, 1]⟩
def Bk : P2 := ⟨⟨3, [0], [⟨0, 1, 0⟩, ⟨1, 2, 0⟩, ⟨2, 0, 0⟩]⟩, ⟨2, [0], [⟨0, 1, 0⟩]⟩, [0, 0, 1], [0, 1]⟩
def upE : Nat → List Int
  | 0 => [0, 1]
  | u + 1 => [((u + 1 : Nat) : Int)]
theorem compact_one (x : Int) : Lib.compact [x] = [x] := by
  simp [Lib.compact, Lib.compactUpTo, Lib.keeps, List.range_succ]
theorem compact_01 : Lib.compact [0, 1] = ([0, 1] : List Int) := by decide +kernel
theorem upE_eq {p : P2} (h : p.up.edges = [⟨0, 1, 0⟩]) : upRow p = upE := by
  funext u
  unfold upRow srt
  rw [h]
  rcases u with _ | u
  · have : (nb [⟨0, 1, 0⟩] 0 ++ [((0 : Nat) : Int)]) = [1, 0] := rfl
    rw [this]
    have h2 : (List.mergeSort [1, 0] fun x y : Int => decide (x ≤ y)) = [0, 1] := by simp [List.mergeSort, List.MergeSort.Internal.splitInTwo]
    rw [h2]
    exact compact_01
  · have : (nb [⟨0, 1, 0⟩] (u + 1) ++ [((u + 1 : Nat) : Int)]) = [((u + 1 : Nat) : Int)] := by
      have : ¬ ((0 : Int) = ((u + 1 : Nat) : Int)) := by omega
      simp only [nb]
      rw [if_neg this]
      rfl
    rw [this, List.mergeSort_singleton, compact_one]
    rfl
theorem upE_ex : upRow Ex = upE := upE_eq rfl
theorem upE_bk : upRow Bk = upE := upE_eq rfl

theorem all2 {P : Nat → Prop} (h0 : P 0) (h1 : P 1) : ∀ k, k < 2 → P k
  | 0, _ => h0
  | 1, _ => h1
theorem all3 {P : Nat → Prop} (h0 : P 0) (h1 : P 1) (h2 : P 2) : ∀ k, k < 3 → P k
  | 0, _ => h0
  | 1, _ => h1
  | 2, _ => h2
theorem ex_up : graphOk ⟨2, [0], [⟨0, 1, 0⟩]⟩ := by
  refine ⟨by decide, by decide, fun k hk => ?_, fun k hk => ?_⟩
  · have : k = 0 := by simp at hk; omega
    subst this; exact ⟨by decide, by decide, fun h => by omega⟩
  · have : k = 0 := by simp at hk; omega
    subst this; unfold edgeOk ge; decide +kernel
theorem ex_ok : PairFull Ex where
  lo := by
    refine ⟨by decide, by decide, fun k hk => ?_, fun k hk => ?_⟩
    · have : k = 0 := by simp [Ex] at hk; omega
      subst this; exact ⟨by decide, by decide, fun h => by omega⟩
    · revert k hk; exact all2 (by unfold edgeOk ge; decide +kernel) (by unfold edgeOk ge; decide +kernel)
  up := ex_up
  l40 := by decide
  u40 := by decide
  ll := rfl
  ul := rfl
  lab := by decide
theorem bk_ok : PairFull Bk where
  lo := by
    refine ⟨by decide, by decide, fun k hk => ?_, fun k hk => ?_⟩
    · have : k = 0 := by simp [Bk] at hk; omega
      subst this; exact ⟨by decide, by decide, fun h => by omega⟩
    · revert k hk; exact all3 (by unfold edgeOk ge; decide +kernel) (by unfold edgeOk ge; decide +kernel) (by unfold edgeOk ge; decide +kernel)
  up := ex_up
  l40 := by decide
  u40 := by decide
  ll := rfl
  ul := rfl
  lab := by decide
theorem form_001 : FormOk Ex [0, 0, 1] := ⟨rfl, by decide⟩
theorem form_011 : FormOk Ex [0, 1, 1] := ⟨rfl, by decide⟩
theorem path_012 : PathOk Ex [0, 1, 2] where
  ne := by simp
  len := by decide
  rng := by decide
  init := by decide
  step := fun i hi => by
    have : i < 2 := by simp at hi; omega
    exact all2 (P := fun i => gi [0, 1, 2] (i + 1) = gi [0, 1, 2] i ∨ gi [0, 1, 2] (i + 1) ∈ lowRow Ex (gi [0, 1, 2] i).toNat) (.inr (by decide)) (.inr (by decide)) i this

theorem ex_pn {i : Nat} (h : (pnP Ex i).q.length = i) : i = 3 := by
  have hi : i ≤ 3 := by
    have hP := PI.at (n := 3) (low := lowRow Ex) (init := [0]) (by decide) (by decide) (fun s hs => lowRow_lt ex_ok.toPairOk (N1 := 3) rfl s) i
    have := nodup_le 3 _ hP.rng hP.nd
    have e : (pN (lowRow Ex) [0] i).q.length = i := h
    omega
  match i, hi, h with
  | 0, _, h => exact absurd h (by decide)
  | 1, _, h => exact absurd h (by decide)
  | 2, _, h => exact absurd h (by decide)
  | 3, _, h => rfl
theorem ex_o : (pnP Ex 3).o 0 = some [0] ∧ (pnP Ex 3).o 1 = some [0, 1] ∧ (pnP Ex 3).o 2 = some [0, 1, 2] := ⟨rfl, rfl, rfl⟩
theorem map_001 : MapOk Ex [0, 0, 1] (pnP Ex 3).o where
  lab := all3 (fun _ => rfl) (fun _ => rfl) (fun _ => rfl)
  init := by decide
  step := all2 (fun _ => by rw [upE_ex]; decide) (fun _ => by rw [upE_ex]; decide)
/-- CheckMapping of the example accepts 0, 0, 1. -/
theorem said_001 {i : Nat} {k a err : Int} {pa : List Int} (hi : (pnP Ex i).q.length = i) (h : CmSaid Ex [0, 0, 1] (pnP Ex i).o k a pa err) : err = 0 := by
  obtain rfl := ex_pn hi
  rcases h with ⟨h, -⟩ | ⟨-, -, s, hs, -, ho, hn, -⟩ | ⟨-, -, -, hn⟩
  · exact h
  · exact absurd (map_001.lab s hs (by rw [ho]; simp)) hn
  · exact absurd map_001 hn
/-- .. and has a fault of 0, 1, 1. -/
theorem said_011 {i : Nat} {k a err : Int} {pa : List Int} (hi : (pnP Ex i).q.length = i) (h : CmSaid Ex [0, 1, 1] (pnP Ex i).o k a pa err) : err = 31 ∧ k = 0 ∧ a = 1 ∧ pa = [0, 1] := by
  obtain rfl := ex_pn hi
  have hno : ¬ labOk Ex [0, 1, 1] (pnP Ex 3).o 1 := fun h => absurd (h (by rw [ex_o.2.1]; simp)) (by decide)
  rcases h with ⟨-, h⟩ | ⟨he, hk, s, hs, ha, ho, hn, hl⟩ | ⟨-, -, h, -⟩
  · exact absurd (h.lab 1 (by decide)) hno
  · have hs1 : ¬ 1 < s := fun h => hno (hl 1 h)
    match s, hs1, ha, ho, hn with
    | 0, _, ha, ho, hn => exact absurd rfl hn
    | 1, _, ha, ho, hn =>
      rw [ex_o.2.1] at ho
      injection ho with ho
      exact ⟨he, hk, ha, ho.symm⟩
    | s + 2, hs1, _, _, _ => exact absurd (by omega) hs1
  · exact absurd (h 1 (by decide)) hno
theorem fin_ex {R S : Nat → List Int} (h : FinR Ex 2 R S) : simL R 2 3 = [[0, 0], [1, 0], [2, 1]] := by
  obtain ⟨m, h1, h2, rfl, rfl⟩ := h
  have e : ∀ q, stP Ex 2 q = stR Ex.ll Ex.ul Ex.lo.edges upE 2 q := fun q => by unfold stP; rw [upE_ex]
  have h0 : (stP Ex 2 1).ch = false := by rw [e]; decide +kernel
  have : m = 0 := by
    rcases m with _ | m
    · rfl
    · have := h2 1 (by omega); rw [h0] at this; cases this
  subst this
  rw [e]
  decide +kernel
theorem bk_val : rkL (stR Bk.ll Bk.ul Bk.lo.edges upE 2 4).R (stR Bk.ll Bk.ul Bk.lo.edges upE 2 4).S 2 3 = [⟨0, 0, 3, 0⟩, ⟨0, 1, 0, -1⟩, ⟨1, 0, 2, 1⟩, ⟨1, 1, 0, -1⟩, ⟨2, 0, 0, -1⟩, ⟨2, 1, 1, 2⟩] := by kernel_rfl
theorem fin_bk {R S : Nat → List Int} (h : FinR Bk 2 R S) : rkL R S 2 3 = [⟨0, 0, 3, 0⟩, ⟨0, 1, 0, -1⟩, ⟨1, 0, 2, 1⟩, ⟨1, 1, 0, -1⟩, ⟨2, 0, 0, -1⟩, ⟨2, 1, 1, 2⟩] := by
  obtain ⟨m, h1, h2, rfl, rfl⟩ := h
  have e : ∀ q, stP Bk 2 q = stR Bk.ll Bk.ul Bk.lo.edges upE 2 q := fun q => by unfold stP; rw [upE_bk]
  have h4 : (stP Bk 2 4).ch = false := by rw [e]; decide +kernel
  have t1 : (stP Bk 2 1).ch = true := by rw [e]; decide +kernel
  have t2 : (stP Bk 2 2).ch = true := by rw [e]; decide +kernel
  have t3 : (stP Bk 2 3).ch = true := by rw [e]; decide +kernel
  have hm : m ≤ 3 := by
    rcases Nat.lt_or_ge 3 m with h | h
    · have := h2 4 (by omega); rw [h4] at this; cases this
    · exact h
  have k1 : stP Bk 2 (0 + 1) = stP Bk 2 1 := by rw [Nat.zero_add]
  have hm4 : m = 0 ∨ m = 1 ∨ m = 2 ∨ m = 3 := by omega
  have hv : m = 3 := by
    rcases hm4 with h | h | h | h
    · rw [h, k1, t1] at h1; cases h1
    · rw [h] at h1
      have k2 : stP Bk 2 (1 + 1) = stP Bk 2 2 := congrArg _ (by omega)
      rw [k2, t2] at h1; cases h1
    · rw [h] at h1
      have k2 : stP Bk 2 (2 + 1) = stP Bk 2 3 := congrArg _ (by omega)
      rw [k2, t3] at h1; cases h1
    · exact h
  clear h1 h2 hm hm4 t1 t2 t3 h4 k1
  subst hv
  have k4 : stP Bk 2 (3 + 1) = stP Bk 2 4 := congrArg _ (by omega)
  rw [k4, e]
  exact bk_val
theorem up_012 : upR Ex Ex.up.init [0, 1, 2] = some [0, 0, 1] := by
  have h := upE_ex
  simp only [upR, canS, h]
  rfl
end Go.Proofs.Ytciopdlmjciieaa
