import Derived.Test.YtnijajjmcdgonaaMathD
namespace Go.Proofs.Ytnijajjmcdgonaa
open Go.RowKit
set_option linter.unusedVariables false

/-- Which states are first ones: 0, the others -1. -/
def iniL (g : G) (k : Nat) : List Int := (List.range k).map fun s : Nat => if (s : Int) ∈ g.init then 0 else -1
theorem iniL_len (g : G) (k : Nat) : (iniL g k).length = k := by simp [iniL]
theorem iniL_succ (g : G) (k : Nat) : iniL g (k + 1) = iniL g k ++ [if (k : Int) ∈ g.init then 0 else -1] := by simp [iniL, List.range_succ]
theorem iniL_at (g : G) (k s : Nat) (h : s < k) : gi (iniL g k) s = if (s : Int) ∈ g.init then 0 else -1 := by
  unfold gi iniL; simp [h]

/-- What holds in the passes over the steps: the pass far, m steps of it done. -/
structure RD (g : G) (O : List Int) (far m : Nat) : Prop where
  len : O.length = g.n.toNat
  snd : ∀ s : Nat, s < O.length → gi O s = -1 ∨ ∃ d : Nat, gi O s = d ∧ R g d s
  ini : ∀ s, s ∈ g.init → 0 ≤ s ∧ s < g.n ∧ gi O s.toNat = 0
  cap : ∀ s : Nat, s < O.length → gi O s ≤ far ∨ (0 < m ∧ gi O s = far + 1)
  cnt : ∀ s : Nat, s < O.length → 0 ≤ gi O s → gi O s + 1 + none1 O ≤ g.n
  clo : ∀ e, e < g.edges.length → 0 ≤ gi O (ge g.edges e).f.toNat → (gi O (ge g.edges e).f.toNat < far ∨ gi O (ge g.edges e).f.toNat = far ∧ e < m) →
    0 ≤ gi O (ge g.edges e).t.toNat ∧ gi O (ge g.edges e).t.toNat ≤ gi O (ge g.edges e).f.toNat + 1

theorem edge_in {g : G} (hg : bOk g) {e : Nat} (he : e < g.edges.length) : 0 ≤ (ge g.edges e).f ∧ (ge g.edges e).f < g.n ∧ 0 ≤ (ge g.edges e).t ∧ (ge g.edges e).t < g.n := by
  have hq := hg.2.2.2.2.2 e he
  unfold edgeOk at hq
  omega
theorem RD.start {g : G} (hg : bOk g) : RD g (iniL g g.n.toNat) 0 0 := by
  have hl := iniL_len g g.n.toNat
  have ha := iniL_at g g.n.toNat
  have hI : ∀ s, s ∈ g.init → 0 ≤ s ∧ s < g.n := fun s hs => by
    obtain ⟨j, hj, rfl⟩ := mem_gi.1 hs
    have hi := hg.2.2.2.2.1 j hj
    unfold initOk at hi
    omega
  refine ⟨hl, ?_, ?_, ?_, ?_, ?_⟩
  · intro s hs
    rw [ha s (by omega)]
    by_cases h : (s : Int) ∈ g.init
    · rw [if_pos h]; exact .inr ⟨0, rfl, h⟩
    · rw [if_neg h]; exact .inl rfl
  · intro s hs
    obtain ⟨h1, h2⟩ := hI s hs
    refine ⟨h1, h2, ?_⟩
    rw [ha s.toNat (by omega), if_pos (by rw [show ((s.toNat : Nat) : Int) = s from by omega]; exact hs)]
  · intro s hs
    rw [ha s (by omega)]
    split <;> left <;> omega
  · intro s hs h0
    have hs' : s < g.n.toNat := by omega
    rw [ha s hs'] at h0 ⊢
    by_cases h : (s : Int) ∈ g.init
    · rw [if_pos h]
      have h1 : gi (iniL g g.n.toNat) s = 0 := by rw [ha s hs', if_pos h]
      have h2 : none1 (iniL g g.n.toNat) ≤ (iniL g g.n.toNat).length := List.count_le_length
      have h3 : none1 (iniL g g.n.toNat) ≠ (iniL g g.n.toNat).length := fun h4 => by
        have h5 := List.count_eq_length.1 h4
        have h6 := h5 _ (gi_mem' (l := iniL g g.n.toNat) (j := s) (by omega))
        rw [h1] at h6; cases h6
      omega
    · rw [if_neg h] at h0; omega
  · intro e he h0 h1
    omega
theorem RD.skip {g : G} {O : List Int} {far m : Nat} (h : RD g O far m) (hn : gi O (ge g.edges m).f.toNat ≠ far) : RD g O far (m + 1) :=
  { h with
    cap := fun s hs => (h.cap s hs).imp id fun h => ⟨by omega, h.2⟩
    clo := fun e he h0 h1 => h.clo e he h0 (by
      rcases h1 with h1 | ⟨h1, h2⟩
      · exact .inl h1
      · by_cases hem : e = m
        · subst hem; exact absurd h1 hn
        · exact .inr ⟨h1, by omega⟩) }
theorem RD.old {g : G} {O : List Int} {far m : Nat} (h : RD g O far m) (hg : bOk g) (hm : m < g.edges.length) (hf : gi O (ge g.edges m).f.toNat = far) (ho : gi O (ge g.edges m).t.toNat ≠ -1) : RD g O far (m + 1) :=
  { h with
    cap := fun s hs => (h.cap s hs).imp id fun h => ⟨by omega, h.2⟩
    clo := fun e he h0 h1 => (by
      rcases h1 with h1 | ⟨h1, h2⟩
      · exact h.clo e he h0 (.inl h1)
      · by_cases hem : e = m
        · subst hem
          have hq := edge_in hg he
          have hl := h.len
          have h3 := h.cap (ge g.edges e).t.toNat (by omega)
          rcases h.snd (ge g.edges e).t.toNat (by omega) with h4 | ⟨d, h4, -⟩
          · exact absurd h4 ho
          · omega
        · exact h.clo e he h0 (.inr ⟨h1, by omega⟩)) }
theorem RD.more {g : G} {O : List Int} {far m : Nat} (h : RD g O far m) (hg : bOk g) (hm : m < g.edges.length) (hf : gi O (ge g.edges m).f.toNat = far) (ho : gi O (ge g.edges m).t.toNat = -1) :
    RD g (O.set (ge g.edges m).t.toNat ((far : Int) + 1)) far (m + 1) := by
  have hq := edge_in hg hm
  have hl := h.len
  have htl : (ge g.edges m).t.toNat < O.length := by omega
  have hsame : gi (O.set (ge g.edges m).t.toNat ((far : Int) + 1)) (ge g.edges m).t.toNat = (far : Int) + 1 := gi_set_same htl
  have hoth : ∀ s, s ≠ (ge g.edges m).t.toNat → gi (O.set (ge g.edges m).t.toNat ((far : Int) + 1)) s = gi O s := fun s hs => gi_set_other hs
  have hn1 := none1_set htl ho (u := (far : Int) + 1) (by omega)
  refine ⟨by rw [List.length_set]; exact hl, ?_, ?_, ?_, ?_, ?_⟩
  · intro s hs
    rw [List.length_set] at hs
    by_cases hst : s = (ge g.edges m).t.toNat
    · subst hst
      rw [hsame]
      right
      rcases h.snd (ge g.edges m).f.toNat (by omega) with h1 | ⟨d, h1, h2⟩
      · omega
      · refine ⟨d + 1, by omega, m, hm, by omega, ?_⟩
        rwa [show (((ge g.edges m).f.toNat : Nat) : Int) = (ge g.edges m).f from by omega] at h2
    · rw [hoth s hst]; exact h.snd s hs
  · intro s hs
    obtain ⟨h1, h2, h3⟩ := h.ini s hs
    refine ⟨h1, h2, ?_⟩
    rw [hoth _ (by intro he; rw [he] at h3; omega)]; exact h3
  · intro s hs
    rw [List.length_set] at hs
    by_cases hst : s = (ge g.edges m).t.toNat
    · subst hst; rw [hsame]; right; omega
    · rw [hoth s hst]; rcases h.cap s hs with h1 | h1
      · exact .inl h1
      · exact .inr ⟨by omega, h1.2⟩
  · intro s hs h0
    rw [List.length_set] at hs
    have hc := h.cnt (ge g.edges m).f.toNat (by omega) (by omega)
    by_cases hst : s = (ge g.edges m).t.toNat
    · subst hst; rw [hsame]; omega
    · rw [hoth s hst] at h0 ⊢
      have := h.cnt s hs h0
      omega
  · intro e he h0 h1
    have hqe := edge_in hg he
    by_cases hef : (ge g.edges e).f.toNat = (ge g.edges m).t.toNat
    · rw [hef, hsame] at h1; omega
    · rw [hoth _ hef] at h0 h1 ⊢
      by_cases het : (ge g.edges e).t.toNat = (ge g.edges m).t.toNat
      · rw [het, hsame]
        rcases h1 with h1 | ⟨h1, h2⟩
        · have := h.clo e he h0 (.inl h1)
          rw [het] at this; omega
        · omega
      · rw [hoth _ het]
        refine h.clo e he h0 ?_
        rcases h1 with h1 | ⟨h1, h2⟩
        · exact .inl h1
        · by_cases hem : e = m
          · subst hem; exact absurd rfl het
          · exact .inr ⟨h1, by omega⟩
theorem RD.next {g : G} {O : List Int} {far : Nat} (h : RD g O far g.edges.length) : RD g O (far + 1) 0 :=
  { h with
    cap := fun s hs => by rcases h.cap s hs with h1 | h1 <;> left <;> omega
    clo := fun e he h0 h1 => h.clo e he h0 (by omega) }
theorem RD.fin {g : G} {O : List Int} {far : Nat} (h : RD g O far 0) (hg : bOk g) (hk : far = g.n.toNat) : DistOk g O := by
  refine ⟨h.len, ?_⟩
  have hol := h.len
  have key : ∀ n s, R g n s → 0 ≤ s ∧ s < g.n ∧ 0 ≤ gi O s.toNat ∧ gi O s.toNat ≤ n := by
    intro n
    induction n with
    | zero => intro s hs; obtain ⟨h1, h2, h3⟩ := h.ini s hs; exact ⟨h1, h2, by omega, by omega⟩
    | succ n ih =>
      rintro s ⟨e, he, rfl, hr⟩
      obtain ⟨h1, h2, h3, h4⟩ := ih _ hr
      have hq := edge_in hg he
      have h5 := h.cnt (ge g.edges e).f.toNat (by omega) h3
      have h6 := h.clo e he h3 (by omega)
      omega
  intro s hs
  rcases h.snd s hs with h1 | ⟨d, h1, h2⟩
  · left
    refine ⟨h1, fun n hr => ?_⟩
    have := (key n s hr).2.2.1
    rw [Int.toNat_natCast] at this
    omega
  · right
    refine ⟨d, h1, h2, fun m hm hr => ?_⟩
    have := (key m s hr).2.2.2
    rw [Int.toNat_natCast] at this
    omega
end Go.Proofs.Ytnijajjmcdgonaa
