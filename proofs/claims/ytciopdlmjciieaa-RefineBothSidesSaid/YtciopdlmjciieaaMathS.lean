import Derived.Test.YtciopdlmjciieaaLeadM
import Derived.Test.YtciopdlmjciieaaSimOf
import Derived.Test.YtciopdlmjciieaaRanksOf
namespace Go.Proofs.Ytciopdlmjciieaa
open Go.RowKit
set_option linter.unusedVariables false

theorem stepU_get {n : Nat} {up : Nat → List Int} {f t i : Nat} {k : Int} {y : RS} {u : Nat} (hl : LenOk n y) (hu : u < n) (hc : gi (y.R f) u = -1 ∧ (up u).any (opn y.R t k) = false) (s j : Nat) :
    gi ((stepU up f t i k y u).R s) j = (if s = f ∧ j = u then k else gi (y.R s) j) ∧ gi ((stepU up f t i k y u).S s) j = (if s = f ∧ j = u then (i : Int) else gi (y.S s) j) := by
  unfold stepU
  rw [if_pos hc]
  constructor
  · show gi (upd y.R f ((y.R f).set u k) s) j = _
    by_cases e : s = f
    · subst e
      rw [upd_same]
      by_cases e2 : j = u
      · subst e2; rw [gi_set_same (by rw [hl.1]; exact hu), if_pos ⟨rfl, rfl⟩]
      · rw [gi_set_other (fun h => e2 h), if_neg (fun h => e2 h.2)]
    · rw [upd_other _ _ e, if_neg (fun h => e h.1)]
  · show gi (upd y.S f ((y.S f).set u (i : Int)) s) j = _
    by_cases e : s = f
    · subst e
      rw [upd_same]
      by_cases e2 : j = u
      · subst e2; rw [gi_set_same (by rw [hl.2]; exact hu), if_pos ⟨rfl, rfl⟩]
      · rw [gi_set_other (fun h => e2 h), if_neg (fun h => e2 h.2)]
    · rw [upd_other _ _ e, if_neg (fun h => e h.1)]

/-- Why a pair has its rank. -/
def Why (ll ul : List Int) (l : List E) (up : Nat → List Int) (R S : Nat → List Int) (s u : Nat) : Prop :=
  (gi (R s) u = 0 ∧ gi ll s ≠ gi ul u ∧ gi (S s) u = -1) ∨
  (0 < gi (R s) u ∧ ∃ i : Nat, i < l.length ∧ gi (S s) u = (i : Int) ∧ (ge l i).f = (s : Int) ∧ ∀ v ∈ up u, gi (R (ge l i).t.toNat) v.toNat ≠ -1 ∧ gi (R (ge l i).t.toNat) v.toNat < gi (R s) u)
def WhyOk (ll ul : List Int) (l : List E) (up : Nat → List Int) (n : Nat) (x : RS) : Prop := ∀ s u, u < n → gi (x.R s) u ≠ -1 → Why ll ul l up x.R x.S s u
theorem stepU_why {ll ul : List Int} {l : List E} {up : Nat → List Int} {n i : Nat} {k : Int} {y : RS} {u : Nat} (hl : LenOk n y) (hu : u < n) (hi : i < l.length) (hf : 0 ≤ (ge l i).f) (hk : 0 < k) (h : WhyOk ll ul l up n y) :
    WhyOk ll ul l up n (stepU up (ge l i).f.toNat (ge l i).t.toNat i k y u) := by
  by_cases hc : gi (y.R (ge l i).f.toNat) u = -1 ∧ (up u).any (opn y.R (ge l i).t.toNat k) = false
  · have hg := stepU_get (up := up) (i := i) hl hu hc
    have hany := hc.2
    rw [List.any_eq_false] at hany
    have keep : ∀ a b, gi (y.R a) b ≠ -1 → gi ((stepU up (ge l i).f.toNat (ge l i).t.toNat i k y u).R a) b = gi (y.R a) b := fun a b hab => by
      rw [(hg a b).1, if_neg]
      rintro ⟨rfl, rfl⟩
      exact hab hc.1
    intro s j hj hn
    by_cases e : s = (ge l i).f.toNat ∧ j = u
    · refine .inr ?_
      rw [(hg s j).1, if_pos e, (hg s j).2, if_pos e]
      refine ⟨hk, i, hi, rfl, by rw [e.1]; omega, fun v hv => ?_⟩
      rw [e.2] at hv
      have h2 := hany v hv
      unfold opn at h2
      simp only [Bool.or_eq_true, decide_eq_true_eq, not_or] at h2
      rw [keep _ _ h2.1]
      exact ⟨h2.1, by omega⟩
    · rw [(hg s j).1, if_neg e] at hn
      have e1 : gi ((stepU up (ge l i).f.toNat (ge l i).t.toNat i k y u).R s) j = gi (y.R s) j := keep s j hn
      have e2 : gi ((stepU up (ge l i).f.toNat (ge l i).t.toNat i k y u).S s) j = gi (y.S s) j := by rw [(hg s j).2, if_neg e]
      rcases h s j hj hn with ⟨h1, h2, h3⟩ | ⟨h1, i', h2, h3, h4, h5⟩
      · exact .inl ⟨by rw [e1]; exact h1, h2, by rw [e2]; exact h3⟩
      · refine .inr ⟨by rw [e1]; exact h1, i', h2, by rw [e2]; exact h3, h4, fun v hv => ?_⟩
        rw [keep _ _ (h5 v hv).1, e1]
        exact h5 v hv
  · unfold stepU
    rw [if_neg hc]
    exact h
theorem stR_why {ll ul : List Int} {l : List E} {up : Nat → List Int} {n : Nat} (hf : ∀ i, i < l.length → 0 ≤ (ge l i).f) : ∀ m, WhyOk ll ul l up n (stR ll ul l up n m)
  | 0 => fun s u hu h => by
    have h' : gi (r0 ll ul s n n) u ≠ -1 := h
    refine .inl ⟨?_, ?_, ?_⟩
    · show gi (r0 ll ul s n n) u = 0
      rw [r0_get ll ul s n n u (Nat.le_refl _) hu] at h' ⊢
      split at h'
      · rw [if_pos (by assumption)]
      · exact absurd rfl h'
    · rw [r0_get ll ul s n n u (Nat.le_refl _) hu] at h'
      split at h'
      · rename_i hc; exact hc.2
      · exact absurd rfl h'
    · show gi (List.replicate n (-1)) u = -1
      exact gi_rep hu
  | m + 1 => by
    have h2 := afE_inv (P := fun x => WhyOk ll ul l up n x ∧ LenOk n x) (up := up) (l := l) (n := n) (k := (m + 1 : Nat)) (x := { stR ll ul l up n m with ch := false })
      ⟨stR_why hf m, stR_len ll ul l up n m⟩ (fun y i u hi hu hy => ⟨stepU_why hy.2 hu hi (hf i hi) (by omega) hy.1, stepU_len hy.2⟩) l.length (Nat.le_refl _)
    exact h2.1
/-- All that is known of the ranks in the end. -/
structure Fin2 (p : P2) (N2 : Nat) (R S : Nat → List Int) : Prop where
  fin : RFin p.ll p.ul p.lo.edges (upRow p) N2 R
  why : ∀ s u, u < N2 → gi (R s) u ≠ -1 → Why p.ll p.ul p.lo.edges (upRow p) R S s u
  rng : ∀ s u, u < N2 → gi (R s) u = -1 ∨ (0 ≤ gi (R s) u ∧ gi (R s) u ≤ 2000)
theorem FinR.two {p : P2} {N1 N2 : Nat} {R S : Nat → List Int} (hok : PairOk p) (hN1 : p.lo.n = N1) (hN2 : p.up.n = N2) (h : FinR p N2 R S) : Fin2 p N2 R S := by
  obtain ⟨m, hch, hall, rfl, rfl⟩ := h
  have hcl : ∀ i, i < p.lo.edges.length → (ge p.lo.edges i).f.toNat < N1 := fun i hi => by
    have hE := hok.lo.2.2.2 i hi
    have h1 : 0 ≤ (ge p.lo.edges i).f := hE.1.1
    have h2 : (ge p.lo.edges i).f < p.lo.n := hE.2.1.1
    omega
  have hcnt : ∀ q, q ≤ m → cntR N1 (stP p N2 q).R + q ≤ N1 * N2 := by
    intro q
    induction q with
    | zero => intro _; exact cntR_le (stR_len p.ll p.ul p.lo.edges (upRow p) N2 0).1
    | succ q ih =>
      intro hq
      have h1 : CntOk N1 (cntR N1 (stP p N2 q).R) (stP p N2 (q + 1)) := stR_cnt (N := N1) (n := N2) (ll := p.ll) (ul := p.ul) (up := upRow p) hcl q
      have h2 := h1.2 (hall (q + 1) hq)
      have h3 := ih (by omega)
      omega
  have hm : m ≤ 1600 := by
    have h1 := hcnt m (Nat.le_refl _)
    have h2 := hok.l40; have h3 := hok.u40
    have h4 := Nat.mul_le_mul (by omega : N1 ≤ 40) (by omega : N2 ≤ 40)
    omega
  refine ⟨stR_fin (fun u hu v hv => by have := upRow_lt hok hN2 hu v hv; omega) hch, stR_why (fun i hi => (hok.lo.2.2.2 i hi).1.1) (m + 1), fun s u hu => ?_⟩
  rcases stR_rng p.ll p.ul p.lo.edges (upRow p) N2 (m + 1) s u hu with h | h
  · exact .inl h
  · have h2 : gi ((stP p N2 (m + 1)).R s) u ≤ ((m + 1 : Nat) : Int) := h.2
    exact .inr ⟨h.1, by omega⟩
/-- The greatest simulation and the ranks are the same in any two calls. -/
theorem FinR.same {p : P2} {N2 : Nat} {R S R' S' : Nat → List Int} (h : FinR p N2 R S) (h' : FinR p N2 R' S') : R = R' ∧ S = S' := by
  obtain ⟨m, h1, h2, rfl, rfl⟩ := h
  obtain ⟨m', h1', h2', rfl, rfl⟩ := h'
  have : m = m' := by
    rcases Nat.lt_trichotomy m m' with h | h | h
    · have := h2' (m + 1) (by omega); rw [h1] at this; cases this
    · exact h
    · have := h2 (m' + 1) (by omega); rw [h1'] at this; cases this
  subst this
  exact ⟨rfl, rfl⟩

/-! The lists. -/
theorem mem_simRow {s : Nat} {r : List Int} {x : List Int} : ∀ {n : Nat}, x ∈ simRow s r n ↔ ∃ u, u < n ∧ gi r u = -1 ∧ x = [(s : Int), (u : Int)]
  | 0 => by simp [simRow]
  | n + 1 => by
    rw [simRow, List.mem_append, mem_simRow]
    constructor
    · rintro (⟨u, h1, h2, h3⟩ | h)
      · exact ⟨u, by omega, h2, h3⟩
      · split at h
        · rename_i hc; exact ⟨n, by omega, hc, by simpa using h⟩
        · simp at h
    · rintro ⟨u, h1, h2, h3⟩
      by_cases e : u = n
      · subst e; right; rw [if_pos h2, h3]; simp
      · exact .inl ⟨u, by omega, h2, h3⟩
theorem mem_simL {R : Nat → List Int} {n : Nat} {x : List Int} : ∀ {N : Nat}, x ∈ simL R n N ↔ ∃ s u, s < N ∧ u < n ∧ gi (R s) u = -1 ∧ x = [(s : Int), (u : Int)]
  | 0 => by simp [simL]
  | N + 1 => by
    rw [simL, List.mem_append, mem_simL, mem_simRow]
    constructor
    · rintro (⟨s, u, h1, h2⟩ | ⟨u, h2⟩)
      · exact ⟨s, u, by omega, h2⟩
      · exact ⟨N, u, by omega, h2⟩
    · rintro ⟨s, u, h1, h2⟩
      by_cases e : s = N
      · subst e; exact .inr ⟨u, h2⟩
      · exact .inl ⟨s, u, by omega, h2⟩
theorem mem_rkRow {s : Nat} {r st : List Int} {x : Mv} : ∀ {n : Nat}, x ∈ rkRow s r st n ↔ ∃ u, u < n ∧ gi r u ≠ -1 ∧ x = ⟨(s : Int), (u : Int), gi r u, gi st u⟩
  | 0 => by simp [rkRow]
  | n + 1 => by
    rw [rkRow, List.mem_append, mem_rkRow]
    constructor
    · rintro (⟨u, h1, h2, h3⟩ | h)
      · exact ⟨u, by omega, h2, h3⟩
      · split at h
        · simp at h
        · rename_i hc; exact ⟨n, by omega, hc, by simpa using h⟩
    · rintro ⟨u, h1, h2, h3⟩
      by_cases e : u = n
      · subst e; right; rw [if_neg h2, h3]; simp
      · exact .inl ⟨u, by omega, h2, h3⟩
theorem mem_rkL {R S : Nat → List Int} {n : Nat} {x : Mv} : ∀ {N : Nat}, x ∈ rkL R S n N ↔ ∃ s u, s < N ∧ u < n ∧ gi (R s) u ≠ -1 ∧ x = ⟨(s : Int), (u : Int), gi (R s) u, gi (S s) u⟩
  | 0 => by simp [rkL]
  | N + 1 => by
    rw [rkL, List.mem_append, mem_rkL, mem_rkRow]
    constructor
    · rintro (⟨s, u, h1, h2⟩ | ⟨u, h2⟩)
      · exact ⟨s, u, by omega, h2⟩
      · exact ⟨N, u, by omega, h2⟩
    · rintro ⟨s, u, h1, h2⟩
      by_cases e : s = N
      · subst e; exact .inr ⟨u, h2⟩
      · exact .inl ⟨s, u, by omega, h2⟩
theorem rows_len (s : Nat) (r st : List Int) : ∀ n, (simRow s r n).length + (rkRow s r st n).length = n
  | 0 => rfl
  | n + 1 => by
    rw [simRow, rkRow, List.length_append, List.length_append]
    have := rows_len s r st n
    split <;> simp <;> omega
theorem lists_len (R S : Nat → List Int) (n : Nat) : ∀ N, (simL R n N).length + (rkL R S n N).length = N * n
  | 0 => by simp [simL, rkL]
  | N + 1 => by
    rw [simL, rkL, List.length_append, List.length_append, Nat.succ_mul]
    have h1 := lists_len R S n N
    have h2 := rows_len N (R N) (S N) n
    omega
def ltP (a b : List Int) : Prop := gi a 0 < gi b 0 ∨ gi a 0 = gi b 0 ∧ gi a 1 < gi b 1
def ltM (a b : Mv) : Prop := a.low < b.low ∨ a.low = b.low ∧ a.up < b.up
theorem simRow_asc (s : Nat) (r : List Int) : ∀ n, (simRow s r n).Pairwise ltP
  | 0 => List.Pairwise.nil
  | n + 1 => by
    rw [simRow, List.pairwise_append]
    refine ⟨simRow_asc s r n, by split <;> simp, fun a ha b hb => ?_⟩
    obtain ⟨u, h1, -, rfl⟩ := mem_simRow.1 ha
    split at hb
    · have : b = [(s : Int), (n : Int)] := by simpa using hb
      subst this
      exact .inr ⟨rfl, by simp [gi]; omega⟩
    · simp at hb
theorem simL_asc (R : Nat → List Int) (n : Nat) : ∀ N, (simL R n N).Pairwise ltP
  | 0 => List.Pairwise.nil
  | N + 1 => by
    rw [simL, List.pairwise_append]
    refine ⟨simL_asc R n N, simRow_asc N (R N) n, fun a ha b hb => ?_⟩
    obtain ⟨s, u, h1, -, -, rfl⟩ := mem_simL.1 ha
    obtain ⟨u', -, -, rfl⟩ := mem_simRow.1 hb
    exact .inl (by simp [gi]; omega)
theorem rkRow_asc (s : Nat) (r st : List Int) : ∀ n, (rkRow s r st n).Pairwise ltM
  | 0 => List.Pairwise.nil
  | n + 1 => by
    rw [rkRow, List.pairwise_append]
    refine ⟨rkRow_asc s r st n, by split <;> simp, fun a ha b hb => ?_⟩
    obtain ⟨u, h1, -, rfl⟩ := mem_rkRow.1 ha
    split at hb
    · simp at hb
    · have : b = ⟨(s : Int), (n : Int), gi r n, gi st n⟩ := by simpa using hb
      subst this
      exact .inr ⟨rfl, by show (u : Int) < (n : Int); omega⟩
theorem rkL_asc (R S : Nat → List Int) (n : Nat) : ∀ N, (rkL R S n N).Pairwise ltM
  | 0 => List.Pairwise.nil
  | N + 1 => by
    rw [rkL, List.pairwise_append]
    refine ⟨rkL_asc R S n N, rkRow_asc N (R N) (S N) n, fun a ha b hb => ?_⟩
    obtain ⟨s, u, h1, -, -, rfl⟩ := mem_rkL.1 ha
    obtain ⟨u', -, -, rfl⟩ := mem_rkRow.1 hb
    exact .inl (by show (s : Int) < (N : Int); omega)

/-- A list of rows that CheckSimulation accepts. -/
structure SimOk (p : P2) (N1 N2 : Nat) (L : List (List Int)) : Prop where
  row : ∀ x ∈ L, ∃ s u : Nat, s < N1 ∧ u < N2 ∧ x = [(s : Int), (u : Int)]
  asc : L.Pairwise ltP
  len : L.length ≤ 1600
  lab : ∀ s u : Nat, [(s : Int), (u : Int)] ∈ L → gi p.ll s = gi p.ul u
  go : ∀ s u : Nat, [(s : Int), (u : Int)] ∈ L → ∀ t ∈ lowRow p s, ∃ v ∈ upRow p u, [t, v] ∈ L
/-- A list of moves that CheckRanks accepts; ρ: the rank of a pair. -/
structure RkOk (p : P2) (N1 N2 : Nat) (L : List Mv) (ρ : Nat → Nat → Int) : Prop where
  row : ∀ x ∈ L, ∃ s u : Nat, s < N1 ∧ u < N2 ∧ x.low = s ∧ x.up = u ∧ x.rank = ρ s u ∧ 0 ≤ x.rank ∧ x.rank ≤ 2000
  asc : L.Pairwise ltM
  len : L.length ≤ 1600
  why : ∀ x ∈ L, (x.rank = 0 ∧ gi p.ll x.low.toNat ≠ gi p.ul x.up.toNat ∧ x.step = -1) ∨ (0 < x.rank ∧ ∃ i : Nat, i < p.lo.edges.length ∧ x.step = (i : Int) ∧ (ge p.lo.edges i).f = x.low ∧
    ∀ v ∈ upRow p x.up.toNat, (∃ y ∈ L, y.low = (ge p.lo.edges i).t ∧ y.up = v) ∧ ρ (ge p.lo.edges i).t.toNat v.toNat < x.rank)
theorem sim_ok {p : P2} {N1 N2 : Nat} {R S : Nat → List Int} (hok : PairOk p) (hN1 : p.lo.n = N1) (hN2 : p.up.n = N2) (h : Fin2 p N2 R S) : SimOk p N1 N2 (simL R N2 N1) where
  row := fun x hx => by obtain ⟨s, u, h1, h2, -, h3⟩ := mem_simL.1 hx; exact ⟨s, u, h1, h2, h3⟩
  asc := simL_asc _ _ _
  len := by
    refine Nat.le_trans (simL_len _ _ _) ?_
    have h1 := hok.l40; have h2 := hok.u40
    exact Nat.le_trans (Nat.mul_le_mul (by omega : N1 ≤ 40) (by omega : N2 ≤ 40)) (by decide)
  lab := fun s u hx => by
    obtain ⟨s', u', h1, h2, h3, h4⟩ := mem_simL.1 hx
    simp only [List.cons.injEq, and_true] at h4
    obtain ⟨rfl, rfl⟩ : s = s' ∧ u = u' := ⟨by omega, by omega⟩
    exact h.fin.lab s u h2 h3
  go := fun s u hx t ht => by
    obtain ⟨s', u', h1, h2, h3, h4⟩ := mem_simL.1 hx
    simp only [List.cons.injEq, and_true] at h4
    obtain ⟨rfl, rfl⟩ : s = s' ∧ u = u' := ⟨by omega, by omega⟩
    have hlt := lowRow_lt hok hN1 s t ht
    obtain ⟨e, he, hf, rfl⟩ := mem_nb.1 ht
    obtain ⟨i, hi, rfl⟩ := List.getElem_of_mem he
    have hge : ge p.lo.edges i = p.lo.edges[i] := by unfold ge; rw [List.getElem?_eq_getElem hi]; rfl
    have hg := h.fin.go i hi u h2 (by rw [hge, hf, Int.toNat_natCast]; exact h3)
    rw [hge] at hg
    obtain ⟨v, hv, hr⟩ := hg
    have hvl := upRow_lt hok hN2 h2 v hv
    refine ⟨v, hv, mem_simL.2 ⟨p.lo.edges[i].t.toNat, v.toNat, by omega, by omega, hr, ?_⟩⟩
    rw [Int.toNat_of_nonneg hlt.1, Int.toNat_of_nonneg hvl.1]
theorem rk_ok {p : P2} {N1 N2 : Nat} {R S : Nat → List Int} (hok : PairOk p) (hN1 : p.lo.n = N1) (hN2 : p.up.n = N2) (h : Fin2 p N2 R S) : RkOk p N1 N2 (rkL R S N2 N1) (fun s u => gi (R s) u) where
  row := fun x hx => by
    obtain ⟨s, u, h1, h2, h3, rfl⟩ := mem_rkL.1 hx
    rcases h.rng s u h2 with h4 | h4
    · exact absurd h4 h3
    · exact ⟨s, u, h1, h2, rfl, rfl, rfl, h4.1, h4.2⟩
  asc := rkL_asc _ _ _ _
  len := by
    refine Nat.le_trans (rkL_len _ _ _ _) ?_
    have h1 := hok.l40; have h2 := hok.u40
    exact Nat.le_trans (Nat.mul_le_mul (by omega : N1 ≤ 40) (by omega : N2 ≤ 40)) (by decide)
  why := fun x hx => by
    obtain ⟨s, u, h1, h2, h3, rfl⟩ := mem_rkL.1 hx
    rcases h.why s u h2 h3 with ⟨w1, w2, w3⟩ | ⟨w1, i, w2, w3, w4, w5⟩
    · exact .inl ⟨w1, w2, w3⟩
    · refine .inr ⟨w1, i, w2, w3, w4, fun v hv => ?_⟩
      have hv' : v ∈ upRow p u := hv
      have hE := hok.lo.2.2.2 i w2
      have ht0 : 0 ≤ (ge p.lo.edges i).t := hE.1.2.1
      have ht1 : (ge p.lo.edges i).t < p.lo.n := hE.2.1.2
      have hvl := upRow_lt hok hN2 h2 v hv'
      have hw := w5 v hv'
      refine ⟨⟨⟨((ge p.lo.edges i).t.toNat : Nat), (v.toNat : Nat), gi (R (ge p.lo.edges i).t.toNat) v.toNat, gi (S (ge p.lo.edges i).t.toNat) v.toNat⟩, mem_rkL.2 ⟨_, _, by omega, by omega, hw.1, rfl⟩, by show (((ge p.lo.edges i).t.toNat : Nat) : Int) = _; omega, by show ((v.toNat : Nat) : Int) = v; omega⟩, hw.2⟩
end Go.Proofs.Ytciopdlmjciieaa
