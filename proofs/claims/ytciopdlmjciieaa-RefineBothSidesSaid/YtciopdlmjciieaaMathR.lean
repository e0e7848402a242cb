import Derived.Test.YtciopdlmjciieaaKeep
namespace Go.Proofs.Ytciopdlmjciieaa
open Go.RowKit
set_option linter.unusedVariables false

/-- The ranks at the beginning: 0 where the labels differ. -/
def r0 (ll ul : List Int) (s n : Nat) : Nat → List Int
  | 0 => List.replicate n (-1)
  | u + 1 => if gi ll s = gi ul u then r0 ll ul s n u else (r0 ll ul s n u).set u 0
theorem r0_len (ll ul : List Int) (s n : Nat) : ∀ u, (r0 ll ul s n u).length = n
  | 0 => by simp [r0]
  | u + 1 => by
    unfold r0
    split
    · exact r0_len ll ul s n u
    · rw [List.length_set]; exact r0_len ll ul s n u
theorem gi_rep {n j : Nat} (h : j < n) : gi (List.replicate n (-1)) j = -1 := by simp [gi, h]
theorem r0_get (ll ul : List Int) (s n : Nat) : ∀ u j, u ≤ n → j < n → gi (r0 ll ul s n u) j = if j < u ∧ gi ll s ≠ gi ul j then 0 else -1
  | 0, j, _, hj => by rw [if_neg (by omega)]; exact gi_rep hj
  | u + 1, j, hu, hj => by
    have ih := r0_get ll ul s n u j (by omega) hj
    unfold r0
    split
    · rename_i h
      rw [ih]
      by_cases e : j = u
      · subst e
        rw [if_neg (by omega), if_neg (fun h2 => h2.2 h)]
      · by_cases h3 : j < u ∧ gi ll s ≠ gi ul j
        · rw [if_pos h3, if_pos ⟨by omega, h3.2⟩]
        · rw [if_neg h3, if_neg (fun h4 => h3 ⟨by omega, h4.2⟩)]
    · rename_i h
      by_cases e : j = u
      · subst e
        rw [gi_set_same (by rw [r0_len]; exact hj), if_pos ⟨by omega, h⟩]
      · rw [gi_set_other (fun h => e h), ih]
        by_cases h3 : j < u ∧ gi ll s ≠ gi ul j
        · rw [if_pos h3, if_pos ⟨by omega, h3.2⟩]
        · rw [if_neg h3, if_neg (fun h4 => h3 ⟨by omega, h4.2⟩)]

structure RS where
  R : Nat → List Int
  S : Nat → List Int
  ch : Bool
def opn (R : Nat → List Int) (t : Nat) (k : Int) (v : Int) : Bool := decide (gi (R t) v.toNat = -1) || decide (k ≤ gi (R t) v.toNat)
def anyQ (p : Int → Bool) (l : List Int) : Bool := l.any p
def stepU (up : Nat → List Int) (f t i : Nat) (k : Int) (x : RS) (u : Nat) : RS :=
  if gi (x.R f) u = -1 ∧ (up u).any (opn x.R t k) = false then ⟨upd x.R f ((x.R f).set u k), upd x.S f ((x.S f).set u (i : Int)), true⟩ else x
def afU (up : Nat → List Int) (f t i : Nat) (k : Int) (x : RS) : Nat → RS
  | 0 => x
  | u + 1 => stepU up f t i k (afU up f t i k x u) u
def afE (up : Nat → List Int) (l : List E) (n : Nat) (k : Int) (x : RS) : Nat → RS
  | 0 => x
  | i + 1 => afU up (ge l i).f.toNat (ge l i).t.toNat i k (afE up l n k x i) n
def stR (ll ul : List Int) (l : List E) (up : Nat → List Int) (n : Nat) : Nat → RS
  | 0 => ⟨fun s => r0 ll ul s n n, fun _ => List.replicate n (-1), true⟩
  | m + 1 => afE up l n (m + 1 : Nat) { stR ll ul l up n m with ch := false } l.length

/-- A property of tables that each step keeps. -/
theorem afU_inv {P : RS → Prop} {up : Nat → List Int} {f t i : Nat} {k : Int} {x : RS} (hx : P x) {n : Nat} (hs : ∀ y u, u < n → P y → P (stepU up f t i k y u)) : ∀ u, u ≤ n → P (afU up f t i k x u)
  | 0, _ => hx
  | u + 1, hu => hs _ _ (by omega) (afU_inv hx hs u (by omega))
theorem afE_inv {P : RS → Prop} {up : Nat → List Int} {l : List E} {n : Nat} {k : Int} {x : RS} (hx : P x) (hs : ∀ y i u, i < l.length → u < n → P y → P (stepU up (ge l i).f.toNat (ge l i).t.toNat i k y u)) : ∀ i, i ≤ l.length → P (afE up l n k x i)
  | 0, _ => hx
  | i + 1, hi => afU_inv (afE_inv hx hs i (by omega)) (fun y u hu hy => hs y i u (by omega) hu hy) n (Nat.le_refl _)

theorem stepU_len {up : Nat → List Int} {f t i : Nat} {k : Int} {y : RS} {u n : Nat} (h : (∀ s, (y.R s).length = n) ∧ ∀ s, (y.S s).length = n) : (∀ s, ((stepU up f t i k y u).R s).length = n) ∧ ∀ s, ((stepU up f t i k y u).S s).length = n := by
  unfold stepU
  split
  · refine ⟨fun s => ?_, fun s => ?_⟩
    · show (upd y.R f _ s).length = n
      by_cases e : s = f
      · subst e; rw [upd_same, List.length_set]; exact h.1 s
      · rw [upd_other _ _ e]; exact h.1 s
    · show (upd y.S f _ s).length = n
      by_cases e : s = f
      · subst e; rw [upd_same, List.length_set]; exact h.2 s
      · rw [upd_other _ _ e]; exact h.2 s
  · exact h
def LenOk (n : Nat) (x : RS) : Prop := (∀ s, (x.R s).length = n) ∧ ∀ s, (x.S s).length = n
theorem afU_len {up : Nat → List Int} {f t i : Nat} {k : Int} {x : RS} {n : Nat} (h : LenOk n x) (u : Nat) : LenOk n (afU up f t i k x u) :=
  afU_inv (P := LenOk n) h (n := u) (fun y u hu hy => stepU_len hy) u (Nat.le_refl _)
theorem afE_len {up : Nat → List Int} {l : List E} {n : Nat} {k : Int} {x : RS} (h : LenOk n x) (i : Nat) (hi : i ≤ l.length) : LenOk n (afE up l n k x i) :=
  afE_inv (P := LenOk n) h (fun y i u hi hu hy => stepU_len hy) i hi
theorem stR_len (ll ul : List Int) (l : List E) (up : Nat → List Int) (n : Nat) : ∀ m, LenOk n (stR ll ul l up n m)
  | 0 => ⟨fun s => r0_len ll ul s n n, fun s => by simp [stR]⟩
  | m + 1 => afE_len (up := up) (l := l) (k := (m + 1 : Nat)) (x := { stR ll ul l up n m with ch := false }) (stR_len ll ul l up n m) l.length (Nat.le_refl _)

/-- How many pairs have no rank. -/
def cntR (N : Nat) (R : Nat → List Int) : Nat := ((List.range N).map fun s => (R s).count (-1)).sum
theorem cntR_upd {N f u : Nat} {R : Nat → List Int} {k : Int} (hf : f < N) (hu : u < (R f).length) (h : gi (R f) u = -1) (hk : k ≠ -1) : cntR N (upd R f ((R f).set u k)) + 1 = cntR N R := by
  unfold cntR
  have hcount : ((R f).set u k).count (-1) + 1 = (R f).count (-1) := by
    have h1 : (R f)[u] = -1 := by unfold gi at h; rw [List.getElem?_eq_getElem hu] at h; simpa using h
    have hp : 0 < (R f).count (-1) := List.count_pos_iff.2 (h1 ▸ List.getElem_mem hu)
    rw [List.count_set hu]
    simp [h1, hk]
    omega
  induction N with
  | zero => omega
  | succ N ih =>
    rw [List.range_succ, List.map_append, List.sum_append, List.map_append, List.sum_append]
    simp only [List.map_cons, List.map_nil, List.sum_cons, List.sum_nil, Nat.add_zero]
    by_cases e : f = N
    · subst e
      rw [upd_same]
      have : (List.map (fun s => List.count (-1) (upd R f ((R f).set u k) s)) (List.range f)) = List.map (fun s => List.count (-1) (R s)) (List.range f) := by
        apply List.map_congr_left
        intro s hs
        rw [List.mem_range] at hs
        rw [upd_other _ _ (by omega)]
      rw [this]; omega
    · have := ih (by omega)
      rw [upd_other _ _ (fun h => e h.symm)]
      omega
/-- What a round keeps: a pair that is ranked anew is one less. -/
def CntOk (N : Nat) (c0 : Nat) (x : RS) : Prop := cntR N x.R ≤ c0 ∧ (x.ch = true → cntR N x.R < c0)
theorem stepU_cnt {N n : Nat} {c0 : Nat} {up : Nat → List Int} {f t i : Nat} {k : Int} {y : RS} {u : Nat} (hf : f < N) (hk : k ≠ -1) (hl : LenOk n y) (hu : u < n) (h : CntOk N c0 y) : CntOk N c0 (stepU up f t i k y u) := by
  unfold stepU
  split
  · rename_i hc
    have := cntR_upd (k := k) hf (by rw [hl.1]; exact hu) hc.1 hk
    have h1 := h.1
    exact ⟨by show cntR N (upd y.R f _) ≤ c0; omega, fun _ => by show cntR N (upd y.R f _) < c0; omega⟩
  · exact h
theorem stR_cnt {N n : Nat} {ll ul : List Int} {l : List E} {up : Nat → List Int} (hl : ∀ i, i < l.length → (ge l i).f.toNat < N) (m : Nat) : CntOk N (cntR N (stR ll ul l up n m).R) (stR ll ul l up n (m + 1)) := by
  have h := afE_inv (P := fun x => CntOk N (cntR N (stR ll ul l up n m).R) x ∧ LenOk n x) (up := up) (l := l) (n := n) (k := (m + 1 : Nat)) (x := { stR ll ul l up n m with ch := false })
    ⟨⟨Nat.le_refl _, fun h => by cases h⟩, stR_len ll ul l up n m⟩ (fun y i u hi hu hy => ⟨stepU_cnt (hl i hi) (by omega) hy.2 hu hy.1, stepU_len hy.2⟩) l.length (Nat.le_refl _)
  exact h.1

/-- Ranks are none, or not more than the round. -/
def RngOk (k : Int) (n : Nat) (x : RS) : Prop := ∀ s j, j < n → gi (x.R s) j = -1 ∨ (0 ≤ gi (x.R s) j ∧ gi (x.R s) j ≤ k)
theorem stepU_rng {n : Nat} {up : Nat → List Int} {f t i : Nat} {k : Int} {y : RS} {u : Nat} (hk : 0 ≤ k) (hl : LenOk n y) (hu : u < n) (h : RngOk k n y) : RngOk k n (stepU up f t i k y u) := by
  unfold stepU
  split
  · intro s j hj
    show gi (upd y.R f _ s) j = -1 ∨ _
    have hgoal : gi (upd y.R f ((y.R f).set u k) s) j = -1 ∨ (0 ≤ gi (upd y.R f ((y.R f).set u k) s) j ∧ gi (upd y.R f ((y.R f).set u k) s) j ≤ k) := by
      by_cases e : s = f
      · subst e
        rw [upd_same]
        by_cases e2 : j = u
        · subst e2; rw [gi_set_same (by rw [hl.1]; exact hu)]; exact .inr ⟨hk, Int.le_refl _⟩
        · rw [gi_set_other (fun h => e2 h)]; exact h s j hj
      · rw [upd_other _ _ e]; exact h s j hj
    exact hgoal
  · exact h
theorem RngOk.mono {k k' : Int} {n : Nat} {x : RS} (h : RngOk k n x) (hk : k ≤ k') : RngOk k' n x := fun s j hj => by
  rcases h s j hj with h | ⟨h1, h2⟩
  · exact .inl h
  · exact .inr ⟨h1, by omega⟩
theorem stR_rng (ll ul : List Int) (l : List E) (up : Nat → List Int) (n : Nat) : ∀ m : Nat, RngOk m n (stR ll ul l up n m)
  | 0 => fun s j hj => by
    show gi (r0 ll ul s n n) j = -1 ∨ (0 ≤ gi (r0 ll ul s n n) j ∧ gi (r0 ll ul s n n) j ≤ _)
    rw [r0_get ll ul s n n j (Nat.le_refl _) hj]
    split
    · exact .inr ⟨by omega, by simp⟩
    · exact .inl rfl
  | m + 1 => by
    have h := afE_inv (P := fun x => RngOk (m + 1 : Nat) n x ∧ LenOk n x) (up := up) (l := l) (n := n) (k := (m + 1 : Nat)) (x := { stR ll ul l up n m with ch := false })
      ⟨RngOk.mono (stR_rng ll ul l up n m) (by omega), stR_len ll ul l up n m⟩ (fun y i u hi hu hy => ⟨stepU_rng (by omega) hy.2 hu hy.1, stepU_len hy.2⟩) l.length (Nat.le_refl _)
    exact h.1

/-- A round in which nothing is ranked. -/
theorem afU_ch {up : Nat → List Int} {f t i : Nat} {k : Int} {x : RS} : ∀ u, (afU up f t i k x u).ch = false → afU up f t i k x u = x ∧ ∀ j, j < u → ¬ (gi (x.R f) j = -1 ∧ (up j).any (opn x.R t k) = false)
  | 0, _ => ⟨rfl, fun j hj => by omega⟩
  | u + 1, h => by
    have hd : afU up f t i k x (u + 1) = stepU up f t i k (afU up f t i k x u) u := rfl
    rw [hd] at h
    unfold stepU at h
    split at h
    · cases h
    · rename_i hc
      obtain ⟨h1, h2⟩ := afU_ch u h
      rw [h1] at hc
      refine ⟨?_, fun j hj => ?_⟩
      · rw [hd]; unfold stepU; rw [h1, if_neg hc]
      · rcases Nat.lt_succ_iff_lt_or_eq.1 hj with h3 | h3
        · exact h2 j h3
        · rw [h3]; exact hc
theorem afE_ch {up : Nat → List Int} {l : List E} {n : Nat} {k : Int} {x : RS} : ∀ i, (afE up l n k x i).ch = false → afE up l n k x i = x ∧ ∀ q, q < i → ∀ j, j < n → ¬ (gi (x.R (ge l q).f.toNat) j = -1 ∧ (up j).any (opn x.R (ge l q).t.toNat k) = false)
  | 0, _ => ⟨rfl, fun q hq => by omega⟩
  | i + 1, h => by
    have hd : afE up l n k x (i + 1) = afU up (ge l i).f.toNat (ge l i).t.toNat i k (afE up l n k x i) n := rfl
    rw [hd] at h
    obtain ⟨h1, h2⟩ := afU_ch n h
    rw [h1] at h
    obtain ⟨h3, h4⟩ := afE_ch i h
    rw [h3] at h1 h2
    refine ⟨by rw [hd, h3]; exact h1, fun q hq j hj => ?_⟩
    rcases Nat.lt_succ_iff_lt_or_eq.1 hq with h5 | h5
    · exact h4 q h5 j hj
    · rw [h5]; exact h2 j hj

/-- What a relation must be to be a simulation. -/
structure IsSim (ll ul : List Int) (l : List E) (up : Nat → List Int) (Q : Nat → Nat → Prop) : Prop where
  lab : ∀ s u, Q s u → gi ll s = gi ul u
  go : ∀ i, i < l.length → ∀ u, Q (ge l i).f.toNat u → ∃ v ∈ up u, Q (ge l i).t.toNat v.toNat
/-- No pair of a simulation is ranked. -/
theorem stR_sim {ll ul : List Int} {l : List E} {up : Nat → List Int} {n : Nat} {Q : Nat → Nat → Prop} (hQ : IsSim ll ul l up Q) (hn : ∀ s u, Q s u → u < n) : ∀ m s u, Q s u → gi ((stR ll ul l up n m).R s) u = -1
  | 0, s, u, h => by
    show gi (r0 ll ul s n n) u = -1
    rw [r0_get ll ul s n n u (Nat.le_refl _) (hn s u h), if_neg (fun h2 => h2.2 (hQ.lab s u h))]
  | m + 1, s, u, h => by
    have h2 := afE_inv (P := fun x => ∀ s u, Q s u → gi (x.R s) u = -1) (up := up) (l := l) (n := n) (k := (m + 1 : Nat)) (x := { stR ll ul l up n m with ch := false })
      (fun s u h => stR_sim hQ hn m s u h) (fun y i u hi hu hy => ?_) l.length (Nat.le_refl _)
    · exact h2 s u h
    · unfold stepU
      split
      · rename_i hc
        intro s' u' hq
        have hgoal : gi (upd y.R (ge l i).f.toNat ((y.R (ge l i).f.toNat).set u ((m + 1 : Nat) : Int)) s') u' = -1 := by
          by_cases e : s' = (ge l i).f.toNat
          · subst e
            rw [upd_same]
            by_cases e2 : u' = u
            · subst e2
              obtain ⟨v, hv, hqv⟩ := hQ.go i hi u' hq
              have h3 := hc.2
              rw [List.any_eq_false] at h3
              have h4 := h3 v hv
              unfold opn at h4
              rw [hy _ _ hqv] at h4
              simp at h4
            · rw [gi_set_other (fun h => e2 h)]; exact hy _ _ hq
          · rw [upd_other _ _ e]; exact hy _ _ hq
        exact hgoal
      · exact hy
/-- What the ranks are in the end. -/
structure RFin (ll ul : List Int) (l : List E) (up : Nat → List Int) (n : Nat) (R : Nat → List Int) : Prop where
  lab : ∀ s u, u < n → gi (R s) u = -1 → gi ll s = gi ul u
  go : ∀ i, i < l.length → ∀ u, u < n → gi (R (ge l i).f.toNat) u = -1 → ∃ v ∈ up u, gi (R (ge l i).t.toNat) v.toNat = -1
theorem stR_lab {ll ul : List Int} {l : List E} {up : Nat → List Int} {n : Nat} : ∀ m s u, u < n → gi ((stR ll ul l up n m).R s) u = -1 → gi ll s = gi ul u
  | 0, s, u, hu, h => by
    have h' : gi (r0 ll ul s n n) u = -1 := h
    rw [r0_get ll ul s n n u (Nat.le_refl _) hu] at h'
    split at h'
    · omega
    · rename_i hc
      exact Classical.not_not.1 fun h2 => hc ⟨hu, h2⟩
  | m + 1, s, u, hu, h => by
    have h2 := afE_inv (P := fun x => (∀ s u, u < n → gi (x.R s) u = -1 → gi ll s = gi ul u) ∧ LenOk n x) (up := up) (l := l) (n := n) (k := (m + 1 : Nat)) (x := { stR ll ul l up n m with ch := false })
      ⟨fun s u hu h => stR_lab m s u hu h, stR_len ll ul l up n m⟩ (fun y i u hi hu hy => ⟨?_, stepU_len hy.2⟩) l.length (Nat.le_refl _)
    · exact h2.1 s u hu h
    · unfold stepU
      split
      · intro s' u' hu' hq
        have hq' : gi (upd y.R (ge l i).f.toNat ((y.R (ge l i).f.toNat).set u ((m + 1 : Nat) : Int)) s') u' = -1 := hq
        by_cases e : s' = (ge l i).f.toNat
        · subst e
          rw [upd_same] at hq'
          by_cases e2 : u' = u
          · subst e2
            rw [gi_set_same (by rw [hy.2.1]; exact hu)] at hq'
            omega
          · rw [gi_set_other (fun h => e2 h)] at hq'; exact hy.1 _ _ hu' hq'
        · rw [upd_other _ _ e] at hq'; exact hy.1 _ _ hu' hq'
      · exact hy.1
theorem stR_fin {ll ul : List Int} {l : List E} {up : Nat → List Int} {n m : Nat} (hup : ∀ u, u < n → ∀ v ∈ up u, v.toNat < n) (h : (stR ll ul l up n (m + 1)).ch = false) : RFin ll ul l up n (stR ll ul l up n (m + 1)).R := by
  refine ⟨fun s u hu h2 => stR_lab (m + 1) s u hu h2, fun i hi u hu h2 => ?_⟩
  obtain ⟨h3, h4⟩ := afE_ch (up := up) (l := l) (n := n) (k := (m + 1 : Nat)) (x := { stR ll ul l up n m with ch := false }) l.length h
  have h5 : (stR ll ul l up n (m + 1)).R = (stR ll ul l up n m).R := by
    show (afE up l n (m + 1 : Nat) { stR ll ul l up n m with ch := false } l.length).R = _
    rw [h3]
  rw [h5] at h2 ⊢
  have h6 := h4 i hi u hu
  have h7 : (up u).any (opn (stR ll ul l up n m).R (ge l i).t.toNat (m + 1 : Nat)) = true := by
    cases hx : (up u).any (opn (stR ll ul l up n m).R (ge l i).t.toNat (m + 1 : Nat)) with
    | true => rfl
    | false => exact absurd ⟨h2, hx⟩ h6
  obtain ⟨v, hv, hv2⟩ := List.any_eq_true.1 h7
  refine ⟨v, hv, ?_⟩
  unfold opn at hv2
  rcases stR_rng ll ul l up n m (ge l i).t.toNat v.toNat (hup u hu v hv) with h8 | h8
  · exact h8
  · have h9 := h8.2
    simp at hv2
    rcases hv2 with h10 | h10
    · exact h10
    · omega
theorem cntR_le {N n : Nat} {R : Nat → List Int} (h : ∀ s, (R s).length = n) : cntR N R ≤ N * n := by
  unfold cntR
  induction N with
  | zero => simp
  | succ N ih =>
    rw [List.range_succ, List.map_append, List.sum_append, Nat.succ_mul]
    have h1 : (R N).count (-1) ≤ n := by have := List.count_le_length (a := (-1 : Int)) (l := R N); rw [h] at this; exact this
    simp only [List.map_cons, List.map_nil, List.sum_cons, List.sum_nil, Nat.add_zero]
    omega
theorem stepU_no {up : Nat → List Int} {f t i : Nat} {k : Int} {x : RS} {u : Nat} (h : ¬ (gi (x.R f) u = -1 ∧ (up u).any (opn x.R t k) = false)) : stepU up f t i k x u = x := by unfold stepU; rw [if_neg h]
theorem stepU_yes {up : Nat → List Int} {f t i : Nat} {k : Int} {x : RS} {u : Nat} (h1 : gi (x.R f) u = -1) (h2 : (up u).any (opn x.R t k) = false) : stepU up f t i k x u = ⟨upd x.R f ((x.R f).set u k), upd x.S f ((x.S f).set u (i : Int)), true⟩ := by unfold stepU; rw [if_pos ⟨h1, h2⟩]
end Go.Proofs.Ytciopdlmjciieaa
