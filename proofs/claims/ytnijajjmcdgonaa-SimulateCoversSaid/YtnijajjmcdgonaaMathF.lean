import Derived.Test.YtnijajjmcdgonaaMathD
namespace Go.Proofs.Ytnijajjmcdgonaa
open Go.RowKit
set_option linter.unusedVariables false

def gw (l : List W3) (j : Nat) : W3 := l[j]?.getD ⟨0, [], false⟩
/-- One more at a place. -/
def inc (L : List Int) (j : Nat) : List Int := L.set j (gi L j + 1)
theorem inc_len (L : List Int) (j : Nat) : (inc L j).length = L.length := by unfold inc; simp
/-- What a step, steps, a walk, walks cover: visits of states, and of steps. -/
def stepC (g : G) (c : List Int × List Int) (i : Int) : List Int × List Int := (inc c.1 (ge g.edges i.toNat).t.toNat, inc c.2 i.toNat)
def cvK (g : G) (c : List Int × List Int) (l : List Int) (k : Nat) : List Int × List Int := (l.take k).foldl (stepC g) c
def walkC (g : G) (c : List Int × List Int) (x : W3) : List Int × List Int := cvK g (inc c.1 x.first.toNat, c.2) x.steps x.steps.length
def cov0 (g : G) : List Int × List Int := (List.replicate g.n.toNat 0, List.replicate g.edges.length 0)
def covK (g : G) (l : List W3) (k : Nat) : List Int × List Int := (l.take k).foldl (walkC g) (cov0 g)
theorem cvK_zero (g : G) (c : List Int × List Int) (l : List Int) : cvK g c l 0 = c := by simp [cvK]
theorem cvK_succ (g : G) (c : List Int × List Int) (l : List Int) (k : Nat) (h : k < l.length) : cvK g c l (k + 1) = stepC g (cvK g c l k) (gi l k) := by
  unfold cvK gi
  rw [List.take_succ_eq_append_getElem h, List.foldl_append, List.getElem?_eq_getElem h]
  rfl
theorem covK_zero (g : G) (l : List W3) : covK g l 0 = cov0 g := by simp [covK]
theorem covK_succ (g : G) (l : List W3) (k : Nat) (h : k < l.length) : covK g l (k + 1) = walkC g (covK g l k) (gw l k) := by
  unfold covK gw
  rw [List.take_succ_eq_append_getElem h, List.foldl_append, List.getElem?_eq_getElem h]
  rfl

/-- The error of walks in a right graph: that of the first one that has one. -/
def firstErr (g : G) : List W3 → Int
  | [] => 0
  | x :: r => if (ckW g x.first x.steps).2 ≠ 0 then (ckW g x.first x.steps).2 else firstErr g r
noncomputable def wsErr (g : G) (l : List W3) : Int := if isG g = true then (if 60 < l.length then 2 else firstErr g l) else 5
theorem firstErr_at (g : G) : ∀ (l : List W3) (k : Nat), k < l.length → (∀ j, j < k → (ckW g (gw l j).first (gw l j).steps).2 = 0) → (ckW g (gw l k).first (gw l k).steps).2 ≠ 0 → firstErr g l = (ckW g (gw l k).first (gw l k).steps).2
  | [], k, h, _, _ => by simp at h
  | x :: r, 0, _, _, h => by
    have h' : (ckW g x.first x.steps).2 ≠ 0 := h
    unfold firstErr
    rw [if_pos h']; rfl
  | x :: r, k + 1, hk, h, h2 => by
    have h0 := h 0 (by omega)
    have : (ckW g x.first x.steps).2 = 0 := h0
    unfold firstErr
    rw [if_neg (by simp [this])]
    exact firstErr_at g r k (by simpa using hk) (fun j hj => h (j + 1) (by omega)) h2
theorem firstErr_none (g : G) : ∀ (l : List W3), (∀ j, j < l.length → (ckW g (gw l j).first (gw l j).steps).2 = 0) → firstErr g l = 0
  | [], _ => rfl
  | x :: r, h => by
    have : (ckW g x.first x.steps).2 = 0 := h 0 (by simp)
    unfold firstErr
    rw [if_neg (by simp [this])]
    exact firstErr_none g r fun j hj => h (j + 1) (by simpa using hj)
theorem firstErr_all (g : G) : ∀ (l : List W3), firstErr g l = 0 → ∀ j, j < l.length → (ckW g (gw l j).first (gw l j).steps).2 = 0
  | [], _, j, hj => by simp at hj
  | x :: r, h, j, hj => by
    unfold firstErr at h
    by_cases h0 : (ckW g x.first x.steps).2 = 0
    · rw [if_neg (by simp [h0])] at h
      match j, hj with
      | 0, _ => exact h0
      | j + 1, hj => exact firstErr_all g r h j (by simpa using hj)
    · rw [if_pos h0] at h; exact absurd h h0

/-- What is right about an accepted walk. -/
theorem steps_in {g : G} : ∀ (l : List Int) (s : Int), (stepsErr g s l).2 = 0 → ∀ k, k < l.length → 0 ≤ gi l k ∧ gi l k < g.edges.length
  | [], _, _, k, hk => by simp at hk
  | i :: r, s, h, k, hk => by
    by_cases h1 : i < 0 ∨ (g.edges.length : Int) ≤ i
    · rw [stepsErr_out h1] at h; cases h
    · by_cases h2 : (ge g.edges i.toNat).f = s
      · rw [stepsErr_next h1 h2] at h
        match k, hk with
        | 0, _ => show 0 ≤ i ∧ i < _; omega
        | k + 1, hk => exact steps_in r _ h k (by simpa using hk)
      · rw [stepsErr_clash h1 h2] at h; cases h
theorem ck_in {g : G} {x : W3} (h : (ckW g x.first x.steps).2 = 0) : x.steps.length ≤ 300 ∧ x.first ∈ g.init ∧ ∀ k, k < x.steps.length → 0 ≤ gi x.steps k ∧ gi x.steps k < g.edges.length := by
  unfold ckW at h
  by_cases h1 : 300 < x.steps.length
  · rw [if_pos h1] at h; cases h
  · rw [if_neg h1] at h
    by_cases h2 : x.first ∈ g.init
    · rw [if_pos h2] at h; exact ⟨by omega, h2, steps_in _ _ h⟩
    · rw [if_neg h2] at h; cases h

/-- How much there may be, and that all of it adds up. -/
structure CV (g : G) (c : List Int × List Int) (a b : Nat) : Prop where
  l1 : c.1.length = g.n.toNat
  l2 : c.2.length = g.edges.length
  s1 : c.1.sum = a
  s2 : c.2.sum = b
  p1 : ∀ j, 0 ≤ gi c.1 j
  p2 : ∀ j, 0 ≤ gi c.2 j
theorem inc_sum : ∀ (L : List Int) (j : Nat), j < L.length → (inc L j).sum = L.sum + 1
  | [], j, h => by simp at h
  | x :: r, 0, _ => by simp [inc, gi]; omega
  | x :: r, j + 1, h => by
    have ih := inc_sum r j (by simpa using h)
    have e1 : inc (x :: r) (j + 1) = x :: inc r j := by simp [inc, gi]
    rw [e1]; simp [ih]; omega
theorem inc_pos {L : List Int} {j : Nat} (h : ∀ i, 0 ≤ gi L i) (hj : j < L.length) : ∀ i, 0 ≤ gi (inc L j) i := fun i => by
  unfold inc
  by_cases hij : i = j
  · subst hij; rw [gi_set_same hj]; have := h i; omega
  · rw [gi_set_other hij]; exact h i
theorem gi_le_sum : ∀ (L : List Int), (∀ i, 0 ≤ gi L i) → ∀ j, gi L j ≤ L.sum
  | [], h, j => by simp [gi]
  | x :: r, h, j => by
    have h0 : 0 ≤ x := h 0
    have hr : ∀ i, 0 ≤ gi r i := fun i => h (i + 1)
    have ih := gi_le_sum r hr
    have hs : 0 ≤ r.sum := by have := ih r.length; simp [gi] at this; exact this
    match j with
    | 0 => show x ≤ _; simp; omega
    | j + 1 => have := ih j; show gi r j ≤ _; simp; omega
theorem CV.start (g : G) : CV g (cov0 g) 0 0 := by
  have hs : ∀ n : Nat, (List.replicate n (0 : Int)).sum = 0 := fun n => by simp
  have hg : ∀ n j : Nat, gi (List.replicate n (0 : Int)) j = 0 := fun n j => by
    unfold gi
    rw [List.getElem?_replicate]
    split <;> rfl
  exact ⟨by simp [cov0], by simp [cov0], hs _, hs _, fun j => by unfold cov0; rw [hg]; exact Int.le_refl _, fun j => by unfold cov0; rw [hg]; exact Int.le_refl _⟩
theorem CV.step {g : G} (hg : bOk g) {c : List Int × List Int} {a b : Nat} (h : CV g c a b) {i : Int} (hi : 0 ≤ i ∧ i < g.edges.length) : CV g (stepC g c i) (a + 1) (b + 1) := by
  have hq := hg.2.2.2.2.2 i.toNat (by omega)
  unfold edgeOk at hq
  have l1 := h.l1
  have l2 := h.l2
  refine ⟨by unfold stepC; rw [inc_len]; exact l1, by unfold stepC; rw [inc_len]; exact l2, ?_, ?_, inc_pos h.p1 (by omega), inc_pos h.p2 (by omega)⟩
  · unfold stepC; rw [inc_sum _ _ (by omega), h.s1]; omega
  · unfold stepC; rw [inc_sum _ _ (by omega), h.s2]; omega
theorem CV.first {g : G} (hg : bOk g) {c : List Int × List Int} {a b : Nat} (h : CV g c a b) {s : Int} (hs : s ∈ g.init) : CV g (inc c.1 s.toNat, c.2) (a + 1) b := by
  obtain ⟨j, hj, rfl⟩ := mem_gi.1 hs
  have hi := hg.2.2.2.2.1 j hj
  unfold initOk at hi
  have l1 := h.l1
  refine ⟨by rw [inc_len]; exact l1, h.l2, ?_, h.s2, inc_pos h.p1 (by omega), h.p2⟩
  rw [inc_sum _ _ (by omega), h.s1]; omega
theorem CV.steps {g : G} (hg : bOk g) {c : List Int × List Int} {a b : Nat} (h : CV g c a b) {l : List Int} (hl : ∀ k, k < l.length → 0 ≤ gi l k ∧ gi l k < g.edges.length) : ∀ k, k ≤ l.length → CV g (cvK g c l k) (a + k) (b + k)
  | 0, _ => by rw [cvK_zero]; exact h
  | k + 1, hk => by
    rw [cvK_succ _ _ _ _ (by omega)]
    exact (CV.steps hg h hl k (by omega)).step hg (hl k (by omega))
set_option maxRecDepth 4000 in
theorem CV.walks' {g : G} (hg : bOk g) {l : List W3} {K : Nat} (hK : K ≤ l.length) (hl : ∀ k, k < K → (ckW g (gw l k).first (gw l k).steps).2 = 0) : ∀ k, k ≤ K → ∃ b, b ≤ k * 300 ∧ CV g (covK g l k) (k + b) b
  | 0, _ => ⟨0, by omega, by rw [covK_zero]; exact CV.start g⟩
  | k + 1, hk => by
    obtain ⟨b, hb, h⟩ := CV.walks' hg hK hl k (by omega)
    obtain ⟨h1, h2, h3⟩ := ck_in (hl k (by omega))
    refine ⟨b + (gw l k).steps.length, by rw [Nat.add_mul]; omega, ?_⟩
    rw [covK_succ _ _ _ (by omega)]
    have := (h.first hg h2).steps hg h3 _ (Nat.le_refl _)
    unfold walkC
    rw [show k + 1 + (b + (gw l k).steps.length) = k + b + 1 + (gw l k).steps.length from by omega]
    exact this
theorem CV.walks {g : G} (hg : bOk g) {l : List W3} (hl : ∀ k, k < l.length → (ckW g (gw l k).first (gw l k).steps).2 = 0) : ∀ k, k ≤ l.length → ∃ b, b ≤ k * 300 ∧ CV g (covK g l k) (k + b) b := CV.walks' hg (Nat.le_refl _) hl
/-- What CoverageOf answers with. -/
noncomputable def covR (g : G) (l : List W3) : List Int × List Int := if wsErr g l = 0 then covK g l l.length else ([], [])
theorem wsErr_zero {g : G} {l : List W3} (h : wsErr g l = 0) : isG g = true ∧ l.length ≤ 60 ∧ ∀ j, j < l.length → (ckW g (gw l j).first (gw l j).steps).2 = 0 := by
  unfold wsErr at h
  by_cases h1 : isG g = true
  · rw [if_pos h1] at h
    by_cases h2 : 60 < l.length
    · rw [if_pos h2] at h; cases h
    · rw [if_neg h2] at h; exact ⟨h1, by omega, firstErr_all g l h⟩
  · rw [if_neg h1] at h; cases h
end Go.Proofs.Ytnijajjmcdgonaa
