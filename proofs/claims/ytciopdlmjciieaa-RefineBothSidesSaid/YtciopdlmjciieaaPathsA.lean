import Derived.Test.YtciopdlmjciieaaKeep
import Derived.Test.YtciopdlmjciieaaBox
namespace Go.Proofs.Ytciopdlmjciieaa
open Go.RowKit
set_option linter.unusedVariables false

/-- The paths that are known, and the states in the order in which they were found. -/
structure PS where
  o : Nat → Option (List Int)
  q : List Int
def pT (s : Nat) (x : PS) (t : Int) : PS := if x.o t.toNat = none then ⟨upd x.o t.toNat (some ((x.o s).getD [] ++ [t])), x.q ++ [t]⟩ else x
def pK (s : Nat) (x : PS) (l : List Int) : Nat → PS
  | 0 => x
  | k + 1 => pT s (pK s x l k) (gi l k)
def p0 (init : List Int) : Nat → PS
  | 0 => ⟨fun _ => none, init⟩
  | k + 1 => ⟨upd (p0 init k).o (gi init k).toNat (some [gi init k]), init⟩
def pN (low : Nat → List Int) (init : List Int) : Nat → PS
  | 0 => p0 init init.length
  | i + 1 => if i < (pN low init i).q.length then pK (gi (pN low init i).q i).toNat (pN low init i) (low (gi (pN low init i).q i).toNat) (low (gi (pN low init i).q i).toNat).length else pN low init i

/-- What is so at all times: the states found are those that have a path, each once, and below n. -/
structure PI (n : Nat) (x : PS) : Prop where
  iff : ∀ s : Nat, x.o s ≠ none ↔ (s : Int) ∈ x.q
  rng : ∀ v ∈ x.q, 0 ≤ v ∧ v < (n : Int)
  nd : x.q.Nodup
  ne : ∀ s l, x.o s = some l → l ≠ []
  ln : ∀ s l, x.o s = some l → l.length ≤ x.q.length
theorem nodup_le : ∀ (n : Nat) (l : List Int), (∀ v ∈ l, 0 ≤ v ∧ v < (n : Int)) → l.Nodup → l.length ≤ n
  | 0, l, h, _ => by
    rcases l with _ | ⟨a, r⟩
    · exact Nat.le_refl _
    · have := h a (by simp); omega
  | n + 1, l, h, hd => by
    have h1 : ∀ v ∈ l.erase (n : Int), 0 ≤ v ∧ v < (n : Int) := fun v hv => by
      have h2 := (List.Nodup.mem_erase_iff hd).1 hv
      have h3 := h v h2.2
      have h4 := h2.1
      omega
    have ih := nodup_le n (l.erase (n : Int)) h1 (hd.erase _)
    rw [List.length_erase] at ih
    split at ih <;> omega
theorem PI.step {n s : Nat} {x : PS} {t : Int} (h : PI n x) (h0 : 0 ≤ t) (ht : t < (n : Int)) : PI n (pT s x t) := by
  have hs0 : ((x.o s).getD []).length ≤ x.q.length := by
    cases hx : x.o s with
    | none => simp
    | some l => exact h.ln s l hx
  unfold pT
  split
  · rename_i hn
    have hnq : t ∉ x.q := fun hm => by
      have := (h.iff t.toNat).2 (by rw [Int.toNat_of_nonneg h0]; exact hm)
      exact this hn
    refine ⟨fun s' => ?_, fun v hv => ?_, ?_, fun s' l hl => ?_, fun s' l hl => ?_⟩
    · show upd x.o t.toNat _ s' ≠ none ↔ (s' : Int) ∈ x.q ++ [t]
      rw [List.mem_append, List.mem_singleton]
      by_cases e : s' = t.toNat
      · subst e
        rw [upd_same]
        exact ⟨fun _ => .inr (Int.toNat_of_nonneg h0), fun _ => by simp⟩
      · rw [upd_other _ _ e, h.iff]
        exact ⟨fun h => .inl h, fun h => h.elim id (fun h => absurd (by rw [← h]; simp) e)⟩
    · rcases List.mem_append.1 hv with hv | hv
      · exact h.rng v hv
      · rw [List.mem_singleton] at hv; subst hv; exact ⟨h0, ht⟩
    · show (x.q ++ [t]).Nodup
      rw [List.nodup_append]
      exact ⟨h.nd, by simp, fun a ha b hb => by rw [List.mem_singleton] at hb; subst hb; exact fun e => hnq (e ▸ ha)⟩
    · have hl' : upd x.o t.toNat (some ((x.o s).getD [] ++ [t])) s' = some l := hl
      by_cases e : s' = t.toNat
      · subst e; rw [upd_same] at hl'; injection hl' with hl'; rw [← hl']; simp
      · rw [upd_other _ _ e] at hl'; exact h.ne s' l hl'
    · have hl' : upd x.o t.toNat (some ((x.o s).getD [] ++ [t])) s' = some l := hl
      show l.length ≤ (x.q ++ [t]).length
      rw [List.length_append]
      by_cases e : s' = t.toNat
      · subst e; rw [upd_same] at hl'; injection hl' with hl'; rw [← hl', List.length_append]; simp; omega
      · rw [upd_other _ _ e] at hl'; have := h.ln s' l hl'; simp; omega
  · exact h
theorem PI.row {n s : Nat} {x : PS} {l : List Int} (h : PI n x) (hl : ∀ v ∈ l, 0 ≤ v ∧ v < (n : Int)) : ∀ k, k ≤ l.length → PI n (pK s x l k)
  | 0, _ => h
  | k + 1, hk => (PI.row h hl k (by omega)).step (hl _ (gi_mem (by omega))).1 (hl _ (gi_mem (by omega))).2
/-- What has a path keeps it; the queue only grows. -/
theorem pT_mono {s : Nat} {x : PS} {t : Int} : (∀ u, x.o u ≠ none → (pT s x t).o u = x.o u) ∧ x.q <+: (pT s x t).q := by
  unfold pT
  split
  · rename_i hn
    refine ⟨fun u hu => ?_, List.prefix_append _ _⟩
    show upd x.o t.toNat _ u = _
    by_cases e : u = t.toNat
    · subst e; exact absurd hn hu
    · rw [upd_other _ _ e]
  · exact ⟨fun u hu => rfl, List.prefix_refl _⟩
theorem pK_mono {s : Nat} {x : PS} {l : List Int} : ∀ k, (∀ u, x.o u ≠ none → (pK s x l k).o u = x.o u) ∧ x.q <+: (pK s x l k).q
  | 0 => ⟨fun u hu => rfl, List.prefix_refl _⟩
  | k + 1 => by
    have ih := pK_mono (s := s) (x := x) (l := l) k
    have h := pT_mono (s := s) (x := pK s x l k) (t := gi l k)
    refine ⟨fun u hu => ?_, ih.2.trans h.2⟩
    have e := ih.1 u hu
    rw [← e]
    exact h.1 u (by rw [e]; exact hu)
theorem pK_has {s : Nat} {x : PS} {l : List Int} : ∀ k j, j < k → (pK s x l k).o (gi l j).toNat ≠ none
  | k + 1, j, hj => by
    have h := pT_mono (s := s) (x := pK s x l k) (t := gi l k)
    rcases Nat.lt_succ_iff_lt_or_eq.1 hj with h1 | h1
    · have ih := pK_has (s := s) (x := x) (l := l) k j h1
      show (pT s (pK s x l k) (gi l k)).o _ ≠ none
      rw [h.1 _ ih]; exact ih
    · subst h1
      show (pT s (pK s x l j) (gi l j)).o _ ≠ none
      unfold pT
      split
      · show upd _ _ _ _ ≠ none
        rw [upd_same]; simp
      · rename_i hn; exact hn

theorem p0_q (init : List Int) : ∀ k, (p0 init k).q = init
  | 0 => rfl
  | k + 1 => rfl
theorem p0_iff (init : List Int) (h : ∀ v ∈ init, 0 ≤ v) : ∀ k, k ≤ init.length → ∀ s : Nat, (p0 init k).o s ≠ none ↔ ∃ j, j < k ∧ gi init j = (s : Int)
  | 0, _, s => ⟨fun h => absurd rfl h, fun ⟨j, hj, _⟩ => by omega⟩
  | k + 1, hk, s => by
    have ih := p0_iff init h k (by omega) s
    show upd (p0 init k).o (gi init k).toNat _ s ≠ none ↔ _
    have hg := h _ (gi_mem (show k < init.length by omega))
    by_cases e : s = (gi init k).toNat
    · subst e
      rw [upd_same]
      exact ⟨fun _ => ⟨k, by omega, (Int.toNat_of_nonneg hg).symm⟩, fun _ => by simp⟩
    · rw [upd_other _ _ e, ih]
      constructor
      · rintro ⟨j, hj, h2⟩; exact ⟨j, by omega, h2⟩
      · rintro ⟨j, hj, h2⟩
        rcases Nat.lt_succ_iff_lt_or_eq.1 hj with h1 | h1
        · exact ⟨j, h1, h2⟩
        · subst h1; exact absurd (by omega) e
theorem p0_ne (init : List Int) : ∀ k s l, (p0 init k).o s = some l → l ≠ []
  | 0, s, l, h => by cases h
  | k + 1, s, l, h => by
    have h' : upd (p0 init k).o (gi init k).toNat (some [gi init k]) s = some l := h
    by_cases e : s = (gi init k).toNat
    · subst e; rw [upd_same] at h'; injection h' with h'; rw [← h']; simp
    · rw [upd_other _ _ e] at h'; exact p0_ne init k s l h'
theorem p0_ln (init : List Int) : ∀ k, k ≤ init.length → ∀ s l, (p0 init k).o s = some l → l.length ≤ init.length
  | 0, _, s, l, h => by cases h
  | k + 1, hk, s, l, h => by
    have h' : upd (p0 init k).o (gi init k).toNat (some [gi init k]) s = some l := h
    by_cases e : s = (gi init k).toNat
    · subst e; rw [upd_same] at h'; injection h' with h'; rw [← h']; simp; omega
    · rw [upd_other _ _ e] at h'; exact p0_ln init k (by omega) s l h'
theorem PI.start {n : Nat} {init : List Int} (h : ∀ v ∈ init, 0 ≤ v ∧ v < (n : Int)) (hd : init.Nodup) : PI n (p0 init init.length) := by
  refine ⟨fun s => ?_, fun v hv => ?_, ?_, p0_ne init _, fun s l hl => by rw [p0_q]; exact p0_ln init _ (Nat.le_refl _) s l hl⟩
  · rw [p0_iff init (fun v hv => (h v hv).1) _ (Nat.le_refl _) s, p0_q, mem_gi]
  · rw [p0_q] at hv; exact h v hv
  · rw [p0_q]; exact hd
theorem PI.at {n : Nat} {low : Nat → List Int} {init : List Int} (h : ∀ v ∈ init, 0 ≤ v ∧ v < (n : Int)) (hd : init.Nodup) (hl : ∀ s, s < n → ∀ v ∈ low s, 0 ≤ v ∧ v < (n : Int)) : ∀ i, PI n (pN low init i)
  | 0 => PI.start h hd
  | i + 1 => by
    have ih := PI.at h hd hl i
    unfold pN
    split
    · rename_i hi
      have := ih.rng _ (gi_mem hi)
      exact ih.row (hl _ (by omega)) _ (Nat.le_refl _)
    · exact ih
/-- The first i states have been gone through: where they lead has a path. -/
theorem pN_closed {n : Nat} {low : Nat → List Int} {init : List Int} (h : ∀ v ∈ init, 0 ≤ v ∧ v < (n : Int)) (hd : init.Nodup) (hl : ∀ s, s < n → ∀ v ∈ low s, 0 ≤ v ∧ v < (n : Int)) :
    ∀ i, i ≤ (pN low init i).q.length → ∀ j, j < i → ∀ t ∈ low (gi (pN low init i).q j).toNat, (pN low init i).o t.toNat ≠ none
  | 0, _, j, hj, t, ht => by omega
  | i + 1, hi, j, hj, t, ht => by
    have hII : i < (pN low init i).q.length := by
      unfold pN at hi
      split at hi
      · assumption
      · omega
    have e : pN low init (i + 1) = pK (gi (pN low init i).q i).toNat (pN low init i) (low (gi (pN low init i).q i).toNat) (low (gi (pN low init i).q i).toNat).length := by
      rw [pN, if_pos hII]
    have hm := pK_mono (s := (gi (pN low init i).q i).toNat) (x := pN low init i) (l := low (gi (pN low init i).q i).toNat) (low (gi (pN low init i).q i).toNat).length
    rw [e] at ht ⊢
    have hq : gi (pK (gi (pN low init i).q i).toNat (pN low init i) (low (gi (pN low init i).q i).toNat) (low (gi (pN low init i).q i).toNat).length).q j = gi (pN low init i).q j := by
      obtain ⟨r, hr⟩ := hm.2
      rw [← hr, gi_app_lt (by omega)]
    rw [hq] at ht
    rcases Nat.lt_succ_iff_lt_or_eq.1 hj with h1 | h1
    · have ih := pN_closed h hd hl i (by omega) j h1 t ht
      rw [hm.1 _ ih]; exact ih
    · subst h1
      obtain ⟨k, hk, rfl⟩ := mem_gi.1 ht
      exact pK_has _ k hk
end Go.Proofs.Ytciopdlmjciieaa
