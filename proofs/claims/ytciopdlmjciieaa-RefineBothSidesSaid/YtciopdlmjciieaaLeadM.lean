import Derived.Test.YtciopdlmjciieaaUpD
namespace Go.Proofs.Ytciopdlmjciieaa
open Go.RowKit Go.Shelf
set_option linter.unusedVariables false

theorem pN_init (low : Nat → List Int) (init : List Int) : ∀ i x, x ∈ init → x ∈ (pN low init i).q
  | 0, x, h => by rw [show (pN low init 0).q = init from p0_q _ _]; exact h
  | i + 1, x, h => by
    have ih := pN_init low init i x h
    rw [pN]
    split
    · obtain ⟨r, hr⟩ := (pK_mono (s := (gi (pN low init i).q i).toNat) (x := pN low init i) (l := low (gi (pN low init i).q i).toNat) (low (gi (pN low init i).q i).toNat).length).2
      rw [← hr]
      exact List.mem_append.2 (.inl ih)
    · exact ih

theorem upRow_lt {p : P2} {N2 : Nat} (hok : PairOk p) (hN2 : p.up.n = N2) {u : Nat} (hu : u < N2) : ∀ v ∈ upRow p u, 0 ≤ v ∧ v < (N2 : Int) := fun v hv => by
  rcases mem_upRow.1 hv with h | ⟨e, he, h1, h2⟩
  · omega
  · obtain ⟨i, hi, rfl⟩ := List.getElem_of_mem he
    have hE := hok.up.2.2.2 i hi
    unfold edgeOk at hE
    have hg : ge p.up.edges i = p.up.edges[i] := by simp [ge, List.getElem?_eq_getElem hi]
    rw [hg] at hE
    have h3 : 0 ≤ p.up.edges[i].t := hE.1.2.1
    have h4 : p.up.edges[i].t < p.up.n := hE.2.1.2
    omega
theorem lowRow_lt {p : P2} {N1 : Nat} (hok : PairOk p) (hN1 : p.lo.n = N1) (s : Nat) : ∀ v ∈ lowRow p s, 0 ≤ v ∧ v < (N1 : Int) := fun v hv => by
  obtain ⟨e, he, -, rfl⟩ := mem_nb.1 hv
  obtain ⟨i, hi, rfl⟩ := List.getElem_of_mem he
  have hE := hok.lo.2.2.2 i hi
  unfold edgeOk at hE
  have hg : ge p.lo.edges i = p.lo.edges[i] := by simp [ge, List.getElem?_eq_getElem hi]
  rw [hg] at hE
  have h3 : 0 ≤ p.lo.edges[i].t := hE.1.2.1
  have h4 : p.lo.edges[i].t < p.lo.n := hE.2.1.2
  omega

/-- The rest of a path can be gone along from an upper state that is not ranked. -/
theorem canS_of {p : P2} {N2 : Nat} {R : Nat → List Int} (hok : PairOk p) (hN2 : p.up.n = N2) (hF : RFin p.ll p.ul p.lo.edges (upRow p) N2 R) :
    ∀ (r : List Int) (s : Int) (u : Nat), u < N2 → 0 ≤ s → (∀ x ∈ r, 0 ≤ x) → gi (R s.toNat) u = -1 → (∀ i, i < r.length → gi (s :: r) (i + 1) = gi (s :: r) i ∨ gi (s :: r) (i + 1) ∈ lowRow p (gi (s :: r) i).toNat) → canS p (s :: r) u = true
  | [], s, u, hu, hs, hr, h, hst => by
    have hself : (u : Int) ∈ upRow p u := mem_upRow.2 (.inl rfl)
    have hl := hF.lab s.toNat u hu h
    unfold canS
    rw [Bool.and_eq_true]
    refine ⟨?_, by simp [hl]⟩
    unfold anyP
    exact List.any_eq_true.2 ⟨_, hself, rfl⟩
  | s' :: r, s, u, hu, hs, hr, h, hst => by
    have hl := hF.lab s.toNat u hu h
    have hs' : 0 ≤ s' := hr s' (by simp)
    have hr' : ∀ x ∈ r, 0 ≤ x := fun x hx => hr x (List.mem_cons_of_mem _ hx)
    have hst' : ∀ i, i < r.length → gi (s' :: r) (i + 1) = gi (s' :: r) i ∨ gi (s' :: r) (i + 1) ∈ lowRow p (gi (s' :: r) i).toNat := fun i hi => hst (i + 1) (by simp; omega)
    have h0 : s' = s ∨ s' ∈ lowRow p s.toNat := hst 0 (by simp)
    rw [show canS p (s :: s' :: r) u = (anyP (fun v => canS p (s' :: r) v.toNat) (upRow p u) && decide (gi p.ul u = gi p.ll s.toNat)) from rfl, Bool.and_eq_true]
    refine ⟨?_, by simp [hl]⟩
    unfold anyP
    rcases h0 with h0 | h0
    · subst h0
      exact List.any_eq_true.2 ⟨(u : Int), mem_upRow.2 (.inl rfl), by simpa using canS_of hok hN2 hF r s' u hu hs' hr' h hst'⟩
    · obtain ⟨e, he, hef, het⟩ := mem_nb.1 h0
      obtain ⟨i, hi, rfl⟩ := List.getElem_of_mem he
      have hg : ge p.lo.edges i = p.lo.edges[i] := by simp [ge, List.getElem?_eq_getElem hi]
      have h1 : (ge p.lo.edges i).f.toNat = s.toNat := by rw [hg, hef]; rfl
      have h2 : (ge p.lo.edges i).t = s' := by rw [hg, het]
      obtain ⟨v, hv, hv2⟩ := hF.go i hi u hu (by rw [h1]; exact h)
      rw [h2] at hv2
      have hvl := upRow_lt hok hN2 hu v hv
      exact List.any_eq_true.2 ⟨v, hv, canS_of hok hN2 hF r s' v.toNat (by omega) hs' hr' hv2 hst'⟩
/-- The greedy path is found. -/
theorem upR_of {p : P2} : ∀ (l next : List Int), (l = [] ∨ ∃ u ∈ next, canS p l u.toNat = true) → ∃ q, upR p next l = some q ∧ q.length = l.length
  | [], next, _ => ⟨[], rfl, rfl⟩
  | s :: r, next, h => by
    obtain ⟨u, hu, hc⟩ := h.resolve_left (by simp)
    obtain ⟨u0, h0⟩ : ∃ u0, next.find? (fun u => canS p (s :: r) u.toNat) = some u0 := by
      cases hf : next.find? (fun u => canS p (s :: r) u.toNat) with
      | some u0 => exact ⟨u0, rfl⟩
      | none => exact absurd hc (by have := List.find?_eq_none.1 hf u hu; simpa using this)
    have hc0 : canS p (s :: r) u0.toNat = true := by simpa using List.find?_some h0
    have hnx : r = [] ∨ ∃ v ∈ upRow p u0.toNat, canS p r v.toNat = true := by
      unfold canS at hc0
      rw [Bool.and_eq_true] at hc0
      unfold anyP at hc0
      obtain ⟨v, hv, hv2⟩ := List.any_eq_true.1 hc0.1
      exact .inr ⟨v, hv, hv2⟩
    obtain ⟨q, h1, h2⟩ := upR_of r (upRow p u0.toNat) hnx
    refine ⟨u0 :: q, ?_, by simp [h2]⟩
    rw [upR, h0]
    simp [h1]
/-- Each path of a graph that is simulated has an upper one. -/
theorem path_up {p : P2} {N2 : Nat} {R S : Nat → List Int} {l : List Int} (hok : PairOk p) (hN2 : p.up.n = N2) (hF : FinR p N2 R S) (hS : ∀ s ∈ p.lo.init, ∃ u ∈ p.up.init, gi (R s.toNat) u.toNat = -1) (hP : PathOk p l) : ∃ q, upR p p.up.init l = some q ∧ q.length = l.length := by
  obtain ⟨m, hch, -, rfl, -⟩ := hF
  have hfin := stR_fin (ll := p.ll) (ul := p.ul) (l := p.lo.edges) (up := upRow p) (n := N2) (m := m) (fun u hu v hv => by have := upRow_lt hok hN2 hu v hv; omega) hch
  obtain ⟨u, hu, hu2⟩ := hS _ hP.init
  rcases l with _ | ⟨s, r⟩
  · exact absurd rfl hP.ne
  have hul : 0 ≤ u ∧ u < (N2 : Int) := by
    obtain ⟨k, hk, rfl⟩ := mem_gi.1 hu
    have h := hok.up.2.2.1 k hk
    have h1 : 0 ≤ gi p.up.init k := h.1
    have h2 : gi p.up.init k < p.up.n := h.2.1
    omega
  refine upR_of _ _ (.inr ⟨u, hu, canS_of hok hN2 hfin r s u.toNat (by omega) (hP.rng s (by simp)).1 (fun x hx => (hP.rng x (List.mem_cons_of_mem _ hx)).1) hu2 (fun i hi => hP.step i (by simp; omega))⟩)
/-- What is refined is simulated. -/
theorem map_sim {p : P2} {N1 N2 i : Nat} {R S : Nat → List Int} {m : List Int} (hok : PairOk p) (hN1 : p.lo.n = N1) (hN2 : p.up.n = N2) (hnd : p.lo.init.Nodup) (hF : FinR p N2 R S) (hf : FormOk p m) (hi : (pnP p i).q.length = i) (hM : MapOk p m (pnP p i).o) :
    ∀ s ∈ p.lo.init, ∃ u ∈ p.up.init, gi (R s.toNat) u.toNat = -1 := by
  have hir : ∀ v ∈ p.lo.init, 0 ≤ v ∧ v < (N1 : Int) := fun v hv => by
    obtain ⟨k, hk, rfl⟩ := mem_gi.1 hv
    have h := hok.lo.2.2.1 k hk
    have h1 : 0 ≤ gi p.lo.init k := h.1
    have h2 : gi p.lo.init k < p.lo.n := h.2.1
    omega
  have hlr : ∀ s, s < N1 → ∀ v ∈ lowRow p s, 0 ≤ v ∧ v < (N1 : Int) := fun s _ => lowRow_lt hok hN1 s
  have hPI : PI N1 (pnP p i) := PI.at hir hnd hlr i
  have hcl := pN_closed hir hnd hlr i (by show i ≤ (pnP p i).q.length; omega)
  have hml : (m.length : Int) = N1 := by have := hf.len; omega
  obtain ⟨mm, hch, -, rfl, -⟩ := hF
  have hQ : IsSim p.ll p.ul p.lo.edges (upRow p) (fun s u => s < N1 ∧ (pnP p i).o s ≠ none ∧ u = (gi m s).toNat) := by
    refine ⟨fun s u ⟨h1, h2, h3⟩ => ?_, fun j hj u ⟨h1, h2, h3⟩ => ?_⟩
    · rw [h3]; exact hM.lab s (by omega) h2
    · have hstep := hM.step j hj h2
      have hE := hok.lo.2.2.2 j hj
      unfold edgeOk at hE
      have hf0 : 0 ≤ (ge p.lo.edges j).f := hE.1.1
      have ht0 : 0 ≤ (ge p.lo.edges j).t := hE.1.2.1
      have ht1 : (ge p.lo.edges j).t < p.lo.n := hE.2.1.2
      have hin : (ge p.lo.edges j).t ∈ lowRow p (ge p.lo.edges j).f.toNat := mem_nb.2 ⟨ge p.lo.edges j, by simp [ge, List.getElem?_eq_getElem hj], by omega, rfl⟩
      have hq := (hPI.iff _).1 h2
      obtain ⟨k, hk, hk2⟩ := mem_gi.1 hq
      have hk3 : (gi (pnP p i).q k).toNat = (ge p.lo.edges j).f.toNat := by rw [hk2]; rfl
      have ho := hcl k (by omega) (ge p.lo.edges j).t (by show _ ∈ lowRow p (gi (pnP p i).q k).toNat; rw [hk3]; exact hin)
      exact ⟨gi m (ge p.lo.edges j).t.toNat, by rw [h3]; exact hstep, by omega, ho, rfl⟩
  intro s hs
  have hsr := hir s hs
  have ho : (pnP p i).o s.toNat ≠ none := (hPI.iff _).2 (by have := pN_init (lowRow p) p.lo.init i s hs; rw [Int.toNat_of_nonneg hsr.1]; exact this)
  refine ⟨gi m s.toNat, hM.init s hs, ?_⟩
  have hrg := hf.rng _ (gi_mem (l := m) (j := s.toNat) (by omega))
  exact stR_sim hQ (fun s u ⟨h1, h2, h3⟩ => by have := hf.rng _ (gi_mem (l := m) (j := s) (by omega)); omega) (mm + 1) s.toNat _ ⟨by omega, ho, rfl⟩
end Go.Proofs.Ytciopdlmjciieaa
