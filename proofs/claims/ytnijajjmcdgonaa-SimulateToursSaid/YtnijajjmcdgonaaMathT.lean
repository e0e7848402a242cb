import Derived.Test.YtnijajjmcdgonaaMathH
import Derived.Test.YtnijajjmcdgonaaCovE
import Derived.Test.YtnijajjmcdgonaaLeastB
import Derived.Test.YtnijajjmcdgonaaTourA
namespace Go.Proofs.Ytnijajjmcdgonaa
open Go.RowKit
set_option linter.unusedVariables false

/-! Tours: the mathematics. -/
open Classical in
/-- What is left when the steps T are taken. -/
noncomputable def Sof (g : G) (T : List Int) : Int → Bool := fun i => decide (∃ e : Nat, e < g.edges.length ∧ i = (e : Int) ∧ gi (dl g) (ge g.edges e).f.toNat ≠ -1 ∧ i ∉ T)
theorem Sof_iff {g : G} {T : List Int} {i : Int} : Sof g T i = true ↔ ∃ e : Nat, e < g.edges.length ∧ i = (e : Int) ∧ gi (dl g) (ge g.edges e).f.toNat ≠ -1 ∧ i ∉ T := by
  unfold Sof
  exact decide_eq_true_iff
theorem Sof_edge {g : G} {T : List Int} {e : Nat} (h : Sof g T e = true) : gi (dl g) (ge g.edges e).f.toNat ≠ -1 ∧ (e : Int) ∉ T := by
  obtain ⟨e', -, h1, h2, h3⟩ := Sof_iff.1 h
  have : e' = e := by omega
  subst this
  exact ⟨h2, h3⟩
theorem Sof_congr {g : G} {T T' : List Int} (h : ∀ i, i ∈ T ↔ i ∈ T') : Sof g T = Sof g T' := by
  funext i
  cases h1 : Sof g T i <;> cases h2 : Sof g T' i <;> try rfl
  · obtain ⟨e, a, b, c, d⟩ := Sof_iff.1 h2
    rw [Sof_iff.2 ⟨e, a, b, c, fun h3 => d ((h i).1 h3)⟩] at h1
    cases h1
  · obtain ⟨e, a, b, c, d⟩ := Sof_iff.1 h1
    rw [Sof_iff.2 ⟨e, a, b, c, fun h3 => d ((h i).2 h3)⟩] at h2
    cases h2
theorem Sof_del (g : G) (T : List Int) (k : Int) : delS (Sof g T) k = Sof g (T ++ [k]) := by
  funext i
  unfold delS
  by_cases h : i = k
  · rw [if_pos h]
    cases h2 : Sof g (T ++ [k]) i
    · rfl
    · obtain ⟨e, a, b, c, d⟩ := Sof_iff.1 h2
      exact absurd (by simp [h]) d
  · rw [if_neg h]
    cases h1 : Sof g T i <;> cases h2 : Sof g (T ++ [k]) i <;> try rfl
    · obtain ⟨e, a, b, c, d⟩ := Sof_iff.1 h2
      rw [Sof_iff.2 ⟨e, a, b, c, fun h3 => d (by simp [h3])⟩] at h1
      cases h1
    · obtain ⟨e, a, b, c, d⟩ := Sof_iff.1 h1
      rw [Sof_iff.2 ⟨e, a, b, c, fun h3 => (by rcases List.mem_append.1 h3 with h4 | h4; exact d h4; exact h (by simpa using h4))⟩] at h2
      cases h2
theorem Sof_m1 (g : G) (T : List Int) : Sof g T (-1) = false := by
  cases h : Sof g T (-1)
  · rfl
  · obtain ⟨e, a, b, c, d⟩ := Sof_iff.1 h
    omega
theorem cnt_mono {S S' : Int → Bool} (h : ∀ i, S' i = true → S i = true) : ∀ m, cnt S' m ≤ cnt S m
  | 0 => Nat.le_refl _
  | m + 1 => by
    have ih := cnt_mono h m
    have := h m
    unfold cnt
    cases h1 : S' (m : Int) <;> cases h2 : S (m : Int) <;> simp_all <;> omega
theorem cnt_less {S S' : Int → Bool} (h : ∀ i, S' i = true → S i = true) {k : Nat} (h1 : S k = true) (h2 : S' k = false) : ∀ {m}, k < m → cnt S' m + 1 ≤ cnt S m
  | m + 1, hk => by
    have := h m
    have hm := cnt_mono h m
    unfold cnt
    by_cases he : k = m
    · subst he
      rw [h1, h2]
      simp
      omega
    · have ih := cnt_less h h1 h2 (m := m) (by omega)
      cases h3 : S' (m : Int) <;> cases h4 : S (m : Int) <;> simp_all <;> omega

/-- What is left of the first k steps. -/
noncomputable def SK (g : G) (k : Nat) : Int → Bool := fun i => Sof g [] i && decide (i < (k : Int))
theorem SK_zero (g : G) : SK g 0 = fun _ => false := by
  funext i
  unfold SK
  cases h : Sof g [] i
  · rfl
  · obtain ⟨e, a, b, c, d⟩ := Sof_iff.1 h
    simp
    omega
theorem SK_at (g : G) (k : Nat) : SK g k (k : Int) = false := by simp [SK]
theorem SK_more {g : G} {k : Nat} (hk : k < g.edges.length) (hd : gi (dl g) (ge g.edges k).f.toNat ≠ -1) : addS (SK g k) k = SK g (k + 1) := by
  funext i
  unfold addS SK
  by_cases h : i = k
  · subst h
    rw [if_pos rfl, Sof_iff.2 ⟨k, hk, rfl, hd, by simp⟩]
    simp
    omega
  · rw [if_neg h]
    have : decide (i < (k : Int)) = decide (i < ((k + 1 : Nat) : Int)) := by
      rw [decide_eq_decide]; omega
    rw [this]
theorem SK_skip {g : G} {k : Nat} (hd : gi (dl g) (ge g.edges k).f.toNat = -1) : SK g k = SK g (k + 1) := by
  funext i
  unfold SK
  cases h : Sof g [] i
  · rfl
  · obtain ⟨e, a, b, c, d⟩ := Sof_iff.1 h
    have : e ≠ k := fun h => by subst h; exact c hd
    have : decide (i < (k : Int)) = decide (i < ((k + 1 : Nat) : Int)) := by
      rw [decide_eq_decide]; omega
    rw [this]
theorem SK_all (g : G) : SK g g.edges.length = Sof g [] := by
  funext i
  unfold SK
  cases h : Sof g [] i
  · rfl
  · obtain ⟨e, a, b, c, d⟩ := Sof_iff.1 h
    simp
    omega

/-- A walk that a tour has. -/
structure GW (g : G) (most : Nat) (x : W3) : Prop where
  fi : x.first ∈ g.init
  ok : stepsErr g x.first x.steps = (en g x, 0)
  le : x.steps.length ≤ most
  ne : 0 < x.steps.length
def lastOf (x : W3) : Int := gi x.steps (x.steps.length - 1)
def flat (l : List W3) : List Int := l.flatMap W3.steps
theorem flat_nil : flat [] = [] := rfl
theorem flat_snoc (l : List W3) (x : W3) : flat (l ++ [x]) = flat l ++ x.steps := by simp [flat]
structure TI (g : G) (most : Nat) (l : List W3) : Prop where
  gw : ∀ j, j < l.length → GW g most (gw l j)
  new : ∀ j, j < l.length → lastOf (Go.Proofs.Ytnijajjmcdgonaa.gw l j) ∉ flat (l.take j)
theorem TI.nil (g : G) (most : Nat) : TI g most [] := ⟨fun j h => by simp at h, fun j h => by simp at h⟩
theorem TI.more {g : G} {most : Nat} {l : List W3} {x : W3} (h : TI g most l) (hx : GW g most x) (hn : lastOf x ∉ flat l) : TI g most (l ++ [x]) := by
  refine ⟨fun j hj => ?_, fun j hj => ?_⟩
  · rw [List.length_append] at hj
    have hj' : j < l.length + 1 := hj
    by_cases hjk : j < l.length
    · rw [gw_app_lt hjk]; exact h.gw j hjk
    · obtain rfl : j = l.length := by omega
      rw [gw_app_at]; exact hx
  · rw [List.length_append] at hj
    have hj' : j < l.length + 1 := hj
    by_cases hjk : j < l.length
    · rw [gw_app_lt hjk, List.take_append_of_le_length (by omega)]; exact h.new j hjk
    · obtain rfl : j = l.length := by omega
      rw [gw_app_at, List.take_append_of_le_length (Nat.le_refl _), List.take_length]; exact hn

/-- The last step of a walk that is wanted. -/
theorem said_last {g : G} {S : Int → Bool} {f : Int} {L : List Int} (h1 : S (-1) = false) (h : LeastSaid g (fun i _ => S i) ⟨f, L, false⟩ true) :
    ∃ d, L.length = d + 1 ∧ f ∈ g.init ∧ stepsErr g f L = (en g ⟨f, L, false⟩, 0) ∧ S (gi L d) = true ∧ ∀ (e m : Nat), e < g.edges.length → S e = true → IsDist g (ge g.edges e).f m → L.length ≤ m + 1 := by
  rcases h with ⟨-, d, hd, hlt⟩ | ⟨h, -⟩
  · obtain ⟨hh, -⟩ := hd
    match d, hh, hlt with
    | 0, hh, _ =>
      obtain ⟨s, -, -, hs⟩ := hh
      exact absurd hs (by simp [h1])
    | d + 1, hh, hlt =>
      obtain ⟨k', i, hi, hk, hK, hP⟩ := hh
      have hK2 := hK.more hi
      rw [← hk] at hK2
      obtain ⟨f', r, e1, hf, hl, hs⟩ := hK2
      unfold key at e1
      injection e1 with e1 e2
      simp only at e1 e2
      subst e1 e2
      obtain ⟨f2, r2, rfl, -, hl2, -⟩ := hK
      unfold key at hk
      simp only [List.cons_append] at hk
      injection hk with hk1 hk2
      refine ⟨d, hl, hf, ?_, ?_, ?_⟩
      · have : en g ⟨f, L, false⟩ = (ge g.edges i).t := by unfold en; rw [hs]
        rw [this]; exact hs
      · rw [hk2, ← hl2, gi_app_at]; exact hP
      · intro e m he hS hD
        rcases Nat.lt_or_ge m d with hmd | hmd
        · exfalso
          obtain ⟨z, hz⟩ := (R_iff g m _).1 (dist_R hD).1
          exact hlt (m + 1) (by omega) _ ⟨z, e, he, rfl, hz, hS⟩
        · omega
  · cases h
theorem said_none {g : G} {S : Int → Bool} {x : W3} (h : LeastSaid g (fun i _ => S i) x false) : ∀ (e m : Nat), e < g.edges.length → S e = true → ¬ IsDist g (ge g.edges e).f m := by
  rcases h with ⟨h, -⟩ | ⟨-, h⟩
  · cases h
  · intro e m he hS hD
    obtain ⟨z, hz⟩ := (R_iff g m _).1 (dist_R hD).1
    exact h (m + 1) _ ⟨z, e, he, rfl, hz, hS⟩
theorem stepsErr_app (g : G) : ∀ (l m : List Int) (s : Int), (stepsErr g s l).2 = 0 → stepsErr g s (l ++ m) = stepsErr g (stepsErr g s l).1 m
  | [], m, s, h => rfl
  | j :: r, m, s, h => by
    rw [List.cons_append]
    by_cases h1 : j < 0 ∨ (g.edges.length : Int) ≤ j
    · rw [stepsErr_out h1] at h; cases h
    · by_cases h2 : (ge g.edges j.toNat).f = s
      · rw [stepsErr_next h1 h2] at h
        rw [stepsErr_next h1 h2, stepsErr_next h1 h2]; exact stepsErr_app g r m _ h
      · rw [stepsErr_clash h1 h2] at h; cases h
theorem stepsErr_g (g : G) (F : List Int) : ∀ (l : List Int) (s : Int), stepsErr ⟨g.n, F, g.edges⟩ s l = stepsErr g s l
  | [], s => rfl
  | j :: r, s => by
    unfold stepsErr
    simp only [stepsErr_g g F r]
/-- A distance in a graph is no greater than its number of steps. -/
theorem dist_le {g : G} : ∀ (d : Nat) (s : Int), IsDist g s (d : Int) → d ≤ g.edges.length := by
  classical
  let Sd : Nat → Int → Bool := fun j i => decide (∃ (e q : Nat), i = (e : Int) ∧ e < g.edges.length ∧ q < j ∧ IsDist g (ge g.edges e).t ((q + 1 : Nat) : Int))
  have key : ∀ (d : Nat) (s : Int), IsDist g s (d : Int) → d ≤ cnt (Sd d) g.edges.length := by
    intro d
    induction d with
    | zero => intro s _; omega
    | succ d ih =>
      intro s hs
      obtain ⟨⟨e, he, ht, hr⟩, hmin⟩ := dist_R hs
      obtain ⟨m, hm, hd⟩ := R_dist g _ d hr
      have hmd : m = d := by
        by_cases hlt : m < d
        · exact absurd (⟨e, he, ht, (dist_R hd).1⟩ : R g (m + 1) s) (hmin (m + 1) (by omega))
        · omega
      subst hmd
      have h1 := ih _ hd
      have h2 : cnt (Sd m) g.edges.length + 1 ≤ cnt (Sd (m + 1)) g.edges.length := by
        refine cnt_less (k := e) ?_ ?_ ?_ he
        · intro i hi
          obtain ⟨e', q, a, b, c, d⟩ := of_decide_eq_true hi
          exact decide_eq_true ⟨e', q, a, b, by omega, d⟩
        · exact decide_eq_true ⟨e, m, rfl, he, Nat.lt_succ_self _, by rw [ht]; exact hs⟩
        · refine decide_eq_false ?_
          rintro ⟨e', q, a, b, c, d⟩
          have : e' = e := by omega
          subst this
          rw [ht] at d
          have := isDist_one hs d
          omega
      omega
  intro d s hs
  exact Nat.le_trans (key d s hs) (cnt_le _ _)
theorem said_len {g : G} {S : Int → Bool} {x : W3} (h : LeastSaid g (fun i _ => S i) x true) : x.steps.length ≤ g.edges.length + 1 := by
  rcases h with ⟨-, d, ⟨hh, -⟩, hlt⟩ | ⟨h, -⟩
  · match d, hh, hlt with
    | 0, hh, _ =>
      obtain ⟨s, -, hk, -⟩ := hh
      unfold key at hk
      injection hk with h1 h2
      rw [h2]; simp
    | d + 1, hh, hlt =>
      obtain ⟨k', i, hi, hk, hK, hP⟩ := hh
      have hl := (hK.more hi).len
      rw [← hk] at hl
      unfold key at hl
      obtain ⟨m, hm, hd⟩ := R_dist g _ d ((R_iff g d _).2 ⟨_, hK⟩)
      have hmd : m = d := by
        by_cases hlt2 : m < d
        · obtain ⟨z, hz⟩ := (R_iff g m _).1 (dist_R hd).1
          exact absurd ⟨z, i, hi, rfl, hz, hP⟩ (hlt (m + 1) (by omega) (z ++ [(i : Int)]))
        · omega
      subst hmd
      have := dist_le _ _ hd
      simp at hl
      omega
  · cases h
theorem dist_of {g : G} (hg : bOk g) (hD : DistOk g (dl g)) {e : Nat} (he : e < g.edges.length) (h : gi (dl g) (ge g.edges e).f.toNat ≠ -1) : ∃ n : Nat, gi (dl g) (ge g.edges e).f.toNat = n ∧ IsDist g (ge g.edges e).f (n : Int) := by
  obtain ⟨h0, h1, -⟩ := edge_in' hg he
  have hl := hD.len
  have h2 := hD.all (ge g.edges e).f.toNat (by omega)
  have h3 : ((ge g.edges e).f.toNat : Int) = (ge g.edges e).f := by omega
  rw [h3] at h2
  rcases h2 with ⟨h4, -⟩ | ⟨n, h4, h5⟩
  · exact absurd h4 h
  · exact ⟨n, h4, .inr ⟨n, rfl, h5⟩⟩
/-- Where a walk ends: its last step's end. -/
theorem en_gi {g : G} {f : Int} {st : Bool} {L : List Int} {d : Nat} (hl : L.length = d + 1) (h : (stepsErr g f L).2 = 0) : ∃ e : Nat, e < g.edges.length ∧ gi L d = (e : Int) ∧ en g ⟨f, L, st⟩ = (ge g.edges e).t := by
  have hne : L ≠ [] := by intro h; rw [h] at hl; simp at hl
  obtain ⟨r, j, rfl⟩ : ∃ r j, L = r ++ [j] := ⟨L.dropLast, L.getLast hne, (List.dropLast_concat_getLast hne).symm⟩
  have hr : r.length = d := by simpa using hl
  subst hr
  rw [gi_app_at]
  rw [stepsErr_snoc] at h
  by_cases h0 : (stepsErr g f r).2 = 0
  · rw [if_pos h0] at h
    have he : en g ⟨f, r ++ [j], st⟩ = (stepsErr g (stepsErr g f r).1 [j]).1 := by unfold en; simp only [stepsErr_snoc, if_pos h0]
    rw [he]
    by_cases h1 : j < 0 ∨ (g.edges.length : Int) ≤ j
    · rw [stepsErr_out h1] at h; cases h
    · by_cases h2 : (ge g.edges j.toNat).f = (stepsErr g f r).1
      · rw [stepsErr_next h1 h2]
        exact ⟨j.toNat, by omega, by omega, rfl⟩
      · rw [stepsErr_clash h1 h2] at h; cases h
  · rw [if_neg h0] at h
    exact absurd h h0
/-- The walk goes on by another. -/
theorem gw_on {g : G} {most : Nat} {x : W3} {s f2 : Int} {L2 : List Int} (h : GW g most x) (hs : en g x = s) (hf : f2 ∈ [s]) (h2 : (stepsErr ⟨g.n, [s], g.edges⟩ f2 L2).2 = 0) (hl : x.steps.length + L2.length ≤ most) : GW g most ⟨x.first, x.steps ++ L2, false⟩ := by
  have hf2 : f2 = s := by simpa using hf
  subst hf2
  rw [stepsErr_g] at h2
  have h3 := h.ok
  have h0 : (stepsErr g x.first x.steps).2 = 0 := by rw [h3]
  refine ⟨h.fi, ?_, by simpa using hl, by have := h.ne; simp; omega⟩
  have e1 : stepsErr g x.first (x.steps ++ L2) = stepsErr g f2 L2 := by
    rw [stepsErr_app _ _ _ _ h0, h3, hs]
  have e2 : en g ⟨x.first, x.steps ++ L2, false⟩ = (stepsErr g f2 L2).1 := by unfold en; simp only [e1]
  simp only
  rw [e1, e2, ← h2]

theorem taken_less {g : G} {T L : List Int} {e : Nat} (he : e < g.edges.length) (h : Sof g T e = true) (hm : (e : Int) ∈ L) : cnt (Sof g (T ++ L)) g.edges.length + 1 ≤ cnt (Sof g T) g.edges.length := by
  refine cnt_less (k := e) ?_ h ?_ he
  · intro i hi
    obtain ⟨e', a, b, c, d⟩ := Sof_iff.1 hi
    exact Sof_iff.2 ⟨e', a, b, c, fun h => d (by simp [h])⟩
  · cases h2 : Sof g (T ++ L) e
    · rfl
    · exact absurd (by simp [hm]) (Sof_edge h2).2
theorem taken_flat {g : G} {T L : List Int} {l : List W3} {f : Int} (h1 : ∀ i, i ∈ T → i ∈ flat l ∨ i ∈ L) (h2 : ∀ i, i ∈ flat l → i ∈ T) : Sof g (T ++ L) = Sof g (flat (l ++ [⟨f, L, false⟩])) := by
  rw [flat_snoc]
  refine Sof_congr fun i => ?_
  simp only [List.mem_append]
  constructor
  · rintro (h | h)
    · exact h1 i h
    · exact .inr h
  · rintro (h | h)
    · exact .inl (h2 i h)
    · exact .inr h
/-- What TourOf answers. -/
structure TourOk (g : G) (most : Nat) (l : List W3) : Prop where
  ti : TI g most l
  le : l.length ≤ cnt (Sof g []) g.edges.length
  all : cnt (Sof g (flat l)) g.edges.length = 0

theorem count_flat (l : List W3) (k : Nat) (hk : k < l.length) (e : Int) : (flat (l.take (k + 1))).count e = (flat (l.take k)).count e + (gw l k).steps.count e := by
  rw [List.take_succ_eq_append_getElem hk, flat_snoc, List.count_append]
  unfold gw
  rw [List.getElem?_eq_getElem hk]
  rfl
theorem gi_inc {L : List Int} {j i : Nat} (hj : j < L.length) : gi (inc L j) i = gi L i + (if i = j then 1 else 0) := by
  unfold inc
  by_cases h : i = j
  · subst h; rw [gi_set_same hj, if_pos rfl]
  · rw [gi_set_other h, if_neg h]; omega
theorem cvK_count {g : G} (hg : bOk g) {c : List Int × List Int} {l : List Int} (hc : c.2.length = g.edges.length) (hl : ∀ k, k < l.length → 0 ≤ gi l k ∧ gi l k < g.edges.length) (e : Nat) :
    ∀ k, k ≤ l.length → (cvK g c l k).2.length = g.edges.length ∧ gi (cvK g c l k).2 e = gi c.2 e + ((l.take k).count (e : Int) : Nat)
  | 0, _ => by rw [cvK_zero]; exact ⟨hc, by simp⟩
  | k + 1, hk => by
    obtain ⟨h1, h2⟩ := cvK_count hg hc hl e k (by omega)
    have hr := hl k (by omega)
    rw [cvK_succ _ _ _ _ (by omega)]
    refine ⟨by unfold stepC; rw [inc_len]; exact h1, ?_⟩
    unfold stepC
    rw [gi_inc (by omega), h2, List.take_succ_eq_append_getElem (by omega), List.count_append]
    have : l[k] = gi l k := by unfold gi; rw [List.getElem?_eq_getElem (by omega)]; rfl
    rw [this]
    by_cases h3 : e = (gi l k).toNat
    · rw [if_pos h3]
      have : gi l k = (e : Int) := by omega
      rw [this]
      simp
      omega
    · rw [if_neg h3]
      have : gi l k ≠ (e : Int) := by omega
      rw [List.count_singleton]
      simp [this]
theorem covK_count {g : G} (hg : bOk g) {l : List W3} (hl : ∀ k, k < l.length → (ckW g (gw l k).first (gw l k).steps).2 = 0) {e : Nat} : ∀ k, k ≤ l.length → (covK g l k).2.length = g.edges.length ∧ gi (covK g l k).2 e = ((flat (l.take k)).count (e : Int) : Nat)
  | 0, _ => by
    rw [covK_zero]
    refine ⟨by simp [cov0], ?_⟩
    have hgi : ∀ n j : Nat, gi (List.replicate n (0 : Int)) j = 0 := fun n j => by
      unfold gi
      rw [List.getElem?_replicate]
      split <;> rfl
    unfold cov0
    simp only [hgi]
    simp [flat]
  | k + 1, hk => by
    obtain ⟨h1, h2⟩ := covK_count hg hl (e := e) k (by omega)
    obtain ⟨-, -, h3⟩ := ck_in (hl k (by omega))
    rw [covK_succ _ _ _ (by omega)]
    unfold walkC
    obtain ⟨h4, h5⟩ := cvK_count hg (c := (inc (covK g l k).1 (gw l k).first.toNat, (covK g l k).2)) h1 h3 e _ (Nat.le_refl _)
    refine ⟨h4, ?_⟩
    rw [h5, List.take_length, count_flat _ _ (by omega)]
    simp only [h2]
    omega
theorem gw_ck {g : G} {most : Nat} (hm : most ≤ 300) {x : W3} (h : GW g most x) : (ckW g x.first x.steps).2 = 0 := by
  unfold ckW
  have := h.le
  rw [if_neg (by omega), if_pos h.fi, h.ok]
theorem unc_nil {g : G} {D E : List Int} : ∀ m, (∀ e, e < m → ¬ (gi D (ge g.edges e).f.toNat ≠ -1 ∧ gi E e = 0)) → uncK g D E m = []
  | 0, _ => rfl
  | m + 1, h => by
    rw [uncK, if_neg (h m (by omega))]
    exact unc_nil m fun e he => h e (by omega)
theorem unc_cnt {g : G} {D E : List Int} {S : Int → Bool} : ∀ m : Nat, (∀ e : Nat, e < m → (S e = true ↔ (gi D (ge g.edges e).f.toNat ≠ -1 ∧ gi E e = 0))) → (uncK g D E m).length = cnt S m
  | 0, _ => rfl
  | m + 1, h => by
    have ih := unc_cnt m fun e he => h e (by omega)
    have hm := h m (by omega)
    rw [uncK, cnt]
    by_cases hS : S (m : Int) = true
    · rw [if_pos (hm.1 hS), if_pos hS]; simp [ih]
    · rw [if_neg (fun hh => hS (hm.2 hh)), if_neg hS]; simpa using ih
/-- What is not covered at first. -/
theorem unc_mem {g : G} {D E : List Int} {i : Int} : ∀ m, i ∈ uncK g D E m ↔ ∃ e, e < m ∧ i = (e : Int) ∧ gi D (ge g.edges e).f.toNat ≠ -1 ∧ gi E e = 0
  | 0 => by simp [uncK]
  | m + 1 => by
    have ih := unc_mem (g := g) (D := D) (E := E) (i := i) m
    rw [uncK]
    by_cases h : gi D (ge g.edges m).f.toNat ≠ -1 ∧ gi E m = 0
    · rw [if_pos h, List.mem_append, ih]
      constructor
      · rintro (⟨e, h1, h2⟩ | h1)
        · exact ⟨e, by omega, h2⟩
        · exact ⟨m, by omega, by simpa using h1, h⟩
      · rintro ⟨e, h1, h2, h3⟩
        by_cases he : e = m
        · subst he; right; simp [h2]
        · left; exact ⟨e, by omega, h2, h3⟩
    · rw [if_neg h, ih]
      constructor
      · rintro ⟨e, h1, h2⟩; exact ⟨e, by omega, h2⟩
      · rintro ⟨e, h1, h2, h3⟩
        by_cases he : e = m
        · subst he; exact absurd h3 h
        · exact ⟨e, by omega, h2, h3⟩
end Go.Proofs.Ytnijajjmcdgonaa
