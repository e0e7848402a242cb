import Derived.Test.YtnijajjmcdgonaaMathE
import Derived.Test.YtnijajjmcdgonaaMathH
namespace Go.Proofs.Ytnijajjmcdgonaa
open Go.RowKit
set_option linter.unusedVariables false

/-- A graph within its bounds; its edges in any order. (MathE's lemmas, once more, for it.) -/
structure wOk (g : G) : Prop where
  n0 : 0 ≤ g.n
  ini : ∀ s, s ∈ g.init → 0 ≤ s ∧ s < g.n
  ed : ∀ {e : Nat}, e < g.edges.length → 0 ≤ (ge g.edges e).f ∧ (ge g.edges e).f < g.n ∧ 0 ≤ (ge g.edges e).t ∧ (ge g.edges e).t < g.n

/-- What holds in the passes over the steps: the pass far, m steps of it done. -/
structure RW (g : G) (O : List Int) (far m : Nat) : Prop where
  len : O.length = g.n.toNat
  snd : ∀ s : Nat, s < O.length → gi O s = -1 ∨ ∃ d : Nat, gi O s = d ∧ R g d s
  ini : ∀ s, s ∈ g.init → 0 ≤ s ∧ s < g.n ∧ gi O s.toNat = 0
  cap : ∀ s : Nat, s < O.length → gi O s ≤ far ∨ (0 < m ∧ gi O s = far + 1)
  cnt : ∀ s : Nat, s < O.length → 0 ≤ gi O s → gi O s + 1 + none1 O ≤ g.n
  clo : ∀ e, e < g.edges.length → 0 ≤ gi O (ge g.edges e).f.toNat → (gi O (ge g.edges e).f.toNat < far ∨ gi O (ge g.edges e).f.toNat = far ∧ e < m) →
    0 ≤ gi O (ge g.edges e).t.toNat ∧ gi O (ge g.edges e).t.toNat ≤ gi O (ge g.edges e).f.toNat + 1

theorem RW.start {g : G} (hg : wOk g) : RW g (iniL g g.n.toNat) 0 0 := by
  have hl := iniL_len g g.n.toNat
  have ha := iniL_at g g.n.toNat
  have hI : ∀ s, s ∈ g.init → 0 ≤ s ∧ s < g.n := fun s hs => by
    exact hg.ini s hs
  refine ⟨hl, ?_, ?_, ?_, ?_, ?_⟩
  · intro s hs
    rw [ha s (by omega)]
    by_cases h : (s : Int) ∈ g.init
    · rw [if_pos h]; exact .inr ⟨0, rfl, h⟩
    · rw [if_neg h]; exact .inl rfl
  · intro s hs
    obtain ⟨h1, h2⟩ := hI s hs
    refine ⟨h1, h2, ?_⟩
    rw [ha s.toNat (by omega), if_pos (by rw [show ((s.toNat : Nat) : Int) = s from by omega]; exact hs)]
  · intro s hs
    rw [ha s (by omega)]
    split <;> left <;> omega
  · intro s hs h0
    have hs' : s < g.n.toNat := by omega
    rw [ha s hs'] at h0 ⊢
    by_cases h : (s : Int) ∈ g.init
    · rw [if_pos h]
      have h1 : gi (iniL g g.n.toNat) s = 0 := by rw [ha s hs', if_pos h]
      have h2 : none1 (iniL g g.n.toNat) ≤ (iniL g g.n.toNat).length := List.count_le_length
      have h3 : none1 (iniL g g.n.toNat) ≠ (iniL g g.n.toNat).length := fun h4 => by
        have h5 := List.count_eq_length.1 h4
        have h6 := h5 _ (gi_mem' (l := iniL g g.n.toNat) (j := s) (by omega))
        rw [h1] at h6; cases h6
      omega
    · rw [if_neg h] at h0; omega
  · intro e he h0 h1
    omega
theorem RW.skip {g : G} {O : List Int} {far m : Nat} (h : RW g O far m) (hn : gi O (ge g.edges m).f.toNat ≠ far) : RW g O far (m + 1) :=
  { h with
    cap := fun s hs => (h.cap s hs).imp id fun h => ⟨by omega, h.2⟩
    clo := fun e he h0 h1 => h.clo e he h0 (by
      rcases h1 with h1 | ⟨h1, h2⟩
      · exact .inl h1
      · by_cases hem : e = m
        · subst hem; exact absurd h1 hn
        · exact .inr ⟨h1, by omega⟩) }
theorem RW.old {g : G} {O : List Int} {far m : Nat} (h : RW g O far m) (hg : wOk g) (hm : m < g.edges.length) (hf : gi O (ge g.edges m).f.toNat = far) (ho : gi O (ge g.edges m).t.toNat ≠ -1) : RW g O far (m + 1) :=
  { h with
    cap := fun s hs => (h.cap s hs).imp id fun h => ⟨by omega, h.2⟩
    clo := fun e he h0 h1 => (by
      rcases h1 with h1 | ⟨h1, h2⟩
      · exact h.clo e he h0 (.inl h1)
      · by_cases hem : e = m
        · subst hem
          have hq := wOk.ed hg he
          have hl := h.len
          have h3 := h.cap (ge g.edges e).t.toNat (by omega)
          rcases h.snd (ge g.edges e).t.toNat (by omega) with h4 | ⟨d, h4, -⟩
          · exact absurd h4 ho
          · omega
        · exact h.clo e he h0 (.inr ⟨h1, by omega⟩)) }
theorem RW.more {g : G} {O : List Int} {far m : Nat} (h : RW g O far m) (hg : wOk g) (hm : m < g.edges.length) (hf : gi O (ge g.edges m).f.toNat = far) (ho : gi O (ge g.edges m).t.toNat = -1) :
    RW g (O.set (ge g.edges m).t.toNat ((far : Int) + 1)) far (m + 1) := by
  have hq := wOk.ed hg hm
  have hl := h.len
  have htl : (ge g.edges m).t.toNat < O.length := by omega
  have hsame : gi (O.set (ge g.edges m).t.toNat ((far : Int) + 1)) (ge g.edges m).t.toNat = (far : Int) + 1 := gi_set_same htl
  have hoth : ∀ s, s ≠ (ge g.edges m).t.toNat → gi (O.set (ge g.edges m).t.toNat ((far : Int) + 1)) s = gi O s := fun s hs => gi_set_other hs
  have hn1 := none1_set htl ho (u := (far : Int) + 1) (by omega)
  refine ⟨by rw [List.length_set]; exact hl, ?_, ?_, ?_, ?_, ?_⟩
  · intro s hs
    rw [List.length_set] at hs
    by_cases hst : s = (ge g.edges m).t.toNat
    · subst hst
      rw [hsame]
      right
      rcases h.snd (ge g.edges m).f.toNat (by omega) with h1 | ⟨d, h1, h2⟩
      · omega
      · refine ⟨d + 1, by omega, m, hm, by omega, ?_⟩
        rwa [show (((ge g.edges m).f.toNat : Nat) : Int) = (ge g.edges m).f from by omega] at h2
    · rw [hoth s hst]; exact h.snd s hs
  · intro s hs
    obtain ⟨h1, h2, h3⟩ := h.ini s hs
    refine ⟨h1, h2, ?_⟩
    rw [hoth _ (by intro he; rw [he] at h3; omega)]; exact h3
  · intro s hs
    rw [List.length_set] at hs
    by_cases hst : s = (ge g.edges m).t.toNat
    · subst hst; rw [hsame]; right; omega
    · rw [hoth s hst]; rcases h.cap s hs with h1 | h1
      · exact .inl h1
      · exact .inr ⟨by omega, h1.2⟩
  · intro s hs h0
    rw [List.length_set] at hs
    have hc := h.cnt (ge g.edges m).f.toNat (by omega) (by omega)
    by_cases hst : s = (ge g.edges m).t.toNat
    · subst hst; rw [hsame]; omega
    · rw [hoth s hst] at h0 ⊢
      have := h.cnt s hs h0
      omega
  · intro e he h0 h1
    have hqe := wOk.ed hg he
    by_cases hef : (ge g.edges e).f.toNat = (ge g.edges m).t.toNat
    · rw [hef, hsame] at h1; omega
    · rw [hoth _ hef] at h0 h1 ⊢
      by_cases het : (ge g.edges e).t.toNat = (ge g.edges m).t.toNat
      · rw [het, hsame]
        rcases h1 with h1 | ⟨h1, h2⟩
        · have := h.clo e he h0 (.inl h1)
          rw [het] at this; omega
        · omega
      · rw [hoth _ het]
        refine h.clo e he h0 ?_
        rcases h1 with h1 | ⟨h1, h2⟩
        · exact .inl h1
        · by_cases hem : e = m
          · subst hem; exact absurd rfl het
          · exact .inr ⟨h1, by omega⟩
theorem RW.next {g : G} {O : List Int} {far : Nat} (h : RW g O far g.edges.length) : RW g O (far + 1) 0 :=
  { h with
    cap := fun s hs => by rcases h.cap s hs with h1 | h1 <;> left <;> omega
    clo := fun e he h0 h1 => h.clo e he h0 (by omega) }
theorem RW.fin {g : G} {O : List Int} {far : Nat} (h : RW g O far 0) (hg : wOk g) (hk : far = g.n.toNat) : DistOk g O := by
  refine ⟨h.len, ?_⟩
  have hol := h.len
  have key : ∀ n s, R g n s → 0 ≤ s ∧ s < g.n ∧ 0 ≤ gi O s.toNat ∧ gi O s.toNat ≤ n := by
    intro n
    induction n with
    | zero => intro s hs; obtain ⟨h1, h2, h3⟩ := h.ini s hs; exact ⟨h1, h2, by omega, by omega⟩
    | succ n ih =>
      rintro s ⟨e, he, rfl, hr⟩
      obtain ⟨h1, h2, h3, h4⟩ := ih _ hr
      have hq := wOk.ed hg he
      have h5 := h.cnt (ge g.edges e).f.toNat (by omega) h3
      have h6 := h.clo e he h3 (by omega)
      omega
  intro s hs
  rcases h.snd s hs with h1 | ⟨d, h1, h2⟩
  · left
    refine ⟨h1, fun n hr => ?_⟩
    have := (key n s hr).2.2.1
    rw [Int.toNat_natCast] at this
    omega
  · right
    refine ⟨d, h1, h2, fun m hm hr => ?_⟩
    have := (key m s hr).2.2.2
    rw [Int.toNat_natCast] at this
    omega
end Go.Proofs.Ytnijajjmcdgonaa
namespace Go.Proofs.Ytnijajjmcdgonaa
open Go.RowKit
set_option linter.unusedVariables false

/-- The graph turned round, with one first state. -/
def gT (g : G) (t : Int) : G := ⟨g.n, [t], g.edges.map fun e => ⟨e.t, e.f, e.a⟩⟩
theorem gT_len (g : G) (t : Int) : (gT g t).edges.length = g.edges.length := by simp [gT]
theorem gT_at (g : G) (t : Int) {i : Nat} (h : i < g.edges.length) : ge (gT g t).edges i = ⟨(ge g.edges i).t, (ge g.edges i).f, (ge g.edges i).a⟩ := by
  unfold ge gT
  simp [h]
theorem gT_ok {g : G} (hg : bOk g) {t : Int} (h0 : 0 ≤ t) (h1 : t < g.n) : wOk (gT g t) := by
  refine ⟨hg.1, fun s hs => ?_, fun {e} he => ?_⟩
  · have : s = t := by simpa [gT] using hs
    subst this
    exact ⟨h0, h1⟩
  · rw [gT_len] at he
    have h := edge_in hg he
    rw [gT_at g t he]
    exact ⟨h.2.2.1, h.2.2.2, h.1, h.2.1⟩
theorem gT_ini {g : G} {t : Int} (h0 : 0 ≤ t) (h1 : t < g.n) : iniL (gT g t) g.n.toNat = (List.replicate g.n.toNat (-1)).set t.toNat 0 := by
  refine gi_ext (by simp [iniL]) fun s hs => ?_
  rw [iniL_len] at hs
  rw [iniL_at _ _ _ hs]
  by_cases h : s = t.toNat
  · subst h
    rw [gi_set_same (by simp; omega), if_pos (by show ((t.toNat : Nat) : Int) ∈ [t]; simp; omega)]
  · rw [gi_set_other h, if_neg (by show ¬ ((s : Nat) : Int) ∈ [t]; simp; omega)]
    unfold gi
    simp [hs]

/-- A path of so many steps from one state to another. -/
def PT (g : G) (t : Int) : Nat → Int → List Int → Prop
  | 0, s, r => s = t ∧ r = []
  | k + 1, s, r => ∃ i r', i < g.edges.length ∧ r = (i : Int) :: r' ∧ (ge g.edges i).f = s ∧ PT g t k (ge g.edges i).t r'

theorem R_PT (g : G) (t : Int) : ∀ (k : Nat) (s : Int), R (gT g t) k s ↔ ∃ r, PT g t k s r
  | 0, s => by
    constructor
    · intro h
      have : s = t := by simpa [R, gT] using h
      exact ⟨[], this, rfl⟩
    · rintro ⟨r, h, -⟩
      show s ∈ [t]
      simp [h]
  | k + 1, s => by
    constructor
    · rintro ⟨i, hi, ht, hr⟩
      rw [gT_len] at hi
      rw [gT_at g t hi] at ht hr
      obtain ⟨r, h⟩ := (R_PT g t k _).1 hr
      exact ⟨_, i, r, hi, rfl, ht, h⟩
    · rintro ⟨r, i, r', hi, -, hf, h⟩
      refine ⟨i, by rw [gT_len]; exact hi, ?_, ?_⟩
      · rw [gT_at g t hi]; exact hf
      · rw [gT_at g t hi]; exact (R_PT g t k _).2 ⟨r', h⟩

theorem KP_app {g : G} {t : Int} : ∀ (k : Nat) {m : Nat} {s : Int} {p r : List Int}, KP g m s p → PT g t k s r → KP g (m + k) t (p ++ r)
  | 0, m, s, p, r, hp, h => by
    obtain ⟨rfl, rfl⟩ := h
    simpa using hp
  | k + 1, m, s, p, r, hp, h => by
    obtain ⟨i, r', hi, rfl, rfl, h⟩ := h
    have h1 := KP_app k (hp.more hi) h
    have e : m + (k + 1) = m + 1 + k := by omega
    rw [e]
    simpa using h1

theorem KP_cut {g : G} {t : Int} : ∀ (k : Nat) {m : Nat} {p : List Int}, KP g (m + k) t p → ∃ s r, KP g m s (p.take (m + 1)) ∧ PT g t k s r ∧ p = p.take (m + 1) ++ r
  | 0, m, p, h => by
    have hl := h.len
    have e : p.take (m + 1) = p := List.take_of_length_le (by omega)
    exact ⟨t, [], by rw [e]; exact h, ⟨rfl, rfl⟩, by rw [e]; simp⟩
  | k + 1, m, p, h => by
    have e : m + (k + 1) = m + 1 + k := by omega
    rw [e] at h
    have hl := h.len
    obtain ⟨s, r, h1, h2, h3⟩ := KP_cut k h
    obtain ⟨p', i, hi, e1, h4, h5⟩ := h1.last
    have hl4 := h4.len
    have e2 : p.take (m + 1) = p' := by
      have : (p.take (m + 1 + 1)).take (m + 1) = p.take (m + 1) := by rw [List.take_take]; congr 1; omega
      rw [← this, e1, List.take_left' hl4]
    refine ⟨(ge g.edges i).f, (i : Int) :: r, by rw [e2]; exact h4, ⟨i, r, hi, rfl, rfl, by rw [h5]; exact h2⟩, ?_⟩
    rw [e2]
    conv => lhs; rw [h3, e1]
    simp

theorem KP_one {g : G} {m : Nat} {s s' : Int} {p : List Int} (h : KP g m s p) (h' : KP g m s' p) : s = s' := by
  obtain ⟨f, r, rfl, -, -, h1⟩ := h
  obtain ⟨f', r', e, -, -, h2⟩ := h'
  injection e with e1 e2
  subst e1 e2
  rw [h1] at h2
  injection h2

theorem Hit_KP (g : G) (t : Int) : ∀ (d : Nat) (k : List Int), Hit g (fun _ s => s == t) d k ↔ KP g d t k
  | 0, k => by
    constructor
    · rintro ⟨s, hs, rfl, h⟩
      have : s = t := by simpa using h
      subst this
      exact ⟨s, [], rfl, hs, rfl, rfl⟩
    · intro h
      have h2 := h.zero.2
      obtain rfl := h.zero.1
      exact ⟨_, h2, rfl, by simp⟩
  | d + 1, k => by
    constructor
    · rintro ⟨k', i, hi, rfl, h, ht⟩
      have : (ge g.edges i).t = t := by simpa using ht
      rw [← this]
      exact h.more hi
    · intro h
      obtain ⟨k', i, hi, e, h', ht⟩ := h.last
      exact ⟨k', i, hi, e, h', by simp [ht]⟩

/-- How far it is from a state to the goal. -/
theorem left_of {g : G} {t : Int} {L : List Int} (hL : DistOk (gT g t) L) {s : Int} (h0 : 0 ≤ s) (h1 : s < g.n) : IsDist (gT g t) s (gi L s.toNat) := by
  have h := hL.all s.toNat (by rw [hL.len]; show s.toNat < g.n.toNat; omega)
  rw [Int.toNat_of_nonneg h0] at h
  exact h
theorem dist_le {g : G} {s d : Int} {k : Nat} (h : IsDist g s d) (hr : R g k s) : 0 ≤ d ∧ d ≤ k := by
  rcases h with ⟨-, h⟩ | ⟨n, rfl, h1, h2⟩
  · exact absurd hr (h k)
  · have : ¬ k < n := fun hk => h2 k hk hr
    omega
theorem dist_at {g : G} {s d : Int} (h : IsDist g s d) (h0 : 0 ≤ d) : R g d.toNat s := by
  rcases h with ⟨rfl, h⟩ | ⟨n, rfl, h1, h2⟩
  · omega
  · simpa using h1

/-- What holds while the least walk is made: m steps of it. -/
structure GR (g : G) (t : Int) (L : List Int) (D m : Nat) (s : Int) (p : List Int) : Prop where
  kp : KP g m s p
  lf : gi L s.toNat = (D : Int) - m
  le : m ≤ D
  rg : 0 ≤ s ∧ s < g.n
  mn : ∀ k', KP g D t k' → k'.take (m + 1) = p ∨ lexLt p (k'.take (m + 1))

theorem init_rng {g : G} (hg : bOk g) {s : Int} (hs : s ∈ g.init) : 0 ≤ s ∧ s < g.n := by
  obtain ⟨j, hj, e⟩ := mem_gi.1 hs
  have h := hg.2.2.2.2.1 j hj
  unfold initOk at h
  rw [e] at h
  exact ⟨h.1, h.2.1⟩

/-- A first state that a least walk may begin with is just so far. -/
theorem first_far {g : G} (hg : bOk g) {t : Int} {L : List Int} {D : Nat} (hL : DistOk (gT g t) L) (hD : IsDist g t (D : Int)) {f : Int} {k' : List Int} (hk : KP g D t k') (hf : k'.take 1 = [f]) : f ∈ g.init ∧ gi L f.toNat = D := by
  obtain ⟨s, r, h1, h2, h3⟩ := KP_cut (g := g) (t := t) D (m := 0) (p := k') (by simpa using hk)
  rw [hf] at h1
  obtain ⟨e, hm⟩ := h1.zero
  injection e with e
  subst e
  refine ⟨hm, ?_⟩
  obtain ⟨q0, q1⟩ := init_rng hg hm
  have hd := left_of hL q0 q1
  obtain ⟨a, b⟩ := dist_le hd ((R_PT g t D f).2 ⟨r, h2⟩)
  have hr := dist_at hd a
  obtain ⟨r2, hr2⟩ := (R_PT g t _ f).1 hr
  have h4 := KP_app _ (show KP g 0 f [f] from ⟨f, [], rfl, hm, rfl, rfl⟩) hr2
  have h5 := (dist_le hD ((R_iff g _ t).2 ⟨_, h4⟩)).2
  omega

theorem GR.start {g : G} (hg : bOk g) {t : Int} {L : List Int} {D i : Nat} (hL : DistOk (gT g t) L) (hD : IsDist g t (D : Int)) (hi : i < g.init.length) (h1 : gi L (gi g.init i).toNat = D) (h2 : ∀ j, j < i → gi L (gi g.init j).toNat ≠ D) :
    GR g t L D 0 (gi g.init i) [gi g.init i] := by
  have hm : gi g.init i ∈ g.init := mem_gi.2 ⟨i, hi, rfl⟩
  refine ⟨⟨_, [], rfl, hm, rfl, rfl⟩, by simpa using h1, Nat.zero_le _, init_rng hg hm, fun k' hk => ?_⟩
  obtain ⟨f, r, rfl, -, -, -⟩ := id hk
  obtain ⟨hf, hd⟩ := first_far hg hL hD hk (f := f) rfl
  obtain ⟨j, hj, e⟩ := mem_gi.1 hf
  have hij : ¬ j < i := fun h => h2 j h (by rw [e]; exact hd)
  by_cases h : j = i
  · subst h
    left
    rw [← e]; rfl
  · right
    have hlt := init_inj hg (show i < j by omega) hj
    show lexLt [gi g.init i] [f]
    rw [← e]
    exact .inl hlt
theorem GR.begin {g : G} (hg : bOk g) {t : Int} {L : List Int} {D : Nat} (hL : DistOk (gT g t) L) (hD : IsDist g t (D : Int)) : ∃ i, i < g.init.length ∧ gi L (gi g.init i).toNat = D := by
  obtain ⟨k, hk⟩ := (R_iff g D t).1 (dist_R hD).1
  obtain ⟨f, r, rfl, -, -, -⟩ := id hk
  obtain ⟨hf, hd⟩ := first_far hg hL hD hk (f := f) rfl
  obtain ⟨j, hj, e⟩ := mem_gi.1 hf
  exact ⟨j, hj, by rw [e]; exact hd⟩

theorem GR.at_goal {g : G} {t : Int} {L : List Int} {D m : Nat} {s : Int} {p : List Int} (h : GR g t L D m s p) (hL : DistOk (gT g t) L) : s = t ↔ m = D := by
  have hd := left_of hL h.rg.1 h.rg.2
  rw [h.lf] at hd
  have hle := h.le
  constructor
  · rintro rfl
    have := (dist_le (k := 0) hd (by show s ∈ [s]; simp)).2
    omega
  · rintro rfl
    have h1 := dist_at hd (by omega)
    have e : ((m : Int) - m).toNat = 0 := by omega
    rw [e] at h1
    have h2 : s ∈ [t] := h1
    simpa using h2
theorem GR.fin {g : G} {t : Int} {L : List Int} {D : Nat} {p : List Int} (h : GR g t L D D t p) : LeastIn (Hit g (fun _ s => s == t) D) p := by
  refine ⟨(Hit_KP g t D p).2 h.kp, fun k' hk => ?_⟩
  have hk := (Hit_KP g t D k').1 hk
  have e : k'.take (D + 1) = k' := List.take_of_length_le (by have := hk.len; omega)
  have := h.mn k' hk
  rw [e] at this
  rcases this with h | h
  · exact .inl h.symm
  · exact .inr h

/-- From a state on the way a step leads on; and every least walk's next step is such a one. -/
theorem GR.there {g : G} (hg : bOk g) {t : Int} {L : List Int} {D m : Nat} {s : Int} {p : List Int} (h : GR g t L D m s p) (hL : DistOk (gT g t) L) {i : Nat} {r : List Int} (hi : i < g.edges.length) (hf : (ge g.edges i).f = s) (hm : m < D) (hp : PT g t (D - m - 1) (ge g.edges i).t r) :
    gi L (ge g.edges i).t.toNat = gi L s.toNat - 1 := by
  obtain ⟨-, -, q0, q1⟩ := edge_rng hg hi
  have hd := left_of hL q0 q1
  obtain ⟨a, b⟩ := dist_le hd ((R_PT g t _ _).2 ⟨r, hp⟩)
  have hr := dist_at hd a
  obtain ⟨r2, hr2⟩ := (R_PT g t _ _).1 hr
  have hs := left_of hL h.rg.1 h.rg.2
  have h1 := (dist_le hs ((R_PT g t _ s).2 ⟨_, (show PT g t ((gi L (ge g.edges i).t.toNat).toNat + 1) s ((i : Int) :: r2) from ⟨i, r2, hi, rfl, hf, hr2⟩)⟩)).2
  rw [h.lf] at h1 ⊢
  omega
theorem GR.can {g : G} (hg : bOk g) {t : Int} {L : List Int} {D m : Nat} {s : Int} {p : List Int} (h : GR g t L D m s p) (hL : DistOk (gT g t) L) (hm : m < D) : ∃ i, i < g.edges.length ∧ (ge g.edges i).f = s ∧ gi L (ge g.edges i).t.toNat = gi L s.toNat - 1 := by
  have hs := left_of hL h.rg.1 h.rg.2
  rw [h.lf] at hs
  have hr := dist_at hs (by omega)
  have e : ((D : Int) - m).toNat = (D - m - 1) + 1 := by omega
  rw [e] at hr
  obtain ⟨r, i, r', hi, -, hf, hp⟩ := (R_PT g t _ s).1 hr
  exact ⟨i, hi, hf, h.there hg hL hi hf hm hp⟩
theorem GR.step {g : G} (hg : bOk g) {t : Int} {L : List Int} {D m : Nat} {s : Int} {p : List Int} (h : GR g t L D m s p) (hL : DistOk (gT g t) L) (hm : m < D) {i : Nat} (hi : i < g.edges.length) (hf : (ge g.edges i).f = s) (hl : gi L (ge g.edges i).t.toNat = gi L s.toNat - 1)
    (h0 : ∀ j, j < i → ¬ ((ge g.edges j).f = s ∧ gi L (ge g.edges j).t.toNat = gi L s.toNat - 1)) : GR g t L D (m + 1) (ge g.edges i).t (p ++ [(i : Int)]) := by
  obtain ⟨-, -, q0, q1⟩ := edge_rng hg hi
  refine ⟨by subst hf; exact h.kp.more hi, by rw [hl, h.lf]; omega, hm, ⟨q0, q1⟩, fun k' hk => ?_⟩
  have hkl := hk.len
  have hpl := h.kp.len
  rcases h.mn k' hk with e | e
  · obtain ⟨s', r, h1, h2, h3⟩ := KP_cut (g := g) (t := t) (D - m) (m := m) (p := k') (by rw [show m + (D - m) = D by omega]; exact hk)
    rw [e] at h1 h3
    obtain rfl := KP_one h.kp h1
    rw [show D - m = (D - m - 1) + 1 by omega] at h2
    obtain ⟨i', r', hi', rfl, hf', hp'⟩ := h2
    have hl' := h.there hg hL hi' hf' hm hp'
    have hii : ¬ i' < i := fun hlt => h0 i' hlt ⟨hf', hl'⟩
    have e2 : k'.take (m + 1 + 1) = p ++ [(i' : Int)] := by
      rw [h3]
      have : (p ++ (i' : Int) :: r') = (p ++ [(i' : Int)]) ++ r' := by simp
      rw [this, List.take_left' (by simp [hpl])]
    rw [e2]
    by_cases hq : i' = i
    · left; rw [hq]
    · right; exact lexLt_last (by omega) p
  · right
    have hlt : m + 1 < k'.length := by omega
    rw [List.take_succ_eq_append_getElem hlt]
    exact lexLt_app (by rw [hpl, List.length_take]; omega) e
end Go.Proofs.Ytnijajjmcdgonaa
namespace Go.Proofs.Ytnijajjmcdgonaa
open Go.RowKit
set_option linter.unusedVariables false

/-- The steps of a least walk are the distance. -/
theorem lw_dist {g : G} {t : Int} {d : Nat} {k : List Int} (h : LeastIn (Hit g (fun _ s => s == t) d) k) (hn : ∀ d', d' < d → NoHit g (fun _ s => s == t) d') : IsDist g t (d : Int) := by
  refine .inr ⟨d, rfl, (R_iff g d t).2 ⟨k, (Hit_KP g t d k).1 h.1⟩, fun m hm hr => ?_⟩
  obtain ⟨k', hk'⟩ := (R_iff g m t).1 hr
  exact hn m hm k' ((Hit_KP g t m k').2 hk')
theorem lw_none {g : G} {t : Int} (hn : ∀ d, NoHit g (fun _ s => s == t) d) : IsDist g t (-1) := by
  refine .inl ⟨rfl, fun m hr => ?_⟩
  obtain ⟨k', hk'⟩ := (R_iff g m t).1 hr
  exact hn m k' ((Hit_KP g t m k').2 hk')
theorem lw_at {g : G} (hD : DistOk g (dl g)) {t : Int} (h0 : 0 ≤ t) (h1 : t < g.n) {d : Int} (h : IsDist g t d) : gi (dl g) t.toNat = d := by
  have h2 := hD.all t.toNat (by rw [hD.len]; omega)
  rw [Int.toNat_of_nonneg h0] at h2
  exact isDist_one h2 h
theorem lw_len {g : G} {t : Int} {d : Nat} {f : Int} {S : List Int} (h : LeastIn (Hit g (fun _ s => s == t) d) (f :: S)) : S.length = d := by
  have := ((Hit_KP g t d _).1 h.1).len
  simpa using this
end Go.Proofs.Ytnijajjmcdgonaa
