import Derived.Test.YtnijajjmcdgonaaWalkW
namespace Go.Proofs.Ytnijajjmcdgonaa
open Go.RowKit
set_option linter.unusedVariables false

/-- A state that n steps lead to. -/
def R (g : G) : Nat → Int → Prop
  | 0, s => s ∈ g.init
  | n + 1, s => ∃ k, k < g.edges.length ∧ (ge g.edges k).t = s ∧ R g n (ge g.edges k).f
/-- d is the distance of s. -/
def IsDist (g : G) (s d : Int) : Prop := (d = -1 ∧ ∀ n, ¬ R g n s) ∨ (∃ n : Nat, d = n ∧ R g n s ∧ ∀ m, m < n → ¬ R g m s)
structure DistOk (g : G) (D : List Int) : Prop where
  len : D.length = g.n.toNat
  all : ∀ s : Nat, s < D.length → IsDist g s (gi D s)

theorem isDist_one {g : G} {s d d' : Int} (h : IsDist g s d) (h' : IsDist g s d') : d = d' := by
  rcases h with ⟨rfl, h⟩ | ⟨n, rfl, h1, h2⟩ <;> rcases h' with ⟨rfl, h'⟩ | ⟨n', rfl, h1', h2'⟩
  · rfl
  · exact absurd h1' (h _)
  · exact absurd h1 (h' _)
  · have a : ¬ n < n' := fun hn => h2' n hn h1
    have b : ¬ n' < n := fun hn => h2 n' hn h1'
    omega
theorem gi_ext {l m : List Int} (hl : l.length = m.length) (h : ∀ s, s < l.length → gi l s = gi m s) : l = m := by
  apply List.ext_getElem hl
  intro i h1 h2
  have := h i h1
  unfold gi at this
  rw [List.getElem?_eq_getElem h1, List.getElem?_eq_getElem h2] at this
  exact this
theorem distOk_one {g : G} {D D' : List Int} (h : DistOk g D) (h' : DistOk g D') : D = D' :=
  gi_ext (h.len.trans h'.len.symm) fun s hs => isDist_one (h.all s hs) (h'.all s (by rw [h'.len, ← h.len]; exact hs))
open Classical in
/-- The distances of all states. -/
noncomputable def dl (g : G) : List Int := if h : ∃ D, DistOk g D then h.choose else []
theorem dl_of {g : G} {D : List Int} (h : DistOk g D) : D = dl g ∧ DistOk g (dl g) := by
  have he : ∃ D, DistOk g D := ⟨D, h⟩
  have : dl g = he.choose := by unfold dl; rw [dif_pos he]
  have h2 : DistOk g (dl g) := by rw [this]; exact he.choose_spec
  exact ⟨distOk_one h h2, h2⟩

theorem gi_set_same {l : List Int} {j : Nat} {u : Int} (h : j < l.length) : gi (l.set j u) j = u := by unfold gi; simp [h]
theorem gi_set_other {l : List Int} {i j : Nat} {u : Int} (h : i ≠ j) : gi (l.set j u) i = gi l i := by unfold gi; rw [List.getElem?_set_ne (by omega)]
theorem gi_app_lt {l m : List Int} {j : Nat} (h : j < l.length) : gi (l ++ m) j = gi l j := by unfold gi; rw [List.getElem?_append_left h]
theorem gi_app_at {l : List Int} {x : Int} : gi (l ++ [x]) l.length = x := by unfold gi; simp
theorem gi_mem' {l : List Int} {j : Nat} (h : j < l.length) : gi l j ∈ l := mem_gi.2 ⟨j, h, rfl⟩

/-- How many are -1. -/
abbrev none1 (l : List Int) : Nat := l.count (-1)
theorem none1_set {l : List Int} {j : Nat} {u : Int} (hj : j < l.length) (h : gi l j = -1) (hu : u ≠ -1) : none1 (l.set j u) + 1 = none1 l := by
  have h1 : l[j] = -1 := by unfold gi at h; rw [List.getElem?_eq_getElem hj] at h; simpa using h
  have hp : 0 < l.count (-1) := List.count_pos_iff.2 (h1 ▸ List.getElem_mem hj)
  unfold none1
  rw [List.count_set hj]
  simp [h1, hu]
  omega

/-- What holds in the search from the first states on, the k-th of T being looked at, m of its steps done. -/
structure BF (g : G) (O T : List Int) (k m : Nat) : Prop where
  len : O.length = g.n.toNat
  snd : ∀ s : Nat, s < O.length → gi O s = -1 ∨ ∃ d : Nat, gi O s = d ∧ R g d s
  inT : ∀ j, j < T.length → 0 ≤ gi T j ∧ gi T j < g.n ∧ 0 ≤ gi O (gi T j).toNat
  ofT : ∀ s : Nat, s < O.length → gi O s ≠ -1 → ∃ j, j < T.length ∧ gi T j = s
  ini : ∀ s, s ∈ g.init → 0 ≤ s ∧ s < g.n ∧ gi O s.toNat = 0
  mono : ∀ i j, i ≤ j → j < T.length → gi O (gi T i).toNat ≤ gi O (gi T j).toNat
  near : k < T.length → ∀ j, j < T.length → gi O (gi T j).toNat ≤ gi O (gi T k).toNat + 1
  few : ∀ j, j < T.length → gi O (gi T j).toNat ≤ j
  cnt : T.length + none1 O = g.n.toNat
  clo : ∀ j e, e < g.edges.length → j < T.length → (j < k ∨ j = k ∧ e < m) → (ge g.edges e).f = gi T j →
    0 ≤ gi O (ge g.edges e).t.toNat ∧ gi O (ge g.edges e).t.toNat ≤ gi O (gi T j).toNat + 1

theorem BF.skip {g : G} {O T : List Int} {k m : Nat} (h : BF g O T k m) (hk : k < T.length) (hn : (ge g.edges m).f ≠ gi T k) : BF g O T k (m + 1) :=
  { h with clo := fun j e he hj hm hf => h.clo j e he hj (by
      rcases hm with hm | ⟨rfl, hm⟩
      · exact .inl hm
      · by_cases hem : e = m
        · subst hem; exact absurd hf hn
        · exact .inr ⟨rfl, by omega⟩) hf }
theorem BF.old {g : G} {O T : List Int} {k m : Nat} (h : BF g O T k m) (hg : bOk g) (hm : m < g.edges.length) (hk : k < T.length) (hf : (ge g.edges m).f = gi T k) (ho : gi O (ge g.edges m).t.toNat ≠ -1) : BF g O T k (m + 1) :=
  { h with clo := fun j e he hj hm' hf' => (by
      rcases hm' with hm' | ⟨rfl, hm'⟩
      · exact h.clo j e he hj (.inl hm') hf'
      · by_cases hem : e = m
        · subst hem
          have hq := hg.2.2.2.2.2 e he
          unfold edgeOk at hq
          obtain ⟨j', hj', hj2⟩ := h.ofT (ge g.edges e).t.toNat (by rw [h.len]; omega) ho
          have h1 := h.near hj j' hj'
          have h2 := (h.inT j' hj').2.2
          have h3 : gi T j' = (ge g.edges e).t := by omega
          rw [h3] at h1 h2
          exact ⟨h2, h1⟩
        · exact h.clo j e he hj (.inr ⟨rfl, by omega⟩) hf') }
theorem BF.more {g : G} {O T : List Int} {k m : Nat} (h : BF g O T k m) (hg : bOk g) (hm : m < g.edges.length) (hk : k < T.length) (hf : (ge g.edges m).f = gi T k) (ho : gi O (ge g.edges m).t.toNat = -1) :
    BF g (O.set (ge g.edges m).t.toNat (gi O (ge g.edges m).f.toNat + 1)) (T ++ [(ge g.edges m).t]) k (m + 1) := by
  have hq := hg.2.2.2.2.2 m hm
  unfold edgeOk at hq
  obtain ⟨⟨q1, q2, -⟩, ⟨q3, q4⟩, -⟩ := hq
  have hT := h.inT k hk
  have hol := h.len
  have hcn := h.cnt
  have htl : (ge g.edges m).t.toNat < O.length := by omega
  have hnew : ∀ j, j < T.length → (gi T j).toNat ≠ (ge g.edges m).t.toNat := fun j hj he => by
    have := (h.inT j hj).2.2; rw [he] at this; omega
  have hold : ∀ j, j < T.length → gi (O.set (ge g.edges m).t.toNat (gi O (ge g.edges m).f.toNat + 1)) (gi T j).toNat = gi O (gi T j).toNat := fun j hj => gi_set_other (hnew j hj)
  have hsame : gi (O.set (ge g.edges m).t.toNat (gi O (ge g.edges m).f.toNat + 1)) (ge g.edges m).t.toNat = gi O (ge g.edges m).f.toNat + 1 := gi_set_same htl
  have hfT : gi O (ge g.edges m).f.toNat = gi O (gi T k).toNat := by rw [hf]
  have hle : (T ++ [(ge g.edges m).t]).length = T.length + 1 := by simp
  have hTj : ∀ j, j < T.length → gi (T ++ [(ge g.edges m).t]) j = gi T j := fun j hj => gi_app_lt hj
  have hTl : gi (T ++ [(ge g.edges m).t]) T.length = (ge g.edges m).t := gi_app_at
  refine ⟨by rw [List.length_set]; exact h.len, ?_, ?_, ?_, ?_, ?_, ?_, ?_, ?_, ?_⟩
  · intro s hs
    rw [List.length_set] at hs
    by_cases hst : s = (ge g.edges m).t.toNat
    · subst hst
      right
      rw [hsame]
      rcases h.snd (gi T k).toNat (by omega) with h1 | ⟨d, h1, h2⟩
      · omega
      · refine ⟨d + 1, by rw [hfT, h1]; omega, m, hm, by omega, ?_⟩
        rw [hf]
        have : ((gi T k).toNat : Int) = gi T k := by omega
        rwa [this] at h2
    · rw [gi_set_other hst]; exact h.snd s hs
  · intro j hj
    rw [hle] at hj
    by_cases hjt : j < T.length
    · rw [hTj j hjt, hold j hjt]; exact h.inT j hjt
    · obtain rfl : j = T.length := by omega
      rw [hTl, hsame, hfT]; exact ⟨q2, q4, by omega⟩
  · intro s hs hn
    rw [List.length_set] at hs
    by_cases hst : s = (ge g.edges m).t.toNat
    · exact ⟨T.length, by omega, by rw [hTl]; omega⟩
    · rw [gi_set_other hst] at hn
      obtain ⟨j, hj, hj2⟩ := h.ofT s hs hn
      exact ⟨j, by omega, by rw [hTj j hj]; exact hj2⟩
  · intro s hs
    obtain ⟨h1, h2, h3⟩ := h.ini s hs
    refine ⟨h1, h2, ?_⟩
    rw [gi_set_other (by intro he; rw [he] at h3; omega)]; exact h3
  · intro i j hij hj
    rw [hle] at hj
    by_cases hjt : j < T.length
    · rw [hTj j hjt, hTj i (by omega), hold j hjt, hold i (by omega)]; exact h.mono i j hij hjt
    · obtain rfl : j = T.length := by omega
      by_cases hit : i < T.length
      · rw [hTl, hsame, hTj i hit, hold i hit, hfT]; exact h.near hk i hit
      · obtain rfl : i = T.length := by omega
        exact Int.le_refl _
  · intro _ j hj
    rw [hle] at hj
    rw [hTj k hk, hold k hk]
    by_cases hjt : j < T.length
    · rw [hTj j hjt, hold j hjt]; exact h.near hk j hjt
    · obtain rfl : j = T.length := by omega
      rw [hTl, hsame, hfT]; exact Int.le_refl _
  · intro j hj
    rw [hle] at hj
    by_cases hjt : j < T.length
    · rw [hTj j hjt, hold j hjt]; exact h.few j hjt
    · obtain rfl : j = T.length := by omega
      rw [hTl, hsame, hfT]
      have := h.few k hk
      omega
  · have hn := none1_set htl ho (u := gi O (ge g.edges m).f.toNat + 1) (by rw [hfT]; omega)
    rw [hle]; omega
  · intro j e he hj hm' hf'
    rw [hle] at hj
    have hjt : j < T.length := by omega
    rw [hTj j hjt] at hf'
    rw [hTj j hjt, hold j hjt]
    by_cases hem : (ge g.edges e).t.toNat = (ge g.edges m).t.toNat
    · rw [hem, hsame, hfT]
      by_cases hjk : j = k
      · subst hjk; omega
      · have := h.clo j e he hjt (by omega) hf'
        rw [hem] at this
        omega
    · rw [gi_set_other hem]
      refine h.clo j e he hjt ?_ hf'
      rcases hm' with hm' | ⟨rfl, hm'⟩
      · exact .inl hm'
      · by_cases h9 : e = m
        · subst h9; exact absurd rfl hem
        · exact .inr ⟨rfl, by omega⟩
theorem BF.next {g : G} {O T : List Int} {k : Nat} (h : BF g O T k g.edges.length) (hk : k < T.length) : BF g O T (k + 1) 0 :=
  { h with
    near := fun hk' j hj => by
      have h1 := h.near hk j hj
      have h2 := h.mono k (k + 1) (by omega) hk'
      omega
    clo := fun j e he hj hm hf => h.clo j e he hj (by omega) hf }
theorem BF.fin {g : G} {O T : List Int} {k : Nat} (h : BF g O T k 0) (hg : bOk g) (hk : k = T.length) : DistOk g O := by
  refine ⟨h.len, ?_⟩
  have hol := h.len
  have key : ∀ n s, R g n s → 0 ≤ s ∧ s < g.n ∧ 0 ≤ gi O s.toNat ∧ gi O s.toNat ≤ n := by
    intro n
    induction n with
    | zero => intro s hs; obtain ⟨h1, h2, h3⟩ := h.ini s hs; exact ⟨h1, h2, by omega, by omega⟩
    | succ n ih =>
      rintro s ⟨e, he, rfl, hr⟩
      obtain ⟨h1, h2, h3, h4⟩ := ih _ hr
      obtain ⟨j, hj, hj2⟩ := h.ofT (ge g.edges e).f.toNat (by omega) (by omega)
      have h5 : gi T j = (ge g.edges e).f := by omega
      have h6 := h.clo j e he hj (by omega) h5.symm
      rw [h5] at h6
      have hq := hg.2.2.2.2.2 e he
      unfold edgeOk at hq
      omega
  intro s hs
  rcases h.snd s hs with h1 | ⟨d, h1, h2⟩
  · left
    refine ⟨h1, fun n hr => ?_⟩
    have := (key n s hr).2.2.1
    rw [Int.toNat_natCast] at this
    omega
  · right
    refine ⟨d, h1, h2, fun m hm hr => ?_⟩
    have := (key m s hr).2.2.2
    rw [Int.toNat_natCast] at this
    omega

/-- The first states at the distance 0, j of them. -/
structure B0 (g : G) (O : List Int) (j : Nat) : Prop where
  len : O.length = g.n.toNat
  val : ∀ s : Nat, s < O.length → (gi O s = 0 ∧ ∃ i, i < j ∧ gi g.init i = s) ∨ (gi O s = -1 ∧ ∀ i, i < j → gi g.init i ≠ s)
  cnt : j + none1 O = g.n.toNat
theorem B0.start {g : G} : B0 g (List.replicate g.n.toNat (-1)) 0 := by
  refine ⟨by simp, fun s hs => .inr ⟨?_, fun i hi => by omega⟩, by simp [none1]⟩
  simp at hs
  unfold gi; simp [hs]
theorem init_inj {g : G} (hg : bOk g) : ∀ {i j : Nat}, i < j → j < g.init.length → gi g.init i < gi g.init j := by
  intro i j hij
  induction j with
  | zero => omega
  | succ j ih =>
    intro hj
    have h1 := (hg.2.2.2.2.1 (j + 1) hj).2.2 (by omega)
    simp at h1
    by_cases h : i = j
    · subst h; exact h1
    · have := ih (by omega) (by omega); omega
theorem B0.more {g : G} (hg : bOk g) {O : List Int} {j : Nat} (h : B0 g O j) (hj : j < g.init.length) : B0 g (O.set (gi g.init j).toNat 0) (j + 1) := by
  have hi := hg.2.2.2.2.1 j hj
  unfold initOk at hi
  have hol := h.len
  have hcn := h.cnt
  have hlt : (gi g.init j).toNat < O.length := by omega
  have h1 : gi O (gi g.init j).toNat = -1 := by
    rcases h.val _ hlt with ⟨-, i, hi1, hi2⟩ | h1
    · have := init_inj hg hi1 hj; omega
    · exact h1.1
  refine ⟨by rw [List.length_set]; exact hol, ?_, ?_⟩
  · intro s hs
    rw [List.length_set] at hs
    by_cases hsj : s = (gi g.init j).toNat
    · subst hsj
      exact .inl ⟨gi_set_same hlt, j, by omega, by omega⟩
    · rw [gi_set_other hsj]
      rcases h.val s hs with ⟨h2, i, hi1, hi2⟩ | ⟨h2, h3⟩
      · exact .inl ⟨h2, i, by omega, hi2⟩
      · refine .inr ⟨h2, fun i hi => ?_⟩
        by_cases hij : i = j
        · subst hij; omega
        · exact h3 i (by omega)
  · have := none1_set hlt h1 (u := 0) (by decide)
    omega
theorem B0.bf {g : G} (hg : bOk g) {O : List Int} (h : B0 g O g.init.length) : BF g O g.init 0 0 := by
  have hol := h.len
  have hz : ∀ j, j < g.init.length → gi O (gi g.init j).toNat = 0 := fun j hj => by
    have hi := hg.2.2.2.2.1 j hj
    unfold initOk at hi
    rcases h.val (gi g.init j).toNat (by omega) with ⟨h1, -⟩ | ⟨-, h1⟩
    · exact h1
    · exact absurd (by omega) (h1 j hj)
  refine ⟨hol, ?_, ?_, ?_, ?_, ?_, ?_, ?_, h.cnt, ?_⟩
  · intro s hs
    rcases h.val s hs with ⟨h1, i, hi, hi2⟩ | ⟨h1, -⟩
    · exact .inr ⟨0, h1, by show (s : Int) ∈ g.init; rw [← hi2]; exact gi_mem' hi⟩
    · exact .inl h1
  · intro j hj
    have hi := hg.2.2.2.2.1 j hj
    unfold initOk at hi
    rw [hz j hj]
    omega
  · intro s hs hn
    rcases h.val s hs with ⟨-, i, hi, hi2⟩ | ⟨h1, -⟩
    · exact ⟨i, hi, hi2⟩
    · exact absurd h1 hn
  · intro s hs
    obtain ⟨j, hj, rfl⟩ := mem_gi.1 hs
    have hi := hg.2.2.2.2.1 j hj
    unfold initOk at hi
    exact ⟨by omega, by omega, hz j hj⟩
  · intro i j hij hj
    rw [hz i (by omega), hz j hj]; exact Int.le_refl _
  · intro hk j hj
    rw [hz 0 hk, hz j hj]; decide
  · intro j hj
    rw [hz j hj]; omega
  · intro j e he hj hm hf
    omega
end Go.Proofs.Ytnijajjmcdgonaa
