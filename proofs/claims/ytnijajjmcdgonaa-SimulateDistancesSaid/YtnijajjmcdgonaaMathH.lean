import Derived.Test.YtnijajjmcdgonaaMathD
import Derived.Test.YtnijajjmcdgonaaMathF
namespace Go.Proofs.Ytnijajjmcdgonaa
open Go.RowKit
set_option linter.unusedVariables false

/-! Walks in their order, and the first of the shortest ones that are wanted: the mathematics. -/
def lexLt : List Int → List Int → Prop
  | a :: r, b :: t => a < b ∨ (a = b ∧ lexLt r t)
  | _, _ => False
theorem lexLt_irrefl : ∀ l, ¬ lexLt l l
  | [], h => h
  | a :: r, h => by
    rcases h with h | ⟨-, h⟩
    · omega
    · exact lexLt_irrefl r h
theorem lexLt_trans : ∀ {l m n : List Int}, lexLt l m → lexLt m n → lexLt l n
  | [], _, _, h, _ => by cases h
  | _ :: _, [], _, h, _ => by cases h
  | _ :: _, _ :: _, [], _, h => by cases h
  | a :: r, b :: t, c :: u, h1, h2 => by
    rcases h1 with h1 | ⟨rfl, h1⟩ <;> rcases h2 with h2 | ⟨rfl, h2⟩
    · exact .inl (by omega)
    · exact .inl h1
    · exact .inl h2
    · exact .inr ⟨rfl, lexLt_trans h1 h2⟩
theorem lexLt_app {a b : Int} : ∀ {l m : List Int}, l.length = m.length → lexLt l m → lexLt (l ++ [a]) (m ++ [b])
  | [], [], _, h => by cases h
  | [], _ :: _, hl, _ => by cases hl
  | _ :: _, [], hl, _ => by cases hl
  | x :: r, y :: t, hl, h => by
    rcases h with h | ⟨rfl, h⟩
    · exact .inl h
    · exact .inr ⟨rfl, lexLt_app (by simpa using hl) h⟩
theorem lexLt_last {a b : Int} (h : a < b) : ∀ (l : List Int), lexLt (l ++ [a]) (l ++ [b])
  | [] => .inl h
  | x :: r => .inr ⟨rfl, lexLt_last h r⟩

/-- The least of some lists. -/
def LeastIn (S : List Int → Prop) (k : List Int) : Prop := S k ∧ ∀ k', S k' → k = k' ∨ lexLt k k'
theorem leastIn_one {S : List Int → Prop} {k k' : List Int} (h : LeastIn S k) (h' : LeastIn S k') : k = k' := by
  rcases h.2 k' h'.1 with e | e
  · exact e
  · rcases h'.2 k h.1 with e' | e'
    · exact e'.symm
    · exact absurd (lexLt_trans e e') (lexLt_irrefl _)

/-- The key of a walk with d steps to s. -/
def KP (g : G) (d : Nat) (s : Int) (k : List Int) : Prop := ∃ f r, k = f :: r ∧ f ∈ g.init ∧ r.length = d ∧ stepsErr g f r = (s, 0)
theorem KP.len {g : G} {d : Nat} {s : Int} {k : List Int} (h : KP g d s k) : k.length = d + 1 := by
  obtain ⟨f, r, rfl, -, hl, -⟩ := h
  simp [hl]
theorem stepsErr_snoc (g : G) (i : Int) : ∀ (l : List Int) (s : Int), stepsErr g s (l ++ [i]) = if (stepsErr g s l).2 = 0 then stepsErr g (stepsErr g s l).1 [i] else stepsErr g s l
  | [], s => by
    show stepsErr g s [i] = if (0 : Int) = 0 then stepsErr g s [i] else _
    rw [if_pos rfl]
  | j :: r, s => by
    rw [List.cons_append]
    by_cases h1 : j < 0 ∨ (g.edges.length : Int) ≤ j
    · rw [stepsErr_out h1, stepsErr_out h1]; simp
    · by_cases h2 : (ge g.edges j.toNat).f = s
      · rw [stepsErr_next h1 h2, stepsErr_next h1 h2]; exact stepsErr_snoc g i r _
      · rw [stepsErr_clash h1 h2, stepsErr_clash h1 h2]; simp
theorem KP.more {g : G} {d : Nat} {k : List Int} {i : Nat} (hi : i < g.edges.length) (h : KP g d (ge g.edges i).f k) : KP g (d + 1) (ge g.edges i).t (k ++ [(i : Int)]) := by
  obtain ⟨f, r, rfl, hf, hl, hs⟩ := h
  refine ⟨f, r ++ [(i : Int)], rfl, hf, by simp [hl], ?_⟩
  rw [stepsErr_snoc, hs, if_pos rfl]
  rw [stepsErr_next (by omega) (by simp)]
  simp [stepsErr]
theorem KP.last {g : G} {d : Nat} {s : Int} {k : List Int} (h : KP g (d + 1) s k) : ∃ k' i, i < g.edges.length ∧ k = k' ++ [(i : Int)] ∧ KP g d (ge g.edges i).f k' ∧ (ge g.edges i).t = s := by
  obtain ⟨f, r, rfl, hf, hl, hs⟩ := h
  have hne : r ≠ [] := by intro h; rw [h] at hl; simp at hl
  obtain ⟨r', j, rfl⟩ : ∃ r' j, r = r' ++ [j] := ⟨r.dropLast, r.getLast hne, (List.dropLast_concat_getLast hne).symm⟩
  rw [stepsErr_snoc] at hs
  by_cases h0 : (stepsErr g f r').2 = 0
  · rw [if_pos h0] at hs
    by_cases h1 : j < 0 ∨ (g.edges.length : Int) ≤ j
    · rw [stepsErr_out h1] at hs; cases hs
    · by_cases h2 : (ge g.edges j.toNat).f = (stepsErr g f r').1
      · rw [stepsErr_next h1 h2] at hs
        have hj : ((j.toNat : Nat) : Int) = j := by omega
        refine ⟨f :: r', j.toNat, by omega, by rw [hj]; rfl, ⟨f, r', rfl, hf, by simpa using hl, ?_⟩, by simpa [stepsErr] using hs⟩
        rw [h2, ← h0]
      · rw [stepsErr_clash h1 h2] at hs; cases hs
  · rw [if_neg h0] at hs
    rw [hs] at h0; simp at h0
theorem KP.zero {g : G} {s : Int} {k : List Int} (h : KP g 0 s k) : k = [s] ∧ s ∈ g.init := by
  obtain ⟨f, r, rfl, hf, hl, hs⟩ := h
  have : r = [] := List.length_eq_zero_iff.1 hl
  subst this
  have : f = s := by simpa [stepsErr] using hs
  subst this
  exact ⟨rfl, hf⟩
theorem R_iff (g : G) : ∀ d s, R g d s ↔ ∃ k, KP g d s k
  | 0, s => ⟨fun h => ⟨[s], s, [], rfl, h, rfl, rfl⟩, fun ⟨k, h⟩ => h.zero.2⟩
  | d + 1, s => by
    constructor
    · rintro ⟨i, hi, rfl, hr⟩
      obtain ⟨k, hk⟩ := (R_iff g d _).1 hr
      exact ⟨_, hk.more hi⟩
    · rintro ⟨k, hk⟩
      obtain ⟨k', i, hi, -, hk', ht⟩ := hk.last
      exact ⟨i, hi, ht, (R_iff g d _).2 ⟨k', hk'⟩⟩
/-- What can be reached has a distance, which is not greater. -/
theorem R_dist (g : G) (s : Int) : ∀ d, R g d s → ∃ m, m ≤ d ∧ IsDist g s (m : Int) := by
  intro d
  induction d using Nat.strongRecOn with
  | _ d ih =>
    intro h
    by_cases hm : ∃ m, m < d ∧ R g m s
    · obtain ⟨m, hm, hr⟩ := hm
      obtain ⟨m', h1, h2⟩ := ih m hm hr
      exact ⟨m', by omega, h2⟩
    · exact ⟨d, Nat.le_refl _, .inr ⟨d, rfl, h, fun m hm' hr => hm ⟨m, hm', hr⟩⟩⟩
theorem dist_R {g : G} {s : Int} {d : Nat} (h : IsDist g s (d : Int)) : R g d s ∧ ∀ m, m < d → ¬ R g m s := by
  rcases h with ⟨h, -⟩ | ⟨n, h, h1, h2⟩
  · omega
  · have : n = d := by omega
    subst this
    exact ⟨h1, h2⟩

/-- The key of a walk with d steps that is wanted. -/
def Hit (g : G) (P : Int → Int → Bool) : Nat → List Int → Prop
  | 0, k => ∃ s, s ∈ g.init ∧ k = [s] ∧ P (-1) s = true
  | d + 1, k => ∃ k' i, i < g.edges.length ∧ k = k' ++ [(i : Int)] ∧ KP g d (ge g.edges i).f k' ∧ P i (ge g.edges i).t = true
def NoHit (g : G) (P : Int → Int → Bool) (d : Nat) : Prop := ∀ k, ¬ Hit g P d k

/-- Where a walk ends; its key. -/
def en (g : G) (x : W3) : Int := (stepsErr g x.first x.steps).1
def key (x : W3) : List Int := x.first :: x.steps

/-- All walks of a layer: the least ones to each state at a distance, in their order. -/
structure LY (g : G) (d : Nat) (A : List W3) : Prop where
  lst : ∀ j, j < A.length → LeastIn (KP g d (en g (gw A j))) (key (gw A j)) ∧ IsDist g (en g (gw A j)) (d : Int)
  srt : ∀ j j', j < j' → j' < A.length → lexLt (key (gw A j)) (key (gw A j'))
  all : ∀ s, IsDist g s (d : Int) → ∃ j, j < A.length ∧ en g (gw A j) = s
def bef (j i j' i' : Nat) : Prop := j' < j ∨ (j' = j ∧ i' < i)

/-- What holds while the steps from a layer are gone through: walk j, step i. -/
structure NX (g : G) (P : Int → Int → Bool) (d : Nat) (A B : List W3) (seen : Int → Prop) (j i : Nat) : Prop where
  ly : LY g d A
  nh : ∀ d', d' ≤ d → NoHit g P d'
  lst : ∀ q, q < B.length → LeastIn (KP g (d + 1) (en g (gw B q))) (key (gw B q)) ∧ IsDist g (en g (gw B q)) ((d + 1 : Nat) : Int)
  srt : ∀ q q', q < q' → q' < B.length → lexLt (key (gw B q)) (key (gw B q'))
  frm : ∀ q, q < B.length → ∃ j' i', bef j i j' i' ∧ j' < A.length ∧ i' < g.edges.length ∧ key (gw B q) = key (gw A j') ++ [(i' : Int)]
  see : ∀ s, seen s ↔ (∃ d', d' ≤ d ∧ IsDist g s (d' : Int)) ∨ ∃ j' i', bef j i j' i' ∧ j' < A.length ∧ i' < g.edges.length ∧ (ge g.edges i').f = en g (gw A j') ∧ (ge g.edges i').t = s
  tak : ∀ j' i', bef j i j' i' → j' < A.length → i' < g.edges.length → (ge g.edges i').f = en g (gw A j') → (∃ d', d' ≤ d ∧ IsDist g (ge g.edges i').t (d' : Int)) ∨ ∃ q, q < B.length ∧ en g (gw B q) = (ge g.edges i').t
  not : ∀ j' i', bef j i j' i' → j' < A.length → i' < g.edges.length → (ge g.edges i').f = en g (gw A j') → P i' (ge g.edges i').t = false

/-- Whatever comes later is greater. -/
theorem NX.first {g : G} {P : Int → Int → Bool} {d : Nat} {A B : List W3} {seen : Int → Prop} {j i : Nat} (h : NX g P d A B seen j i) (hj : j < A.length)
    {z : List Int} {i' : Nat} (hz : KP g d (ge g.edges i').f z) (hd : IsDist g (ge g.edges i').f (d : Int)) (hb : ∀ j', j' < A.length → (ge g.edges i').f = en g (gw A j') → ¬ bef j i j' i') :
    key (gw A j) ++ [(i : Int)] = z ++ [(i' : Int)] ∨ lexLt (key (gw A j) ++ [(i : Int)]) (z ++ [(i' : Int)]) := by
  obtain ⟨j', hj', he⟩ := h.ly.all _ hd
  have hnb := hb j' hj' he.symm
  have hL := (h.ly.lst j' hj').1
  rw [he] at hL
  have hlen : (key (gw A j)).length = z.length := by rw [((h.ly.lst j hj).1.1).len, hz.len]
  have hlt : lexLt (key (gw A j)) z → key (gw A j) ++ [(i : Int)] = z ++ [(i' : Int)] ∨ lexLt (key (gw A j) ++ [(i : Int)]) (z ++ [(i' : Int)]) := fun h => .inr (lexLt_app hlen h)
  rcases Nat.lt_trichotomy j' j with h1 | h1 | h1
  · exact absurd (.inl h1) hnb
  · subst h1
    rcases hL.2 z hz with e | e
    · rw [e]
      have : ¬ i' < i := fun h => hnb (.inr ⟨rfl, h⟩)
      rcases Nat.lt_or_ge i i' with h2 | h2
      · exact .inr (lexLt_last (by omega) _)
      · have : i = i' := by omega
        subst this
        exact .inl rfl
    · exact hlt e
  · have h2 := h.ly.srt j j' h1 hj'
    rcases hL.2 z hz with e | e
    · rw [e] at h2; exact hlt h2
    · exact hlt (lexLt_trans h2 e)

/-- A wanted step from a state: it is at the distance d, or there was one before. -/
theorem NX.far {g : G} {P : Int → Int → Bool} {d : Nat} (nh : ∀ d', d' ≤ d → NoHit g P d') {i : Nat} {z : List Int} {m : Nat} (hi : i < g.edges.length) (hz : KP g m (ge g.edges i).f z) (hP : P i (ge g.edges i).t = true) (hm : m ≤ d) : m = d ∧ IsDist g (ge g.edges i).f (d : Int) := by
  obtain ⟨d0, h0, hd0⟩ := R_dist g _ m ((R_iff g m _).2 ⟨z, hz⟩)
  by_cases hlt : d0 < d
  · obtain ⟨k, hk⟩ := (R_iff g d0 _).1 (dist_R hd0).1
    exact absurd ⟨k, i, hi, rfl, hk, hP⟩ (nh (d0 + 1) (by omega) (k ++ [(i : Int)]))
  · have : d0 = d := by omega
    subst this
    exact ⟨by omega, hd0⟩

/-- A wanted step is found: the least one. -/
theorem NX.hit {g : G} {P : Int → Int → Bool} {d : Nat} {A B : List W3} {seen : Int → Prop} {j i : Nat} (h : NX g P d A B seen j i) (hj : j < A.length) (hi : i < g.edges.length) (hf : (ge g.edges i).f = en g (gw A j)) (hP : P i (ge g.edges i).t = true) :
    LeastIn (Hit g P (d + 1)) (key (gw A j) ++ [(i : Int)]) := by
  have hL := (h.ly.lst j hj).1.1
  rw [← hf] at hL
  refine ⟨⟨_, i, hi, rfl, hL, hP⟩, ?_⟩
  rintro k ⟨z, i', hi', rfl, hz, hP'⟩
  obtain ⟨-, hd⟩ := NX.far h.nh hi' hz hP' (Nat.le_refl _)
  refine h.first hj hz hd fun j' hj' he hb => ?_
  have := h.not j' i' hb hj' hi' he
  rw [this] at hP'; cases hP'

theorem bef_skip {j i j' i' : Nat} (h : bef j (i + 1) j' i') : bef j i j' i' ∨ (j' = j ∧ i' = i) := by
  unfold bef at *; omega
theorem bef_more {j i j' i' : Nat} (h : bef j i j' i') : bef j (i + 1) j' i' := by unfold bef at *; omega
/-- A step that does not begin here. -/
theorem NX.skip {g : G} {P : Int → Int → Bool} {d : Nat} {A B : List W3} {seen : Int → Prop} {j i : Nat} (h : NX g P d A B seen j i) (hn : (ge g.edges i).f ≠ en g (gw A j)) : NX g P d A B seen j (i + 1) := by
  refine { h with frm := ?_, see := ?_, tak := ?_, not := ?_ }
  · intro q hq
    obtain ⟨j', i', h1, h2, h3, h4⟩ := h.frm q hq
    exact ⟨j', i', bef_more h1, h2, h3, h4⟩
  · intro s
    rw [h.see s]
    constructor
    · rintro (h1 | ⟨j', i', h1, h2⟩)
      · exact .inl h1
      · exact .inr ⟨j', i', bef_more h1, h2⟩
    · rintro (h1 | ⟨j', i', h1, h2, h3, h4, h5⟩)
      · exact .inl h1
      · rcases bef_skip h1 with h1 | ⟨rfl, rfl⟩
        · exact .inr ⟨j', i', h1, h2, h3, h4, h5⟩
        · exact absurd h4 hn
  · intro j' i' h1 h2 h3 h4
    rcases bef_skip h1 with h1 | ⟨rfl, rfl⟩
    · exact h.tak j' i' h1 h2 h3 h4
    · exact absurd h4 hn
  · intro j' i' h1 h2 h3 h4
    rcases bef_skip h1 with h1 | ⟨rfl, rfl⟩
    · exact h.not j' i' h1 h2 h3 h4
    · exact absurd h4 hn
/-- A step to a state that was seen. -/
theorem NX.old {g : G} {P : Int → Int → Bool} {d : Nat} {A B : List W3} {seen : Int → Prop} {j i : Nat} (h : NX g P d A B seen j i) (hs : seen (ge g.edges i).t) (hP : P i (ge g.edges i).t = false) : NX g P d A B seen j (i + 1) := by
  refine { h with frm := ?_, see := ?_, tak := ?_, not := ?_ }
  · intro q hq
    obtain ⟨j', i', h1, h2, h3, h4⟩ := h.frm q hq
    exact ⟨j', i', bef_more h1, h2, h3, h4⟩
  · intro s
    constructor
    · intro h0
      rcases (h.see s).1 h0 with h1 | ⟨j', i', h1, h2⟩
      · exact .inl h1
      · exact .inr ⟨j', i', bef_more h1, h2⟩
    · rintro (h1 | ⟨j', i', h1, h2, h3, h4, h5⟩)
      · exact (h.see s).2 (.inl h1)
      · rcases bef_skip h1 with h1 | ⟨rfl, rfl⟩
        · exact (h.see s).2 (.inr ⟨j', i', h1, h2, h3, h4, h5⟩)
        · rw [← h5]; exact hs
  · intro j' i' h1 h2 h3 h4
    rcases bef_skip h1 with h1 | ⟨rfl, rfl⟩
    · exact h.tak j' i' h1 h2 h3 h4
    · rcases (h.see _).1 hs with h5 | ⟨j2, i2, h5, h6, h7, h8, h9⟩
      · exact .inl h5
      · have := h.tak j2 i2 h5 h6 h7 h8
        rwa [h9] at this
  · intro j' i' h1 h2 h3 h4
    rcases bef_skip h1 with h1 | ⟨rfl, rfl⟩
    · exact h.not j' i' h1 h2 h3 h4
    · exact hP
theorem gw_app_lt {l : List W3} {x : W3} {j : Nat} (h : j < l.length) : gw (l ++ [x]) j = gw l j := by unfold gw; rw [List.getElem?_append_left h]
theorem gw_app_at {l : List W3} {x : W3} : gw (l ++ [x]) l.length = x := by unfold gw; simp
theorem key_en {g : G} {d : Nat} {s : Int} {x : W3} (h : KP g d s (key x)) : en g x = s := by
  obtain ⟨f, r, hk, -, -, hs⟩ := h
  injection hk with h1 h2
  unfold en
  rw [h1, h2, hs]
/-- A step to a state that was not seen. -/
theorem NX.more {g : G} {P : Int → Int → Bool} {d : Nat} {A B : List W3} {seen seen' : Int → Prop} {j i : Nat} (h : NX g P d A B seen j i) (hj : j < A.length) (hi : i < g.edges.length) (hf : (ge g.edges i).f = en g (gw A j)) (hs : ¬ seen (ge g.edges i).t) (hP : P i (ge g.edges i).t = false)
    (hs' : ∀ s, seen' s ↔ seen s ∨ s = (ge g.edges i).t) : NX g P d A (B ++ [⟨(gw A j).first, (gw A j).steps ++ [(i : Int)], false⟩]) seen' j (i + 1) := by
  have hL := (h.ly.lst j hj).1.1
  rw [← hf] at hL
  have hK : KP g (d + 1) (ge g.edges i).t (key ⟨(gw A j).first, (gw A j).steps ++ [(i : Int)], false⟩) := hL.more hi
  have hen := key_en hK
  have hkey : key (⟨(gw A j).first, (gw A j).steps ++ [(i : Int)], false⟩ : W3) = key (gw A j) ++ [(i : Int)] := rfl
  have hns : ∀ m, m ≤ d → ¬ R g m (ge g.edges i).t := fun m hm hr => by
    obtain ⟨m', h1, h2⟩ := R_dist g _ m hr
    exact hs ((h.see _).2 (.inl ⟨m', by omega, h2⟩))
  have hD : IsDist g (ge g.edges i).t ((d + 1 : Nat) : Int) := .inr ⟨d + 1, rfl, (R_iff g _ _).2 ⟨_, hK⟩, fun m hm => hns m (by omega)⟩
  have hlen : (B ++ [(⟨(gw A j).first, (gw A j).steps ++ [(i : Int)], false⟩ : W3)]).length = B.length + 1 := by simp
  have hLe : LeastIn (KP g (d + 1) (ge g.edges i).t) (key (gw A j) ++ [(i : Int)]) := by
    refine ⟨hK, ?_⟩
    intro k hk
    obtain ⟨z, i', hi', rfl, hz, ht⟩ := hk.last
    have hd : IsDist g (ge g.edges i').f (d : Int) := by
      obtain ⟨m, hm, hd⟩ := R_dist g _ d ((R_iff g d _).2 ⟨z, hz⟩)
      by_cases hmd : m < d
      · exact absurd (⟨i', hi', ht, (dist_R hd).1⟩ : R g (m + 1) (ge g.edges i).t) (hns (m + 1) (by omega))
      · have : m = d := by omega
        subst this; exact hd
    exact h.first hj hz hd fun j' hj' he hb => hs ((h.see _).2 (.inr ⟨j', i', hb, hj', hi', he, ht⟩))
  refine ⟨h.ly, h.nh, ?_, ?_, ?_, ?_, ?_, ?_⟩
  · intro q hq
    rw [hlen] at hq
    by_cases hqB : q < B.length
    · rw [gw_app_lt hqB]; exact h.lst q hqB
    · obtain rfl : q = B.length := by omega
      rw [gw_app_at, hen]
      exact ⟨hLe, hD⟩
  · intro q q' hqq hq
    rw [hlen] at hq
    by_cases hqB : q' < B.length
    · rw [gw_app_lt hqB, gw_app_lt (by omega)]; exact h.srt q q' hqq hqB
    · obtain rfl : q' = B.length := by omega
      rw [gw_app_at, gw_app_lt hqq, hkey]
      obtain ⟨j', i', hb, hj', hi', he⟩ := h.frm q hqq
      rw [he]
      rcases hb with hb | ⟨rfl, hb⟩
      · exact lexLt_app (by rw [((h.ly.lst j hj).1.1).len, ((h.ly.lst j' hj').1.1).len]) (h.ly.srt j' j hb hj)
      · exact lexLt_last (by omega) _
  · intro q hq
    rw [hlen] at hq
    by_cases hqB : q < B.length
    · obtain ⟨j', i', h1, h2, h3, h4⟩ := h.frm q hqB
      rw [gw_app_lt hqB]
      exact ⟨j', i', bef_more h1, h2, h3, h4⟩
    · obtain rfl : q = B.length := by omega
      rw [gw_app_at]
      exact ⟨j, i, .inr ⟨rfl, Nat.lt_succ_self _⟩, hj, hi, rfl⟩
  · intro s
    rw [hs' s, h.see s]
    constructor
    · rintro ((h1 | ⟨j', i', h1, h2⟩) | h1)
      · exact .inl h1
      · exact .inr ⟨j', i', bef_more h1, h2⟩
      · exact .inr ⟨j, i, .inr ⟨rfl, Nat.lt_succ_self _⟩, hj, hi, hf, h1.symm⟩
    · rintro (h1 | ⟨j', i', h1, h2, h3, h4, h5⟩)
      · exact .inl (.inl h1)
      · rcases bef_skip h1 with h1 | ⟨rfl, rfl⟩
        · exact .inl (.inr ⟨j', i', h1, h2, h3, h4, h5⟩)
        · exact .inr h5.symm
  · intro j' i' h1 h2 h3 h4
    rcases bef_skip h1 with h1 | ⟨rfl, rfl⟩
    · rcases h.tak j' i' h1 h2 h3 h4 with h5 | ⟨q, hq, h5⟩
      · exact .inl h5
      · exact .inr ⟨q, by omega, by rw [gw_app_lt hq]; exact h5⟩
    · exact .inr ⟨B.length, by omega, by rw [gw_app_at]; exact hen⟩
  · intro j' i' h1 h2 h3 h4
    rcases bef_skip h1 with h1 | ⟨rfl, rfl⟩
    · exact h.not j' i' h1 h2 h3 h4
    · exact hP
/-- The next walk of the layer. -/
theorem NX.next {g : G} {P : Int → Int → Bool} {d : Nat} {A B : List W3} {seen : Int → Prop} {j : Nat} (h : NX g P d A B seen j g.edges.length) : NX g P d A B seen (j + 1) 0 := by
  have hb : ∀ j' i', bef (j + 1) 0 j' i' → i' < g.edges.length → bef j g.edges.length j' i' := fun j' i' h1 h2 => by unfold bef at *; omega
  have hb' : ∀ j' i', bef j g.edges.length j' i' → bef (j + 1) 0 j' i' := fun j' i' h1 => by unfold bef at *; omega
  refine { h with frm := ?_, see := ?_, tak := ?_, not := ?_ }
  · intro q hq
    obtain ⟨j', i', h1, h2, h3, h4⟩ := h.frm q hq
    exact ⟨j', i', hb' _ _ h1, h2, h3, h4⟩
  · intro s
    rw [h.see s]
    constructor
    · rintro (h1 | ⟨j', i', h1, h2⟩)
      · exact .inl h1
      · exact .inr ⟨j', i', hb' _ _ h1, h2⟩
    · rintro (h1 | ⟨j', i', h1, h2, h3, h4⟩)
      · exact .inl h1
      · exact .inr ⟨j', i', hb _ _ h1 h3, h2, h3, h4⟩
  · exact fun j' i' h1 h2 h3 h4 => h.tak j' i' (hb _ _ h1 h3) h2 h3 h4
  · exact fun j' i' h1 h2 h3 h4 => h.not j' i' (hb _ _ h1 h3) h2 h3 h4
/-- The layer is gone through: the next one, and nothing wanted. -/
theorem NX.done {g : G} {P : Int → Int → Bool} {d : Nat} {A B : List W3} {seen : Int → Prop} (h : NX g P d A B seen A.length 0) : NX g P (d + 1) B [] seen 0 0 := by
  have hall : ∀ j' i', j' < A.length → bef A.length 0 j' i' := fun j' i' h => .inl h
  have hpred : ∀ (s : Int), IsDist g s ((d + 1 : Nat) : Int) → ∃ i' j', i' < g.edges.length ∧ j' < A.length ∧ (ge g.edges i').f = en g (gw A j') ∧ (ge g.edges i').t = s := by
    intro s hs
    obtain ⟨⟨i', hi', ht, hr⟩, hmin⟩ := dist_R hs
    obtain ⟨m, hm, hd⟩ := R_dist g _ d hr
    have : m = d := by
      by_cases hmd : m < d
      · exact absurd (⟨i', hi', ht, (dist_R hd).1⟩ : R g (m + 1) s) (hmin (m + 1) (by omega))
      · omega
    subst this
    obtain ⟨j', hj', he⟩ := h.ly.all _ hd
    exact ⟨i', j', hi', hj', he.symm, ht⟩
  have hly : LY g (d + 1) B := by
    refine ⟨h.lst, h.srt, fun s hs => ?_⟩
    obtain ⟨i', j', hi', hj', he, ht⟩ := hpred s hs
    rcases h.tak j' i' (hall _ _ hj') hj' hi' he with ⟨d', hd', h5⟩ | ⟨q, hq, h5⟩
    · rw [ht] at h5
      have := isDist_one hs h5
      omega
    · exact ⟨q, hq, h5.trans ht⟩
  have hnh : ∀ d', d' ≤ d + 1 → NoHit g P d' := by
    intro d' hd'
    by_cases hdd : d' ≤ d
    · exact h.nh d' hdd
    · obtain rfl : d' = d + 1 := by omega
      rintro k ⟨z, i', hi', rfl, hz, hP⟩
      obtain ⟨-, hd⟩ := NX.far h.nh hi' hz hP (Nat.le_refl _)
      obtain ⟨j', hj', he⟩ := h.ly.all _ hd
      have := h.not j' i' (hall _ _ hj') hj' hi' he.symm
      rw [this] at hP; cases hP
  have hb0 : ∀ j' i', ¬ bef 0 0 j' i' := fun j' i' h => by unfold bef at h; omega
  refine ⟨hly, hnh, fun q hq => by simp at hq, fun q q' h1 h2 => by simp at h2, fun q hq => by simp at hq, ?_, fun j' i' h1 => absurd h1 (hb0 _ _), fun j' i' h1 => absurd h1 (hb0 _ _)⟩
  intro s
  rw [h.see s]
  constructor
  · rintro (⟨d', h1, h2⟩ | ⟨j', i', h1, h2, h3, h4, h5⟩)
    · exact .inl ⟨d', by omega, h2⟩
    · left
      have hr : R g (d + 1) s := ⟨i', h3, h5, by rw [h4]; exact (dist_R (h.ly.lst j' h2).2).1⟩
      obtain ⟨m, hm, hd⟩ := R_dist g _ _ hr
      exact ⟨m, hm, hd⟩
  · rintro (⟨d', h1, h2⟩ | ⟨j', i', h1, -⟩)
    · by_cases hdd : d' ≤ d
      · exact .inl ⟨d', hdd, h2⟩
      · obtain rfl : d' = d + 1 := by omega
        obtain ⟨i', j', hi', hj', he, ht⟩ := hpred s h2
        exact .inr ⟨j', i', hall _ _ hj', hj', hi', he, ht⟩
    · exact absurd h1 (hb0 _ _)
/-- An empty layer: nothing is wanted. -/
theorem NX.none {g : G} {P : Int → Int → Bool} {d : Nat} {B : List W3} {seen : Int → Prop} {j i : Nat} (h : NX g P d [] B seen j i) : ∀ d', NoHit g P d' := by
  have hno : ∀ m s, d ≤ m → ¬ IsDist g s (m : Int) := by
    intro m
    induction m with
    | zero =>
      intro s hm hd
      have : d = 0 := by omega
      subst this
      obtain ⟨j, hj, -⟩ := h.ly.all s hd
      simp at hj
    | succ m ih =>
      intro s hm hd
      by_cases hdm : d = m + 1
      · subst hdm
        obtain ⟨j, hj, -⟩ := h.ly.all s hd
        simp at hj
      · obtain ⟨⟨i', hi', ht, hr⟩, hmin⟩ := dist_R hd
        obtain ⟨m', hm', hd'⟩ := R_dist g _ m hr
        have : m' = m := by
          by_cases hlt : m' < m
          · exact absurd (⟨i', hi', ht, (dist_R hd').1⟩ : R g (m' + 1) s) (hmin (m' + 1) (by omega))
          · omega
        subst this
        exact ih _ (by omega) hd'
  intro d' k hk
  match d', hk with
  | 0, hk => exact h.nh 0 (Nat.zero_le _) k hk
  | d' + 1, hk =>
    by_cases hdd : d' + 1 ≤ d
    · exact h.nh _ hdd k hk
    · obtain ⟨z, i', hi', rfl, hz, hP⟩ := hk
      obtain ⟨m, hm, hd⟩ := R_dist g _ d' ((R_iff g d' _).2 ⟨z, hz⟩)
      by_cases hmd : m < d
      · obtain ⟨k0, hk0⟩ := (R_iff g m _).1 (dist_R hd).1
        exact h.nh (m + 1) (by omega) _ ⟨k0, i', hi', rfl, hk0, hP⟩
      · exact hno m _ (by omega) hd

/-- The walks without steps, of the first k first states. -/
def ini3 (g : G) (k : Nat) : List W3 := (g.init.take k).map fun s => ⟨s, [], false⟩
theorem ini3_len {g : G} {k : Nat} (h : k ≤ g.init.length) : (ini3 g k).length = k := by simp [ini3]; omega
theorem ini3_succ {g : G} {k : Nat} (h : k < g.init.length) : ini3 g (k + 1) = ini3 g k ++ [⟨gi g.init k, [], false⟩] := by
  unfold ini3 gi
  rw [List.take_succ_eq_append_getElem h, List.getElem?_eq_getElem h, List.map_append]
  rfl
theorem ini3_at {g : G} {k j : Nat} (hj : j < k) (hk : k ≤ g.init.length) : gw (ini3 g k) j = ⟨gi g.init j, [], false⟩ := by
  have hjl : j < g.init.length := by omega
  unfold gw ini3 gi
  rw [List.getElem?_map, List.getElem?_take_of_lt hj, List.getElem?_eq_getElem hjl]
  rfl
theorem dist_zero {g : G} {s : Int} : IsDist g s ((0 : Nat) : Int) ↔ s ∈ g.init := by
  constructor
  · intro h; exact (dist_R h).1
  · intro h; exact .inr ⟨0, rfl, h, fun m hm => by omega⟩
/-- All first states are taken: the first layer. -/
theorem ini3_start {g : G} (hg : bOk g) {P : Int → Int → Bool} {seen : Int → Prop} (hP : ∀ j, j < g.init.length → P (-1) (gi g.init j) = false) (hs : ∀ s, seen s ↔ s ∈ g.init) : NX g P 0 (ini3 g g.init.length) [] seen 0 0 := by
  have hl := ini3_len (g := g) (k := g.init.length) (Nat.le_refl _)
  have hen : ∀ j, j < g.init.length → en g (gw (ini3 g g.init.length) j) = gi g.init j := fun j hj => by rw [ini3_at hj (Nat.le_refl _)]; rfl
  have hkey : ∀ j, j < g.init.length → key (gw (ini3 g g.init.length) j) = [gi g.init j] := fun j hj => by rw [ini3_at hj (Nat.le_refl _)]; rfl
  have hb0 : ∀ j' i', ¬ bef 0 0 j' i' := fun j' i' h => by unfold bef at h; omega
  refine ⟨⟨?_, ?_, ?_⟩, ?_, fun q hq => by simp at hq, fun q q' h1 h2 => by simp at h2, fun q hq => by simp at hq, ?_, fun j' i' h1 => absurd h1 (hb0 _ _), fun j' i' h1 => absurd h1 (hb0 _ _)⟩
  · intro j hj
    rw [hl] at hj
    rw [hen j hj, hkey j hj]
    refine ⟨⟨⟨_, [], rfl, gi_mem' hj, rfl, rfl⟩, fun k hk => .inl hk.zero.1.symm⟩, dist_zero.2 (gi_mem' hj)⟩
  · intro j j' hjj hj'
    rw [hl] at hj'
    rw [hkey j (by omega), hkey j' hj']
    exact .inl (init_inj hg hjj hj')
  · intro s hs
    obtain ⟨j, hj, rfl⟩ := mem_gi.1 (dist_zero.1 hs)
    exact ⟨j, by omega, hen j hj⟩
  · intro d' hd' k hk
    obtain rfl : d' = 0 := by omega
    obtain ⟨s, hs, rfl, hp⟩ := hk
    obtain ⟨j, hj, rfl⟩ := mem_gi.1 hs
    rw [hP j hj] at hp; cases hp
  · intro s
    rw [hs s]
    constructor
    · intro h; exact .inl ⟨0, Nat.le_refl _, dist_zero.2 h⟩
    · rintro (⟨d', h1, h2⟩ | ⟨j', i', h1, -⟩)
      · obtain rfl : d' = 0 := by omega
        exact dist_zero.1 h2
      · exact absurd h1 (hb0 _ _)
/-- A first state that is wanted. -/
theorem ini3_hit {g : G} (hg : bOk g) {P : Int → Int → Bool} {j : Nat} (hj : j < g.init.length) (hP : ∀ j', j' < j → P (-1) (gi g.init j') = false) (hp : P (-1) (gi g.init j) = true) : LeastIn (Hit g P 0) [gi g.init j] := by
  refine ⟨⟨_, gi_mem' hj, rfl, hp⟩, ?_⟩
  rintro k ⟨s, hs, rfl, hps⟩
  obtain ⟨j', hj', rfl⟩ := mem_gi.1 hs
  rcases Nat.lt_trichotomy j' j with h | h | h
  · rw [hP j' h] at hps; cases hps
  · subst h; exact .inl rfl
  · exact .inr (.inl (init_inj hg h hj'))
/-- The last step of a walk. -/
theorem en_last {g : G} {d : Nat} {s : Int} {x : W3} (h : KP g (d + 1) s (key x)) : ∃ n, n < g.edges.length ∧ gi x.steps d = (n : Int) ∧ (ge g.edges n).t = s ∧ x.steps.length = d + 1 := by
  obtain ⟨k', i, hi, hk, hK, ht⟩ := h.last
  obtain ⟨f, r, rfl, -, hl, -⟩ := hK
  unfold key at hk
  injection hk with h1 h2
  refine ⟨i, hi, ?_, ht, by rw [h2]; simp [hl]⟩
  rw [h2, ← hl]
  exact gi_app_at
theorem edge_rng {g : G} (hg : bOk g) {e : Nat} (he : e < g.edges.length) : 0 ≤ (ge g.edges e).f ∧ (ge g.edges e).f < g.n ∧ 0 ≤ (ge g.edges e).t ∧ (ge g.edges e).t < g.n := by
  have hq := hg.2.2.2.2.2 e he
  unfold edgeOk at hq
  omega
end Go.Proofs.Ytnijajjmcdgonaa
