import Derived.Test.YtciopdlmjciieaaBase
namespace Go.Proofs.Ytciopdlmjciieaa
open Go.RowKit
set_option linter.unusedVariables false

def cmpI (a b : Int) : Int := if a < b then -1 else if b < a then 1 else 0
set_option maxHeartbeats 400000 in
theorem compare_any (a b : Int) (w : World) :
    Calls Try.prog 54 #[.int .i64 a, .int .i64 b] w fun e w' => e = .returned (.int .i64 (cmpI a b)) ∧ w' = w := by
  have hs : ∀ r, (if a < b then -1 else if b < a then 1 else 0) = r → r = cmpI a b := fun r h => by rw [← h]; rfl
  have ha : (a != a) = false := by simp
  have hb : (b != b) = false := by simp
  by_cases h1 : a < b
  · have H := Lib.hid (hs (-1) (by rw [if_pos h1])); clear hs
    go_enter Try.func54, Try.ntmps54
    go_wp2
    go_ret
    exact ⟨ret_int H.out, rfl⟩
  · by_cases h2 : b < a
    · have H := Lib.hid (hs 1 (by rw [if_neg h1, if_pos h2])); clear hs
      go_enter Try.func54, Try.ntmps54
      go_wp2
      go_ret
      exact ⟨ret_int H.out, rfl⟩
    · have H := Lib.hid (hs 0 (by rw [if_neg h1, if_neg h2])); clear hs
      go_enter Try.func54, Try.ntmps54
      go_wp2
      go_ret
      exact ⟨ret_int H.out, rfl⟩
/-- The first of three that is not 0. -/
def or3 (a b c : Int) : Int := if a ≠ 0 then a else if b ≠ 0 then b else c
set_option maxHeartbeats 800000 in
theorem or3_any (k : Nat) (a b c : Int) (w : World) (h0 : w.cell? ⟨k, 0, none⟩ = some (.int .i64 a)) (h1 : w.cell? ⟨k, 1, none⟩ = some (.int .i64 b)) (h2 : w.cell? ⟨k, 2, none⟩ = some (.int .i64 c)) :
    Calls Try.prog 72 #[.slice (some ⟨k, 0, none⟩) 3 3] w fun e w' => e = .returned (.int .i64 (or3 a b c)) ∧ w' = w := by
  have hs : ∀ r, or3 a b c = r → r = or3 a b c := fun r h => by rw [← h]
  by_cases ha : a = 0
  · have Ha : (a != 0) = false := by simpa using ha
    by_cases hb : b = 0
    · have Hb : (b != 0) = false := by simpa using hb
      by_cases hc : c = 0
      · have Hc : (c != 0) = false := by simpa using hc
        have H := Lib.hid (hs 0 (by simp [or3, ha, hb, hc])); clear hs ha hb hc
        go_enter Try.func72, Try.ntmps72
        go_wp2
        go_rounds 4
        go_ret
        exact ⟨ret_int H.out, rfl⟩
      · have Hc : (c != 0) = true := by simpa using hc
        have H := Lib.hid (hs c (by simp [or3, ha, hb])); clear hs ha hb hc
        go_enter Try.func72, Try.ntmps72
        go_wp2
        go_rounds 4
        go_ret
        exact ⟨ret_int H.out, rfl⟩
    · have Hb : (b != 0) = true := by simpa using hb
      have H := Lib.hid (hs b (by simp [or3, ha, hb])); clear hs ha hb
      go_enter Try.func72, Try.ntmps72
      go_wp2
      go_rounds 4
      go_ret
      exact ⟨ret_int H.out, rfl⟩
  · have Ha : (a != 0) = true := by simpa using ha
    have H := Lib.hid (hs a (by simp [or3, ha])); clear hs ha
    go_enter Try.func72, Try.ntmps72
    go_wp2
    go_rounds 4
    go_ret
    exact ⟨ret_int H.out, rfl⟩
/-- An edge as three numbers: from, to, by. -/
structure E where
  f : Int
  t : Int
  a : Int
deriving DecidableEq, Inhabited
def cmpE (x y : E) : Int := or3 (cmpI x.f y.f) (cmpI x.t y.t) (cmpI x.a y.a)
abbrev vE (x : E) : Value := .agg #[.int .i64 x.f, .int .i64 x.t, .int .i64 x.a]
set_option maxHeartbeats 2000000 in
set_option maxRecDepth 100000 in
theorem compareEdges_any (x y : E) (w : World) :
    Calls Try.prog 65 #[vE x, vE y] w fun e w' => e = .returned (.int .i64 (cmpE x y)) ∧ Below w.heap.size w w' := by
  obtain ⟨x0, x1, x2⟩ := x
  obtain ⟨y0, y1, y2⟩ := y
  go_enter Try.func65, Try.ntmps65
  go_wp2_with fail
  refine wp_region_still_tail 15 (by kernel_rfl) (by kernel_rfl) ?_
  change wpStill _ _ (World.drew _) (fun a' => wpList _ _ _ _ a' (World.drew _)) _ _
  simp only [List.take_succ_cons, List.take_zero, List.drop_succ_cons, List.drop_zero]
  repeat (first | still_step | still_call (compare_any _ _ _))
  try refine wpStill_nil ?_
  go_wp2_with fail
  refine (or3_any _ (cmpI x0 y0) (cmpI x1 y1) (cmpI x2 y2) _ ?_ ?_ ?_).mono ?_
  · exact World.cell?_alloc_at _ _ _ _ (by simp)
  · exact World.cell?_alloc_at _ _ _ _ (by simp)
  · exact World.cell?_alloc_at _ _ _ _ (by simp)
  rintro e w' ⟨rfl, rfl⟩
  go_wp2
  go_ret
  exact ⟨rfl, ((((Below.refl _ _).alloc (Nat.le_refl _) _).alloc (by simp) _).alloc (by simp; omega) _).drew⟩
section
variable {P : Program} {ops : Array Oper} {w : World} {Q : Act → Prop} {a : Act} {o : Oper} {rest : List Oper}
theorem still_want (hw : Region.wanted o (yielded ops a.tmps) = true) (h : ∀ K : Act → Prop, (∀ a, wpStill P ops w Q rest a → K a) → o.still P a w K) : wpStill P ops w Q (o :: rest) a :=
  wpStill_step fun K hK => by rw [if_pos hw]; exact h K hK
theorem still_skip (hw : Region.wanted o (yielded ops a.tmps) = false) (h : wpStill P ops w Q rest (a.put o.dst undef)) : wpStill P ops w Q (o :: rest) a :=
  wpStill_step fun K hK => by rw [if_neg (by rw [hw]; exact Bool.false_ne_true)]; exact hK _ h
end
/-- The edge at a place. -/
def ge (l : List E) (j : Nat) : E := l[j]?.getD ⟨0, 0, 0⟩
def EdgesCells (w : World) (a : Option Addr) (l : List E) : Prop :=
  ∀ j, j < l.length → ∃ b off, a = some ⟨b, off, none⟩ ∧
    w.cell? ⟨b, off + j * 3, none⟩ = some (.int .i64 (ge l j).f) ∧ w.cell? ⟨b, off + j * 3 + 1, none⟩ = some (.int .i64 (ge l j).t) ∧ w.cell? ⟨b, off + j * 3 + 2, none⟩ = some (.int .i64 (ge l j).a)
def EdgesAt (w : World) (v : Value) (l : List E) : Prop := ∃ a cap, v = .slice a l.length cap ∧ l.length ≤ maxLen ∧ EdgesCells w a l
theorem EdgesCells.later {w w' : World} {a : Option Addr} {l : List E} (h : EdgesCells w a l) (hb : Below w.heap.size w w') : EdgesCells w' a l := by
  intro j hj
  obtain ⟨b, off, e, h0, h1, h2⟩ := h j hj
  exact ⟨b, off, e, Below.keeps hb h0 (Nat.le_refl _), Below.keeps hb h1 (Nat.le_refl _), Below.keeps hb h2 (Nat.le_refl _)⟩
theorem EdgesAt.later {w w' : World} {v : Value} {l : List E} (h : EdgesAt w v l) (hb : Below w.heap.size w w') : EdgesAt w' v l := by
  obtain ⟨a, cap, rfl, hm, hc⟩ := h
  exact ⟨a, cap, rfl, hm, hc.later hb⟩
structure G where
  n : Int
  init : List Int
  edges : List E
def GraphAt (w : World) (v : Value) (g : G) : Prop := ∃ vi ve, v = .agg #[.int .i64 g.n, vi, ve] ∧ IntsAt w vi g.init ∧ EdgesAt w ve g.edges
theorem GraphAt.later {w w' : World} {v : Value} {g : G} (h : GraphAt w v g) (hb : Below w.heap.size w w') : GraphAt w' v g := by
  obtain ⟨vi, ve, rfl, h1, h2⟩ := h
  exact ⟨vi, ve, rfl, h1.later hb, h2.later hb⟩
def initOk (g : G) (k : Nat) : Prop := 0 ≤ gi g.init k ∧ gi g.init k < g.n ∧ (0 < k → gi g.init (k - 1) < gi g.init k)
def edgeOk (g : G) (k : Nat) : Prop :=
  (0 ≤ (ge g.edges k).f ∧ 0 ≤ (ge g.edges k).t ∧ 0 ≤ (ge g.edges k).a) ∧ ((ge g.edges k).f < g.n ∧ (ge g.edges k).t < g.n) ∧ (ge g.edges k).a < 12 ∧
    (0 < k → cmpE (ge g.edges (k - 1)) (ge g.edges k) < 0)
def graphOk (g : G) : Prop := 0 ≤ g.n ∧ g.edges.length ≤ 2000 ∧ (∀ k, k < g.init.length → initOk g k) ∧ ∀ k, k < g.edges.length → edgeOk g k
open Classical in
noncomputable def wGraph (g : G) : Bool := decide (graphOk g)
def mn2 (f t : Int) : Int := if t < f then t else f
def mn3 (f t a : Int) : Int := if a < mn2 f t then a else mn2 f t
def mx2 (f t : Int) : Int := if f < t then t else f
theorem mn3_neg (f t a : Int) : mn3 f t a < 0 ↔ ¬ (0 ≤ f ∧ 0 ≤ t ∧ 0 ≤ a) := by unfold mn3 mn2; split <;> split <;> omega
theorem mx2_ge (f t n : Int) : n ≤ mx2 f t ↔ ¬ (f < n ∧ t < n) := by unfold mx2; split <;> omega
set_option maxHeartbeats 1000000 in
set_option maxRecDepth 100000 in
theorem walksGraph_any (g : G) (v : Value) (w : World) (hg : GraphAt w v g) :
    Calls Try.prog 47 #[v] w fun e w' => e = .returned (.bool (wGraph g)) ∧ Below w.heap.size w w' := by
  obtain ⟨vi, ve, rfl, ⟨ai, ci, rfl, hmi, hci⟩, ⟨ae, ce, rfl, hme, hce⟩⟩ := hg
  have hfin : ∀ r : Bool, (r = true ↔ graphOk g) → r = wGraph g := fun r h => by unfold wGraph; cases r <;> simp_all
  have HF := Lib.hid hfin; clear hfin
  unfold maxLen at hmi hme
  by_cases hn : g.n < 0
  · go_enter Try.func47, Try.ntmps47
    go_wp2
    go_ret
    exact ⟨ret_bool (HF.out false ⟨fun h => (by cases h), fun h => absurd h.1 (by omega)⟩), (Below.refl _ _).alloc (Nat.le_refl _) _⟩
  · by_cases he : 2000 < g.edges.length
    · go_enter Try.func47, Try.ntmps47
      go_wp2
      go_ret
      exact ⟨ret_bool (HF.out false ⟨fun h => (by cases h), fun h => absurd h.2.1 (by omega)⟩), (Below.refl _ _).alloc (Nat.le_refl _) _⟩
    · go_enter Try.func47, Try.ntmps47
      go_wp2
      have hb0 : Below w.heap.size w (w.alloc (Obj.cells #[Value.int IntKind.i64 g.n, Value.slice ai g.init.length ci, Value.slice ae g.edges.length ce] 25)) := (Below.refl _ _).alloc (Nat.le_refl _) _
      have hc0 : (w.alloc (Obj.cells #[Value.int IntKind.i64 g.n, Value.slice ai g.init.length ci, Value.slice ae g.edges.length ce] 25)).cell? ⟨w.heap.size, 0, none⟩ = some (.int .i64 g.n) := World.cell?_alloc_at _ _ _ _ rfl
      have hc1 : (w.alloc (Obj.cells #[Value.int IntKind.i64 g.n, Value.slice ai g.init.length ci, Value.slice ae g.edges.length ce] 25)).cell? ⟨w.heap.size, 1, none⟩ = some (.slice ai g.init.length ci) := World.cell?_alloc_at _ _ _ _ rfl
      have hc2 : (w.alloc (Obj.cells #[Value.int IntKind.i64 g.n, Value.slice ai g.init.length ci, Value.slice ae g.edges.length ce] 25)).cell? ⟨w.heap.size, 2, none⟩ = some (.slice ae g.edges.length ce) := World.cell?_alloc_at _ _ _ _ rfl
      generalize (w.alloc (Obj.cells #[Value.int IntKind.i64 g.n, Value.slice ai g.init.length ci, Value.slice ae g.edges.length ce] 25)) = w0 at *
      have H1 := hci.later hb0; have H2 := hce.later hb0; clear hci hce
      go_loop [19] (fun i => ∃ k : Nat, k ≤ g.init.length ∧ i = .int .i64 k ∧ Hid (∀ j, j < k → initOk g j)) (fun i => g.init.length - (intOf i).toNat)
      case atStart => exact ⟨0, Nat.zero_le _, rfl, fun j hj => by omega⟩
      case round =>
        obtain ⟨k, hk, rfl, hall⟩ := hrel
        by_cases hlt : k < g.init.length
        · obtain ⟨b, o, e1, c1⟩ := H1 k hlt
          subst e1
          have hbad : ¬ initOk g k → (false = true ↔ graphOk g) := fun h => ⟨fun h => (by cases h), fun hG => absurd (hG.2.2.1 k hlt) h⟩
          have HB := Lib.hid hbad; clear hbad
          by_cases d1 : gi g.init k < 0
          · have HX := Lib.hid (HF.out false (HB.out fun h => absurd h.1 (by omega)))
            go_wp2
            go_ret
            exact ⟨ret_bool HX.out, hb0⟩
          · by_cases d2 : g.n ≤ gi g.init k
            · have HX := Lib.hid (HF.out false (HB.out fun h => absurd h.2.1 (by omega)))
              go_wp2
              go_ret
              exact ⟨ret_bool HX.out, hb0⟩
            · rcases k with _ | k
              · have HO : Hid (initOk g 0) := ⟨by omega, by omega, fun h => by omega⟩
                rw [Nat.add_zero] at c1
                go_wp2
                exact ⟨⟨0 + 1, by omega, by go_num, fun j hj => (by rcases Nat.lt_succ_iff_lt_or_eq.1 hj with h | h; exact hall.out j h; rw [h]; exact HO.out)⟩, by simp [intOf]; omega⟩
              · obtain ⟨b', o', e', c1'⟩ := H1 k (by omega)
                have e2 : b' = b ∧ o' = o := by injection e' with e'; injection e' with e1 e2 e3; exact ⟨e1.symm, e2.symm⟩
                obtain ⟨rfl, rfl⟩ := e2
                clear e'
                by_cases d3 : gi g.init (k + 1) ≤ gi g.init k
                · have HX := Lib.hid (HF.out false (HB.out fun h => absurd (h.2.2 (by omega)) (by show ¬ gi g.init k < gi g.init (k + 1); omega)))
                  go_wp2
                  go_ret
                  exact ⟨ret_bool HX.out, hb0⟩
                · have HO : Hid (initOk g (k + 1)) := ⟨by omega, by omega, fun h => by show gi g.init k < gi g.init (k + 1); omega⟩
                  go_wp2
                  exact ⟨⟨k + 1 + 1, by omega, by go_num, fun j hj => (by rcases Nat.lt_succ_iff_lt_or_eq.1 hj with h | h; exact hall.out j h; rw [h]; exact HO.out)⟩, by simp [intOf]; omega⟩
        · have hkk : k = g.init.length := by omega
          subst hkk
          go_wp2
          go_loopw [50] (fun i wr => ∃ k : Nat, k ≤ g.edges.length ∧ i = .int .i64 k ∧ Hid (∀ j, j < k → edgeOk g j) ∧ Below w.heap.size w wr ∧ EdgesCells wr ae g.edges ∧ wr.cell? ⟨w.heap.size, 0, none⟩ = some (.int .i64 g.n) ∧
              wr.cell? ⟨w.heap.size, 2, none⟩ = some (.slice ae g.edges.length ce)) (fun i _ => g.edges.length - (intOf i).toNat)
          case atStart => exact ⟨0, Nat.zero_le _, rfl, fun j hj => (by omega), hb0, H2, hc0, hc2⟩
          case round =>
            obtain ⟨k, hk, rfl, halle, hbr, hE, hg0, hg2⟩ := hrel
            by_cases hlte : k < g.edges.length
            · obtain ⟨b, o, e1, c1, c2, c3⟩ := hE k hlte
              subst e1
              
              have hsz : w.heap.size < wr.heap.size := cell_lt hg0
              have hszb : b < wr.heap.size := cell_lt c1
              have hbadE : ¬ edgeOk g k → (false = true ↔ graphOk g) := fun h => ⟨fun h => (by cases h), fun hG => absurd (hG.2.2.2 k hlte) h⟩
              have HB := Lib.hid hbadE; clear hbadE
              have n1 := mn3_neg (ge g.edges k).f (ge g.edges k).t (ge g.edges k).a
              have n2 := mx2_ge (ge g.edges k).f (ge g.edges k).t g.n
              have N1 := Lib.hid n1; have N2 := Lib.hid n2; clear n1 n2
              have q1 : (if (ge g.edges k).t < (ge g.edges k).f then (ge g.edges k).t else (ge g.edges k).f) = mn2 (ge g.edges k).f (ge g.edges k).t := rfl
              have q2 : (if (ge g.edges k).a < mn2 (ge g.edges k).f (ge g.edges k).t then (ge g.edges k).a else mn2 (ge g.edges k).f (ge g.edges k).t) = mn3 (ge g.edges k).f (ge g.edges k).t (ge g.edges k).a := rfl
              have q3 : (if (ge g.edges k).f < (ge g.edges k).t then (ge g.edges k).t else (ge g.edges k).f) = mx2 (ge g.edges k).f (ge g.edges k).t := rfl
              by_cases d1 : mn3 (ge g.edges k).f (ge g.edges k).t (ge g.edges k).a < 0
              · have HX := Lib.hid (HF.out false (HB.out fun h => absurd h.1 (N1.out.1 d1)))
                go_wp2_with fail
                go_quiet (fail)
                go_wp2
                go_ret
                exact ⟨ret_bool HX.out, below_drewN (hbr.alloc hbr.size _) _⟩
              · have d1' : decide (mn3 (ge g.edges k).f (ge g.edges k).t (ge g.edges k).a < 0) = false := decide_eq_false d1
                by_cases d2 : g.n ≤ mx2 (ge g.edges k).f (ge g.edges k).t
                · have HX := Lib.hid (HF.out false (HB.out fun h => absurd h.2.1 (N2.out.1 d2)))
                  go_wp2_with fail
                  go_quiet (fail)
                  go_wp2
                  go_ret
                  exact ⟨ret_bool HX.out, below_drewN (hbr.alloc hbr.size _) _⟩
                · have d2' : decide (g.n ≤ mx2 (ge g.edges k).f (ge g.edges k).t) = false := decide_eq_false d2
                  by_cases d3 : 12 ≤ (ge g.edges k).a
                  · have HX := Lib.hid (HF.out false (HB.out fun h => absurd h.2.2.1 (by omega)))
                    go_wp2_with fail
                    go_quiet (fail)
                    go_wp2
                    go_ret
                    exact ⟨ret_bool HX.out, below_drewN (hbr.alloc hbr.size _) _⟩
                  · have d3' : decide (12 ≤ (ge g.edges k).a) = false := decide_eq_false d3
                    rcases k with _ | k
                    · have HO : Hid (edgeOk g 0) := ⟨Classical.not_not.1 (fun h => d1 (N1.out.2 h)), Classical.not_not.1 (fun h => d2 (N2.out.2 h)), by omega, fun h => by omega⟩
                      simp only [Nat.zero_mul, Nat.add_zero] at c1 c2 c3
                      go_wp2_with fail
                      go_quiet (fail)
                      go_wp2
                      exact ⟨⟨0 + 1, by omega, by go_num, fun j hj => (by rcases Nat.lt_succ_iff_lt_or_eq.1 hj with h | h; exact halle.out j h; rw [h]; exact HO.out), below_drewN (hbr.alloc hbr.size _) _, hE.later (below_drewN ((Below.refl _ _).alloc (Nat.le_refl _) _) _), Below.keeps (below_drewN ((Below.refl _ _).alloc (Nat.le_refl _) _) _) hg0 (Nat.le_refl _), Below.keeps (below_drewN ((Below.refl _ _).alloc (Nat.le_refl _) _) _) hg2 (Nat.le_refl _)⟩, by simp [intOf]; omega⟩
                    · obtain ⟨b', o', e', p1, p2, p3⟩ := hE k (by omega)
                      have e2 : b' = b ∧ o' = o := by injection e' with e'; injection e' with e1 e2 e3; exact ⟨e1.symm, e2.symm⟩
                      obtain ⟨rfl, rfl⟩ := e2
                      clear e'
                      go_wp2_with fail
                      have hwk : IntKind.i64.wrap (k : Int) = (k : Int) := IntWalk.i64_in _ (by omega)
                      have hk0 : (0 : Int) ≤ (k : Int) := by omega
                      have hk1 : (k : Int) < (g.edges.length : Int) := by omega
                      refine wp_region_still_tail 34 (by kernel_rfl) (by kernel_rfl) ?_
                      change wpStill _ _ (World.drew _) (fun a' => wpList _ _ _ _ a' (World.drew _)) _ _
                      simp only [List.take_succ_cons, List.take_zero, List.drop_succ_cons, List.drop_zero]
                      iterate 34 (refine still_want (by kernel_rfl) ?_; intro K hK; go_simp; refine hK _ ?_; clear hK K)
                      refine wpStill_nil ?_
                      have hbA : Below wr.heap.size wr (wr.alloc (Obj.cells #[Value.int IntKind.i64 (ge g.edges (k + 1)).f, Value.int IntKind.i64 (ge g.edges (k + 1)).t, Value.int IntKind.i64 (ge g.edges (k + 1)).a] 81)).drew := ((Below.refl _ _).alloc (Nat.le_refl _) _).drew
                      go_wp2_with fail
                      refine (compareEdges_any (ge g.edges k) (ge g.edges (k + 1)) _).mono ?_
                      rintro e wc ⟨rfl, hbc⟩
                      have hbB : Below wr.heap.size wr wc := hbA.trans (hbc.mono (by simp))
                      have hbW : Below w.heap.size w wc := hbr.trans (hbB.mono (by omega))
                      have hEc : EdgesCells wc (some ⟨b', o', none⟩) g.edges := hE.later hbB
                      have hc0' := Below.keeps hbB hg0 (Nat.le_refl _)
                      have hc2' := Below.keeps hbB hg2 (Nat.le_refl _)
                      clear hbA hbc hbB hE hg0 hg2 c1 c2 c3 p1 p2 p3
                      by_cases d5 : 0 ≤ cmpE (ge g.edges k) (ge g.edges (k + 1))
                      · have HX := Lib.hid (HF.out false (HB.out fun h => absurd (h.2.2.2 (by omega)) (by show ¬ cmpE (ge g.edges k) (ge g.edges (k + 1)) < 0; omega)))
                        go_wp2
                        go_ret
                        exact ⟨ret_bool HX.out, hbW⟩
                      · have HO : Hid (edgeOk g (k + 1)) := ⟨Classical.not_not.1 (fun h => absurd (N1.out.2 h) (by omega)), Classical.not_not.1 (fun h => absurd (N2.out.2 h) (by omega)), by omega, fun h => by show cmpE (ge g.edges k) (ge g.edges (k + 1)) < 0; omega⟩
                        go_wp2
                        exact ⟨⟨k + 1 + 1, by omega, by go_num, fun j hj => (by rcases Nat.lt_succ_iff_lt_or_eq.1 hj with h | h; exact halle.out j h; rw [h]; exact HO.out), hbW, hEc, hc0', hc2'⟩, by simp [intOf]; omega⟩
            · have hkk : k = g.edges.length := by omega
              subst hkk
              have HX := Lib.hid (HF.out true ⟨fun _ => ⟨by omega, by omega, hall.out, halle.out⟩, fun _ => rfl⟩)
              go_wp2
              go_ret
              exact ⟨ret_bool HX.out, hbr⟩
theorem wGraph_iff (g : G) : wGraph g = true ↔ graphOk g := by unfold wGraph; simp
end Go.Proofs.Ytciopdlmjciieaa
