import Derived.Test.YtciopdlmjciieaaGraph
namespace Go.Proofs.Ytciopdlmjciieaa
open Go.RowKit
set_option linter.unusedVariables false

theorem one_yes (w : World) : Calls Try.prog 64 #[.bool true] w fun e w' => e = .returned (.int .i64 1) ∧ w' = w := by
  go_enter Try.func64, Try.ntmps64
  go_wp2
  go_ret
  exact ⟨rfl, rfl⟩
theorem one_no (w : World) : Calls Try.prog 64 #[.bool false] w fun e w' => e = .returned (.int .i64 0) ∧ w' = w := by
  go_enter Try.func64, Try.ntmps64
  go_wp2
  go_ret
  exact ⟨rfl, rfl⟩
/-- What FirstInts says of two lists of one length. -/
def FirstSaid (l m : List Int) (r : Int) : Prop :=
  (∃ k, k < l.length ∧ (∀ j, j < k → gi l j = gi m j) ∧ ((gi l k < gi m k ∧ r = -1) ∨ (gi m k < gi l k ∧ r = 1))) ∨ ((∀ j, j < l.length → gi l j = gi m j) ∧ r = 0)
set_option maxHeartbeats 1600000 in
set_option maxRecDepth 100000 in
theorem firstInts_any (x y : Value) (l m : List Int) (w : World) (hx : IntsAt w x l) (hy : IntsAt w y m) (hl : l.length = m.length) :
    Calls Try.prog 45 #[x, y] w fun e w' => (∃ r, e = .returned (.int .i64 r) ∧ Hid (FirstSaid l m r)) ∧ ∃ n, w' = w.drewN n := by
  obtain ⟨a, ca, rfl, hm1, hc1⟩ := hx
  obtain ⟨b, cb, rfl, hm2, hc2⟩ := hy
  unfold maxLen at hm1 hm2
  have HL := Lib.hid hl
  rw [← hl] at hm2 ⊢
  have H1 := Lib.hid hc1; have H2 := Lib.hid hc2
  clear hc1 hc2 hl
  go_enter Try.func45, Try.ntmps45
  go_wp2
  go_loopw [5] (fun i wr => ∃ k : Nat, k ≤ l.length ∧ i = .int .i64 k ∧ Hid (∀ j, j < k → gi l j = gi m j) ∧ ∃ n, wr = w.drewN n)
    (fun i _ => l.length - (intOf i).toNat)
  case atStart => exact ⟨0, Nat.zero_le _, rfl, fun j hj => by omega, 0, rfl⟩
  case round =>
    obtain ⟨k, hk, rfl, hsame, n, rfl⟩ := hrel
    by_cases hlt : k < l.length
    · obtain ⟨b1, o1, e1, c1⟩ := H1.out k hlt
      obtain ⟨b2, o2, e2, c2⟩ := H2.out k (by rw [← HL.out]; exact hlt)
      subst e1 e2
      have hd1 : decide ((k : Int) < (l.length : Int)) = true := decide_eq_true (by omega)
      rcases Int.lt_trichotomy (gi l k) (gi m k) with h | h | h
      · have HS : Hid (FirstSaid l m (-1)) := .inl ⟨k, hlt, hsame.out, .inl ⟨h, rfl⟩⟩
        have hne : (gi l k != gi m k) = true := by simpa using (by omega : ¬ gi l k = gi m k)
        go_wp2
        go_quiet (fail)
        go_wp2_with fail
        have d1 : ((w.drewN n).drewN nq).cell? ⟨b1, o1 + k, none⟩ = some (.int .i64 (gi l k)) := by simpa using c1
        have d2 : ((w.drewN n).drewN nq).cell? ⟨b2, o2 + k, none⟩ = some (.int .i64 (gi m k)) := by simpa using c2
        have HW : Hid (∃ q, (w.drewN n).drewN nq = w.drewN q) := ⟨_, World.drewN_drewN ..⟩
        clear c1 c2
        generalize (w.drewN n).drewN nq = wX at *
        go_quiet ((go_at_call 64; exact Calls.quiet_of_same (one_yes _)))
        go_wp2
        go_ret
        obtain ⟨q, hq⟩ := HW.out
        exact ⟨⟨_, rfl, HS⟩, _, by rw [hq, World.drewN_drewN]⟩
      · have HE := Lib.hid h
        have hne : (gi l k != gi m k) = false := by rw [h]; simp
        clear h
        go_wp2
        go_quiet (fail)
        go_wp2
        exact ⟨⟨k + 1, by omega, by go_num, fun j hj => (by rcases Nat.lt_succ_iff_lt_or_eq.1 hj with h | h; exact hsame.out j h; rw [h]; exact HE.out), _, rfl⟩, by simp [intOf]; omega⟩
      · have HS : Hid (FirstSaid l m 1) := .inl ⟨k, hlt, hsame.out, .inr ⟨h, rfl⟩⟩
        have hne : (gi l k != gi m k) = true := by simpa using (by omega : ¬ gi l k = gi m k)
        have hnl : decide (gi l k < gi m k) = false := decide_eq_false (by omega)
        go_wp2
        go_quiet (fail)
        go_wp2_with fail
        have d1 : ((w.drewN n).drewN nq).cell? ⟨b1, o1 + k, none⟩ = some (.int .i64 (gi l k)) := by simpa using c1
        have d2 : ((w.drewN n).drewN nq).cell? ⟨b2, o2 + k, none⟩ = some (.int .i64 (gi m k)) := by simpa using c2
        have HW : Hid (∃ q, (w.drewN n).drewN nq = w.drewN q) := ⟨_, World.drewN_drewN ..⟩
        clear c1 c2
        generalize (w.drewN n).drewN nq = wX at *
        go_quiet ((go_at_call 64; exact Calls.quiet_of_same (one_no _)))
        go_wp2
        go_ret
        obtain ⟨q, hq⟩ := HW.out
        exact ⟨⟨_, rfl, HS⟩, _, by rw [hq, World.drewN_drewN]⟩
    · have hkk : k = l.length := by omega
      subst hkk
      have HS : Hid (FirstSaid l m 0) := .inr ⟨hsame.out, rfl⟩
      go_wp2_with (go_at_call 64; refine (one_no _).mono ?_; rintro e w' ⟨rfl, rfl⟩)
      go_ret
      exact ⟨⟨_, rfl, HS⟩, _, rfl⟩
set_option maxHeartbeats 400000 in
theorem edgeInts_any (e : E) (w : World) :
    Calls Try.prog 46 #[.agg #[.int .i64 e.f, .int .i64 e.t, .int .i64 e.a]] w fun x w' => ∃ v, x = .returned v ∧ IntsAt w' v [e.f, e.t, e.a] ∧ Below w.heap.size w w' := by
  go_enter Try.func46, Try.ntmps46
  go_wp2
  go_ret
  refine ⟨_, rfl, ⟨_, _, rfl, by simp [maxLen], fun j hj => ⟨_, _, rfl, ?_⟩⟩, ((Below.refl _ _).alloc (Nat.le_refl _) _).alloc (by simp) _⟩
  rw [World.cell?_alloc_at _ _ _ _ (by simp)]
  have hj3 : j < 3 := by simpa using hj
  match j, hj3 with
  | 0, _ => rfl
  | 1, _ => rfl
  | 2, _ => rfl
theorem first_cmp {x y : E} {r : Int} (h : FirstSaid [x.f, x.t, x.a] [y.f, y.t, y.a] r) : r = cmpE x y := by
  have g0 : ∀ a b c : Int, gi [a, b, c] 0 = a := fun _ _ _ => rfl
  have g1 : ∀ a b c : Int, gi [a, b, c] 1 = b := fun _ _ _ => rfl
  have g2 : ∀ a b c : Int, gi [a, b, c] 2 = c := fun _ _ _ => rfl
  unfold cmpE or3 cmpI
  rcases h with ⟨k, hk, hs, hr⟩ | ⟨hs, hr⟩
  · have hk3 : k < 3 := by simpa using hk
    match k, hk3 with
    | 0, _ =>
      simp only [g0] at hr
      rcases hr with ⟨h, rfl⟩ | ⟨h, rfl⟩
      · simp [h]
      · have : ¬ x.f < y.f := by omega
        simp [h, this]
    | 1, _ =>
      have h0 := hs 0 (by omega)
      simp only [g0] at h0
      simp only [g1] at hr
      rcases hr with ⟨h, rfl⟩ | ⟨h, rfl⟩
      · simp [h, h0]
      · have : ¬ x.t < y.t := by omega
        simp [h, h0, this]
    | 2, _ =>
      have h0 := hs 0 (by omega)
      have h1 := hs 1 (by omega)
      simp only [g0] at h0
      simp only [g1] at h1
      simp only [g2] at hr
      rcases hr with ⟨h, rfl⟩ | ⟨h, rfl⟩
      · simp [h, h0, h1]
      · have : ¬ x.a < y.a := by omega
        simp [h, h0, h1, this]
  · have h0 := hs 0 (by simp)
    have h1 := hs 1 (by simp)
    have h2 := hs 2 (by simp)
    simp only [g0] at h0
    simp only [g1] at h1
    simp only [g2] at h2
    simp [h0, h1, h2, hr]
def bOk (g : G) : Prop := 0 ≤ g.n ∧ g.n ≤ 400 ∧ (g.init.length : Int) ≤ g.n ∧ g.edges.length ≤ 2000 ∧ (∀ k, k < g.init.length → initOk g k) ∧ ∀ k, k < g.edges.length → edgeOk g k
open Classical in
noncomputable def isG (g : G) : Bool := decide (bOk g)
theorem isG_iff (g : G) : isG g = true ↔ bOk g := by unfold isG; simp
/-- What a function keeps in memory of a graph that came by value: its block, the first one of its own. -/
structure GI (w wr : World) (g : G) (ai : Option Addr) (ci : Nat) (ae : Option Addr) (ce : Nat) : Prop where
  g0 : wr.cell? ⟨w.heap.size, 0, none⟩ = some (.int .i64 g.n)
  g1 : wr.cell? ⟨w.heap.size, 1, none⟩ = some (.slice ai g.init.length ci)
  g2 : wr.cell? ⟨w.heap.size, 2, none⟩ = some (.slice ae g.edges.length ce)
  hi : IntsCells wr ai g.init
  he : EdgesCells wr ae g.edges
  bw : Below w.heap.size w wr
theorem GI.later {w wr wr' : World} {g : G} {ai : Option Addr} {ci : Nat} {ae : Option Addr} {ce : Nat} (h : GI w wr g ai ci ae ce) (hb : Below wr.heap.size wr wr') : GI w wr' g ai ci ae ce :=
  ⟨Below.keeps hb h.g0 (Nat.le_refl _), Below.keeps hb h.g1 (Nat.le_refl _), Below.keeps hb h.g2 (Nat.le_refl _), h.hi.later hb, h.he.later hb, h.bw.trans (hb.mono h.bw.size)⟩
theorem GI.drewN {w wr : World} {g : G} {ai : Option Addr} {ci : Nat} {ae : Option Addr} {ce : Nat} (h : GI w wr g ai ci ae ce) (n : Nat) : GI w (wr.drewN n) g ai ci ae ce :=
  h.later (below_drewN (Below.refl _ _) n)
theorem GI.made (w : World) (g : G) (ai : Option Addr) (ci : Nat) (ae : Option Addr) (ce : Nat) (t : TypeId) (h1 : IntsCells w ai g.init) (h2 : EdgesCells w ae g.edges) :
    GI w (w.alloc (Obj.cells #[Value.int IntKind.i64 g.n, Value.slice ai g.init.length ci, Value.slice ae g.edges.length ce] t)) g ai ci ae ce :=
  ⟨World.cell?_alloc_at _ _ _ _ rfl, World.cell?_alloc_at _ _ _ _ rfl, World.cell?_alloc_at _ _ _ _ rfl, h1.later ((Below.refl _ _).alloc (Nat.le_refl _) _), h2.later ((Below.refl _ _).alloc (Nat.le_refl _) _), (Below.refl _ _).alloc (Nat.le_refl _) _⟩
set_option maxHeartbeats 2000000 in
set_option maxRecDepth 100000 in
theorem isGraph_any (g : G) (v : Value) (w : World) (hg : GraphAt w v g) :
    Calls Try.prog 26 #[v] w fun e w' => e = .returned (.bool (isG g)) ∧ Below w.heap.size w w' := by
  obtain ⟨vi, ve, rfl, ⟨ai, ci, rfl, hmi, hci⟩, ⟨ae, ce, rfl, hme, hce⟩⟩ := hg
  have hfin : ∀ r : Bool, (r = true ↔ bOk g) → r = isG g := fun r h => by have := isG_iff g; cases r <;> simp_all
  have HF := Lib.hid hfin; clear hfin
  unfold maxLen at hmi hme
  have hb0 : Below w.heap.size w (w.alloc (Obj.cells #[Value.int IntKind.i64 g.n, Value.slice ai g.init.length ci, Value.slice ae g.edges.length ce] 25)) := (Below.refl _ _).alloc (Nat.le_refl _) _
  have HN : ¬ bOk g → Hid (false = isG g) := fun h => HF.out false ⟨fun h => (by cases h), fun h' => absurd h' h⟩
  by_cases h1 : 0 ≤ g.n ∧ g.n ≤ 400
  · obtain ⟨h10, h11⟩ := h1
    by_cases h2 : (g.init.length : Int) ≤ g.n
    · by_cases h3 : g.edges.length ≤ 2000
      · have hd2 : decide (g.n < (g.init.length : Int)) = false := decide_eq_false (by omega)
        have hd3 : decide ((2000 : Int) < (g.edges.length : Int)) = false := decide_eq_false (by omega)
        go_enter Try.func26, Try.ntmps26
        go_wp2_with fail
        refine (between_yes _ ⟨h10, h11⟩).mono ?_
        rintro e w1 ⟨rfl, rfl⟩
        go_wp2_with fail
        have hG := GI.made w g ai ci ae ce 25 hci hce
        generalize (w.alloc (Obj.cells #[Value.int IntKind.i64 g.n, Value.slice ai g.init.length ci, Value.slice ae g.edges.length ce] 25)) = w0 at *
        clear hb0 hci hce
        have hwn : IntKind.i64.wrap (g.n - 1) = g.n - 1 := IntWalk.i64_in _ (by omega)
        clear hd2 hd3
        go_loopw [3] (fun i wr => ∃ k : Nat, k ≤ g.init.length ∧ i = .int .i64 k ∧ Hid (∀ j, j < k → initOk g j) ∧ GI w wr g ai ci ae ce) (fun i _ => g.init.length - (intOf i).toNat)
        case atStart => exact ⟨0, Nat.zero_le _, rfl, fun j hj => by omega, hG⟩
        case round =>
          obtain ⟨k, hk, rfl, hall, hR⟩ := hrel
          have g0 := hR.g0
          have g1 := hR.g1
          by_cases hlt : k < g.init.length
          · obtain ⟨b, o, e1, c1⟩ := hR.hi k hlt
            subst e1
            have hbad : ¬ initOk g k → Hid (false = isG g) := fun h => HN fun hG => absurd (hG.2.2.2.2.1 k hlt) h
            have HB := Lib.hid hbad; clear hbad
            by_cases d1 : 0 ≤ gi g.init k ∧ gi g.init k ≤ g.n - 1
            · rcases k with _ | k
              · have HO : Hid (initOk g 0) := ⟨d1.1, by omega, fun h => by omega⟩
                rw [Nat.add_zero] at c1
                go_wp2_with fail
                go_quiet ((go_at_call 27; exact Calls.quiet_of_same (between_yes _ d1)))
                go_wp2
                exact ⟨⟨0 + 1, by omega, by go_num, fun j hj => (by rcases Nat.lt_succ_iff_lt_or_eq.1 hj with h | h; exact hall.out j h; rw [h]; exact HO.out), hR.drewN _⟩, by simp [intOf]; omega⟩
              · obtain ⟨b', o', e', c1'⟩ := hR.hi k (by omega)
                have e2 : b' = b ∧ o' = o := by injection e' with e'; injection e' with e1 e2 e3; exact ⟨e1.symm, e2.symm⟩
                obtain ⟨rfl, rfl⟩ := e2
                clear e'
                have hk0 : (0 : Int) ≤ (k : Int) := by omega
                have hk1 : (k : Int) < (g.init.length : Int) := by omega
                have hwk : IntKind.i64.wrap (k : Int) = (k : Int) := IntWalk.i64_in _ (by omega)
                have hwk1 : IntKind.i64.wrap ((k : Int) + 1) = (k : Int) + 1 := IntWalk.i64_in _ (by omega)
                have hwk2 : IntKind.i64.wrap ((k : Int) + 1 - 1) = (k : Int) := by rw [Int.add_sub_cancel]; exact hwk
                by_cases d3 : gi g.init (k + 1) ≤ gi g.init k
                · have HX := HB.out fun h => absurd (h.2.2 (by omega)) (by show ¬ gi g.init k < gi g.init (k + 1); omega)
                  go_wp2_with fail
                  go_quiet ((go_at_call 27; exact Calls.quiet_of_same (between_yes _ d1)))
                  go_wp2
                  go_ret
                  exact ⟨ret_bool HX.out, (hR.drewN _).bw⟩
                · have d3' : decide (gi g.init (k + 1) ≤ gi g.init k) = false := decide_eq_false d3
                  have HO : Hid (initOk g (k + 1)) := ⟨d1.1, by omega, fun h => by show gi g.init k < gi g.init (k + 1); omega⟩
                  go_wp2_with fail
                  go_quiet ((go_at_call 27; exact Calls.quiet_of_same (between_yes _ d1)))
                  go_wp2
                  exact ⟨⟨k + 1 + 1, by omega, by go_num, fun j hj => (by rcases Nat.lt_succ_iff_lt_or_eq.1 hj with h | h; exact hall.out j h; rw [h]; exact HO.out), hR.drewN _⟩, by simp [intOf]; omega⟩
            · have HX := HB.out fun h => d1 ⟨h.1, by have := h.2.1; omega⟩
              go_wp2_with fail
              go_quiet ((go_at_call 27; exact Calls.quiet_of_same (between_no _ d1)))
              go_wp2
              go_ret
              exact ⟨ret_bool HX.out, (hR.drewN _).bw⟩
          · have hkk : k = g.init.length := by omega
            subst hkk
            go_wp2_with fail
            go_loopw [4] (fun i wr => ∃ k : Nat, k ≤ g.edges.length ∧ i = .int .i64 k ∧ Hid (∀ j, j < k → edgeOk g j) ∧ GI w wr g ai ci ae ce) (fun i _ => g.edges.length - (intOf i).toNat)
            case atStart => exact ⟨0, Nat.zero_le _, rfl, fun j hj => by omega, hR⟩
            case round =>
              clear g0 g1 hR
              obtain ⟨k, hk, rfl, halle, hR⟩ := hrel
              have g0 := hR.g0
              have g2 := hR.g2
              by_cases hlte : k < g.edges.length
              · obtain ⟨b, o, e1, c1, c2, c3⟩ := hR.he k hlte
                subst e1
                have hsz : w.heap.size < wr.heap.size := cell_lt g0
                have hszb : b < wr.heap.size := cell_lt c1
                have hbadE : ¬ edgeOk g k → Hid (false = isG g) := fun h => HN fun hG => absurd (hG.2.2.2.2.2 k hlte) h
                have HB := Lib.hid hbadE; clear hbadE
                have hbX : Below wr.heap.size wr (wr.alloc (Obj.cells #[Value.int IntKind.i64 (ge g.edges k).f, Value.int IntKind.i64 (ge g.edges k).t, Value.int IntKind.i64 (ge g.edges k).a] 81)) := (Below.refl _ _).alloc (Nat.le_refl _) _
                by_cases d1 : 0 ≤ (ge g.edges k).f ∧ (ge g.edges k).f ≤ g.n - 1
                · by_cases d2 : 0 ≤ (ge g.edges k).t ∧ (ge g.edges k).t ≤ g.n - 1
                  · by_cases d3 : 0 ≤ (ge g.edges k).a ∧ (ge g.edges k).a ≤ 11
                    · rcases k with _ | k
                      · have HO : Hid (edgeOk g 0) := ⟨⟨d1.1, d2.1, d3.1⟩, ⟨by omega, by omega⟩, by omega, fun h => by omega⟩
                        simp only [Nat.zero_mul, Nat.add_zero] at c1 c2 c3
                        go_wp2_with fail
                        go_quiet ((first | (go_at_call_of 27 (Value.int IntKind.i64 (ge g.edges 0).f); exact Calls.quiet_of_same (between_yes _ d1)) | (go_at_call_of 27 (Value.int IntKind.i64 (ge g.edges 0).t); exact Calls.quiet_of_same (between_yes _ d2)) | (go_at_call_of 27 (Value.int IntKind.i64 (ge g.edges 0).a); exact Calls.quiet_of_same (between_yes _ d3))))
                        go_wp2
                        exact ⟨⟨0 + 1, by omega, by go_num, fun j hj => (by rcases Nat.lt_succ_iff_lt_or_eq.1 hj with h | h; exact halle.out j h; rw [h]; exact HO.out), (hR.later hbX).drewN _⟩, by simp [intOf]; omega⟩
                      · obtain ⟨b', o', e', p1, p2, p3⟩ := hR.he k (by omega)
                        have e2 : b' = b ∧ o' = o := by injection e' with e'; injection e' with e1 e2 e3; exact ⟨e1.symm, e2.symm⟩
                        obtain ⟨rfl, rfl⟩ := e2
                        clear e'
                        have hk0 : (0 : Int) ≤ (k : Int) := by omega
                        have hk1 : (k : Int) < (g.edges.length : Int) := by omega
                        have hwk : IntKind.i64.wrap (k : Int) = (k : Int) := IntWalk.i64_in _ (by omega)
                        have hwk1 : IntKind.i64.wrap ((k : Int) + 1) = (k : Int) + 1 := IntWalk.i64_in _ (by omega)
                        have hwk2 : IntKind.i64.wrap ((k : Int) + 1 - 1) = (k : Int) := by rw [Int.add_sub_cancel]; exact hwk
                        go_wp2_with fail
                        have s0 : (wr.alloc (Obj.cells #[Value.int IntKind.i64 (ge g.edges (k + 1)).f, Value.int IntKind.i64 (ge g.edges (k + 1)).t, Value.int IntKind.i64 (ge g.edges (k + 1)).a] 81)).cell? ⟨wr.heap.size, 0, none⟩ = some (.int .i64 (ge g.edges (k + 1)).f) := World.cell?_alloc_at _ _ _ _ rfl
                        have s1 : (wr.alloc (Obj.cells #[Value.int IntKind.i64 (ge g.edges (k + 1)).f, Value.int IntKind.i64 (ge g.edges (k + 1)).t, Value.int IntKind.i64 (ge g.edges (k + 1)).a] 81)).cell? ⟨wr.heap.size, 1, none⟩ = some (.int .i64 (ge g.edges (k + 1)).t) := World.cell?_alloc_at _ _ _ _ rfl
                        have s2 : (wr.alloc (Obj.cells #[Value.int IntKind.i64 (ge g.edges (k + 1)).f, Value.int IntKind.i64 (ge g.edges (k + 1)).t, Value.int IntKind.i64 (ge g.edges (k + 1)).a] 81)).cell? ⟨wr.heap.size, 2, none⟩ = some (.int .i64 (ge g.edges (k + 1)).a) := World.cell?_alloc_at _ _ _ _ rfl
                        replace hR := hR.later hbX
                        replace p1 := Below.keeps hbX p1 (Nat.le_refl _)
                        replace p2 := Below.keeps hbX p2 (Nat.le_refl _)
                        replace p3 := Below.keeps hbX p3 (Nat.le_refl _)
                        replace g0 := hR.g0
                        replace g2 := hR.g2
                        clear c1 c2 c3 hbX
                        generalize (wr.alloc (Obj.cells #[Value.int IntKind.i64 (ge g.edges (k + 1)).f, Value.int IntKind.i64 (ge g.edges (k + 1)).t, Value.int IntKind.i64 (ge g.edges (k + 1)).a] 81)) = wb at *
                        generalize wr.heap.size = pe at *
                        have hRR := Lib.hid hR
                        clear hR
                        have D1 := Lib.hid d1; have D2 := Lib.hid d2; have D3 := Lib.hid d3
                        clear d1 d2 d3
                        go_region_held3 (fun w' => w'.cell? ⟨w.heap.size, 0, none⟩ = some (.int .i64 g.n) ∧ w'.cell? ⟨w.heap.size, 2, none⟩ = some (.slice (some ⟨b', o', none⟩) g.edges.length ce) ∧ w'.cell? ⟨pe, 0, none⟩ = some (.int .i64 (ge g.edges (k + 1)).f) ∧ w'.cell? ⟨pe, 1, none⟩ = some (.int .i64 (ge g.edges (k + 1)).t) ∧ w'.cell? ⟨pe, 2, none⟩ = some (.int .i64 (ge g.edges (k + 1)).a) ∧ w'.cell? ⟨b', o' + k * 3, none⟩ = some (.int .i64 (ge g.edges k).f) ∧ w'.cell? ⟨b', o' + k * 3 + 1, none⟩ = some (.int .i64 (ge g.edges k).t) ∧ w'.cell? ⟨b', o' + k * 3 + 2, none⟩ = some (.int .i64 (ge g.edges k).a) ∧ Below wb.heap.size wb w')
                          ((refine (fun hB : Below wb.heap.size wb _ => ⟨Below.keeps hB g0 (Nat.le_refl _), Below.keeps hB g2 (Nat.le_refl _), Below.keeps hB s0 (Nat.le_refl _), Below.keeps hB s1 (Nat.le_refl _), Below.keeps hB s2 (Nat.le_refl _), Below.keeps hB p1 (Nat.le_refl _), Below.keeps hB p2 (Nat.le_refl _), Below.keeps hB p3 (Nat.le_refl _), hB⟩) ?_; (repeat (first | with_reducible exact Below.refl _ _ | with_reducible assumption | with_reducible refine Below.drew ?_ | with_reducible refine below_drewN ?_ _))))
                          (first
                            | (go_at_call 27; (with_reducible refine (between_yes _ D1.out).mono ?_); rintro e w' ⟨rfl, rfl⟩)
                            | (go_at_call 27; (with_reducible refine (between_yes _ D2.out).mono ?_); rintro e w' ⟨rfl, rfl⟩)
                            | (go_at_call 27; (with_reducible refine (between_yes _ D3.out).mono ?_); rintro e w' ⟨rfl, rfl⟩)
                            | (go_at_call 46; (with_reducible refine (edgeInts_any (ge g.edges k) _).mono ?_); rintro e wA ⟨vA, rfl, iA, hA⟩; have hbA : Below wb.heap.size wb wA := Below.trans (b := _) (by repeat (first | with_reducible exact Below.refl _ _ | with_reducible assumption | with_reducible refine Below.drew ?_)) (hA.mono (by first | exact Nat.le_refl _ | exact Below.size (by assumption))))
                            | (go_at_call 46; (with_reducible refine (edgeInts_any (ge g.edges (k + 1)) _).mono ?_); rintro e wB ⟨vB, rfl, iB, hB⟩; have hbB : Below wb.heap.size wb wB := Below.trans (b := _) (by repeat (first | with_reducible exact Below.refl _ _ | with_reducible assumption | with_reducible refine Below.drew ?_)) (hB.mono (by first | exact Nat.le_refl _ | exact Below.size (by assumption))))
                            | (go_at_call 45; refine (firstInts_any vA vB [(ge g.edges k).f, (ge g.edges k).t, (ge g.edges k).a] [(ge g.edges (k + 1)).f, (ge g.edges (k + 1)).t, (ge g.edges (k + 1)).a] _ ?_ ?_ rfl).mono ?_; (focus (first | (refine iA.later ?_; (repeat (first | with_reducible exact Below.refl _ _ | with_reducible refine Below.drew ?_)); done) | (refine iA.later (Below.trans (b := wB) ?_ ?_); (focus (refine Below.trans ?_ (hB.mono (Nat.le_refl _)); (repeat (first | with_reducible exact Below.refl _ _ | with_reducible refine Below.drew ?_)))); (repeat (first | with_reducible exact Below.refl _ _ | with_reducible refine Below.drew ?_)); done))); (focus (first | (refine iB.later ?_; (repeat (first | with_reducible exact Below.refl _ _ | with_reducible refine Below.drew ?_)); done) | (refine iB.later (Below.trans (b := wA) ?_ ?_); (focus (refine Below.trans ?_ (hA.mono (Nat.le_refl _)); (repeat (first | with_reducible exact Below.refl _ _ | with_reducible refine Below.drew ?_)))); (repeat (first | with_reducible exact Below.refl _ _ | with_reducible refine Below.drew ?_)); done))); rintro e w' ⟨⟨r, rfl, hr⟩, q, rfl⟩))
                        have hrc := Lib.hid (first_cmp hr.out)
                        have d1 := D1.out; have d2 := D2.out; have d3 := D3.out
                        by_cases d5 : 0 ≤ r
                        · have HX := HB.out fun h => absurd (h.2.2.2 (by omega)) (by show ¬ cmpE (ge g.edges k) (ge g.edges (k + 1)) < 0; have := hrc.out; omega)
                          clear d1 d2 d3
                          go_wp2
                          go_ret
                          exact ⟨ret_bool HX.out, (hRR.out.later (by repeat (first | with_reducible exact Below.refl _ _ | with_reducible exact hbB | with_reducible exact hbA | with_reducible refine Below.drew ?_ | with_reducible refine below_drewN ?_ _))).bw⟩
                        · have HO : Hid (edgeOk g (k + 1)) := ⟨⟨d1.1, d2.1, d3.1⟩, ⟨by omega, by omega⟩, by omega, fun h => by show cmpE (ge g.edges k) (ge g.edges (k + 1)) < 0; have := hrc.out; omega⟩
                          have d5' : decide (0 ≤ r) = false := decide_eq_false d5
                          clear d1 d2 d3
                          go_wp2
                          exact ⟨⟨k + 1 + 1, by omega, by go_num, fun j hj => (by rcases Nat.lt_succ_iff_lt_or_eq.1 hj with h | h; exact halle.out j h; rw [h]; exact HO.out), hRR.out.later (by repeat (first | with_reducible exact Below.refl _ _ | with_reducible exact hbB | with_reducible exact hbA | with_reducible refine Below.drew ?_ | with_reducible refine below_drewN ?_ _))⟩, by simp [intOf]; omega⟩
                    · have HX := HB.out fun h => d3 ⟨h.1.2.2, by have := h.2.2.1; omega⟩
                      go_wp2_with fail
                      go_quiet ((first | (go_at_call_of 27 (Value.int IntKind.i64 (ge g.edges k).f); exact Calls.quiet_of_same (between_yes _ d1)) | (go_at_call_of 27 (Value.int IntKind.i64 (ge g.edges k).t); exact Calls.quiet_of_same (between_yes _ d2)) | (go_at_call_of 27 (Value.int IntKind.i64 (ge g.edges k).a); exact Calls.quiet_of_same (between_no _ d3))))
                      go_wp2
                      go_ret
                      exact ⟨ret_bool HX.out, ((hR.later hbX).drewN _).bw⟩
                  · have HX := HB.out fun h => d2 ⟨h.1.2.1, by have := h.2.1.2; omega⟩
                    go_wp2_with fail
                    go_quiet ((first | (go_at_call_of 27 (Value.int IntKind.i64 (ge g.edges k).f); exact Calls.quiet_of_same (between_yes _ d1)) | (go_at_call_of 27 (Value.int IntKind.i64 (ge g.edges k).t); exact Calls.quiet_of_same (between_no _ d2))))
                    go_wp2
                    go_ret
                    exact ⟨ret_bool HX.out, ((hR.later hbX).drewN _).bw⟩
                · have HX := HB.out fun h => d1 ⟨h.1.1, by have := h.2.1.1; omega⟩
                  go_wp2_with fail
                  go_quiet ((go_at_call 27; exact Calls.quiet_of_same (between_no _ d1)))
                  go_wp2
                  go_ret
                  exact ⟨ret_bool HX.out, ((hR.later hbX).drewN _).bw⟩
              · have hkk : k = g.edges.length := by omega
                subst hkk
                have HX := Lib.hid (HF.out true ⟨fun _ => ⟨h10, h11, h2, h3, hall.out, halle.out⟩, fun _ => rfl⟩)
                go_wp2
                go_ret
                exact ⟨ret_bool HX.out, hR.bw⟩
      · have HX := HN fun h => absurd h.2.2.2.1 h3
        have hd2 : decide (g.n < (g.init.length : Int)) = false := decide_eq_false (by omega)
        have hd3 : decide ((2000 : Int) < (g.edges.length : Int)) = true := decide_eq_true (by omega)
        go_enter Try.func26, Try.ntmps26
        go_wp2_with fail
        refine (between_yes _ ⟨h10, h11⟩).mono ?_
        rintro e w1 ⟨rfl, rfl⟩
        go_wp2
        go_ret
        exact ⟨ret_bool HX.out, hb0⟩
    · have HX := HN fun h => absurd h.2.2.1 h2
      have hd2 : decide (g.n < (g.init.length : Int)) = true := decide_eq_true (by omega)
      go_enter Try.func26, Try.ntmps26
      go_wp2_with fail
      refine (between_yes _ ⟨h10, h11⟩).mono ?_
      rintro e w1 ⟨rfl, rfl⟩
      go_wp2
      go_ret
      exact ⟨ret_bool HX.out, hb0⟩
  · have HX := HN fun h => h1 ⟨h.1, h.2.1⟩
    go_enter Try.func26, Try.ntmps26
    go_wp2_with fail
    refine (between_no _ h1).mono ?_
    rintro e w1 ⟨rfl, rfl⟩
    go_wp2
    go_ret
    exact ⟨ret_bool HX.out, hb0⟩
end Go.Proofs.Ytciopdlmjciieaa
