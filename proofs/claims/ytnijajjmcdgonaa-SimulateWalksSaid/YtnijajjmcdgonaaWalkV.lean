import Derived.Test.YtnijajjmcdgonaaWalkU
import Derived.Test.YtnijajjmcdgonaaMathB
import Derived.Test.YtnijajjmcdgonaaWalkC
namespace Go.Proofs.Ytnijajjmcdgonaa
open Go.RowKit
set_option linter.unusedVariables false

/-- A block that was made just before a call lies there behind it. -/
theorem carry {W w' : World} {cs : Array Value} {t : TypeId} (h : Below (W.alloc (.cells cs t)).heap.size (W.alloc (.cells cs t)) w') :
    (∀ i v, cs[i]? = some v → w'.cell? ⟨W.heap.size, i, none⟩ = some v) ∧ ∀ i, w'.frozen? ⟨W.heap.size, i, none⟩ = false :=
  ⟨fun i v hv => Below.keeps h (by rw [World.cell?_alloc_at _ _ _ _ rfl]; exact hv) (Nat.le_refl _), fun i => Below.keepsF h (World.frozen?_alloc_at _ _ _ _ rfl) (by simp)⟩
theorem carryD {W w' : World} {cs : Array Value} {t : TypeId} (h : Below (W.alloc (.cells cs t)).drew.heap.size (W.alloc (.cells cs t)).drew w') :
    (∀ i v, cs[i]? = some v → w'.cell? ⟨W.heap.size, i, none⟩ = some v) ∧ ∀ i, w'.frozen? ⟨W.heap.size, i, none⟩ = false :=
  carry (((Below.refl _ _).drew).trans h)

/-- A walk in memory: the three cells of its block, and its steps. -/
structure WC (w : World) (B m : Nat) (first : Int) (L : List Int) (stuck : Bool) (a : Option Addr) (c : Nat) : Prop where
  ge : B ≤ m
  c0 : w.cell? ⟨m, 0, none⟩ = some (.int .i64 first)
  c1 : w.cell? ⟨m, 1, none⟩ = some (.slice a L.length c)
  c2 : w.cell? ⟨m, 2, none⟩ = some (.bool stuck)
  hl : IntsCells w a L
  cap : L.length ≤ c
theorem WC.later {w w' : World} {B m : Nat} {first : Int} {L : List Int} {stuck : Bool} {a : Option Addr} {c : Nat} (h : WC w B m first L stuck a c) (hb : Below w.heap.size w w') : WC w' B m first L stuck a c :=
  ⟨h.ge, Below.keeps hb h.c0 (Nat.le_refl _), Below.keeps hb h.c1 (Nat.le_refl _), Below.keeps hb h.c2 (Nat.le_refl _), h.hl.later hb, h.cap⟩
theorem own_cap {w : World} {B : Nat} {a : Option Addr} {n c : Nat} {l : List Int} (h : ownInts w B (.slice a n c) l) : l.length ≤ c := by
  have h1 := (own_cells h).1
  rcases h.2 with ⟨e, h0⟩ | ⟨g, cap, cur, e, -, -, hcap, -⟩
  · injection e with e1 e2 e3
    omega
  · injection e with e1 e2 e3
    omega

/-- What the law keeps in memory of its arguments. -/
structure BI (w wr : World) (g : G) (l : List Int) (seed X : Int) (ai : Option Addr) (ci : Nat) (ae : Option Addr) (ce : Nat) (al : Option Addr) (cl : Nat) : Prop where
  gi : GI w wr g ai ci ae ce
  s0 : wr.cell? ⟨w.heap.size + 1, 0, none⟩ = some (.int .i64 seed)
  s1 : wr.cell? ⟨w.heap.size + 1, 1, none⟩ = some (.int .i64 X)
  hl : IntsAt wr (.slice al l.length cl) l
  mi : g.init.length ≤ maxLen
  me : g.edges.length ≤ maxLen
theorem BI.later {w wr wr' : World} {g : G} {l : List Int} {seed X : Int} {ai : Option Addr} {ci : Nat} {ae : Option Addr} {ce : Nat} {al : Option Addr} {cl : Nat} (h : BI w wr g l seed X ai ci ae ce al cl) (hb : Below wr.heap.size wr wr') : BI w wr' g l seed X ai ci ae ce al cl :=
  ⟨h.gi.later hb, Below.keeps hb h.s0 (Nat.le_refl _), Below.keeps hb h.s1 (Nat.le_refl _), h.hl.later hb, h.mi, h.me⟩
theorem BI.graph {w wr : World} {g : G} {l : List Int} {seed X : Int} {ai : Option Addr} {ci : Nat} {ae : Option Addr} {ce : Nat} {al : Option Addr} {cl : Nat} (h : BI w wr g l seed X ai ci ae ce al cl) :
    GraphAt wr (.agg #[.int .i64 g.n, .slice ai g.init.length ci, .slice ae g.edges.length ce]) g :=
  ⟨_, _, rfl, ⟨_, _, rfl, h.mi, h.gi.hi⟩, ⟨_, _, rfl, h.me, h.gi.he⟩⟩
theorem BI.made (w : World) (g : G) (l : List Int) (seed X : Int) (ai : Option Addr) (ci : Nat) (ae : Option Addr) (ce : Nat) (al : Option Addr) (cl : Nat) (t t' : TypeId) (h1 : IntsCells w ai g.init) (h2 : EdgesCells w ae g.edges) (h3 : IntsAt w (.slice al l.length cl) l) (mi : g.init.length ≤ maxLen) (me : g.edges.length ≤ maxLen) :
    BI w ((w.alloc (Obj.cells #[Value.int IntKind.i64 g.n, Value.slice ai g.init.length ci, Value.slice ae g.edges.length ce] t)).alloc (Obj.cells #[Value.int IntKind.i64 seed, Value.int IntKind.i64 X] t')) g l seed X ai ci ae ce al cl :=
  ⟨(GI.made w g ai ci ae ce t h1 h2).later ((Below.refl _ _).alloc (Nat.le_refl _) _), by rw [World.cell?_alloc_at _ _ _ _ (by simp)]; rfl, by rw [World.cell?_alloc_at _ _ _ _ (by simp)]; rfl,
    (h3.later ((Below.refl _ _).alloc (Nat.le_refl _) _)).later ((Below.refl _ _).alloc (Nat.le_refl _) _), mi, me⟩

theorem ints_form2 {w : World} {v : Value} {l : List Int} (h : IntsAt w v l) : ∃ a c, v = .slice a l.length c := by
  obtain ⟨a, c, rfl, -, -⟩ := h
  exact ⟨a, c, rfl⟩
theorem ints_max {w : World} {v : Value} {l : List Int} (h : IntsAt w v l) : l.length ≤ maxLen := by
  obtain ⟨a, c, -, h, -⟩ := h
  exact h

theorem wc_late {wC : World} {B B' : Nat} {first : Int} {L : List Int} {st : Bool} {a : Option Addr} {c : Nat} (t : TypeId) (hs : B ≤ wC.heap.size) (h : ownInts wC B' (.slice a L.length c) L) :
    WC (wC.alloc (Obj.cells #[.int .i64 first, .slice a L.length c, .bool st] t)) B wC.heap.size first L st a c :=
  ⟨hs, World.cell?_alloc_at _ _ _ _ rfl, World.cell?_alloc_at _ _ _ _ rfl, World.cell?_alloc_at _ _ _ _ rfl, (own_cells h).2.1.later ((Below.refl _ _).alloc (Nat.le_refl _) _), own_cap h⟩
theorem wc_early {wC : World} {B B' m : Nat} {first x0 : Int} {x1 : Value} {x2 : Bool} {L : List Int} {st : Bool} {a : Option Addr} {c : Nat} (hs : B ≤ m) (hm : m < B') (h : ownInts wC B' (.slice a L.length c) L)
    (m0 : wC.cell? ⟨m, 0, none⟩ = some (.int .i64 x0)) (m1 : wC.cell? ⟨m, 1, none⟩ = some x1) (m2 : wC.cell? ⟨m, 2, none⟩ = some (.bool x2)) :
    WC (((wC.setCell ⟨m, 0, none⟩ (.int .i64 first)).setCell ⟨m, 1, none⟩ (.slice a L.length c)).setCell ⟨m, 2, none⟩ (.bool st)) B m first L st a c := by
  have n01 : (⟨m, 0, none⟩ : Addr) ≠ ⟨m, 1, none⟩ := by intro h; injection h with h1 h2; omega
  have n02 : (⟨m, 0, none⟩ : Addr) ≠ ⟨m, 2, none⟩ := by intro h; injection h with h1 h2; omega
  have n12 : (⟨m, 1, none⟩ : Addr) ≠ ⟨m, 2, none⟩ := by intro h; injection h with h1 h2; omega
  refine ⟨hs, ?_, ?_, ?_, ?_, own_cap h⟩
  · rw [World.cell?_setCell_other _ _ _ _ n02.symm, World.cell?_setCell_other _ _ _ _ n01.symm]; exact World.cell?_setCell_same _ _ _ m0
  · rw [World.cell?_setCell_other _ _ _ _ n12.symm]; exact World.cell?_setCell_same _ _ _ ((World.cell?_setCell_other _ _ _ _ n01).trans m1)
  · exact World.cell?_setCell_same _ _ _ ((World.cell?_setCell_other _ _ _ _ n12).trans ((World.cell?_setCell_other _ _ _ _ n02).trans m2))
  · exact (own_cells (ownsRow_setCell_below (ownsRow_setCell_below (ownsRow_setCell_below h hm _) hm _) hm _)).2.1
theorem fine_of {g : G} {l : List Int} (h : bOk g) (hw : wErr l = 0) : Fine g l :=
  ⟨⟨h.1, h.2.2.2.1, h.2.2.2.2.1, h.2.2.2.2.2⟩, h.2.1, ((wErr_le l).1 hw).1, ((wErr_le l).1 hw).2⟩

theorem equal_q (x y : Value) (l : List Int) (w : World) (hx : IntsAt w x l) (hy : IntsAt w y l) :
    Calls Try.prog 14 #[x, y] w fun e w' => e = .returned (.bool true) ∧ ∃ n, w' = w.drewN n := by
  refine (equalInts_any x y l l w hx hy).mono ?_
  rintro e w' ⟨rfl, h⟩
  exact ⟨by rw [decide_eq_true rfl], h⟩
theorem ints_take {w : World} {a : Option Addr} {l m : List Int} (h : IntsCells w a l) (hm : l.take m.length = m) (hl : m.length ≤ l.length) : IntsCells w a m := by
  intro j hj
  obtain ⟨b, o, e, hc⟩ := h j (by omega)
  refine ⟨b, o, e, hc.trans ?_⟩
  have : gi m j = gi l j := by
    unfold gi
    rw [← hm, List.getElem?_take_of_lt hj]
  rw [this]
/-- What the law asks of the two walks. -/
structure Two (g : G) (l La Lb : List Int) (X : Int) (sa sb : Bool) : Prop where
  pre : La.take Lb.length = Lb
  le : Lb.length ≤ La.length
  most : (La.length : Int) ≤ X
  step : ∀ i, i ∈ La → ∃ n : Nat, n < g.edges.length ∧ i = n ∧ 0 < gi l (ge g.edges n).a.toNat
  stuck : sb = true → La.length = Lb.length ∧ sa = true
theorem two_of {g : G} {l : List Int} {seed X : Int} {k : Nat} (hF : Fine g l) (hs : 1 ≤ seed ∧ seed < 2147483647) (first : Int) (hX : ((k + 1 : Nat) : Int) = X) :
    Two g l (walkK g l seed first (k + 1)).2 (walkK g l seed first k).2 X (decide (sumTo g l (walkK g l seed first (k + 1)).1 g.edges.length = 0)) (decide (sumTo g l (walkK g l seed first k).1 g.edges.length = 0)) :=
  ⟨walkK_prefix g l seed first k, walkK_mono g l seed first k, by have := walkK_len g l seed first (k + 1); omega, walkK_steps hF hs first (k + 1), fun h => by
    have h0 := of_decide_eq_true h
    rw [walkK_stuck h0]
    exact ⟨rfl, decide_eq_true h0⟩⟩

set_option maxHeartbeats 4000000 in
set_option maxRecDepth 100000 in
theorem simBegins_walk (hAw : AwakeSaid) (g : G) (l : List Int) (seed X : Int) (vg vl : Value) (w : World) (hg : GraphAt w vg g) (hl : IntsAt w vl l) :
    Calls Try.prog 9 #[vg, vl, .agg #[.int .i64 seed, .int .i64 X]] w fun e w' => e = .returned (.bool true) ∧ Below w.heap.size w w' := by
  obtain ⟨vi, ve, rfl, ⟨ai, ci, rfl, hmi, hci⟩, ⟨ae, ce, rfl, hme, hce⟩⟩ := hg
  obtain ⟨al, cl, rfl⟩ := ints_form2 hl
  have hB := BI.made w g l seed X ai ci ae ce al cl 34 36 hci hce hl hmi hme
  have hml := ints_max hl
  clear hci hce hl
  unfold maxLen at hmi hme hml
  go_enter Try.func9, Try.ntmps9
  go_wp2_with fail
  generalize ((w.alloc (Obj.cells #[Value.int IntKind.i64 g.n, Value.slice ai g.init.length ci, Value.slice ae g.edges.length ce] 34)).alloc (Obj.cells #[Value.int IntKind.i64 seed, Value.int IntKind.i64 X] 36)) = w0 at *
  refine (hAw _).mono ?_
  rintro e w1 ⟨rfl, hb1⟩
  replace hB := hB.later hb1
  clear hb1 w0
  have g0 := hB.gi.g0
  have g1 := hB.gi.g1
  have g2 := hB.gi.g2
  go_wp2_with fail
  refine (few_any g _ _ hB.graph).mono ?_
  rintro e w2 ⟨rfl, hb2⟩
  replace hB := hB.later hb2
  clear hb2 g0 g1 g2
  cases hf : fewB g
  · clear hf
    go_wp2
    go_ret
    exact ⟨rfl, hB.gi.bw⟩
  have HF := Lib.hid hf
  clear hf
  have g0 := hB.gi.g0
  have g1 := hB.gi.g1
  have g2 := hB.gi.g2
  go_wp2_with fail
  refine (isGraph_any g _ _ hB.graph).mono ?_
  rintro e w3 ⟨rfl, hb3⟩
  replace hB := hB.later hb3
  clear hb3 g0 g1 g2
  cases hi : isG g
  · clear hi
    go_wp2
    go_ret
    exact ⟨rfl, hB.gi.bw⟩
  have HI := Lib.hid hi
  clear hi
  by_cases hn : g.init.length = 0
  · have g1 := hB.gi.g1
    have hne : ((g.init.length : Int) == 0) = true := by rw [hn]; rfl
    clear hn
    go_wp2
    go_ret
    exact ⟨rfl, hB.gi.bw⟩
  have g1 := hB.gi.g1
  have hne : ((g.init.length : Int) == 0) = false := by simp; intro h; rw [h] at hn; simp at hn
  have HN := Lib.hid hn
  clear hn
  go_wp2_with fail
  refine (weightsErr_any l _ _ hB.hl).mono ?_
  rintro e w3' ⟨rfl, rfl⟩
  by_cases hw : wErr l = 0
  · rw [hw]
    have HW := Lib.hid hw
    clear hw
    have s0 := hB.s0
    go_wp2_with fail
    refine (seedErr_any seed _).mono ?_
    rintro e w3'' ⟨rfl, rfl⟩
    cases hs : seedOk seed
    · rw [if_neg (by simp)]
      clear hs
      go_wp2
      go_ret
      exact ⟨rfl, hB.gi.bw⟩
    rw [if_pos rfl]
    have HS := Lib.hid hs
    clear hs
    have s1 := hB.s1
    go_wp2_with fail
    by_cases hX : 1 ≤ X ∧ X ≤ 300
    · refine (between_yes _ hX).mono ?_
      rintro e w4 ⟨rfl, rfl⟩
      clear g1 s0 s1 hne
      go_wp2_with fail
      have hok := (isG_iff g).1 HI.out
      have hF := fine_of hok HW.out
      have hsd : 1 ≤ seed ∧ seed < 2147483647 := by have := HS.out; unfold seedOk at this; simpa using this
      have hfw : g.n ≤ 20 ∧ g.init.length ≤ 22 ∧ g.edges.length ≤ 60 := by have := HF.out; unfold fewB at this; simpa using this
      have hX0 : 0 ≤ X ∧ X ≤ 300 := by omega
      obtain ⟨Y, hY⟩ : ∃ Y, Y = X - 1 := ⟨_, rfl⟩
      have hX1 : 0 ≤ Y ∧ Y ≤ 300 := by omega
      have HFN := Lib.hid hF; have HSD := Lib.hid hsd; have HX0 := Lib.hid hX0; have HX1 := Lib.hid hX1
      have HQ1 : Hid (g.init.length ≤ 100000) := Nat.le_trans hfw.2.1 (by decide)
      have HQ2 : Hid (g.edges.length ≤ 100000) := Nat.le_trans hfw.2.2 (by decide)
      have HQ3 : Hid (l.length ≤ 100000) := by unfold Hid; rw [hF.len]; decide
      have hwX : IntKind.i64.wrap (X - 1) = Y := by rw [hY]; exact IntWalk.i64_in _ (by omega)
      have HYX : Hid (X.toNat = Y.toNat + 1) := by unfold Hid; omega
      have HWX := Lib.hid hwX
      clear hok hF hsd hfw hX0 hX1 hwX hY
      have g0 := hB.gi.g0
      have g1 := hB.gi.g1
      have g2 := hB.gi.g2
      have s0 := hB.s0
      have s1 := hB.s1
      have HB := Lib.hid hB
      clear hB
      go_cut [7, 8] (fun s7 s8 wx => ∃ (m : Nat) (a : Option Addr) (c : Nat), s7 = .pointer (some ⟨m, 0, none⟩) ∧ s8 = .int .i64 0 ∧ WC wx w4.heap.size m (walkFirst g seed) (walkK g l seed (walkFirst g seed) X.toNat).2 (decide (sumTo g l (walkK g l seed (walkFirst g seed) X.toNat).1 g.edges.length = 0)) a c ∧ Below w4.heap.size w4 wx)
      case first =>
        go_region_held3 (fun w' => w'.cell? ⟨w.heap.size, 0, none⟩ = some (.int .i64 g.n) ∧ w'.cell? ⟨w.heap.size, 1, none⟩ = some (.slice ai g.init.length ci) ∧ w'.cell? ⟨w.heap.size, 2, none⟩ = some (.slice ae g.edges.length ce) ∧ w'.cell? ⟨w.heap.size + 1, 0, none⟩ = some (.int .i64 seed) ∧ w'.cell? ⟨w.heap.size + 1, 1, none⟩ = some (.int .i64 X) ∧ Below w4.heap.size w4 w')
          ((refine (fun hB : Below w4.heap.size w4 _ => ⟨Below.keeps hB g0 (Nat.le_refl _), Below.keeps hB g1 (Nat.le_refl _), Below.keeps hB g2 (Nat.le_refl _), Below.keeps hB s0 (Nat.le_refl _), Below.keeps hB s1 (Nat.le_refl _), hB⟩) ?_; (repeat (first | with_reducible exact Below.refl _ _ | with_reducible assumption | with_reducible refine Below.drew ?_ | (with_reducible refine Below.alloc ?_ ?_ _) | (with_reducible refine Below.setCell ?_ ?_ _))); all_goals (first | exact Nat.le_refl _ | exact hbC.size | exact hbB.size | exact hbA.size | (simp; done))))
          (first
            | (go_at_call 18; refine (ownGraph_any g _ _ (HB.out.graph.later ?_) HQ1.out HQ2.out).mono ?_; (focus ((repeat (first | with_reducible exact Below.refl _ _ | with_reducible assumption | with_reducible refine Below.drew ?_ | (with_reducible refine Below.alloc ?_ ?_ _) | (with_reducible refine Below.setCell ?_ ?_ _))); all_goals (first | exact Nat.le_refl _ | (simp; done)))); rintro e wA ⟨vA, rfl, gA, hA⟩; have hbA : Below w4.heap.size w4 wA := Below.trans (b := _) (by (repeat (first | with_reducible exact Below.refl _ _ | with_reducible assumption | with_reducible refine Below.drew ?_ | (with_reducible refine Below.alloc ?_ ?_ _) | (with_reducible refine Below.setCell ?_ ?_ _))); all_goals (first | exact Nat.le_refl _ | (simp; done))) (hA.mono (by first | exact Nat.le_refl _ | (simp; done))); (first | (have m0 := (carryD hA).1 0 _ rfl; have m1 := (carryD hA).1 1 _ rfl; have m2 := (carryD hA).1 2 _ rfl; have mf0 := (carryD hA).2 0; have mf1 := (carryD hA).2 1; have mf2 := (carryD hA).2 2; have mlt : _ < wA.heap.size := cell_lt m0) | (replace m0 := Below.keeps hA m0 (Nat.le_refl _); replace m1 := Below.keeps hA m1 (Nat.le_refl _); replace m2 := Below.keeps hA m2 (Nat.le_refl _); replace mf0 := Below.keepsF hA mf0 mlt; replace mf1 := Below.keepsF hA mf1 mlt; replace mf2 := Below.keepsF hA mf2 mlt; replace mlt : _ < wA.heap.size := cell_lt m0) | skip))
            | (go_at_call 19; refine (ownInts_any l _ _ (HB.out.hl.later ?_) HQ3.out).mono ?_; (focus ((repeat (first | with_reducible exact Below.refl _ _ | with_reducible assumption | with_reducible refine Below.drew ?_ | (with_reducible refine Below.alloc ?_ ?_ _) | (with_reducible refine Below.setCell ?_ ?_ _))); all_goals (first | exact Nat.le_refl _ | exact hbA.size | (simp; done)))); rintro e wB ⟨vB, rfl, oB, hB'⟩; have hbB : Below w4.heap.size w4 wB := Below.trans (b := _) (by (repeat (first | with_reducible exact Below.refl _ _ | with_reducible assumption | with_reducible refine Below.drew ?_ | (with_reducible refine Below.alloc ?_ ?_ _) | (with_reducible refine Below.setCell ?_ ?_ _))); all_goals (first | exact Nat.le_refl _ | exact hbA.size | (simp; done))) (hB'.mono (by first | exact hbA.size | (simp; exact Nat.le_succ_of_le hbA.size))); have gB : GraphAt wB vA g := gA.later (Below.trans (b := _) (by (repeat (first | with_reducible exact Below.refl _ _ | with_reducible assumption | with_reducible refine Below.drew ?_ | (with_reducible refine Below.alloc ?_ ?_ _) | (with_reducible refine Below.setCell ?_ ?_ _))); all_goals (first | exact Nat.le_refl _ | (simp; done))) (hB'.mono (by first | exact Nat.le_refl _ | (simp; done)))); (first | (have m0 := (carry hB').1 0 _ rfl; have m1 := (carry hB').1 1 _ rfl; have m2 := (carry hB').1 2 _ rfl; have mf0 := (carry hB').2 0; have mf1 := (carry hB').2 1; have mf2 := (carry hB').2 2; have mlt : _ < wB.heap.size := cell_lt m0) | (replace m0 := Below.keeps hB' m0 (Nat.le_refl _); replace m1 := Below.keeps hB' m1 (Nat.le_refl _); replace m2 := Below.keeps hB' m2 (Nat.le_refl _); replace mf0 := Below.keepsF hB' mf0 mlt; replace mf1 := Below.keepsF hB' mf1 mlt; replace mf2 := Below.keepsF hB' mf2 mlt; replace mlt : _ < wB.heap.size := cell_lt m0) | skip))
            | (go_at_call 17; refine (walkOf_ok g l seed X _ _ _ (gB.later ?_) ((IntsAt.of_own oB).later ?_) HFN.out HSD.out HX0.out HN.out).mono ?_; (focus ((repeat (first | with_reducible exact Below.refl _ _ | with_reducible assumption | with_reducible refine Below.drew ?_ | (with_reducible refine Below.alloc ?_ ?_ _) | (with_reducible refine Below.setCell ?_ ?_ _))); all_goals (first | exact Nat.le_refl _ | (simp; done)))); (focus ((repeat (first | with_reducible exact Below.refl _ _ | with_reducible assumption | with_reducible refine Below.drew ?_ | (with_reducible refine Below.alloc ?_ ?_ _) | (with_reducible refine Below.setCell ?_ ?_ _))); all_goals (first | exact Nat.le_refl _ | (simp; done)))); rintro e wC ⟨vC, rfl, oC, hC⟩; obtain ⟨aC, cC, rfl⟩ := own_form oC; have hbC : Below w4.heap.size w4 wC := Below.trans (b := _) (by (repeat (first | with_reducible exact Below.refl _ _ | with_reducible assumption | with_reducible refine Below.drew ?_ | (with_reducible refine Below.alloc ?_ ?_ _) | (with_reducible refine Below.setCell ?_ ?_ _))); all_goals (first | exact Nat.le_refl _ | exact hbB.size | (simp; done))) (hC.mono (by first | exact hbB.size | (simp; exact Nat.le_succ_of_le hbB.size))); (first | (have m0 := (carry hC).1 0 _ rfl; have m1 := (carry hC).1 1 _ rfl; have m2 := (carry hC).1 2 _ rfl; have mf0 := (carry hC).2 0; have mf1 := (carry hC).2 1; have mf2 := (carry hC).2 2; have mlt : _ < wC.heap.size := cell_lt m0) | (replace m0 := Below.keeps hC m0 (Nat.le_refl _); replace m1 := Below.keeps hC m1 (Nat.le_refl _); replace m2 := Below.keeps hC m2 (Nat.le_refl _); replace mf0 := Below.keepsF hC mf0 mlt; replace mf1 := Below.keepsF hC mf1 mlt; replace mf2 := Below.keepsF hC mf2 mlt; replace mlt : _ < wC.heap.size := cell_lt m0) | skip)))

        all_goals (go_wp2_with fail; go_meet)
        all_goals first
          | exact ⟨_, _, _, rfl, rfl, wc_late _ hbC.size oC, hbC.alloc hbC.size _⟩
          | (have hq1 := hB'.size; have hq2 := hA.size; (try simp at hq1); (try simp at hq2); refine ⟨_, _, _, rfl, rfl, wc_early (B' := _) ?_ ?_ oC m0 m1 m2, ?_⟩; (focus (first | exact Nat.le_refl _ | exact hbA.size | exact hbB.size)); (focus (first | (simp; done) | (simp; omega) | omega)); (focus ((repeat (first | with_reducible exact Below.refl _ _ | with_reducible assumption | with_reducible refine Below.drew ?_ | (with_reducible refine Below.alloc ?_ ?_ _) | (with_reducible refine Below.setCell ?_ ?_ _))); all_goals (first | exact Nat.le_refl _ | exact hbB.size | exact hbA.size))))
      case rest =>
        obtain ⟨w5, e5⟩ : ∃ x, x = wc := ⟨_, rfl⟩
        subst e5
        obtain ⟨m, a, c, rfl, rfl, hWA, hb5⟩ := hcut
        have hB := HB.out.later hb5
        clear HB g0 g1 g2 s0 s1 hb5
        have g0 := hB.gi.g0
        have g1 := hB.gi.g1
        have g2 := hB.gi.g2
        have s0 := hB.s0
        have s1 := hB.s1
        have HB := Lib.hid hB
        have HWA := Lib.hid hWA
        have hwX := HWX.out
        clear hB hWA
        go_wp2_with fail
        go_cut [9, 10] (fun s7 s8 wx => ∃ (m : Nat) (a : Option Addr) (c : Nat), s7 = .pointer (some ⟨m, 0, none⟩) ∧ s8 = .int .i64 0 ∧ WC wx w5.heap.size m (walkFirst g seed) (walkK g l seed (walkFirst g seed) Y.toNat).2 (decide (sumTo g l (walkK g l seed (walkFirst g seed) Y.toNat).1 g.edges.length = 0)) a c ∧ Below w5.heap.size w5 wx)
        case first =>
          go_region_held3 (fun w' => w'.cell? ⟨w.heap.size, 0, none⟩ = some (.int .i64 g.n) ∧ w'.cell? ⟨w.heap.size, 1, none⟩ = some (.slice ai g.init.length ci) ∧ w'.cell? ⟨w.heap.size, 2, none⟩ = some (.slice ae g.edges.length ce) ∧ w'.cell? ⟨w.heap.size + 1, 0, none⟩ = some (.int .i64 seed) ∧ w'.cell? ⟨w.heap.size + 1, 1, none⟩ = some (.int .i64 X) ∧ Below w5.heap.size w5 w')
            ((refine (fun hB : Below w5.heap.size w5 _ => ⟨Below.keeps hB g0 (Nat.le_refl _), Below.keeps hB g1 (Nat.le_refl _), Below.keeps hB g2 (Nat.le_refl _), Below.keeps hB s0 (Nat.le_refl _), Below.keeps hB s1 (Nat.le_refl _), hB⟩) ?_; (repeat (first | with_reducible exact Below.refl _ _ | with_reducible assumption | with_reducible refine Below.drew ?_ | (with_reducible refine Below.alloc ?_ ?_ _) | (with_reducible refine Below.setCell ?_ ?_ _))); all_goals (first | exact Nat.le_refl _ | exact hbC.size | exact hbB.size | exact hbA.size | (simp; done))))
            (first
              | (go_at_call 18; refine (ownGraph_any g _ _ (HB.out.graph.later ?_) HQ1.out HQ2.out).mono ?_; (focus ((repeat (first | with_reducible exact Below.refl _ _ | with_reducible assumption | with_reducible refine Below.drew ?_ | (with_reducible refine Below.alloc ?_ ?_ _) | (with_reducible refine Below.setCell ?_ ?_ _))); all_goals (first | exact Nat.le_refl _ | (simp; done)))); rintro e wA ⟨vA, rfl, gA, hA⟩; have hbA : Below w5.heap.size w5 wA := Below.trans (b := _) (by (repeat (first | with_reducible exact Below.refl _ _ | with_reducible assumption | with_reducible refine Below.drew ?_ | (with_reducible refine Below.alloc ?_ ?_ _) | (with_reducible refine Below.setCell ?_ ?_ _))); all_goals (first | exact Nat.le_refl _ | (simp; done))) (hA.mono (by first | exact Nat.le_refl _ | (simp; done))); (first | (have m0 := (carryD hA).1 0 _ rfl; have m1 := (carryD hA).1 1 _ rfl; have m2 := (carryD hA).1 2 _ rfl; have mf0 := (carryD hA).2 0; have mf1 := (carryD hA).2 1; have mf2 := (carryD hA).2 2; have mlt : _ < wA.heap.size := cell_lt m0) | (replace m0 := Below.keeps hA m0 (Nat.le_refl _); replace m1 := Below.keeps hA m1 (Nat.le_refl _); replace m2 := Below.keeps hA m2 (Nat.le_refl _); replace mf0 := Below.keepsF hA mf0 mlt; replace mf1 := Below.keepsF hA mf1 mlt; replace mf2 := Below.keepsF hA mf2 mlt; replace mlt : _ < wA.heap.size := cell_lt m0) | skip))
              | (go_at_call 19; refine (ownInts_any l _ _ (HB.out.hl.later ?_) HQ3.out).mono ?_; (focus ((repeat (first | with_reducible exact Below.refl _ _ | with_reducible assumption | with_reducible refine Below.drew ?_ | (with_reducible refine Below.alloc ?_ ?_ _) | (with_reducible refine Below.setCell ?_ ?_ _))); all_goals (first | exact Nat.le_refl _ | exact hbA.size | (simp; done)))); rintro e wB ⟨vB, rfl, oB, hB'⟩; have hbB : Below w5.heap.size w5 wB := Below.trans (b := _) (by (repeat (first | with_reducible exact Below.refl _ _ | with_reducible assumption | with_reducible refine Below.drew ?_ | (with_reducible refine Below.alloc ?_ ?_ _) | (with_reducible refine Below.setCell ?_ ?_ _))); all_goals (first | exact Nat.le_refl _ | exact hbA.size | (simp; done))) (hB'.mono (by first | exact hbA.size | (simp; exact Nat.le_succ_of_le hbA.size))); have gB : GraphAt wB vA g := gA.later (Below.trans (b := _) (by (repeat (first | with_reducible exact Below.refl _ _ | with_reducible assumption | with_reducible refine Below.drew ?_ | (with_reducible refine Below.alloc ?_ ?_ _) | (with_reducible refine Below.setCell ?_ ?_ _))); all_goals (first | exact Nat.le_refl _ | (simp; done))) (hB'.mono (by first | exact Nat.le_refl _ | (simp; done)))); (first | (have m0 := (carry hB').1 0 _ rfl; have m1 := (carry hB').1 1 _ rfl; have m2 := (carry hB').1 2 _ rfl; have mf0 := (carry hB').2 0; have mf1 := (carry hB').2 1; have mf2 := (carry hB').2 2; have mlt : _ < wB.heap.size := cell_lt m0) | (replace m0 := Below.keeps hB' m0 (Nat.le_refl _); replace m1 := Below.keeps hB' m1 (Nat.le_refl _); replace m2 := Below.keeps hB' m2 (Nat.le_refl _); replace mf0 := Below.keepsF hB' mf0 mlt; replace mf1 := Below.keepsF hB' mf1 mlt; replace mf2 := Below.keepsF hB' mf2 mlt; replace mlt : _ < wB.heap.size := cell_lt m0) | skip))
              | (go_at_call 17; refine (walkOf_ok g l seed Y _ _ _ (gB.later ?_) ((IntsAt.of_own oB).later ?_) HFN.out HSD.out HX1.out HN.out).mono ?_; (focus ((repeat (first | with_reducible exact Below.refl _ _ | with_reducible assumption | with_reducible refine Below.drew ?_ | (with_reducible refine Below.alloc ?_ ?_ _) | (with_reducible refine Below.setCell ?_ ?_ _))); all_goals (first | exact Nat.le_refl _ | (simp; done)))); (focus ((repeat (first | with_reducible exact Below.refl _ _ | with_reducible assumption | with_reducible refine Below.drew ?_ | (with_reducible refine Below.alloc ?_ ?_ _) | (with_reducible refine Below.setCell ?_ ?_ _))); all_goals (first | exact Nat.le_refl _ | (simp; done)))); rintro e wC ⟨vC, rfl, oC, hC⟩; obtain ⟨aC, cC, rfl⟩ := own_form oC; have hbC : Below w5.heap.size w5 wC := Below.trans (b := _) (by (repeat (first | with_reducible exact Below.refl _ _ | with_reducible assumption | with_reducible refine Below.drew ?_ | (with_reducible refine Below.alloc ?_ ?_ _) | (with_reducible refine Below.setCell ?_ ?_ _))); all_goals (first | exact Nat.le_refl _ | exact hbB.size | (simp; done))) (hC.mono (by first | exact hbB.size | (simp; exact Nat.le_succ_of_le hbB.size))); (first | (have m0 := (carry hC).1 0 _ rfl; have m1 := (carry hC).1 1 _ rfl; have m2 := (carry hC).1 2 _ rfl; have mf0 := (carry hC).2 0; have mf1 := (carry hC).2 1; have mf2 := (carry hC).2 2; have mlt : _ < wC.heap.size := cell_lt m0) | (replace m0 := Below.keeps hC m0 (Nat.le_refl _); replace m1 := Below.keeps hC m1 (Nat.le_refl _); replace m2 := Below.keeps hC m2 (Nat.le_refl _); replace mf0 := Below.keepsF hC mf0 mlt; replace mf1 := Below.keepsF hC mf1 mlt; replace mf2 := Below.keepsF hC mf2 mlt; replace mlt : _ < wC.heap.size := cell_lt m0) | skip)))
          all_goals (go_wp2_with fail; go_meet)
          all_goals first
            | exact ⟨_, _, _, rfl, rfl, wc_late _ hbC.size oC, hbC.alloc hbC.size _⟩
            | (have hq1 := hB'.size; have hq2 := hA.size; (try simp at hq1); (try simp at hq2); refine ⟨_, _, _, rfl, rfl, wc_early (B' := _) ?_ ?_ oC m0 m1 m2, ?_⟩; (focus (first | exact Nat.le_refl _ | exact hbA.size | exact hbB.size)); (focus (first | (simp; done) | (simp; omega) | omega)); (focus ((repeat (first | with_reducible exact Below.refl _ _ | with_reducible assumption | with_reducible refine Below.drew ?_ | (with_reducible refine Below.alloc ?_ ?_ _) | (with_reducible refine Below.setCell ?_ ?_ _))); all_goals (first | exact Nat.le_refl _ | exact hbB.size | exact hbA.size))))
        case rest =>
          obtain ⟨w6, e6⟩ : ∃ x, x = wc := ⟨_, rfl⟩
          subst e6
          obtain ⟨m2, a2, c2, rfl, rfl, hWB, hb6⟩ := hcut
          have hB := HB.out.later hb6
          have hWA := HWA.out.later hb6
          clear HB HWA g0 g1 g2 s0 s1 hb6 hwX
          go_wp2_with fail
          have hk := HYX.out
          rw [hk] at hWA
          have hT := two_of (k := Y.toNat) HFN.out HSD.out (walkFirst g seed) (X := X) (by omega)
          clear hk
          generalize (decide (sumTo g l (walkK g l seed (walkFirst g seed) (Y.toNat + 1)).1 g.edges.length = 0)) = sa at *
          generalize (decide (sumTo g l (walkK g l seed (walkFirst g seed) Y.toNat).1 g.edges.length = 0)) = sb at *
          generalize (walkK g l seed (walkFirst g seed) (Y.toNat + 1)).2 = La at *
          generalize (walkK g l seed (walkFirst g seed) Y.toNat).2 = Lb at *
          generalize walkFirst g seed = first at *
          have a0 := hWA.c0
          have a1 := hWA.c1
          have b0 := hWB.c0
          have b1 := hWB.c1
          have s1 := hB.s1
          have hne : (first != first) = false := by simp
          have hd1 : decide ((La.length : Int) < (Lb.length : Int)) = false := decide_eq_false (by have := hT.le; omega)
          have hd1' : decide (La.length < Lb.length) = false := decide_eq_false (by have := hT.le; omega)
          have hd2 : decide (X < (La.length : Int)) = false := decide_eq_false (by have := hT.most; omega)
          have hcap : Lb.length ≤ c := by have := hT.le; have := hWA.cap; omega
          have hcap' : (Lb.length : Int) ≤ (c : Int) := by omega
          have hLb0 : (0 : Int) ≤ (Lb.length : Int) := by omega
          have hq1 := Lib.hid (ints_take hWA.hl hT.pre hT.le)
          have hmx : Lb.length ≤ maxLen ∧ La.length ≤ maxLen := by unfold maxLen; have := hT.le; have := hT.most; have := HX0.out; omega
          have hmx1 : (La.length : Int) ≤ 300 := by have := hT.most; have := HX0.out; omega
          have HMX := Lib.hid hmx
          clear hmx
          have HWA' := Lib.hid hWA; have HWB' := Lib.hid hWB; have HB' := Lib.hid hB; have HT := Lib.hid hT
          clear hWA hWB hB hT
          go_quiet ((go_at_call 14; exact Calls.quiet_of (equal_q _ _ Lb _ (IntsAt.later (w := w6) ⟨_, _, rfl, HMX.out.1, HWB'.out.hl⟩ (below_drewN (Below.refl _ _) _)) (IntsAt.later (w := w6) ⟨_, _, rfl, HMX.out.1, hq1.out⟩ (below_drewN (Below.refl _ _) _)))))
          go_wp2_with fail
          have hd := below_drewN (Below.refl w6.heap.size w6) nq
          have hB := HB'.out.later hd
          have hWA := HWA'.out.later hd
          have hWB := HWB'.out.later hd
          clear hd HB' HWA' HWB' hq1 a0 a1 b0 b1 s1 hne hd1 hd1' hd2 hcap hcap' hLb0
          generalize w6.drewN nq = w7 at *
          have hwE : g.edges.length ≠ 0 → IntKind.i64.wrap ((g.edges.length : Int) - 1) = (g.edges.length : Int) - 1 := fun h => IntWalk.i64_in _ (by omega)
          have HWE := Lib.hid hwE
          clear hwE
          go_loopw [11] (fun i wr => ∃ k : Nat, k ≤ La.length ∧ i = .int .i64 k ∧ BI w wr g l seed X ai ci ae ce al cl ∧ WC wr w4.heap.size m first La sa a c ∧ WC wr w5.heap.size m2 first Lb sb a2 c2) (fun i _ => La.length - (intOf i).toNat)
          case atStart => exact ⟨0, Nat.zero_le _, rfl, hB, hWA, hWB⟩
          case round =>
            clear hB hWA hWB
            obtain ⟨k, hk, rfl, hB, hWA, hWB⟩ := hrel
            have a1 := hWA.c1
            have g2 := hB.gi.g2
            by_cases hlt : k < La.length
            · obtain ⟨ba, oa, ea, ca⟩ := hWA.hl k hlt
              subst ea
              obtain ⟨n, hn, hin, hpos⟩ := HT.out.step (gi La k) (gi_mem hlt)
              rw [hin] at ca
              clear hin
              obtain ⟨be, oe, ee, -, -, k2⟩ := hB.gi.he n hn
              subst ee
              obtain ⟨ha0, ha1, ha2, ha3⟩ := HFN.out.act hn
              obtain ⟨al', cl', eal, hml', hcl⟩ := hB.hl
              injection eal with eal1 eal2 eal3
              subst eal1 eal3
              obtain ⟨bl, ol, el, cw⟩ := hcl _ ha2
              subst el
              clear hcl hml' eal2
              have ha4 : (ge g.edges n).a < (l.length : Int) := by omega
              have hz : (gi l (ge g.edges n).a.toNat == 0) = false := by simp; omega
              have hbt : (0 : Int) ≤ (n : Int) ∧ (n : Int) ≤ (g.edges.length : Int) - 1 := by omega
              have hn0 : (0 : Int) ≤ (n : Int) := by omega
              have hn1 : (n : Int) < (g.edges.length : Int) := by omega
              have hk0 : (0 : Int) ≤ (k : Int) := by omega
              have hk1 : (k : Int) < (La.length : Int) := by omega
              have hwE := HWE.out (by omega)
              have HBT := Lib.hid hbt
              clear hbt ha3 hpos
              go_wp2_with fail
              go_quiet ((go_at_call 13; exact Calls.quiet_of_same (between_yes _ HBT.out)))
              go_wp2
              exact ⟨⟨k + 1, by omega, by go_num, hB.later (below_drewN (Below.refl _ _) _), hWA.later (below_drewN (Below.refl _ _) _), hWB.later (below_drewN (Below.refl _ _) _)⟩, by simp [intOf]; omega⟩
            · have hkk : k = La.length := by omega
              subst hkk
              have b1 := hWB.c1
              have b2 := hWB.c2
              cases sb
              · go_wp2
                go_ret
                exact ⟨rfl, hB.gi.bw⟩
              · obtain ⟨hle, rfl⟩ := HT.out.stuck rfl
                have a2' := hWA.c2
                have heq : ((La.length : Int) == (Lb.length : Int)) = true := by simp; omega
                have heq' : (La.length == Lb.length) = true := by simp; omega
                clear hle
                go_wp2
                go_ret
                exact ⟨rfl, hB.gi.bw⟩
    · refine (between_no _ hX).mono ?_
      rintro e w4 ⟨rfl, rfl⟩
      go_wp2
      go_ret
      exact ⟨rfl, hB.gi.bw⟩
  · have hneq : (wErr l != 0) = true := by simpa using hw
    clear hw
    go_wp2
    go_ret
    exact ⟨rfl, hB.gi.bw⟩
end Go.Proofs.Ytnijajjmcdgonaa
