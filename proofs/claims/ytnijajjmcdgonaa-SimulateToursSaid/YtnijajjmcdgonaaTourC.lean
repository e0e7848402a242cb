import Derived.Test.YtnijajjmcdgonaaLeastB
import Derived.Test.YtnijajjmcdgonaaTourB
import Derived.Test.YtnijajjmcdgonaaMathT
namespace Go.Proofs.Ytnijajjmcdgonaa
open Go.RowKit
set_option linter.unusedVariables false

/-! What the walk of TourOf needs of memory. -/
theorem turned_block {w w' : World} {b k : Nat} (h : w.mapTurned w' b) (hk : k ≠ b) : w'.heap[k]? = w.heap[k]? := by
  obtain ⟨es, clock, es', clock', hb, rfl⟩ := h
  exact ChangeMaps.heap_setBlock_other hb _ hk
theorem turned_size {w w' : World} {b : Nat} (h : w.mapTurned w' b) : w'.heap.size = w.heap.size := by
  obtain ⟨es, clock, es', clock', hb, rfl⟩ := h
  simp [ChangeMaps.setBlock]
theorem turned_ne {w w' : World} {b : Nat} (h : w.mapTurned w' b) {a : Addr} {v : Value} (hc : w.cell? a = some v) : a.block ≠ b := by
  obtain ⟨es, clock, es', clock', hb, rfl⟩ := h
  intro he
  unfold World.cell? at hc
  rw [he, hb] at hc
  simp at hc
theorem turned_cell {w w' : World} {b : Nat} (h : w.mapTurned w' b) {a : Addr} {v : Value} (hc : w.cell? a = some v) : w'.cell? a = some v :=
  (World.cell?_of_block (turned_block h (turned_ne h hc))).trans hc
theorem turned_row {w w' : World} {b : Nat} (h : w.mapTurned w' b) {B : Nat} {t : TypeId} {s : Nat} {v : Value} {n : Nat} {xs : List Value} (hr : w.ownsRow B t s v n xs) : w'.ownsRow B t s v n xs := by
  obtain ⟨h0, h1 | ⟨g, cap, cur, h1, h2, h3, h4⟩⟩ := hr
  · exact ⟨h0, .inl h1⟩
  · refine ⟨h0, .inr ⟨g, cap, cur, h1, h2, ?_, h4⟩⟩
    obtain ⟨es, clock, es', clock', hb, rfl⟩ := h
    rw [ChangeMaps.heap_setBlock_other hb _ (by intro he; subst he; rw [hb] at h3; cases h3)]
    exact h3
theorem turned_below {w wr w' : World} {b B : Nat} (h : wr.mapTurned w' b) (hb : Below B w wr) (hB : B ≤ b) : Below B w w' := by
  obtain ⟨es, clock, es', clock', he, rfl⟩ := h
  exact hb.trans ⟨rfl, rfl, rfl, by simp [ChangeMaps.setBlock], fun k hk => ChangeMaps.heap_setBlock_other he _ (by omega)⟩
theorem IntsCells.turned {w w' : World} {b : Nat} (h : w.mapTurned w' b) {a : Option Addr} {l : List Int} (hc : IntsCells w a l) : IntsCells w' a l := fun j hj => by
  obtain ⟨g, off, e, h1⟩ := hc j hj
  exact ⟨g, off, e, turned_cell h h1⟩
theorem EdgesCells.turned {w w' : World} {b : Nat} (h : w.mapTurned w' b) {a : Option Addr} {l : List E} (hc : EdgesCells w a l) : EdgesCells w' a l := fun j hj => by
  obtain ⟨g, off, e, h1, h2, h3⟩ := hc j hj
  exact ⟨g, off, e, turned_cell h h1, turned_cell h h2, turned_cell h h3⟩

/-- What a call that goes on from w0 leaves of w0, but for the map in block b. -/
structure Near (b : Nat) (w0 wr : World) : Prop where
  size : w0.heap.size ≤ wr.heap.size
  block : ∀ k, k < w0.heap.size → k ≠ b → wr.heap[k]? = w0.heap[k]?
theorem Near.refl (b : Nat) (w : World) : Near b w w := ⟨Nat.le_refl _, fun _ _ _ => rfl⟩
theorem Near.below {b : Nat} {w0 wr w' : World} (h : Near b w0 wr) (hb : Below w0.heap.size wr w') : Near b w0 w' :=
  ⟨Nat.le_trans h.size hb.size, fun k hk hn => (hb.block k hk).trans (h.block k hk hn)⟩
theorem Near.turned {b : Nat} {w0 wr w' : World} (h : Near b w0 wr) (ht : wr.mapTurned w' b) : Near b w0 w' :=
  ⟨by rw [turned_size ht]; exact h.size, fun k hk hn => (turned_block ht hn).trans (h.block k hk hn)⟩
theorem Near.row {b : Nat} {w0 wr : World} (h : Near b w0 wr) (hm : ∃ es clock, w0.heap[b]? = some (.map es clock)) {B : Nat} {t : TypeId} {s : Nat} {v : Value} {n : Nat} {xs : List Value} (hr : w0.ownsRow B t s v n xs) : wr.ownsRow B t s v n xs := by
  obtain ⟨h0, h1 | ⟨g, cap, cur, h1, h2, h3, h4⟩⟩ := hr
  · exact ⟨h0, .inl h1⟩
  · refine ⟨h0, .inr ⟨g, cap, cur, h1, h2, ?_, h4⟩⟩
    obtain ⟨es, clock, hb⟩ := hm
    rw [h.block g (Array.getElem?_eq_some_iff.1 h3).1 (by intro he; subst he; rw [hb] at h3; cases h3)]
    exact h3
theorem OX.near {b : Nat} {w0 wr : World} (h : Near b w0 wr) (hm : ∃ es clock, w0.heap[b]? = some (.map es clock)) {Br Bs : Nat} {v : Value} {l : List W3} (ho : OX w0 Br Bs v l) : OX wr Br Bs v l := by
  obtain ⟨xs, h1, h2⟩ := ho.row
  refine ⟨⟨xs, h.row hm h1, fun j hj => ?_⟩⟩
  obtain ⟨a, c, e0, e1, e2, e3⟩ := h2 j hj
  exact ⟨a, c, e0, e1, e2, h.row hm e3⟩

/-- What TourOf keeps in memory besides its walks. -/
structure TZ (w wr : World) (g : G) (vi : Value) (ae : Option Addr) (ce pl pm n : Nat) (S : Int → Bool) : Prop where
  g0 : wr.cell? ⟨w.heap.size, 0, none⟩ = some (.int .i64 g.n)
  g1 : wr.cell? ⟨w.heap.size, 1, none⟩ = some vi
  g2 : wr.cell? ⟨w.heap.size, 2, none⟩ = some (.slice ae g.edges.length ce)
  ints : IntsAt wr vi g.init
  edges : EdgesCells wr ae g.edges
  lc : wr.cell? ⟨pl, 0, none⟩ = some (.map (some pm))
  mp : LeftIn wr pm n S g.edges.length
  bw : Below w.heap.size w wr
  ge : w.heap.size < pl ∧ w.heap.size < pm
theorem TZ.later {w wr w' : World} {g : G} {vi : Value} {ae : Option Addr} {ce pl pm n : Nat} {S : Int → Bool} (h : TZ w wr g vi ae ce pl pm n S) (hb : Below wr.heap.size wr w') : TZ w w' g vi ae ce pl pm n S :=
  ⟨Below.keeps hb h.g0 (Nat.le_refl _), Below.keeps hb h.g1 (Nat.le_refl _), Below.keeps hb h.g2 (Nat.le_refl _), h.ints.later hb, h.edges.later hb, Below.keeps hb h.lc (Nat.le_refl _), h.mp.later hb, h.bw.trans (hb.mono h.bw.size), h.ge⟩
theorem TZ.mono {w wr : World} {g : G} {vi : Value} {ae : Option Addr} {ce pl pm n n' : Nat} {S S' : Int → Bool} (h : TZ w wr g vi ae ce pl pm n S) (hn : n ≤ n') (hS : S = S') : TZ w wr g vi ae ce pl pm n' S' := by
  subst hS
  exact { h with mp := h.mp.mono hn }
theorem TZ.turned {w wr w' : World} {g : G} {vi : Value} {ae : Option Addr} {ce pl pm n n' : Nat} {S S' : Int → Bool} (h : TZ w wr g vi ae ce pl pm n S) (ht : wr.mapTurned w' pm) (hm : LeftIn w' pm n' S' g.edges.length) : TZ w w' g vi ae ce pl pm n' S' := by
  obtain ⟨ai, ci, rfl, hl, hc⟩ := h.ints
  exact ⟨turned_cell ht h.g0, turned_cell ht h.g1, turned_cell ht h.g2, ⟨ai, ci, rfl, hl, hc.turned ht⟩, h.edges.turned ht, turned_cell ht h.lc, hm, turned_below ht h.bw (by have := h.ge; omega), h.ge⟩
/-- What is below U is as it was. -/
theorem cell_below {U : Nat} {wr w' : World} (hb : Below U wr w') {a : Addr} {v : Value} (h : wr.cell? a = some v) (hU : a.block < U) : w'.cell? a = some v :=
  (hb.cell hU).trans h
/-- All that TZ speaks of lies below U. -/
structure TU (wr : World) (g : G) (vi : Value) (ae : Option Addr) (pl pm U : Nat) : Prop where
  l : pl < U
  m : pm < U
  i : ∀ a n c, vi = .slice (some a) n c → 0 < n → a.block < U
  e : ∀ a, ae = some a → 0 < g.edges.length → a.block < U
theorem TZ.tu {w wr : World} {g : G} {vi : Value} {ae : Option Addr} {ce pl pm n : Nat} {S : Int → Bool} (h : TZ w wr g vi ae ce pl pm n S) : TU wr g vi ae pl pm wr.heap.size := by
  refine ⟨cell_lt h.lc, h.mp.lt, ?_, ?_⟩
  · rintro a n c rfl hn
    obtain ⟨ai, ci, e1, hl, hc⟩ := h.ints
    injection e1 with e1 e2 e3
    subst e1 e2
    obtain ⟨g, off, e, h1⟩ := hc 0 hn
    injection e with e
    subst e
    exact cell_lt h1
  · rintro a rfl hn
    obtain ⟨g, off, e, h1, -⟩ := h.edges 0 hn
    injection e with e
    subst e
    exact cell_lt h1
theorem TZ.under {w wr w' : World} {g : G} {vi : Value} {ae : Option Addr} {ce pl pm n U : Nat} {S : Int → Bool} (h : TZ w wr g vi ae ce pl pm n S) {wt : World} (hU : TU wt g vi ae pl pm U) (hb : Below U wr w') (hw : w.heap.size < U) : TZ w w' g vi ae ce pl pm n S := by
  refine ⟨cell_below hb h.g0 hw, cell_below hb h.g1 hw, cell_below hb h.g2 hw, ?_, ?_, cell_below hb h.lc hU.l, h.mp.of_block (hb.block _ hU.m), h.bw.trans (hb.mono (by omega)), h.ge⟩
  · obtain ⟨ai, ci, rfl, hl, hc⟩ := h.ints
    refine ⟨ai, ci, rfl, hl, fun j hj => ?_⟩
    obtain ⟨g', off, e, h1⟩ := hc j hj
    subst e
    exact ⟨g', off, rfl, cell_below hb h1 (show g' < U from hU.i ⟨g', off, none⟩ g.init.length ci rfl (by omega))⟩
  · intro j hj
    obtain ⟨g', off, e, h1, h2, h3⟩ := h.edges j hj
    subst e
    have hlt := hU.e _ rfl (by omega)
    exact ⟨g', off, rfl, cell_below hb h1 hlt, cell_below hb h2 hlt, cell_below hb h3 hlt⟩
theorem XB.turned {w w' : World} {b : Nat} (h : w.mapTurned w' b) {Bs px : Nat} {f : Int} {aw : Option Addr} {cs : Nat} {st : Bool} {L : List Int} (hx : XB w Bs px f aw cs st L) : XB w' Bs px f aw cs st L := by
  refine ⟨?_, turned_row h hx.ow⟩
  rw [turned_block h (fun he => ?_)]
  · exact hx.hp
  · obtain ⟨es, clock, es', clock', hb, -⟩ := h
    have := hx.hp
    rw [he, hb] at this
    cases this

theorem TU.mono {wr : World} {g : G} {vi : Value} {ae : Option Addr} {pl pm U U' : Nat} (h : TU wr g vi ae pl pm U) (hU : U ≤ U') : TU wr g vi ae pl pm U' :=
  ⟨Nat.lt_of_lt_of_le h.l hU, Nat.lt_of_lt_of_le h.m hU, fun a n c e hn => Nat.lt_of_lt_of_le (h.i a n c e hn) hU, fun a e hn => Nat.lt_of_lt_of_le (h.e a e hn) hU⟩
theorem OX.low {w : World} {B B' : Nat} {v : Value} {l : List W3} (h : OX w B B v l) (hB : B' ≤ B) : OX w B' B' v l := by
  obtain ⟨xs, h1, h2⟩ := h.row
  refine ⟨⟨xs, row_mono h1 hB, fun j hj => ?_⟩⟩
  obtain ⟨a, c, e0, e1, e2, e3⟩ := h2 j hj
  exact ⟨a, c, e0, e1, e2, own_mono e3 hB⟩
theorem own_cell {w : World} {B b o n c : Nat} {L : List Int} (h : ownInts w B (.slice (some ⟨b, o, none⟩) n c) L) {k : Nat} (hk : k < L.length) : w.cell? ⟨b, o + k, none⟩ = some (.int .i64 (gi L k)) := by
  obtain ⟨-, hics, -⟩ := own_cells h
  obtain ⟨b', o', e, h1⟩ := hics k hk
  injection e with e
  injection e with e1 e2
  subst e1 e2
  exact h1
/-- A walk whose steps are others now. -/
theorem XB.store {w w' : World} {Bs px : Nat} {f : Int} {aw a' : Option Addr} {cs c' n : Nat} {st : Bool} {L L' : List Int} (h : XB w Bs px f aw cs st L) (hg : w.grownBy w' (Value.slice aw L.length cs).ownBlock) (ho : ownInts w' Bs (.slice a' L'.length c') L') (hn : n = L'.length) :
    XB (w'.setCell ⟨px, 1, none⟩ (.slice a' n c')) Bs px f a' c' st L' := by
  subst hn
  have h1 : w'.heap[px]? = some (.cells #[.int .i64 f, .slice aw L.length cs, .bool st] 39 (0, 0)) := (hg.block px h.lt (fun e => row_not h.ow h.hp (by decide) e.symm)).trans h.hp
  refine ⟨?_, row_set (a := ⟨px, 1, none⟩) ho (.inr (row_not ho h1 (by decide))) _⟩
  simp only [World.setCell, Array.getElem?_modify, if_true, h1]
  rfl
theorem one_at {W X : World} {i : Int} {t : TypeId} (hX : Below (W.alloc (.cells #[.int .i64 i] t)).heap.size (W.alloc (.cells #[.int .i64 i] t)) X) : IntsAt X (.slice (some ⟨W.heap.size, 0, none⟩) 1 1) [i] := by
  refine ⟨_, _, rfl, by unfold maxLen; simp, fun j hj => ?_⟩
  have : j = 0 := by simpa using hj
  subst this
  exact ⟨_, _, rfl, qc_now hX⟩

theorem bOk_one {g : G} (h : bOk g) {s : Int} (h0 : 0 ≤ s) (h1 : s < g.n) : bOk ⟨g.n, [s], g.edges⟩ := by
  refine ⟨h.1, h.2.1, by show ((1 : Nat) : Int) ≤ g.n; omega, h.2.2.2.1, ?_, fun k hk => h.2.2.2.2.2 k hk⟩
  intro k hk
  have : k = 0 := by simpa using hk
  subst this
  exact ⟨h0, h1, fun h => by omega⟩
/-- The search from where a walk ends, in a region that draws its order. -/
theorem least_again {w6 W X : World} {g : G} {vg : Value} {s : Int} {pl pm n q : Nat} {S : Int → Bool} {t : TypeId} {Q : Ending → World → Prop} (hg : GraphAt w6 vg g) (hs : bOk ⟨g.n, [s], g.edges⟩) (hlc : w6.cell? ⟨pl, 0, none⟩ = some (.map (some pm))) (hmp : LeftIn w6 pm n S g.edges.length)
    (hm : g.edges.length ≤ 4000) (h6 : Below w6.heap.size w6 X) (hX : Below (W.alloc (.cells #[.int .i64 s] t)).heap.size (W.alloc (.cells #[.int .i64 s] t)) X) (hq : q = W.heap.size)
    (k : ∀ (f2 : Int) (L2 : List Int) (bb : Bool) (a2 : Option Addr) (c2 : Nat) (wC : World), ownInts wC w6.heap.size (.slice a2 L2.length c2) L2 → Hid (LeastSaid ⟨g.n, [s], g.edges⟩ (fun i _ => S i) ⟨f2, L2, false⟩ bb) → Below X.heap.size X wC → Below w6.heap.size w6 wC → Q (.returned (.tuple #[.agg #[.int .i64 f2, .slice a2 L2.length c2, .bool false], .bool bb])) wC) :
    Calls Try.prog 52 #[vg, .slice (some ⟨q, 0, none⟩) 1 1, .func (.func 54) #[] #[.pointer (some ⟨pl, 0, none⟩)]] X Q := by
  subst hq
  refine (least_any g [s] 54 (.pointer (some ⟨pl, 0, none⟩)) (fun i _ => S i) _ _ _ (hg.later h6) (one_at hX) hs ?hk ?hp).mono ?_
  case hk => intro args W; rfl
  case hp => intro i s W hW; exact wantedT_any i s pl pm _ _ _ W (Below.keeps hW (Below.keeps h6 hlc (Nat.le_refl _)) (Nat.le_refl _)) ((hmp.later h6).later hW) hm
  rintro e wC ⟨f, L, b, a, c, rfl, oL, HLS, -, hb3⟩
  have hsz := h6.size
  exact k f L b a c wC (own_mono oL (by omega)) HLS hb3 (h6.trans (hb3.mono hsz))
/-- The walk that was found, in a block of its own. -/
structure MW (w6 wx : World) (g : G) (s : Int) (S : Int → Bool) (m2 : Nat) (f2 : Int) (L2 : List Int) (a2 : Option Addr) (c2 : Nat) (bb : Bool) : Prop where
  said : LeastSaid ⟨g.n, [s], g.edges⟩ (fun i _ => S i) ⟨f2, L2, false⟩ bb
  ge : w6.heap.size ≤ m2
  c0 : wx.cell? ⟨m2, 0, none⟩ = some (.int .i64 f2)
  c1 : wx.cell? ⟨m2, 1, none⟩ = some (.slice a2 L2.length c2)
  ow : ownInts wx w6.heap.size (.slice a2 L2.length c2) L2
  bw : Below w6.heap.size w6 wx
theorem mw_late {wx w6 : World} {c2 : Nat} {L2 : List Int} {f2 s : Int} {a2 : Option Addr} {g : G} {S : Int → Bool} {bb : Bool} (t : TypeId) (o : ownInts wx w6.heap.size (.slice a2 L2.length c2) L2) (hb : Below w6.heap.size w6 wx) (hS : Hid (LeastSaid ⟨g.n, [s], g.edges⟩ (fun i _ => S i) ⟨f2, L2, false⟩ bb)) :
    MW w6 (wx.alloc (.cells #[.int .i64 f2, .slice a2 L2.length c2, .bool false] t)) g s S wx.heap.size f2 L2 a2 c2 bb := by
  obtain ⟨h1, h2, h3, h4, h5, h6⟩ := y_late (f := f2) t o rfl hb
  exact ⟨hS.out, h1, h2, h3, h5, h6⟩
theorem mw_early {wx w6 : World} {c2 m : Nat} {L2 : List Int} {f2 s : Int} {a2 : Option Addr} {g : G} {S : Int → Bool} {bb : Bool} (y : YC wx w6.heap.size m) (o : ownInts wx w6.heap.size (.slice a2 L2.length c2) L2) (hb : Below w6.heap.size w6 wx) (hS : Hid (LeastSaid ⟨g.n, [s], g.edges⟩ (fun i _ => S i) ⟨f2, L2, false⟩ bb)) :
    MW w6 (((wx.setCell ⟨m, 0, none⟩ (.int .i64 f2)).setCell ⟨m, 1, none⟩ (.slice a2 L2.length c2)).setCell ⟨m, 2, none⟩ (.bool false)) g s S m f2 L2 a2 c2 bb := by
  obtain ⟨h1, h2, h3, h4, h5, h6⟩ := y_early (f := f2) y o rfl hb
  exact ⟨hS.out, h1, h2, h3, h5, h6⟩

theorem XB.c2 {wr : World} {Bs px : Nat} {f : Int} {aw : Option Addr} {cs : Nat} {st : Bool} {L : List Int} (h : XB wr Bs px f aw cs st L) : wr.cell? ⟨px, 2, none⟩ = some (.bool st) := by simp [World.cell?, h.hp]
theorem XB.fz {wr : World} {Bs px : Nat} {f : Int} {aw : Option Addr} {cs : Nat} {st : Bool} {L : List Int} (h : XB wr Bs px f aw cs st L) (i : Nat) : wr.frozen? ⟨px, i, none⟩ = false := by simp [World.frozen?, h.hp]

theorem OX.cap {w : World} {Br Bs : Nat} {a : Option Addr} {n c : Nat} {l : List W3} (h : OX w Br Bs (.slice a n c) l) : l.length ≤ c := by
  obtain ⟨xs, h1, -⟩ := h.row
  obtain ⟨h0, ⟨h1, h2⟩ | ⟨g, cap, cur, h1, h2, h3, h4, h5, h6, h7⟩⟩ := h1
  · omega
  · injection h1 with e1 e2 e3
    omega
/-- A coverage's block as it comes to be. -/
structure YD (w : World) (B m : Nat) : Prop where
  ge : B ≤ m
  hp : w.heap[m]? = some (.cells #[.slice none 0 0, .slice none 0 0] 57 (0, 0))
theorem YD.c0 {w : World} {B m : Nat} (h : YD w B m) : w.cell? ⟨m, 0, none⟩ = some (.slice none 0 0) := by simp [World.cell?, h.hp]
theorem YD.c1 {w : World} {B m : Nat} (h : YD w B m) : w.cell? ⟨m, 1, none⟩ = some (.slice none 0 0) := by simp [World.cell?, h.hp]
theorem YD.fz {w : World} {B m : Nat} (h : YD w B m) (i : Nat) : w.frozen? ⟨m, i, none⟩ = false := by simp [World.frozen?, h.hp]
theorem YD.lt {w : World} {B m : Nat} (h : YD w B m) : m < w.heap.size := (Array.getElem?_eq_some_iff.1 h.hp).1
theorem yd_allocK {W X w' : World} {B : Nat} {G : Prop} (h : Below X.heap.size X w') (hX : Below (W.alloc (.cells #[.slice none 0 0, .slice none 0 0] 57)).heap.size (W.alloc (.cells #[.slice none 0 0, .slice none 0 0] 57)) X) (hW : B ≤ W.heap.size) (k : YD w' B W.heap.size → G) : G := by
  refine k ⟨hW, ?_⟩
  have h1 : (W.alloc (.cells #[.slice none 0 0, .slice none 0 0] 57)).heap[W.heap.size]? = some (.cells #[.slice none 0 0, .slice none 0 0] 57 (0, 0)) := by show (W.heap.push _)[W.heap.size]? = _; simp
  have h2 := (hX.block W.heap.size (by simp)).trans h1
  exact (h.block _ (Array.getElem?_eq_some_iff.1 h2).1).trans h2
/-- A coverage in a block of its own: its second list. -/
structure MC (w6 wx : World) (m : Nat) (E : List Int) (aE : Option Addr) (cE : Nat) : Prop where
  c1 : wx.cell? ⟨m, 1, none⟩ = some (.slice aE E.length cE)
  ic : IntsCells wx aE E
  bw : Below w6.heap.size w6 wx
theorem mc_late {wx w6 : World} {cE : Nat} {E : List Int} {aE : Option Addr} {vS : Value} (t : TypeId) (hi : IntsCells wx aE E) (hb : Below w6.heap.size w6 wx) : MC w6 (wx.alloc (.cells #[vS, .slice aE E.length cE] t)) wx.heap.size E aE cE :=
  ⟨World.cell?_alloc_at _ _ _ _ rfl, hi.later ((Below.refl _ _).alloc (Nat.le_refl _) _), hb.alloc hb.size _⟩
theorem mc_early {wx w6 : World} {cE m : Nat} {E : List Int} {aE : Option Addr} {vS : Value} (y : YD wx w6.heap.size m) (hi : IntsCells wx aE E) (hb : Below w6.heap.size w6 wx) : MC w6 ((wx.setCell ⟨m, 0, none⟩ vS).setCell ⟨m, 1, none⟩ (.slice aE E.length cE)) m E aE cE := by
  have n01 : (⟨m, 0, none⟩ : Addr) ≠ ⟨m, 1, none⟩ := by intro h; injection h with h1 h2; omega
  refine ⟨World.cell?_setCell_same _ _ _ ((World.cell?_setCell_other _ _ _ _ n01).trans y.c1), ?_, (hb.setCell y.ge _).setCell y.ge _⟩
  intro j hj
  obtain ⟨b, o, e, h1⟩ := hi j hj
  refine ⟨b, o, e, ?_⟩
  have ne : ∀ i, i < 2 → (⟨m, i, none⟩ : Addr) ≠ ⟨b, o + j, none⟩ := by
    intro i hi2 h
    rw [← h] at h1
    match i, hi2 with
    | 0, _ => rw [y.c0] at h1; cases h1
    | 1, _ => rw [y.c1] at h1; cases h1
  rw [World.cell?_setCell_other _ _ _ _ (ne 1 (by omega)), World.cell?_setCell_other _ _ _ _ (ne 0 (by omega))]
  exact h1

/-- What TourOf answers: walks and an error. -/
def TourSaid (g : G) (most : Int) (l : List W3) (e : Int) : Prop :=
  (isG g = false ∧ e = 5 ∧ l = []) ∨
  (isG g = true ∧ ¬ (1 ≤ most ∧ most ≤ 300) ∧ e = 3 ∧ l = []) ∨
  (isG g = true ∧ (1 ≤ most ∧ most ≤ 300) ∧ (∃ i, i < g.edges.length ∧ most ≤ gi (dl g) (ge g.edges i).f.toNat) ∧ e = 25 ∧ l = []) ∨
  (isG g = true ∧ (1 ≤ most ∧ most ≤ 300) ∧ (∀ i, i < g.edges.length → gi (dl g) (ge g.edges i).f.toNat < most) ∧ e = 0 ∧ TourOk g most.toNat l)
def TourPost (w : World) (g : G) (most : Int) (e : Ending) (w' : World) : Prop :=
  ∃ (v : Value) (l : List W3) (r : Int), e = .returned (.tuple #[v, .int .i64 r]) ∧ OX w' w.heap.size w.heap.size v l ∧ TourSaid g most l r ∧ Below w.heap.size w w'
end Go.Proofs.Ytnijajjmcdgonaa
