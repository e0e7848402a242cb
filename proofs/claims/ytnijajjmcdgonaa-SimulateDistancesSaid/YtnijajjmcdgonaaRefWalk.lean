import Derived.Test.YtnijajjmcdgonaaWalkPos
import Derived.Deep.RegionHeld3
import Derived.Test.YtnijajjmcdgonaaWalkU
namespace Go.Proofs.Ytnijajjmcdgonaa
open Go.RowKit
set_option linter.unusedVariables false

/-- What Walk keeps in memory of its arguments, with the numbers. -/
structure NI (w wr : World) (g : G) (l : List Int) (X : Int) (ns : List Int) (ai : Option Addr) (ci : Nat) (ae : Option Addr) (ce : Nat) (al : Option Addr) (cl : Nat) (an : Option Addr) (cn : Nat) : Prop where
  gi : GI w wr g ai ci ae ce
  s1 : wr.cell? ⟨w.heap.size + 1, 1, none⟩ = some (.int .i64 X)
  r0 : wr.cell? ⟨w.heap.size + 1 + 1, 0, none⟩ = some (.int .i64 0)
  r1 : wr.cell? ⟨w.heap.size + 1 + 1, 1, none⟩ = some (.slice none 0 0)
  r2 : wr.cell? ⟨w.heap.size + 1 + 1, 2, none⟩ = some (.bool false)
  rf : ∀ i, wr.frozen? ⟨w.heap.size + 1 + 1, i, none⟩ = false
  hl : IntsAt wr (.slice al l.length cl) l
  hn : IntsAt wr (.slice an ns.length cn) ns
  mi : g.init.length ≤ maxLen
  me : g.edges.length ≤ maxLen
theorem NI.lt {w wr : World} {g : G} {l : List Int} {X : Int} {ns : List Int} {ai : Option Addr} {ci : Nat} {ae : Option Addr} {ce : Nat} {al : Option Addr} {cl : Nat} {an : Option Addr} {cn : Nat} (h : NI w wr g l X ns ai ci ae ce al cl an cn) : w.heap.size + 1 + 1 < wr.heap.size := cell_lt h.r0
theorem NI.later {w wr wr' : World} {g : G} {l : List Int} {X : Int} {ns : List Int} {ai : Option Addr} {ci : Nat} {ae : Option Addr} {ce : Nat} {al : Option Addr} {cl : Nat} {an : Option Addr} {cn : Nat} (h : NI w wr g l X ns ai ci ae ce al cl an cn) (hb : Below wr.heap.size wr wr') : NI w wr' g l X ns ai ci ae ce al cl an cn :=
  ⟨h.gi.later hb, Below.keeps hb h.s1 (Nat.le_refl _), Below.keeps hb h.r0 (Nat.le_refl _), Below.keeps hb h.r1 (Nat.le_refl _), Below.keeps hb h.r2 (Nat.le_refl _), fun i => Below.keepsF hb (h.rf i) h.lt, h.hl.later hb, h.hn.later hb, h.mi, h.me⟩
theorem NI.graph {w wr : World} {g : G} {l : List Int} {X : Int} {ns : List Int} {ai : Option Addr} {ci : Nat} {ae : Option Addr} {ce : Nat} {al : Option Addr} {cl : Nat} {an : Option Addr} {cn : Nat} (h : NI w wr g l X ns ai ci ae ce al cl an cn) :
    GraphAt wr (.agg #[.int .i64 g.n, .slice ai g.init.length ci, .slice ae g.edges.length ce]) g :=
  ⟨_, _, rfl, ⟨_, _, rfl, h.mi, h.gi.hi⟩, ⟨_, _, rfl, h.me, h.gi.he⟩⟩

/-- The walk that is being made: its block m, made behind world W1. -/
structure MW (W1 wr : World) (m : Nat) (first : Int) (a : Option Addr) (c : Nat) (L : List Int) : Prop where
  ge : W1.heap.size ≤ m
  m0 : wr.cell? ⟨m, 0, none⟩ = some (.int .i64 first)
  m1 : wr.cell? ⟨m, 1, none⟩ = some (.slice a L.length c)
  m2 : wr.cell? ⟨m, 2, none⟩ = some (.bool false)
  mf : ∀ i, wr.frozen? ⟨m, i, none⟩ = false
  own : ownInts wr (m + 1) (.slice a L.length c) L
  bw : Below W1.heap.size W1 wr
theorem MW.lt {W1 wr : World} {m : Nat} {first : Int} {a : Option Addr} {c : Nat} {L : List Int} (h : MW W1 wr m first a c L) : m < wr.heap.size := cell_lt h.m0
theorem MW.later {W1 wr wr' : World} {m : Nat} {first : Int} {a : Option Addr} {c : Nat} {L : List Int} (h : MW W1 wr m first a c L) (hb : Below wr.heap.size wr wr') : MW W1 wr' m first a c L :=
  ⟨h.ge, Below.keeps hb h.m0 (Nat.le_refl _), Below.keeps hb h.m1 (Nat.le_refl _), Below.keeps hb h.m2 (Nat.le_refl _), fun i => Below.keepsF hb (h.mf i) h.lt, ownsRow_later h.own hb, h.bw.trans (hb.mono h.bw.size)⟩

theorem mw_made {W1 : World} {first : Int} (W : World) (hb : Below W1.heap.size W1 W) (t : TypeId) :
    MW W1 (W.alloc (Obj.cells #[.int .i64 first, .slice none 0 0, .bool false] t)) W.heap.size first none 0 [] :=
  ⟨hb.size, World.cell?_alloc_at _ _ _ _ rfl, World.cell?_alloc_at _ _ _ _ rfl, World.cell?_alloc_at _ _ _ _ rfl, fun i => World.frozen?_alloc_at _ _ _ _ rfl, World.ownsRow_nil _ _ _ _, hb.alloc hb.size _⟩

/-- The walk that is being made, with one step more. -/
theorem mw_append {W1 wx W wE : World} {m : Nat} {first i : Int} {a a' : Option Addr} {c c' : Nat} {L : List Int} (hM : MW W1 wx m first a c L) (hW : Below wx.heap.size wx W) 
    (gE : W.grownBy wE (Value.slice a L.length c).ownBlock) (oE : wE.ownsRow (m + 1) 3 1 (.slice a' (L.length + 1) c') (L.length + 1) (L.map (Value.int .i64) ++ [.int .i64 i])) :
    MW W1 (wE.setCell ⟨m, 1, none⟩ (.slice a' (L.length + 1) c')) m first a' c' (L ++ [i]) ∧ wE.cell? ⟨m, 1, none⟩ = some (.slice a L.length c) ∧ (∀ i, wE.frozen? ⟨m, i, none⟩ = false) := by
  have hM2 := hM.later hW
  have hne : some m ≠ (Value.slice a L.length c).ownBlock := fun h => by have := (hM2.own.lt m h.symm).1; omega
  have c0 := gE.cell hM2.m0 hne
  have c1 := gE.cell hM2.m1 hne
  have c2 := gE.cell hM2.m2 hne
  have hf : ∀ i, wE.frozen? ⟨m, i, none⟩ = false := fun i => (World.frozen?_of_block (w := W) (a := ⟨m, i, none⟩) (gE.block m hM2.lt hne)).trans (hM2.mf i)
  have hlen : (L ++ [i]).length = L.length + 1 := by simp
  refine ⟨⟨hM.ge, (World.cell?_setCell_other _ _ _ _ (by intro h; injection h with h1 h2; omega)).trans c0, ?_, (World.cell?_setCell_other _ _ _ _ (by intro h; injection h with h1 h2; omega)).trans c2, fun j => by rw [World.frozen?_setCell]; exact hf j, ?_, ?_⟩, c1, hf⟩
  · rw [hlen]; exact World.cell?_setCell_same _ _ _ c1
  · refine ownsRow_setCell_below ?_ (by show m < m + 1; omega) _
    show wE.ownsRow (m + 1) _ 1 (.slice a' (L ++ [i]).length c') (L ++ [i]).length ((L ++ [i]).map (Value.int .i64))
    rw [hlen]; simpa using oE
  · exact (hM2.bw.grown gE hM2.bw.size (fun j hj => by have := (hM2.own.lt j hj).1; have := hM.ge; omega)).setCell (by show W1.heap.size ≤ m; exact hM.ge) _

theorem kept2 {W wE : World} {B n : Nat} {t : TypeId} {v : Value} {xs : List Value} {row : Option Nat} (h : W.ownsRow B t 1 v n xs) (gE : W.grownBy wE row) (hr : ∀ j, row = some j → j < B) : wE.ownsRow B t 1 v n xs := by
  refine World.ownsRow.kept h gE ?_
  cases hv : v.ownBlock with
  | none => exact .inl rfl
  | some j => refine .inr fun e => ?_; have h1 := (h.lt j hv).1; have h2 := hr j e.symm; omega

set_option maxHeartbeats 8000000 in
set_option maxRecDepth 100000 in
theorem refWalk_any (g : G) (l : List Int) (seed X : Int) (vg vl : Value) (w : World) (hg : GraphAt w vg g) (hl : IntsAt w vl l) (hF : Fine g l) (hs : 1 ≤ seed ∧ seed < 2147483647) (hX : 0 ≤ X ∧ X ≤ 300) (hI : g.init.length ≠ 0) :
    Calls Try.prog 23 #[vg, vl, .agg #[.int .i64 seed, .int .i64 X]] w fun e w' =>
      ∃ v, e = .returned v ∧ WalkAt w' v ⟨walkFirst g seed, (walkK g l seed (walkFirst g seed) X.toNat).2, decide (sumTo g l (walkK g l seed (walkFirst g seed) X.toNat).1 g.edges.length = 0)⟩ ∧ Below w.heap.size w w' := by
  obtain ⟨vi, ve, rfl, ⟨ai, ci, rfl, hmi, hci⟩, ⟨ae, ce, rfl, hme, hce⟩⟩ := hg
  obtain ⟨al, cl, rfl, hml, hcl⟩ := hl
  obtain ⟨i0, hi, hz0, hz1, hz2⟩ := info_parts infoInt
  obtain ⟨hX1, hX2⟩ := hX
  obtain ⟨X, rfl⟩ := Int.eq_ofNat_of_zero_le hX1
  rw [Int.toNat_natCast]
  have hg0 := (GI.made w g ai ci ae ce 34 hci hce).later (((Below.refl _ _).alloc (Nat.le_refl _) (Obj.cells #[Value.int IntKind.i64 seed, Value.int IntKind.i64 (X : Int)] 36)).alloc (by simp) (Obj.cells #[Value.int IntKind.i64 0, Value.slice none 0 0, Value.bool false] 39))
  have HL : Hid (IntsAt w (.slice al l.length cl) l) := ⟨al, cl, rfl, hml, hcl⟩
  have HS := Lib.hid hs; have HF := Lib.hid hF; have HI := Lib.hid hI
  have hwX : IntKind.i64.wrap ((X : Int) + 1) = (X : Int) + 1 := IntWalk.i64_in _ (by omega)
  have hmi' := hmi; have hme' := hme
  unfold maxLen at hmi hme hml
  clear hci hce hcl hs hF hI
  go_enter Try.func23, Try.ntmps23
  go_wp2_with fail
  have s1 : (((w.alloc (Obj.cells #[Value.int IntKind.i64 g.n, Value.slice ai g.init.length ci, Value.slice ae g.edges.length ce] 34)).alloc (Obj.cells #[Value.int IntKind.i64 seed, Value.int IntKind.i64 (X : Int)] 36)).alloc (Obj.cells #[Value.int IntKind.i64 0, Value.slice none 0 0, Value.bool false] 39)).cell? ⟨w.heap.size + 1, 1, none⟩ = some (.int .i64 (X : Int)) := by rw [World.cell?_alloc_past _ _ _ (by simp), World.cell?_alloc_at _ _ _ _ (by simp)]; rfl
  have r0 : (((w.alloc (Obj.cells #[Value.int IntKind.i64 g.n, Value.slice ai g.init.length ci, Value.slice ae g.edges.length ce] 34)).alloc (Obj.cells #[Value.int IntKind.i64 seed, Value.int IntKind.i64 (X : Int)] 36)).alloc (Obj.cells #[Value.int IntKind.i64 0, Value.slice none 0 0, Value.bool false] 39)).cell? ⟨w.heap.size + 1 + 1, 0, none⟩ = some (.int .i64 0) := by rw [World.cell?_alloc_at _ _ _ _ (by simp)]; rfl
  have r1 : (((w.alloc (Obj.cells #[Value.int IntKind.i64 g.n, Value.slice ai g.init.length ci, Value.slice ae g.edges.length ce] 34)).alloc (Obj.cells #[Value.int IntKind.i64 seed, Value.int IntKind.i64 (X : Int)] 36)).alloc (Obj.cells #[Value.int IntKind.i64 0, Value.slice none 0 0, Value.bool false] 39)).cell? ⟨w.heap.size + 1 + 1, 1, none⟩ = some (.slice none 0 0) := by rw [World.cell?_alloc_at _ _ _ _ (by simp)]; rfl
  have r2 : (((w.alloc (Obj.cells #[Value.int IntKind.i64 g.n, Value.slice ai g.init.length ci, Value.slice ae g.edges.length ce] 34)).alloc (Obj.cells #[Value.int IntKind.i64 seed, Value.int IntKind.i64 (X : Int)] 36)).alloc (Obj.cells #[Value.int IntKind.i64 0, Value.slice none 0 0, Value.bool false] 39)).cell? ⟨w.heap.size + 1 + 1, 2, none⟩ = some (.bool false) := by rw [World.cell?_alloc_at _ _ _ _ (by simp)]; rfl
  have rf : ∀ i, (((w.alloc (Obj.cells #[Value.int IntKind.i64 g.n, Value.slice ai g.init.length ci, Value.slice ae g.edges.length ce] 34)).alloc (Obj.cells #[Value.int IntKind.i64 seed, Value.int IntKind.i64 (X : Int)] 36)).alloc (Obj.cells #[Value.int IntKind.i64 0, Value.slice none 0 0, Value.bool false] 39)).frozen? ⟨w.heap.size + 1 + 1, i, none⟩ = false := fun i => World.frozen?_alloc_at _ _ _ _ (by simp)
  generalize (((w.alloc (Obj.cells #[Value.int IntKind.i64 g.n, Value.slice ai g.init.length ci, Value.slice ae g.edges.length ce] 34)).alloc (Obj.cells #[Value.int IntKind.i64 seed, Value.int IntKind.i64 (X : Int)] 36)).alloc (Obj.cells #[Value.int IntKind.i64 0, Value.slice none 0 0, Value.bool false] 39)) = w0 at *
  refine (numbers_ok seed _ _ HS.out ⟨by omega, by omega⟩).mono ?_
  rintro e w1 ⟨vn, rfl, hown, hb1⟩
  have hnt : ((X : Int) + 1).toNat = X + 1 := by omega
  rw [hnt] at hown
  obtain ⟨an, cn, rfl⟩ := own_form hown
  have hN : NI w w1 g l X (nums seed (X + 1)) ai ci ae ce al cl an cn :=
    ⟨hg0.later hb1, Below.keeps hb1 s1 (Nat.le_refl _), Below.keeps hb1 r0 (Nat.le_refl _), Below.keeps hb1 r1 (Nat.le_refl _), Below.keeps hb1 r2 (Nat.le_refl _), fun i => Below.keepsF hb1 (rf i) (show w.heap.size + 1 + 1 < w0.heap.size from cell_lt r0), HL.out.later (hg0.later hb1).bw, IntsAt.of_own hown, hmi', hme'⟩
  have hnl := nums_len seed (X + 1)
  have HNS : Hid (∀ j, j < X + 1 → gi (nums seed (X + 1)) j = it (j + 1) seed) := fun j hj => gi_nums seed (X + 1) j hj
  generalize nums seed (X + 1) = ns at *
  have HNL := Lib.hid hnl
  have HN := Lib.hid hN
  clear hg0 s1 r0 r1 r2 rf hb1 hown HL hnt hnl hN hmi' hme'
  go_wp2_with fail
  go_cut [8] (fun s8 wx => ∃ m : Nat, s8 = .pointer (some ⟨m, 0, none⟩) ∧ MW w1 wx m (walkFirst g seed) none 0 [])
  case first =>
    have hitb := it_bd seed (by have := HS.out; omega) HS.out.2 1
    have hI0 := HI.out
    have hpos : (0 : Int) < (g.init.length : Int) := by omega
    have hm0 : 0 ≤ it 1 seed % (g.init.length : Int) := Int.emod_nonneg _ (by omega)
    have hm1 : it 1 seed % (g.init.length : Int) < (g.init.length : Int) := Int.emod_lt_of_pos _ hpos
    have HW : Hid (gi g.init (it 1 seed % (g.init.length : Int)).toNat = walkFirst g seed) := rfl
    obtain ⟨b, o, eb, cb⟩ := HN.out.gi.hi (it 1 seed % (g.init.length : Int)).toNat (by omega)
    obtain ⟨an', cn', ean, hmn, hcn⟩ := HN.out.hn
    injection ean with ean1 ean2 ean3
    subst ean1 ean3
    obtain ⟨b', o', eb', cb'⟩ := hcn 0 (by rw [HNL.out]; omega)
    subst eb eb'
    rw [HNS.out 0 (by omega), Nat.add_zero] at cb'
    have cb' : w1.cell? ⟨b', o', none⟩ = some (.int .i64 (it 1 seed)) := cb'
    have ht : (it 1 seed).tmod (g.init.length : Int) = it 1 seed % (g.init.length : Int) := Int.tmod_eq_emod_of_nonneg hitb.1
    have hwm : IntKind.i64.wrap (it 1 seed % (g.init.length : Int)) = it 1 seed % (g.init.length : Int) := IntWalk.i64_in _ (by omega)
    have hne : ((g.init.length : Int) == 0) = false := by simp; intro h; rw [h] at hI0; simp at hI0
    rw [HW.out] at cb
    have g1 := HN.out.gi.g1
    have hnpos : (0 : Int) < (ns.length : Int) := by rw [HNL.out]; omega
    have hnpos' : 0 < ns.length := by omega
    obtain ⟨hit1, hit2⟩ := hitb
    have hI1 : ¬ g.init = [] := fun h => hI0 (by rw [h]; rfl)
    have hI2 : g.init.isEmpty = false := by simpa using hI1
    have hI3 : ¬ (g.init.length : Int) = 0 := by omega
    clear hcn hmn ean2
    go_region_held3 (fun w' => w'.cell? ⟨w.heap.size, 1, none⟩ = some (.slice (some ⟨b, o, none⟩) g.init.length ci) ∧ w'.cell? ⟨b, o + (it 1 seed % (g.init.length : Int)).toNat, none⟩ = some (.int .i64 (walkFirst g seed)) ∧ w'.cell? ⟨b', o', none⟩ = some (.int .i64 (it 1 seed)) ∧ Below w1.heap.size w1 w')
      ((refine (fun hB : Below w1.heap.size w1 _ => ⟨Below.keeps hB g1 (Nat.le_refl _), Below.keeps hB cb (Nat.le_refl _), Below.keeps hB cb' (Nat.le_refl _), hB⟩) ?_; (repeat (first | with_reducible exact Below.refl _ _ | with_reducible assumption | with_reducible refine Below.drew ?_ | (with_reducible refine Below.alloc ?_ ?_ _) | (with_reducible refine Below.setCell ?_ ?_ _))); all_goals (first | exact Nat.le_refl _ | (simp; done))))
      (fail)
    all_goals (go_wp2_with fail; go_meet)
    all_goals exact ⟨_, rfl, (mw_made w1 (Below.refl _ _) _).later ((Below.refl _ _).drew)⟩
  case rest =>
    obtain ⟨m, rfl, hM0⟩ := hcut
    have m0 := hM0.m0
    go_wp2_with fail
    clear m0
    go_loopw [9] (fun s wr => ∃ (k : Nat) (a : Option Addr) (c : Nat), k ≤ X ∧ s = .int .i64 (walkK g l seed (walkFirst g seed) k).1 ∧ Hid ((walkK g l seed (walkFirst g seed) k).2.length = k) ∧ NI w wr g l X ns ai ci ae ce al cl an cn ∧ MW w1 wr m (walkFirst g seed) a c (walkK g l seed (walkFirst g seed) k).2)
      (fun _ wr => X - lenOf (wr.cell? ⟨m, 1, none⟩))
    case atStart => exact ⟨0, none, 0, Nat.zero_le _, rfl, rfl, HN.out.later hM0.bw, hM0⟩
    case round =>
      clear hM0
      obtain ⟨k, a, c, hk, rfl, hlk, hN, hM⟩ := hrel
      have m1 : wr.cell? ⟨m, 1, none⟩ = some (.slice a k c) := by have := hM.m1; rwa [hlk.out] at this
      have s1 := hN.s1
      have HL0 := Lib.hid hM.m1
      have HML : Hid (m < wr.heap.size) := hM.lt
      have HLT : Hid (∀ j, (Value.slice a (walkK g l seed (walkFirst g seed) k).2.length c).ownBlock = some j → j < wr.heap.size + 1) := fun j hj => by have := (hM.own.lt j hj).2; omega
      by_cases hlt : k < X
      · have g0 := hN.gi.g0
        have g1 := hN.gi.g1
        have g2 := hN.gi.g2
        go_wp2_with fail
        refine (possible_any g l _ _ _ _ hN.graph hN.hl HF.out).mono ?_
        rintro e w2 ⟨vp, rfl, op, hb2⟩
        obtain ⟨ap, cp, rfl⟩ := own_form op
        replace hN := hN.later hb2
        replace hM := hM.later hb2
        replace m1 := Below.keeps hb2 m1 (Nat.le_refl _)
        have hsn := sel_nil (g := g) (l := l) (walkK g l seed (walkFirst g seed) k).1 HF.out g.edges.length (Nat.le_refl _)
        have hip := IntsAt.of_own op
        have HOP := Lib.hid op
        clear g0 g1 g2 s1 op hb2
        by_cases hz : sumTo g l (walkK g l seed (walkFirst g seed) k).1 g.edges.length = 0
        · have hq : (((selTo g l (walkK g l seed (walkFirst g seed) k).1 g.edges.length).length : Int) == 0) = true := by have := hsn.2 hz; simp; exact List.length_eq_zero_iff.1 this
          have HKX : Hid (walkK g l seed (walkFirst g seed) X = walkK g l seed (walkFirst g seed) k) := by
            have := walkK_stuck_add hz (X - k)
            rw [show k + (X - k) = X from by omega] at this
            exact this
          rw [← HKX.out] at hq
          clear hz hsn hip m1
          as_aux_lemma =>
            have hM : MW w1 w2 m (walkFirst g seed) a c (walkK g l seed (walkFirst g seed) X).2 := by rw [HKX.out]; exact hM
            rw [← HKX.out]
            have g0 := hN.gi.g0
            have g1 := hN.gi.g1
            have g2 := hN.gi.g2
            go_wp2_with fail
            clear hq
            refine (possible_any g l _ _ _ _ hN.graph hN.hl HF.out).mono ?_
            rintro e wP ⟨vq, rfl, oq, hbq⟩
            obtain ⟨aq, cq, rfl⟩ := own_form oq
            have hsn := sel_nil (g := g) (l := l) (walkK g l seed (walkFirst g seed) X).1 HF.out g.edges.length (Nat.le_refl _)
            replace hN := hN.later hbq
            replace hM := hM.later hbq
            clear g0 g1 g2 oq hbq
            have m0 := hM.m0
            have m1 := hM.m1
            have m2 := hM.m2
            have mf := hM.mf 2
            have r0 := hN.r0
            have r1 := hN.r1
            have r2 := hN.r2
            have rf0 := hN.rf 0
            have rf1 := hN.rf 1
            have rf2 := hN.rf 2
            have hmge : w.heap.size + 1 + 1 < m := Nat.lt_of_lt_of_le HN.out.lt hM.ge
            by_cases hzz : sumTo g l (walkK g l seed (walkFirst g seed) X).1 g.edges.length = 0
            · have hq : (((selTo g l (walkK g l seed (walkFirst g seed) X).1 g.edges.length).length : Int) == 0) = true := by have := hsn.2 hzz; simp; exact List.length_eq_zero_iff.1 this
              have HZ := Lib.hid hzz
              have hne : ∀ j, (⟨m, 2, none⟩ : Addr) ≠ ⟨w.heap.size + 1 + 1, j, none⟩ := fun j h => by injection h with h1 h2; omega
              have q0 := (World.cell?_setCell_other (w := wP) ⟨m, 2, none⟩ _ (.bool true) (hne 0)).trans r0
              have q1 := (World.cell?_setCell_other (w := wP) ⟨m, 2, none⟩ _ (.bool true) (hne 1)).trans r1
              have q2 := (World.cell?_setCell_other (w := wP) ⟨m, 2, none⟩ _ (.bool true) (hne 2)).trans r2
              have hbe : Below w.heap.size w (wP.setCell ⟨m, 2, none⟩ (.bool true)) := hN.gi.bw.setCell (by show w.heap.size ≤ m; omega) _
              have hoe : ownInts (wP.setCell ⟨m, 2, none⟩ (.bool true)) (m + 1) (.slice a (walkK g l seed (walkFirst g seed) X).2.length c) (walkK g l seed (walkFirst g seed) X).2 := ownsRow_setCell_below hM.own (by show m < m + 1; omega) _
              clear hzz hsn hne
              go_wp2_with fail
              clear r0 r1 r2 rf0 rf1 rf2 m0 m1 m2 mf hN hM
              generalize (wP.setCell ⟨m, 2, none⟩ (.bool true)) = wQ at *
              refine bodyPost_ret (v := .agg #[.int .i64 (walkFirst g seed), .slice a (walkK g l seed (walkFirst g seed) X).2.length c, .bool true]) (by simp [results, Try.results23, go_sem, q0, q1, q2]) rfl ⟨_, rfl, ⟨_, by rw [decide_eq_true HZ.out], ?_⟩, ?_⟩
              · exact IntsAt.of_own (ownsRow_setCell_below (ownsRow_setCell_below (ownsRow_setCell_below hoe (by show w.heap.size + 1 + 1 < m + 1; omega) _) (by show w.heap.size + 1 + 1 < m + 1; omega) _) (by show w.heap.size + 1 + 1 < m + 1; omega) _)
              · exact ((hbe.setCell (by show w.heap.size ≤ w.heap.size + 1 + 1; omega) _).setCell (by show w.heap.size ≤ w.heap.size + 1 + 1; omega) _).setCell (by show w.heap.size ≤ w.heap.size + 1 + 1; omega) _
            · have hq : (((selTo g l (walkK g l seed (walkFirst g seed) X).1 g.edges.length).length : Int) == 0) = false := by simp; intro h; exact hzz (hsn.1 (by rw [h]; rfl))
              have HZ := Lib.hid hzz
              have hne : ∀ j, (⟨m, 2, none⟩ : Addr) ≠ ⟨w.heap.size + 1 + 1, j, none⟩ := fun j h => by injection h with h1 h2; omega
              have q0 := (World.cell?_setCell_other (w := wP) ⟨m, 2, none⟩ _ (.bool false) (hne 0)).trans r0
              have q1 := (World.cell?_setCell_other (w := wP) ⟨m, 2, none⟩ _ (.bool false) (hne 1)).trans r1
              have q2 := (World.cell?_setCell_other (w := wP) ⟨m, 2, none⟩ _ (.bool false) (hne 2)).trans r2
              have hbe : Below w.heap.size w (wP.setCell ⟨m, 2, none⟩ (.bool false)) := hN.gi.bw.setCell (by show w.heap.size ≤ m; omega) _
              have hoe : ownInts (wP.setCell ⟨m, 2, none⟩ (.bool false)) (m + 1) (.slice a (walkK g l seed (walkFirst g seed) X).2.length c) (walkK g l seed (walkFirst g seed) X).2 := ownsRow_setCell_below hM.own (by show m < m + 1; omega) _
              clear hzz hsn hne
              go_wp2_with fail
              clear r0 r1 r2 rf0 rf1 rf2 m0 m1 m2 mf hN hM
              generalize (wP.setCell ⟨m, 2, none⟩ (.bool false)) = wQ at *
              refine bodyPost_ret (v := .agg #[.int .i64 (walkFirst g seed), .slice a (walkK g l seed (walkFirst g seed) X).2.length c, .bool false]) (by simp [results, Try.results23, go_sem, q0, q1, q2]) rfl ⟨_, rfl, ⟨_, by rw [decide_eq_false HZ.out], ?_⟩, ?_⟩
              · exact IntsAt.of_own (ownsRow_setCell_below (ownsRow_setCell_below (ownsRow_setCell_below hoe (by show w.heap.size + 1 + 1 < m + 1; omega) _) (by show w.heap.size + 1 + 1 < m + 1; omega) _) (by show w.heap.size + 1 + 1 < m + 1; omega) _)
              · exact ((hbe.setCell (by show w.heap.size ≤ w.heap.size + 1 + 1; omega) _).setCell (by show w.heap.size ≤ w.heap.size + 1 + 1; omega) _).setCell (by show w.heap.size ≤ w.heap.size + 1 + 1; omega) _
        · have hq : (((selTo g l (walkK g l seed (walkFirst g seed) k).1 g.edges.length).length : Int) == 0) = false := by simp; intro h; exact hz (hsn.1 (by rw [h]; rfl))
          have hsl := selTo_len g l (walkK g l seed (walkFirst g seed) k).1 g.edges.length
          have hsb := sumTo_bd HF.out (walkK g l seed (walkFirst g seed) k).1 g.edges.length (Nat.le_refl _)
          have hitb := it_bd seed (by have := HS.out; omega) HS.out.2 (k + 2)
          have HSEL : Hid (∀ i, i ∈ selTo g l (walkK g l seed (walkFirst g seed) k).1 g.edges.length → ∃ n : Nat, n < g.edges.length ∧ i = n ∧ chosen g l (walkK g l seed (walkFirst g seed) k).1 n) := fun i hi => mem_sel hi
          have HWS : Hid (wsum g l (selTo g l (walkK g l seed (walkFirst g seed) k).1 g.edges.length) = sumTo g l (walkK g l seed (walkFirst g seed) k).1 g.edges.length) := wsum_sel ..
          have HK1 : Hid (walkK g l seed (walkFirst g seed) (k + 1) = ((ge g.edges (pickL g l (selTo g l (walkK g l seed (walkFirst g seed) k).1 g.edges.length) (it (k + 2) seed % sumTo g l (walkK g l seed (walkFirst g seed) k).1 g.edges.length)).toNat).t, (walkK g l seed (walkFirst g seed) k).2 ++ [pickL g l (selTo g l (walkK g l seed (walkFirst g seed) k).1 g.edges.length) (it (k + 2) seed % sumTo g l (walkK g l seed (walkFirst g seed) k).1 g.edges.length)])) := by unfold Hid; rw [walkK, if_neg hz]
          have hz3 := hz
          clear hz hsn
          generalize sumTo g l (walkK g l seed (walkFirst g seed) k).1 g.edges.length = sum at *
          generalize selTo g l (walkK g l seed (walkFirst g seed) k).1 g.edges.length = sel at *
          obtain ⟨an', cn', ean, hmn, hcn⟩ := hN.hn
          injection ean with ean1 ean2 ean3
          subst ean1 ean3
          obtain ⟨b', o', eb', cb'⟩ := hcn (k + 1) (by rw [HNL.out]; omega)
          rw [HNS.out (k + 1) (by omega)] at cb'
          have cb' : w2.cell? ⟨b', o' + (k + 1), none⟩ = some (.int .i64 (it (k + 2) seed)) := cb'
          subst eb'
          clear hcn hmn ean2
          have hm0 : 0 ≤ it (k + 2) seed % sum := Int.emod_nonneg _ hz3
          have hm1 : it (k + 2) seed % sum < sum := Int.emod_lt_of_pos _ (by omega)
          have hel : g.edges.length ≤ 2000 := HF.out.ok.2.1
          have hsm : sum ≤ 200000 := by omega
          have hsl2 : sel.length ≤ 2000 := by omega
          have hwm : IntKind.i64.wrap (it (k + 2) seed % sum) = it (k + 2) seed % sum := IntWalk.i64_in _ (by omega)
          have ht : (it (k + 2) seed).tmod sum = it (k + 2) seed % sum := Int.tmod_eq_emod_of_nonneg hitb.1
          have hne0 : (sum == 0) = false := by simpa using hz3
          have hwk1 : IntKind.i64.wrap ((k : Int) + 1) = (k : Int) + 1 := IntWalk.i64_in _ (by omega)
          have hi1 : (0 : Int) ≤ (k : Int) + 1 := by omega
          have hi2 : (k : Int) + 1 < (ns.length : Int) := by rw [HNL.out]; omega
          have hi3 : k + 1 < ns.length := by rw [HNL.out]; omega
          go_wp2_with fail
          have HN2 := Lib.hid hN
          have HM2 := Lib.hid hM
          have HIP := Lib.hid hip
          have hn0 : it (k + 2) seed % sum < wsum g l sel := by rw [HWS.out]; exact hm1
          have HN0 := Lib.hid hn0
          generalize it (k + 2) seed % sum = n0 at *
          clear hN hM hip m1 cb' ht hwm hne0 hwk1 hi1 hi2 hi3 hq hn0 hz3 hitb
          have hq2 : n0 ≤ 200000 := by omega
          have hjs : 0 < sel.length := by
            rcases sel with _ | ⟨x0, r0⟩
            · have := HN0.out; simp [wsum] at this; omega
            · simp
          go_loopw [12, 13] (fun n j wx => ∃ (q : Int) (jn : Nat), n = .int .i64 q ∧ j = .int .i64 jn ∧ jn < sel.length ∧ 0 ≤ q ∧ q ≤ 200000 ∧ Hid (q < wsum g l (sel.drop jn)) ∧ Hid (pickL g l sel n0 = pickL g l (sel.drop jn) q) ∧ Below w2.heap.size w2 wx) (fun _ j _ => sel.length - (intOf j).toNat)
          case atStart => exact ⟨n0, 0, rfl, rfl, hjs, hm0, hq2, by unfold Hid; rw [List.drop_zero]; exact HN0.out, by unfold Hid; rw [List.drop_zero], Below.refl _ _⟩
          case round =>
            obtain ⟨q, jn, rfl, rfl, hjl, hq0, hq3, hq1, hpk, hbx⟩ := hrel
            obtain ⟨n', hn', hin, hch⟩ := HSEL.out _ (gi_mem hjl)
            have hwt : wte g l (gi sel jn) = gi l (ge g.edges n').a.toNat := by unfold wte; rw [hin]; rfl
            have hq1' : q < gi l (ge g.edges n').a.toNat + wsum g l (sel.drop (jn + 1)) := by have := hq1.out; rw [drop_at hjl, wsum, hwt] at this; exact this
            have hpk' : Hid (pickL g l sel n0 = if q < gi l (ge g.edges n').a.toNat then gi sel jn else pickL g l (sel.drop (jn + 1)) (q - gi l (ge g.edges n').a.toNat)) := by unfold Hid; rw [hpk.out, drop_at hjl, pickL, hwt]
            have hN := HN2.out.later hbx
            obtain ⟨ap', cp', eap, hmp, hcp⟩ := HIP.out.later hbx
            injection eap with eap1 eap2 eap3
            subst eap1 eap3
            obtain ⟨bp, op', ep, cpj⟩ := hcp jn hjl
            subst ep
            rw [hin] at cpj
            obtain ⟨be, oe, ee, -, k1, k2⟩ := hN.gi.he n' hn'
            subst ee
            obtain ⟨ha0, ha1, ha2, ha3⟩ := HF.out.act hn'
            obtain ⟨al', cl', eal, hml', hcl⟩ := hN.hl
            injection eal with eal1 eal2 eal3
            subst eal1 eal3
            obtain ⟨bl, ol, el, cw⟩ := hcl _ ha2
            subst el
            have ha4 : (ge g.edges n').a < (l.length : Int) := by omega
            have g2 := hN.gi.g2
            unfold wtOk at ha3
            have p1 : (0 : Int) ≤ (n' : Int) := by omega
            have p2 : (n' : Int) < (g.edges.length : Int) := by omega
            have p3 : (0 : Int) ≤ (jn : Int) := by omega
            have p4 : (jn : Int) < (sel.length : Int) := by omega
            have HIN := Lib.hid hin
            have HCH := Lib.hid hch
            have HQ1 := Lib.hid hq1'
            clear hin hch hq1' hq1 hpk hwt hcp hcl hmp hml' eap2 eal2
            by_cases hge : gi l (ge g.edges n').a.toNat ≤ q
            · as_aux_lemma =>
                have hwq : IntKind.i64.wrap (q - gi l (ge g.edges n').a.toNat) = q - gi l (ge g.edges n').a.toNat := IntWalk.i64_in _ (by omega)
                have hd1 : decide (gi l (ge g.edges n').a.toNat ≤ q) = true := decide_eq_true hge
                have hnew : jn + 1 < sel.length := by
                  by_cases h : jn + 1 < sel.length
                  · exact h
                  · have := HQ1.out
                    rw [List.drop_eq_nil_of_le (by omega), wsum] at this
                    omega
                have HNW : Hid (q - gi l (ge g.edges n').a.toNat < wsum g l (sel.drop (jn + 1))) := by have := HQ1.out; unfold Hid; omega
                have HPN : Hid (pickL g l sel n0 = pickL g l (sel.drop (jn + 1)) (q - gi l (ge g.edges n').a.toNat)) := by unfold Hid; rw [hpk'.out, if_neg (by omega)]
                go_wp2_with fail
                go_quiet (fail)
                go_wp2_with fail
                have hbd := below_drewN (Below.refl wr.heap.size wr) nq
                have hN3 := hN.later hbd
                have cpj' := Below.keeps hbd cpj (Nat.le_refl _)
                have k2' := Below.keeps hbd k2 (Nat.le_refl _)
                have cw' := Below.keeps hbd cw (Nat.le_refl _)
                have hbx2 := hbx.trans (hbd.mono hbx.size)
                clear hN g2 cpj k1 k2 cw hbx hbd
                generalize wr.drewN nq = w5 at *
                have g2 := hN3.gi.g2
                go_quiet (fail)
                go_wp2_with fail
                exact ⟨⟨q - gi l (ge g.edges n').a.toNat, jn + 1, by first | rfl | rw [hwq], by go_num, hnew, by omega, by omega, HNW, HPN, hbx2.trans ((below_drewN (Below.refl _ _) _).mono hbx2.size)⟩, by simp [intOf]; omega⟩
            · as_aux_lemma =>
                have hd1 : decide (gi l (ge g.edges n').a.toNat ≤ q) = false := decide_eq_false hge
                have HPN : Hid (pickL g l sel n0 = (n' : Int)) := by unfold Hid; rw [hpk'.out, if_pos (by omega), HIN.out]
                go_wp2_with fail
                go_quiet (fail)
                go_wp2_with fail
                have hbd := below_drewN (Below.refl wr.heap.size wr) nq
                have hbx2 := hbx.trans (hbd.mono hbx.size)
                clear hN g2 cpj k1 k2 cw hbx hbd
                generalize wr.drewN nq = w5 at *
                have hM5 := HM2.out.later hbx2
                have hop5 : ownInts w5 _ _ sel := ownsRow_later HOP.out hbx2
                obtain ⟨ax, cx, eax, -, hcx⟩ := IntsAt.of_own hop5
                injection eax with eax1 eax2 eax3
                subst eax1
                obtain ⟨bx, ox, ebx, cpj5⟩ := hcx jn hjl
                injection ebx with ebx
                injection ebx with ebx1 ebx2 ebx3
                subst ebx1 ebx2
                rw [HIN.out] at cpj5
                have m1 := hM5.m1
                have hml5 := hM5.lt
                have hbp : bp < w5.heap.size := cell_lt cpj5
                have HOP5 := Lib.hid hop5
                have HM5 := Lib.hid hM5
                clear hcx eax2 eax3 hop5 hM5
                go_region_law
                  ((first
                    | (refine step_own rfl (.tmp 92) (.tmp 97) 23 rfl (m + 1) 3 i0 (.int .i64 0) 1 8 Try.underlying23 hi hz0 hz1 hz2 rfl (by decide) _ (walkK g l seed (walkFirst g seed) k).2.length ((walkK g l seed (walkFirst g seed) k).2.map (Value.int .i64)) rfl ?_ (some ⟨w5.heap.size, 0, none⟩) 1 1 [.int .i64 (n' : Int)] rfl rfl ?_ ?_ ?_ ?_ ?_ ?_; (focus (refine ownsRow_later HM5.out.own ?_; (repeat (first | with_reducible exact Below.refl _ _ | with_reducible refine Below.drew ?_ | (with_reducible refine Below.alloc ?_ ?_ _))); all_goals (first | exact Nat.le_refl _ | (simp; done)))); (focus (intro j u hj; rcases j with _ | j; (focus (simp at hj; subst hj; refine ⟨_, rfl, ?_⟩; simp [Addr.add]; done)); (focus (simp at hj; done)))); (focus (intro u hu; simp at hu; subst hu; rfl)); (focus (have := hlk.out; unfold maxLen; omega)); (focus (have := hlk.out; omega)); (focus (simp; omega)); intro vE wE oE gE; obtain ⟨aE, cE, rfl⟩ := row_form oE; (have hMW := mw_append HM5.out (by (repeat (first | with_reducible exact Below.refl _ _ | with_reducible refine Below.drew ?_ | (with_reducible refine Below.alloc ?_ ?_ _))); all_goals (first | exact Nat.le_refl _ | (simp; done))) gE oE); (have hop6 := kept2 (ownsRow_later HOP5.out (by (repeat (first | with_reducible exact Below.refl _ _ | with_reducible refine Below.drew ?_ | (with_reducible refine Below.alloc ?_ ?_ _))); all_goals (first | exact Nat.le_refl _ | (simp; done)))) gE HLT.out); have e1 := hMW.2.1; have f1 := hMW.2.2 1)))
                all_goals
                  have hM6 := hMW.1
                  have hop7 : ownInts _ _ (.slice (some ⟨bp, op', none⟩) sel.length _) sel := ownsRow_setCell_below (a := ⟨m, 1, none⟩) hop6 (by have := HML.out; show m < _; omega) (.slice aE ((walkK g l seed (walkFirst g seed) k).2.length + 1) cE)
                  clear hMW hop6 e1 f1 oE gE
                  generalize (wE.setCell ⟨m, 1, none⟩ (.slice aE ((walkK g l seed (walkFirst g seed) k).2.length + 1) cE)) = w6 at *
                  have hN6 := HN.out.later hM6.bw
                  have g2 := hN6.gi.g2
                  obtain ⟨be2, oe2, ee2, -, k1, -⟩ := hN6.gi.he n' hn'
                  injection ee2 with ee2
                  injection ee2 with ee21 ee22 ee23
                  subst ee21 ee22
                  obtain ⟨ax, cx, eax, -, hcx⟩ := IntsAt.of_own hop7
                  injection eax with eax1 eax2 eax3
                  subst eax1
                  obtain ⟨bx, ox, ebx, cpj6⟩ := hcx jn hjl
                  injection ebx with ebx
                  injection ebx with ebx1 ebx2 ebx3
                  subst ebx1 ebx2
                  rw [HIN.out] at cpj6
                  clear hcx eax2 eax3
                  go_wp2_with fail
                  go_quiet (fail)
                  go_wp2_with fail
                  have hN7 := hN6.later (below_drewN (Below.refl w6.heap.size w6) nq)
                  have hM7 := hM6.later (below_drewN (Below.refl w6.heap.size w6) nq)
                  have hnn : ((n' : Int)).toNat = n' := by omega
                  rw [HPN.out] at HK1
                  refine ⟨⟨k + 1, aE, cE, by omega, by rw [HK1.out]; show _ = Value.int .i64 (ge g.edges ((n' : Int)).toNat).t; rw [hnn], by unfold Hid; rw [HK1.out]; show ((walkK g l seed (walkFirst g seed) k).2 ++ [(n' : Int)]).length = k + 1; rw [List.length_append, hlk.out]; rfl, hN7, by rw [HK1.out]; exact hM7⟩, ?_⟩
                  rw [HL0.out, hM7.m1]
                  simp [lenOf]
                  have := hlk.out
                  omega
      · have hkk : k = X := by omega
        subst hkk
        have HKX : Hid (walkK g l seed (walkFirst g seed) k = walkK g l seed (walkFirst g seed) k) := rfl
        clear hlt hlk
        as_aux_lemma =>
          have hM : MW w1 wr m (walkFirst g seed) a c (walkK g l seed (walkFirst g seed) k).2 := by rw [HKX.out]; exact hM
          rw [← HKX.out]
          have g0 := hN.gi.g0
          have g1 := hN.gi.g1
          have g2 := hN.gi.g2
          go_wp2_with fail
          refine (possible_any g l _ _ _ _ hN.graph hN.hl HF.out).mono ?_
          rintro e wP ⟨vq, rfl, oq, hbq⟩
          obtain ⟨aq, cq, rfl⟩ := own_form oq
          have hsn := sel_nil (g := g) (l := l) (walkK g l seed (walkFirst g seed) k).1 HF.out g.edges.length (Nat.le_refl _)
          replace hN := hN.later hbq
          replace hM := hM.later hbq
          clear g0 g1 g2 oq hbq
          have m0 := hM.m0
          have m1 := hM.m1
          have m2 := hM.m2
          have mf := hM.mf 2
          have r0 := hN.r0
          have r1 := hN.r1
          have r2 := hN.r2
          have rf0 := hN.rf 0
          have rf1 := hN.rf 1
          have rf2 := hN.rf 2
          have hmge : w.heap.size + 1 + 1 < m := Nat.lt_of_lt_of_le HN.out.lt hM.ge
          by_cases hzz : sumTo g l (walkK g l seed (walkFirst g seed) k).1 g.edges.length = 0
          · have hq : (((selTo g l (walkK g l seed (walkFirst g seed) k).1 g.edges.length).length : Int) == 0) = true := by have := hsn.2 hzz; simp; exact List.length_eq_zero_iff.1 this
            have HZ := Lib.hid hzz
            have hne : ∀ j, (⟨m, 2, none⟩ : Addr) ≠ ⟨w.heap.size + 1 + 1, j, none⟩ := fun j h => by injection h with h1 h2; omega
            have q0 := (World.cell?_setCell_other (w := wP) ⟨m, 2, none⟩ _ (.bool true) (hne 0)).trans r0
            have q1 := (World.cell?_setCell_other (w := wP) ⟨m, 2, none⟩ _ (.bool true) (hne 1)).trans r1
            have q2 := (World.cell?_setCell_other (w := wP) ⟨m, 2, none⟩ _ (.bool true) (hne 2)).trans r2
            have hbe : Below w.heap.size w (wP.setCell ⟨m, 2, none⟩ (.bool true)) := hN.gi.bw.setCell (by show w.heap.size ≤ m; omega) _
            have hoe : ownInts (wP.setCell ⟨m, 2, none⟩ (.bool true)) (m + 1) (.slice a (walkK g l seed (walkFirst g seed) k).2.length c) (walkK g l seed (walkFirst g seed) k).2 := ownsRow_setCell_below hM.own (by show m < m + 1; omega) _
            clear hzz hsn hne
            go_wp2_with fail
            clear r0 r1 r2 rf0 rf1 rf2 m0 m1 m2 mf hN hM
            generalize (wP.setCell ⟨m, 2, none⟩ (.bool true)) = wQ at *
            refine bodyPost_ret (v := .agg #[.int .i64 (walkFirst g seed), .slice a (walkK g l seed (walkFirst g seed) k).2.length c, .bool true]) (by simp [results, Try.results23, go_sem, q0, q1, q2]) rfl ⟨_, rfl, ⟨_, by rw [decide_eq_true HZ.out], ?_⟩, ?_⟩
            · exact IntsAt.of_own (ownsRow_setCell_below (ownsRow_setCell_below (ownsRow_setCell_below hoe (by show w.heap.size + 1 + 1 < m + 1; omega) _) (by show w.heap.size + 1 + 1 < m + 1; omega) _) (by show w.heap.size + 1 + 1 < m + 1; omega) _)
            · exact ((hbe.setCell (by show w.heap.size ≤ w.heap.size + 1 + 1; omega) _).setCell (by show w.heap.size ≤ w.heap.size + 1 + 1; omega) _).setCell (by show w.heap.size ≤ w.heap.size + 1 + 1; omega) _
          · have hq : (((selTo g l (walkK g l seed (walkFirst g seed) k).1 g.edges.length).length : Int) == 0) = false := by simp; intro h; exact hzz (hsn.1 (by rw [h]; rfl))
            have HZ := Lib.hid hzz
            have hne : ∀ j, (⟨m, 2, none⟩ : Addr) ≠ ⟨w.heap.size + 1 + 1, j, none⟩ := fun j h => by injection h with h1 h2; omega
            have q0 := (World.cell?_setCell_other (w := wP) ⟨m, 2, none⟩ _ (.bool false) (hne 0)).trans r0
            have q1 := (World.cell?_setCell_other (w := wP) ⟨m, 2, none⟩ _ (.bool false) (hne 1)).trans r1
            have q2 := (World.cell?_setCell_other (w := wP) ⟨m, 2, none⟩ _ (.bool false) (hne 2)).trans r2
            have hbe : Below w.heap.size w (wP.setCell ⟨m, 2, none⟩ (.bool false)) := hN.gi.bw.setCell (by show w.heap.size ≤ m; omega) _
            have hoe : ownInts (wP.setCell ⟨m, 2, none⟩ (.bool false)) (m + 1) (.slice a (walkK g l seed (walkFirst g seed) k).2.length c) (walkK g l seed (walkFirst g seed) k).2 := ownsRow_setCell_below hM.own (by show m < m + 1; omega) _
            clear hzz hsn hne
            go_wp2_with fail
            clear r0 r1 r2 rf0 rf1 rf2 m0 m1 m2 mf hN hM
            generalize (wP.setCell ⟨m, 2, none⟩ (.bool false)) = wQ at *
            refine bodyPost_ret (v := .agg #[.int .i64 (walkFirst g seed), .slice a (walkK g l seed (walkFirst g seed) k).2.length c, .bool false]) (by simp [results, Try.results23, go_sem, q0, q1, q2]) rfl ⟨_, rfl, ⟨_, by rw [decide_eq_false HZ.out], ?_⟩, ?_⟩
            · exact IntsAt.of_own (ownsRow_setCell_below (ownsRow_setCell_below (ownsRow_setCell_below hoe (by show w.heap.size + 1 + 1 < m + 1; omega) _) (by show w.heap.size + 1 + 1 < m + 1; omega) _) (by show w.heap.size + 1 + 1 < m + 1; omega) _)
            · exact ((hbe.setCell (by show w.heap.size ≤ w.heap.size + 1 + 1; omega) _).setCell (by show w.heap.size ≤ w.heap.size + 1 + 1; omega) _).setCell (by show w.heap.size ≤ w.heap.size + 1 + 1; omega) _
end Go.Proofs.Ytnijajjmcdgonaa
