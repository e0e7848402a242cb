import Derived.Test.YtnijajjmcdgonaaMathA
import Derived.Deep.DeepCutAuto
namespace Go.Proofs.Ytnijajjmcdgonaa
open Go.RowKit
set_option linter.unusedVariables false

theorem wGraph_iff (g : G) : wGraph g = true ↔ graphOk g := by unfold wGraph; simp
theorem Below.keepsF {B : Nat} {w w' : World} (hb : Below B w w') {a : Addr} (h : w.frozen? a = false) (hB : a.block < B) : w'.frozen? a = false := (hb.frozen (p := a) hB).trans h

/-- What WalkOf keeps of its own in memory. -/
structure WI (w wr : World) (pn : Nat) (g : G) (ai : Option Addr) (ci : Nat) (ae : Option Addr) (ce : Nat) (X : Nat) (num : Int) : Prop where
  g0 : wr.cell? ⟨w.heap.size, 0, none⟩ = some (.int .i64 g.n)
  g1 : wr.cell? ⟨w.heap.size, 1, none⟩ = some (.slice ai g.init.length ci)
  g2 : wr.cell? ⟨w.heap.size, 2, none⟩ = some (.slice ae g.edges.length ce)
  x1 : wr.cell? ⟨w.heap.size + 1, 1, none⟩ = some (.int .i64 (X : Int))
  r0 : wr.cell? ⟨w.heap.size + 1 + 1, 0, none⟩ = some (.int .i64 0)
  r1 : wr.cell? ⟨w.heap.size + 1 + 1, 1, none⟩ = some (.slice none 0 0)
  r2 : wr.cell? ⟨w.heap.size + 1 + 1, 2, none⟩ = some (.bool false)
  rf : ∀ i, wr.frozen? ⟨w.heap.size + 1 + 1, i, none⟩ = false
  nm : wr.cell? ⟨pn, 0, none⟩ = some (.int .i64 num)
  nf : wr.frozen? ⟨pn, 0, none⟩ = false
  lt : w.heap.size + 1 + 1 < pn
  bw : Below w.heap.size w wr
theorem WI.later {w wr wr' : World} {pn : Nat} {g : G} {ai : Option Addr} {ci : Nat} {ae : Option Addr} {ce : Nat} {X : Nat} {num : Int} (h : WI w wr pn g ai ci ae ce X num) (hb : Below wr.heap.size wr wr') : WI w wr' pn g ai ci ae ce X num :=
  ⟨Below.keeps hb h.g0 (Nat.le_refl _), Below.keeps hb h.g1 (Nat.le_refl _), Below.keeps hb h.g2 (Nat.le_refl _), Below.keeps hb h.x1 (Nat.le_refl _), Below.keeps hb h.r0 (Nat.le_refl _), Below.keeps hb h.r1 (Nat.le_refl _), Below.keeps hb h.r2 (Nat.le_refl _),
    fun i => Below.keepsF hb (h.rf i) (by have := cell_lt h.r0; exact this), Below.keeps hb h.nm (Nat.le_refl _), Below.keepsF hb h.nf (cell_lt h.nm), h.lt, h.bw.trans (hb.mono h.bw.size)⟩
theorem WI.set {w wr : World} {pn : Nat} {g : G} {ai : Option Addr} {ci : Nat} {ae : Option Addr} {ce : Nat} {X : Nat} {num : Int} (h : WI w wr pn g ai ci ae ce X num) (num' : Int) : WI w (wr.setCell ⟨pn, 0, none⟩ (.int .i64 num')) pn g ai ci ae ce X num' := by
  have hl := h.lt
  have ne : ∀ k o, k < pn → (wr.setCell ⟨pn, 0, none⟩ (.int .i64 num')).cell? ⟨k, o, none⟩ = wr.cell? ⟨k, o, none⟩ := fun k o hk => World.cell?_setCell_other _ _ _ _ (by intro h; injection h with h1; omega)
  exact ⟨(ne _ _ (by omega)).trans h.g0, (ne _ _ (by omega)).trans h.g1, (ne _ _ (by omega)).trans h.g2, (ne _ _ (by omega)).trans h.x1, (ne _ _ (by omega)).trans h.r0, (ne _ _ (by omega)).trans h.r1, (ne _ _ (by omega)).trans h.r2,
    fun i => (World.frozen?_setCell _ _ _ _).trans (h.rf i), World.cell?_setCell_same _ _ _ h.nm, (World.frozen?_setCell _ _ _ _).trans h.nf, h.lt, h.bw.setCell (by show w.heap.size ≤ pn; omega) _⟩

/-- The walk that WalkOf makes, in memory. -/
structure WO (wr : World) (po : Nat) (first : Int) (v : Value) (b : Bool) : Prop where
  o0 : wr.cell? ⟨po, 0, none⟩ = some (.int .i64 first)
  o1 : wr.cell? ⟨po, 1, none⟩ = some v
  o2 : wr.cell? ⟨po, 2, none⟩ = some (.bool b)
  of : ∀ i, wr.frozen? ⟨po, i, none⟩ = false
theorem WO.later {wr wr' : World} {po : Nat} {first : Int} {v : Value} {b : Bool} (h : WO wr po first v b) (hb : Below wr.heap.size wr wr') : WO wr' po first v b :=
  ⟨Below.keeps hb h.o0 (Nat.le_refl _), Below.keeps hb h.o1 (Nat.le_refl _), Below.keeps hb h.o2 (Nat.le_refl _), fun i => Below.keepsF hb (h.of i) (by have := cell_lt h.o0; exact this)⟩
theorem WO.stuck {wr : World} {po : Nat} {first : Int} {v : Value} {b : Bool} (h : WO wr po first v b) (b' : Bool) : WO (wr.setCell ⟨po, 2, none⟩ (.bool b')) po first v b' :=
  ⟨(World.cell?_setCell_other _ _ _ _ (by simp)).trans h.o0, (World.cell?_setCell_other _ _ _ _ (by simp)).trans h.o1, World.cell?_setCell_same _ _ _ h.o2, fun i => (World.frozen?_setCell _ _ _ _).trans (h.of i)⟩
theorem WO.steps {wr : World} {po : Nat} {first : Int} {v : Value} {b : Bool} (h : WO wr po first v b) (v' : Value) : WO (wr.setCell ⟨po, 1, none⟩ v') po first v' b :=
  ⟨(World.cell?_setCell_other _ _ _ _ (by simp)).trans h.o0, World.cell?_setCell_same _ _ _ h.o1, (World.cell?_setCell_other _ _ _ _ (by simp)).trans h.o2, fun i => (World.frozen?_setCell _ _ _ _).trans (h.of i)⟩
theorem WO.other {wr : World} {po : Nat} {first : Int} {v : Value} {b : Bool} (h : WO wr po first v b) {a : Addr} (ha : a.block ≠ po) (u : Value) : WO (wr.setCell a u) po first v b := by
  have ne : ∀ o, (wr.setCell a u).cell? ⟨po, o, none⟩ = wr.cell? ⟨po, o, none⟩ := fun o => World.cell?_setCell_other _ _ _ _ (by intro h; apply ha; rw [h])
  exact ⟨(ne _).trans h.o0, (ne _).trans h.o1, (ne _).trans h.o2, fun i => (World.frozen?_setCell _ _ _ _).trans (h.of i)⟩
theorem WI.other {w wr : World} {pn : Nat} {g : G} {ai : Option Addr} {ci : Nat} {ae : Option Addr} {ce : Nat} {X : Nat} {num : Int} (h : WI w wr pn g ai ci ae ce X num) {a : Addr} (ha : pn < a.block) (u : Value) : WI w (wr.setCell a u) pn g ai ci ae ce X num := by
  have hl := h.lt
  have ne : ∀ k o, k ≤ pn → (wr.setCell a u).cell? ⟨k, o, none⟩ = wr.cell? ⟨k, o, none⟩ := fun k o hk => World.cell?_setCell_other _ _ _ _ (by intro h; rw [h] at ha; simp at ha; omega)
  exact ⟨(ne _ _ (by omega)).trans h.g0, (ne _ _ (by omega)).trans h.g1, (ne _ _ (by omega)).trans h.g2, (ne _ _ (by omega)).trans h.x1, (ne _ _ (by omega)).trans h.r0, (ne _ _ (by omega)).trans h.r1, (ne _ _ (by omega)).trans h.r2,
    fun i => (World.frozen?_setCell _ _ _ _).trans (h.rf i), (ne _ _ (by omega)).trans h.nm, (World.frozen?_setCell _ _ _ _).trans h.nf, h.lt, h.bw.setCell (by omega) _⟩
theorem WO.under {wr wr' : World} {po B : Nat} {first : Int} {v : Value} {b : Bool} (h : WO wr po first v b) (hb : Below B wr wr') (hB : po < B) : WO wr' po first v b :=
  ⟨(hb.cell (p := ⟨po, 0, none⟩) hB).trans h.o0, (hb.cell (p := ⟨po, 1, none⟩) hB).trans h.o1, (hb.cell (p := ⟨po, 2, none⟩) hB).trans h.o2, fun i => (hb.frozen (p := ⟨po, i, none⟩) hB).trans (h.of i)⟩
theorem WI.under {w wr wr' : World} {pn B : Nat} {g : G} {ai : Option Addr} {ci : Nat} {ae : Option Addr} {ce : Nat} {X : Nat} {num : Int} (h : WI w wr pn g ai ci ae ce X num) (hb : Below B wr wr') (hB : pn < B) : WI w wr' pn g ai ci ae ce X num := by
  have hl := h.lt
  have ne : ∀ k o, k ≤ pn → wr'.cell? ⟨k, o, none⟩ = wr.cell? ⟨k, o, none⟩ := fun k o hk => hb.cell (p := ⟨k, o, none⟩) (by show k < B; omega)
  exact ⟨(ne _ _ (by omega)).trans h.g0, (ne _ _ (by omega)).trans h.g1, (ne _ _ (by omega)).trans h.g2, (ne _ _ (by omega)).trans h.x1, (ne _ _ (by omega)).trans h.r0, (ne _ _ (by omega)).trans h.r1, (ne _ _ (by omega)).trans h.r2,
    fun i => (hb.frozen (p := ⟨w.heap.size + 1 + 1, i, none⟩) (by show w.heap.size + 1 + 1 < B; omega)).trans (h.rf i), (ne _ _ (by omega)).trans h.nm, (hb.frozen (p := ⟨pn, 0, none⟩) hB).trans h.nf, h.lt, h.bw.trans (hb.mono (by omega))⟩
def lenOf : Option Value → Nat | some (.slice _ n _) => n | _ => 0

noncomputable def walkFirst (g : G) (seed : Int) : Int := gi g.init (it 1 seed % (g.init.length : Int)).toNat

set_option maxHeartbeats 2000000 in
set_option maxRecDepth 100000 in
theorem walkOf_ok (g : G) (l : List Int) (seed X : Int) (vg vl : Value) (w : World) (hg : GraphAt w vg g) (hl : IntsAt w vl l) (hF : Fine g l) (hs : 1 ≤ seed ∧ seed < 2147483647) (hX : 0 ≤ X ∧ X ≤ 300) (hI : g.init.length ≠ 0) :
    Calls Try.prog 17 #[vg, vl, .agg #[.int .i64 seed, .int .i64 X]] w fun e w' =>
      ∃ v, e = .returned (.tuple #[.agg #[.int .i64 (walkFirst g seed), v, .bool (decide (sumTo g l (walkK g l seed (walkFirst g seed) X.toNat).1 g.edges.length = 0))], .int .i64 0]) ∧
        ownInts w' w.heap.size v (walkK g l seed (walkFirst g seed) X.toNat).2 ∧ Below w.heap.size w w' := by
  have hg' := hg
  have hl' := hl
  obtain ⟨vi, ve, rfl, ⟨ai, ci, rfl, hmi, hci⟩, ⟨ae, ce, rfl, hme, hce⟩⟩ := hg
  obtain ⟨al, cl, rfl, hml, hcl⟩ := hl
  obtain ⟨i0, hi, hz0, hz1, hz2⟩ := info_parts infoInt
  obtain ⟨hs1, hs2⟩ := hs
  obtain ⟨hX1, hX2⟩ := hX
  obtain ⟨X, rfl⟩ := Int.eq_ofNat_of_zero_le hX1
  rw [Int.toNat_natCast]
  have hGE : gErr g = 0 := by unfold gErr; rw [if_pos ⟨(wGraph_iff g).2 hF.ok, hF.n⟩]
  have hWE : wErr l = 0 := by unfold wErr; rw [if_neg (by simp [hF.len]), if_pos hF.wt]
  have hSD : seedOk seed = true := by simp [seedOk]; omega
  have HG := Lib.hid hGE; have HW := Lib.hid hWE; have HS := Lib.hid hSD; clear hGE hWE hSD
  have hne : ((g.init.length : Int) == 0) = false := by simp; intro h; rw [h] at hI; simp at hI
  unfold maxLen at hmi hme hml
  go_enter Try.func17, Try.ntmps17
  go_wp2_with fail
  refine (checkGraph_any g _ _ (hg'.later ?_)).mono ?_
  · exact (((Below.refl _ _).alloc (Nat.le_refl _) _).alloc (by simp) _).alloc (by simp; omega) _
  rw [HG.out]
  rintro e w1 ⟨rfl, hb1⟩
  go_wp2_with fail
  refine (checkWeights_any l _ _ (hl'.later ?_)).mono ?_
  · exact ((((Below.refl _ _).alloc (Nat.le_refl _) _).alloc (by simp) _).alloc (by simp; omega) _).trans (hb1.mono (by simp; omega))
  rw [HW.out]
  rintro e w1' ⟨rfl, rfl⟩
  have g1 : w1'.cell? ⟨w.heap.size, 1, none⟩ = some (.slice ai g.init.length ci) := Below.keeps hb1 (by rw [World.cell?_alloc_past _ _ _ (by simp; omega), World.cell?_alloc_past _ _ _ (by simp), World.cell?_alloc_at _ _ _ _ rfl]; rfl) (by simp)
  have g2 : w1'.cell? ⟨w.heap.size, 2, none⟩ = some (.slice ae g.edges.length ce) := Below.keeps hb1 (by rw [World.cell?_alloc_past _ _ _ (by simp; omega), World.cell?_alloc_past _ _ _ (by simp), World.cell?_alloc_at _ _ _ _ rfl]; rfl) (by simp)
  have g0 : w1'.cell? ⟨w.heap.size, 0, none⟩ = some (.int .i64 g.n) := Below.keeps hb1 (by rw [World.cell?_alloc_past _ _ _ (by simp; omega), World.cell?_alloc_past _ _ _ (by simp), World.cell?_alloc_at _ _ _ _ rfl]; rfl) (by simp)
  have x0 : w1'.cell? ⟨w.heap.size + 1, 0, none⟩ = some (.int .i64 seed) := Below.keeps hb1 (by rw [World.cell?_alloc_past _ _ _ (by simp), World.cell?_alloc_at _ _ _ _ (by simp)]; rfl) (by simp)
  have x1 : w1'.cell? ⟨w.heap.size + 1, 1, none⟩ = some (.int .i64 (X : Int)) := Below.keeps hb1 (by rw [World.cell?_alloc_past _ _ _ (by simp), World.cell?_alloc_at _ _ _ _ (by simp)]; rfl) (by simp)
  have r0 : w1'.cell? ⟨w.heap.size + 1 + 1, 0, none⟩ = some (.int .i64 0) := Below.keeps hb1 (by rw [World.cell?_alloc_at _ _ _ _ (by simp)]; rfl) (by simp)
  have r1 : w1'.cell? ⟨w.heap.size + 1 + 1, 1, none⟩ = some (.slice none 0 0) := Below.keeps hb1 (by rw [World.cell?_alloc_at _ _ _ _ (by simp)]; rfl) (by simp)
  have r2 : w1'.cell? ⟨w.heap.size + 1 + 1, 2, none⟩ = some (.bool false) := Below.keeps hb1 (by rw [World.cell?_alloc_at _ _ _ _ (by simp)]; rfl) (by simp)
  have rf : ∀ i, w1'.frozen? ⟨w.heap.size + 1 + 1, i, none⟩ = false := fun i => Below.keepsF hb1 (World.frozen?_alloc_at _ _ _ _ (by simp)) (by simp)
  have hbw : Below w.heap.size w w1' := ((((Below.refl _ _).alloc (Nat.le_refl _) _).alloc (by simp) _).alloc (by simp; omega) _).trans (hb1.mono (by simp; omega))
  have hsz : w.heap.size + 1 + 1 < w1'.heap.size := cell_lt r0
  clear hb1
  have RF := Lib.hid rf; clear rf
  go_upto_region 14 with (go_at_call 41; refine (isSeed_any _ _).mono ?_; rw [HS.out]; rintro e w' ⟨rfl, rfl⟩)
  obtain ⟨wA, eA⟩ : ∃ wA, wA = w' := ⟨_, rfl⟩
  subst eA
  have hb2 : Below wA.heap.size wA (wA.alloc (Obj.cells #[.int .i64 seed] 80)) := (Below.refl _ _).alloc (Nat.le_refl _) _
  have hI : WI w (wA.alloc (Obj.cells #[.int .i64 seed] 80)) wA.heap.size g ai ci ae ce X seed :=
    ⟨Below.keeps hb2 g0 (Nat.le_refl _), Below.keeps hb2 g1 (Nat.le_refl _), Below.keeps hb2 g2 (Nat.le_refl _), Below.keeps hb2 x1 (Nat.le_refl _), Below.keeps hb2 r0 (Nat.le_refl _), Below.keeps hb2 r1 (Nat.le_refl _), Below.keeps hb2 r2 (Nat.le_refl _),
      fun i => Below.keepsF hb2 (RF.out i) (by have := cell_lt r0; exact this), World.cell?_alloc_at _ _ _ _ rfl, World.frozen?_alloc_at _ _ _ _ rfl, hsz, hbw.trans (hb2.mono hbw.size)⟩
  clear g0 g1 g2 x0 x1 r0 r1 r2 RF hb2 hsz hbw
  generalize (wA.alloc (Obj.cells #[.int .i64 seed] 80)) = w2 at *
  generalize wA.heap.size = pn at *
  clear wA
  go_cut [11] (fun s11 wx => s11 = .int .i64 (walkFirst g seed) ∧ WI w wx pn g ai ci ae ce X (it 1 seed))
  case first =>
    have hb := nx_bd seed
    have c1 := hI.g1
    have nm := hI.nm; have nf := hI.nf
    have hlt : w.heap.size < pn := by have := hI.lt; omega
    have hpos : (0 : Int) < (g.init.length : Int) := by omega
    have hm0 : 0 ≤ nx seed % (g.init.length : Int) := Int.emod_nonneg _ (by omega)
    have hm1 : nx seed % (g.init.length : Int) < (g.init.length : Int) := Int.emod_lt_of_pos _ hpos
    obtain ⟨b, o, e1, c4⟩ := hci (nx seed % (g.init.length : Int)).toNat (by omega)
    subst e1
    have hbb : b < w.heap.size := cell_lt c4
    replace c4 := Below.keeps hI.bw c4 (Nat.le_refl _)
    have c1' : (w2.setCell ⟨pn, 0, none⟩ (.int .i64 (nx seed))).cell? ⟨w.heap.size, 1, none⟩ = some (.slice (some ⟨b, o, none⟩) g.init.length ci) := (World.cell?_setCell_other _ _ _ _ (by intro h; injection h with h1; omega)).trans c1
    have c4' : (w2.setCell ⟨pn, 0, none⟩ (.int .i64 (nx seed))).cell? ⟨b, o + (nx seed % (g.init.length : Int)).toNat, none⟩ = some (.int .i64 (gi g.init (nx seed % (g.init.length : Int)).toNat)) := (World.cell?_setCell_other _ _ _ _ (by intro h; injection h with h1; omega)).trans c4
    have HI := hI.set (nx seed)
    have ht : (nx seed).tmod (g.init.length : Int) = nx seed % (g.init.length : Int) := Int.tmod_eq_emod_of_nonneg hb.1
    clear hI hci hb
    go_region_with (go_at_call 42; refine (next_any _ _ seed _ (by omega) (by omega) (by exact nm) (by exact nf)).mono ?_; rintro e w' ⟨rfl, rfl⟩)
    all_goals (go_wp2_with fail; go_meet; exact ⟨rfl, HI.later (Below.refl _ _).drew⟩)
  case rest =>
    obtain ⟨rfl, hI2⟩ := hcut
    clear hI
    -- REST
    have hpn : pn < wc.heap.size := by have := cell_lt hI2.nm; exact this
    go_wp2
    have hb3 : Below wc.heap.size wc (wc.alloc (Obj.cells #[.int .i64 (walkFirst g seed), .slice none 0 0, .bool false] 39)) := (Below.refl _ _).alloc (Nat.le_refl _) _
    have hO : WO (wc.alloc (Obj.cells #[.int .i64 (walkFirst g seed), .slice none 0 0, .bool false] 39)) wc.heap.size (walkFirst g seed) (.slice none 0 0) false :=
      ⟨World.cell?_alloc_at _ _ _ _ rfl, World.cell?_alloc_at _ _ _ _ rfl, World.cell?_alloc_at _ _ _ _ rfl, fun i => World.frozen?_alloc_at _ _ _ _ rfl⟩
    have hI3 := hI2.later hb3
    clear hI2 hb3
    generalize (wc.alloc (Obj.cells #[.int .i64 (walkFirst g seed), .slice none 0 0, .bool false] 39)) = w3 at *
    generalize wc.heap.size = po at *
    clear wc
    generalize hfirst : walkFirst g seed = first at *
    have HFst := Lib.hid hfirst; clear hfirst
    go_loopw [11] (fun s11 wr => ∃ (k : Nat) (v : Value), k ≤ X ∧ s11 = .int .i64 (walkK g l seed first k).1 ∧ WI w wr pn g ai ci ae ce X (it (k + 1) seed) ∧ WO wr po first v false ∧
        ownInts wr (po + 1) v (walkK g l seed first k).2 ∧ Hid ((walkK g l seed first k).2.length = k)) (fun _ wr => X - lenOf (wr.cell? ⟨po, 1, none⟩))
    case atStart => exact ⟨0, _, Nat.zero_le _, rfl, hI3, hO, World.ownsRow_nil _ _ _ _, rfl⟩
    case round =>
      clear hI3 hO
      obtain ⟨k, v, hk, rfl, hI, hO, hown, hlen⟩ := hrel
      obtain ⟨va, vc, hv⟩ := own_form hown
      rw [hlen.out] at hv
      subst hv
      have HM : Hid (lenOf (wr.cell? ⟨po, 1, none⟩) = k) := by show lenOf _ = k; rw [hO.o1]; rfl
      have g0 := hI.g0; have g1 := hI.g1; have g2 := hI.g2
      go_wp2_with fail
      refine (weighted_any g l (walkK g l seed first k).1 _ _ _ (hg'.later (hI.bw)) (hl'.later hI.bw) hF).mono ?_
      rintro e w1 ⟨p, rfl, hp, hb1⟩
      obtain ⟨pa, pc, hpf⟩ := own_form hp
      subst hpf
      have hpoW : po < wr.heap.size := by have := cell_lt hO.o0; exact this
      clear g0 g1 g2
      replace hI := hI.later hb1
      replace hO := hO.later hb1
      replace hown := ownsRow_later hown hb1
      clear hb1
      have hsum := sumTo_bd hF (walkK g l seed first k).1 g.edges.length (Nat.le_refl _)
      have hbnd : sumTo g l (walkK g l seed first k).1 g.edges.length ≤ 200000 := by have := hF.ok.2.1; omega
      have hsum0 := hsum.1
      clear hsum
      have o1 := hO.o1; have o2 := hO.o2; have of1 := hO.of 1; have of2 := hO.of 2
      have hpo : w.heap.size + 1 + 1 < po := by have := hI.lt; omega
      have HL := hlen; clear hlen
      by_cases hz : sumTo g l (walkK g l seed first k).1 g.edges.length = 0
      · have HK : Hid (walkK g l seed first X = walkK g l seed first k) := by
          have := walkK_stuck_add hz (X - k)
          rwa [show k + (X - k) = X from by omega] at this
        have HZ := Lib.hid hz
        have hz' : (sumTo g l (walkK g l seed first k).1 g.edges.length == 0) = true := by rw [hz]; rfl
        clear hz
        have hOs := hO.stuck true
        have hIs := hI.other (a := ⟨po, 2, none⟩) (by show pn < po; omega) (.bool true)
        have s0 := hOs.o0; have s1 := hOs.o1; have s2 := hOs.o2
        have q0 := hIs.r0; have q1 := hIs.r1; have q2 := hIs.r2; have qf0 := hIs.rf 0; have qf1 := hIs.rf 1; have qf2 := hIs.rf 2
        go_wp2
        refine bodyPost_ret (v := .tuple #[.agg #[.int .i64 first, .slice va k vc, .bool true], .int .i64 0]) (by simp [results, Try.results17, go_sem, q0, q1, q2]) rfl ⟨.slice va k vc, ?_, ?_, ?_⟩
        · rw [HFst.out, HK.out, HZ.out]; rfl
        · rw [HFst.out, HK.out]
          exact own_mono (ownsRow_setCell_below (ownsRow_setCell_below (ownsRow_setCell_below (ownsRow_setCell_below hown (by show po < po + 1; omega) _) (by show w.heap.size + 1 + 1 < po + 1; omega) _) (by show w.heap.size + 1 + 1 < po + 1; omega) _) (by show w.heap.size + 1 + 1 < po + 1; omega) _) (by omega)
        · exact ((hIs.bw.setCell (by show w.heap.size ≤ w.heap.size + 1 + 1; omega) _).setCell (by show w.heap.size ≤ w.heap.size + 1 + 1; omega) _).setCell (by show w.heap.size ≤ w.heap.size + 1 + 1; omega) _
      · have hz' : (sumTo g l (walkK g l seed first k).1 g.edges.length == 0) = false := by simpa using hz
        by_cases hkX : k = X
        · subst hkX
          have HZ := Lib.hid hz; clear hz
          have hkk : ((k : Int) == (k : Int)) = true := by simp
          have hOs := hO.stuck false
          have hIs := hI.other (a := ⟨po, 2, none⟩) (by show pn < po; omega) (.bool false)
          have s0 := hOs.o0; have s1 := hOs.o1; have s2 := hOs.o2
          have q0 := hIs.r0; have q1 := hIs.r1; have q2 := hIs.r2; have qf0 := hIs.rf 0; have qf1 := hIs.rf 1; have qf2 := hIs.rf 2
          have x1 := hIs.x1
          go_wp2
          refine bodyPost_ret (v := .tuple #[.agg #[.int .i64 first, .slice va k vc, .bool false], .int .i64 0]) (by simp [results, Try.results17, go_sem, q0, q1, q2]) rfl ⟨.slice va k vc, ?_, ?_, ?_⟩
          · rw [HFst.out, decide_eq_false HZ.out]
          · rw [HFst.out]
            exact own_mono (ownsRow_setCell_below (ownsRow_setCell_below (ownsRow_setCell_below (ownsRow_setCell_below hown (by show po < po + 1; omega) _) (by show w.heap.size + 1 + 1 < po + 1; omega) _) (by show w.heap.size + 1 + 1 < po + 1; omega) _) (by show w.heap.size + 1 + 1 < po + 1; omega) _) (by omega)
          · exact ((hIs.bw.setCell (by show w.heap.size ≤ w.heap.size + 1 + 1; omega) _).setCell (by show w.heap.size ≤ w.heap.size + 1 + 1; omega) _).setCell (by show w.heap.size ≤ w.heap.size + 1 + 1; omega) _
        · -- GO ON
          have hkX' : ((k : Int) == (X : Int)) = false := by rw [beq_eq_false_iff_ne]; omega
          have hOs := hO.stuck false
          have hIs := hI.other (a := ⟨po, 2, none⟩) (by show pn < po; omega) (.bool false)
          have hown2 := ownsRow_setCell_below hown (a := ⟨po, 2, none⟩) (by show po < po + 1; omega) (.bool false)
          have s0 := hOs.o0; have s1 := hOs.o1; have s2 := hOs.o2
          have x1 := hIs.x1
          have hnb := it_bd seed (by omega) (by omega) (k + 1)
          go_wp2_with fail
          refine (next_any _ _ _ _ hnb.1 hnb.2 (by exact hIs.nm) (by exact hIs.nf)).mono ?_
          rintro e w4 ⟨rfl, rfl⟩
          have hlw : WO ((w1.setCell ⟨po, 2, none⟩ (.bool false)).setCell ⟨pn, 0, none⟩ (.int .i64 (nx (it (k + 1) seed)))) po first (.slice va k vc) false := hOs.other (by show pn ≠ po; omega) _
          have hIw := hIs.set (nx (it (k + 1) seed))
          have hownw := ownsRow_setCell_below hown2 (a := ⟨pn, 0, none⟩) (by show pn < po + 1; omega) (.int .i64 (nx (it (k + 1) seed)))
          have hnb2 := nx_bd (it (k + 1) seed)
          have hpw := ownsRow_setCell_below (ownsRow_setCell_below hp (a := ⟨po, 2, none⟩) (by show po < wr.heap.size + 1; omega) (.bool false)) (a := ⟨pn, 0, none⟩) (by show pn < wr.heap.size + 1; omega) (.int .i64 (nx (it (k + 1) seed)))
          clear hp
          clear hOs hIs hown2 hO hI hown s0 s1 s2 x1 o1 o2 of1 of2
          generalize ((w1.setCell ⟨po, 2, none⟩ (.bool false)).setCell ⟨pn, 0, none⟩ (.int .i64 (nx (it (k + 1) seed)))) = w5 at *
          obtain ⟨-, hpc, -⟩ := own_cells hpw
          have hpm : Hid (∀ i, i ∈ selTo g l (walkK g l seed first k).1 g.edges.length → ∃ n : Nat, n < g.edges.length ∧ i = n ∧ chosen g l (walkK g l seed first k).1 n) := fun i h => mem_sel h
          have hps : Hid (wsum g l (selTo g l (walkK g l seed first k).1 g.edges.length) = sumTo g l (walkK g l seed first k).1 g.edges.length) := wsum_sel g l _ _
          have hpl := selTo_len g l (walkK g l seed first k).1 g.edges.length
          have hE2 : g.edges.length ≤ 2000 := hF.ok.2.1
          have hWK : Hid (walkK g l seed first (k + 1) = ((ge g.edges (pickL g l (selTo g l (walkK g l seed first k).1 g.edges.length) (nx (it (k + 1) seed) % sumTo g l (walkK g l seed first k).1 g.edges.length)).toNat).t,
              (walkK g l seed first k).2 ++ [pickL g l (selTo g l (walkK g l seed first k).1 g.edges.length) (nx (it (k + 1) seed) % sumTo g l (walkK g l seed first k).1 g.edges.length)])) := by
            show walkK g l seed first (k + 1) = _
            rw [walkK, if_neg hz]; rfl
          have hm0 : 0 ≤ nx (it (k + 1) seed) % sumTo g l (walkK g l seed first k).1 g.edges.length := Int.emod_nonneg _ hz
          have hm1 : nx (it (k + 1) seed) % sumTo g l (walkK g l seed first k).1 g.edges.length < sumTo g l (walkK g l seed first k).1 g.edges.length := Int.emod_lt_of_pos _ (by omega)
          generalize hsel : selTo g l (walkK g l seed first k).1 g.edges.length = sel at *
          generalize hS : sumTo g l (walkK g l seed first k).1 g.edges.length = S at *
          clear hsel hS
          go_wp2_with fail
          generalize hn0 : nx (it (k + 1) seed) % S = n0 at *
          clear hn0
          go_loop [15, 95] (fun left j => ∃ (jn : Nat) (q : Int), jn ≤ sel.length ∧ j = .int .i64 jn ∧ left = .int .i64 q ∧ 0 ≤ q ∧ q ≤ 200000 ∧ Hid (q < wsum g l (sel.drop jn)) ∧ Hid (pickL g l (sel.drop jn) q = pickL g l sel n0))
            (fun _ j => sel.length - (intOf j).toNat)
          case atStart => exact ⟨0, n0, Nat.zero_le _, rfl, rfl, hm0, by omega, by show n0 < wsum g l (sel.drop 0); rw [List.drop_zero, hps.out]; exact hm1, rfl⟩
          case round =>
            obtain ⟨jn, q, hj, rfl, rfl, hq0, hq1, hqs, hqp⟩ := hrel
            by_cases hlt : jn < sel.length
            · obtain ⟨b, o, e1, c1⟩ := hpc jn hlt
              subst e1
              obtain ⟨n, hn, hin, hcn⟩ := hpm.out _ (gi_mem hlt)
              obtain ⟨ha0, ha1, ha2, ha3⟩ := hF.act hn
              unfold wtOk at ha3
              have ha4 : (ge g.edges n).a < (l.length : Int) := by omega
              obtain ⟨be, oe, e1, e2, e3, e4⟩ := hce.later hIw.bw n hn
              subst e1
              obtain ⟨bl, ol, e1, e5⟩ := hcl.later hIw.bw _ ha2
              subst e1
              have g2 := hIw.g2
              have hdr := drop_at hlt
              have hw1 : wte g l (gi sel jn) = gi l (ge g.edges n).a.toNat := by unfold wte; rw [hin]; rfl
              have hstep : Hid (gi l (ge g.edges n).a.toNat ≤ q → q - gi l (ge g.edges n).a.toNat < wsum g l (sel.drop (jn + 1)) ∧ pickL g l (sel.drop (jn + 1)) (q - gi l (ge g.edges n).a.toNat) = pickL g l sel n0) := fun h => by
                have h1 := hqs.out; have h2 := hqp.out
                rw [hdr] at h1 h2
                simp only [wsum, pickL, hw1] at h1 h2
                rw [if_neg (by omega)] at h2
                exact ⟨by omega, h2⟩
              have hhit : Hid (q < gi l (ge g.edges n).a.toNat → pickL g l sel n0 = (n : Int)) := fun h => by
                have h2 := hqp.out
                rw [hdr] at h2
                simp only [pickL, hw1] at h2
                rw [if_pos h] at h2
                rw [← h2, hin]
              clear hdr hw1 hqs hqp
              rw [hin] at c1
              clear hin
              by_cases d : q < gi l (ge g.edges n).a.toNat
              · have o1 := hlw.o1
                have hpo5 : po < w5.heap.size := by have := cell_lt hlw.o0; exact this
                have hlk : Hid (((walkK g l seed first k).2 ++ [(n : Int)]).length = k + 1) := by rw [List.length_append, HL.out]; rfl
                have HP : Hid (walkK g l seed first (k + 1) = ((ge g.edges n).t, (walkK g l seed first k).2 ++ [(n : Int)])) := by
                  rw [hWK.out, hhit.out d]; rfl
                clear hstep hhit hWK
                go_wp2_with (at_builtin; refine wpList_append_own _ rfl _ _ 23 rfl (po + 1) 3 i0 (.int .i64 0) 1 8 Try.underlying23 hi hz0 hz1 hz2 rfl (by decide) _ _ _ rfl (hownw.alloc _) ⟨w5.heap.size, 0, none⟩ 1 1 [.int .i64 (n : Int)] rfl rfl ?c1 ?c2 ?c3 ?c4 ?c5 ?_)
                case c2 => rfl
                case c3 => rw [HL.out]; unfold maxLen; omega
                case c4 => rw [HL.out]; omega
                case c5 => omega
                · intro v' w' hown' hgrow _
                  have hbG : Below (po + 1) w5 w' := ((Below.refl _ _).alloc (by omega) _).grown hgrow (by simp; omega) (fun j hj => (hownw.lt j hj).1)
                  have R1 : ownInts w' (po + 1) v' ((walkK g l seed first k).2 ++ [(n : Int)]) := by simpa [ownInts] using hown'
                  have hI6 := hIw.under hbG (by omega)
                  have hO6 := hlw.under hbG (by omega)
                  clear hown' hgrow hbG hIw hlw hownw
                  obtain ⟨va', vc', hv'⟩ := own_form R1
                  rw [hlk.out] at hv'
                  subst hv'
                  have t1 := hO6.o1; have t1f := hO6.of 1
                  have hI7 := hI6.other (a := ⟨po, 1, none⟩) (by show pn < po; omega) (.slice va' (k + 1) vc')
                  have hO7 := hO6.steps (.slice va' (k + 1) vc')
                  have R2 : ownInts (w'.setCell ⟨po, 1, none⟩ (.slice va' (k + 1) vc')) (po + 1) (.slice va' (k + 1) vc') ((walkK g l seed first k).2 ++ [(n : Int)]) := ownsRow_setCell_below R1 (by show po < po + 1; omega) _
                  have g2' := hI7.g2
                  obtain ⟨be', oe', e1, f2, f3, f4⟩ := hce.later hI7.bw n hn
                  injection e1 with e1
                  injection e1 with ea eb ec
                  subst ea eb
                  clear c1 e2 e3 e4 e5 g2 hI6 hO6
                  go_wp2
                  refine ⟨⟨k + 1, _, by omega, by rw [HP.out], hI7, hO7, by rw [HP.out]; exact R2, by show (walkK g l seed first (k + 1)).2.length = k + 1; rw [HP.out]; exact hlk.out⟩, ?_⟩
                  rw [HM.out, hO7.o1]
                  show X - (k + 1) < X - k
                  omega
              · have hs2 := hstep.out (by omega)
                have S1 := Lib.hid hs2.1; have S2 := Lib.hid hs2.2; clear hs2
                go_wp2
                exact ⟨⟨jn + 1, q - gi l (ge g.edges n).a.toNat, by omega, by go_num, rfl, by omega, by omega, S1.out, S2.out⟩, by simp [intOf]; omega⟩
            · exfalso
              have hkk : jn = sel.length := by omega
              subst hkk
              have := hqs.out
              rw [List.drop_length] at this
              simp [wsum] at this
              omega
end Go.Proofs.Ytnijajjmcdgonaa
