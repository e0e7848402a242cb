import Derived.Test.YtciopdlmjciieaaPaths
import Derived.Test.YtciopdlmjciieaaPairO
import Derived.Test.YtciopdlmjciieaaCheckF
namespace Go.Proofs.Ytciopdlmjciieaa
open Go.RowKit
set_option linter.unusedVariables false

def labOk (p : P2) (m : List Int) (o : Nat → Option (List Int)) (s : Nat) : Prop := o s ≠ none → gi p.ll s = gi p.ul (gi m s).toNat
/-- What a mapping that is accepted fulfils. -/
structure MapOk (p : P2) (m : List Int) (o : Nat → Option (List Int)) : Prop where
  lab : ∀ s, s < m.length → labOk p m o s
  init : ∀ x ∈ p.lo.init, gi m x.toNat ∈ p.up.init
  step : ∀ i, i < p.lo.edges.length → o (ge p.lo.edges i).f.toNat ≠ none → gi m (ge p.lo.edges i).t.toNat ∈ upRow p (gi m (ge p.lo.edges i).f.toNat).toNat
def CmSaid (p : P2) (m : List Int) (o : Nat → Option (List Int)) (k a : Int) (pa : List Int) (err : Int) : Prop :=
  (err = 0 ∧ MapOk p m o) ∨ (err = 31 ∧ k = 0 ∧ ∃ s : Nat, s < m.length ∧ a = s ∧ o s = some pa ∧ gi p.ll s ≠ gi p.ul (gi m s).toNat ∧ ∀ j, j < s → labOk p m o j) ∨ (err = 31 ∧ k ≠ 0 ∧ (∀ s, s < m.length → labOk p m o s) ∧ ¬ MapOk p m o)

/-- What CheckMapping keeps in memory. -/
structure CMM (w wr : World) (p : P2) (m : List Int) (i1 e1 i2 e2 l1 l2 am : Option Addr) (c1 d1 c2 d2 k1 k2 cm px T N1 N2 : Nat) (o : Nat → Option (List Int)) : Prop where
  b : PB w wr p i1 e1 i2 e2 l1 l2 c1 d1 c2 d2 k1 k2
  r0 : wr.cell? ⟨w.heap.size + 1, 0, none⟩ = some (.int .i64 0)
  r1 : wr.cell? ⟨w.heap.size + 1, 1, none⟩ = some (.int .i64 0)
  r2 : wr.cell? ⟨w.heap.size + 1, 2, none⟩ = some (.slice none 0 0)
  rf : ∀ i, wr.frozen? ⟨w.heap.size + 1, i, none⟩ = false
  x : PairX wr px p N1 N2
  p : PathsAt wr (w.heap.size + 2) T N1 o
  m : IntsAt wr (.slice am m.length cm) m
theorem CMM.later {w wr w' : World} {p : P2} {m : List Int} {i1 e1 i2 e2 l1 l2 am : Option Addr} {c1 d1 c2 d2 k1 k2 cm px T N1 N2 : Nat} {o : Nat → Option (List Int)} (h : CMM w wr p m i1 e1 i2 e2 l1 l2 am c1 d1 c2 d2 k1 k2 cm px T N1 N2 o) (hb : Below wr.heap.size wr w') : CMM w w' p m i1 e1 i2 e2 l1 l2 am c1 d1 c2 d2 k1 k2 cm px T N1 N2 o :=
  ⟨h.b.later hb, Below.keeps hb h.r0 (Nat.le_refl _), Below.keeps hb h.r1 (Nat.le_refl _), Below.keeps hb h.r2 (Nat.le_refl _), fun i => Below.keepsF hb (h.rf i) (by have := cell_lt h.r0; exact this), h.x.later hb, h.p.later hb, h.m.later hb⟩

def CmPost (p : P2) (m : List Int) (w : World) (e : Ending) (w' : World) : Prop :=
  ∃ (k a err : Int) (pa : List Int) (ap : Option Addr) (cp i : Nat), e = .returned (.tuple #[.agg #[.int .i64 k, .int .i64 a, .slice ap pa.length cp], .int .i64 err]) ∧ (pnP p i).q.length = i ∧ CmSaid p m (pnP p i).o k a pa err ∧ IntsAt w' (.slice ap pa.length cp) pa ∧ Below w.heap.size w w'

theorem contains_is {l : List Int} {x : Int} {v : Value} {b : Bool} (hb : decide (x ∈ l) = b) (w : World) (hl : IntsAt w v l) : Calls Try.prog 40 #[v, .int .i64 x] w fun e w' => e = .returned (.bool b) ∧ w' = w := by
  subst hb
  exact contains_any l x v w hl
theorem IntsAt.drew {w : World} {v : Value} {l : List Int} (h : IntsAt w v l) (n : Nat) : IntsAt (w.drewN n) v l := h.later (below_drewN (Below.refl _ _) _)
theorem initOk_mem' {g : G} (h : ∀ k, k < g.init.length → initOk g k) : ∀ x ∈ g.init, 0 ≤ x ∧ x < g.n := fun x hx => by
  obtain ⟨k, hk, rfl⟩ := mem_gi.1 hx
  exact ⟨(h k hk).1, (h k hk).2.1⟩
/-- A path that a table holds. -/
theorem PathsAt.any {w : World} {B T n : Nat} {o : Nat → Option (List Int)} (h : PathsAt w B T n o) {j : Nat} (hj : j < n) : ∃ (a : Option Addr) (l : List Int) (c : Nat), w.cell? ⟨T, j, none⟩ = some (.slice a l.length c) ∧ l = (o j).getD [] ∧ (a = none ∧ l = [] ∧ c = 0 ∧ o j = none ∨ ∃ g, a = some ⟨g, 0, none⟩ ∧ B ≤ g ∧ o j = some l) ∧ IntsAt w (.slice a l.length c) l := by
  rcases h j hj with ⟨h1, h2⟩ | ⟨l, g, c, h1, h4, h2, h3⟩
  · exact ⟨none, [], 0, h2, by rw [h1]; rfl, .inl ⟨rfl, rfl, rfl, h1⟩, ⟨_, _, rfl, Nat.zero_le _, fun i hi => by simp at hi⟩⟩
  · exact ⟨_, l, c, h2, by rw [h1]; rfl, .inr ⟨g, rfl, h4, h1⟩, h3⟩
theorem ints_set_any {w : World} {a : Option Addr} {c : Nat} {l : List Int} (h : IntsAt w (.slice a l.length c) l) {q : Addr} (ha : l = [] ∨ ∃ g, a = some ⟨g, 0, none⟩ ∧ q.block ≠ g) (u : Value) : IntsAt (w.setCell q u) (.slice a l.length c) l := by
  rcases ha with rfl | ⟨g, rfl, h1⟩
  · exact ⟨_, _, rfl, Nat.zero_le _, fun i hi => by simp at hi⟩
  · exact ints_set h h1 u

set_option maxHeartbeats 2000000 in
set_option maxRecDepth 100000 in
theorem checkM_any (p : P2) (m : List Int) (v vm : Value) (w : World) (hv : PairV w v p) (hm : IntsAt w vm m) (hok : PairFull p) (hf : FormOk p m) (N1 N2 : Nat) (hN1 : p.lo.n = N1) (hN2 : p.up.n = N2) :
    Calls Try.prog 16 #[v, vm] w (CmPost p m w) := by
  obtain ⟨i1, e1, i2, e2, l1, l2, c1, d1, c2, d2, k1, k2, rfl, hR⟩ := hv.open
  obtain ⟨am, cm, rfl⟩ : ∃ a c, vm = .slice a m.length c := by obtain ⟨a, c, rfl, -, -⟩ := hm; exact ⟨a, c, rfl⟩
  have HR := Lib.hid hR; have HM := Lib.hid hm; have HOK := Lib.hid hok; have HF := Lib.hid hf; have HN1 := Lib.hid hN1; have HN2 := Lib.hid hN2
  have hml : m.length ≤ 40 := by have := hf.len; have := hok.l40; omega
  clear hR hv hm hok hf hN1 hN2
  go_enter Try.func16, Try.ntmps16
  go_wp2_with fail
  have hB0 := PB.made HR.out 27
  have hb1 : ∀ W : World, Below W.heap.size W (W.alloc (Obj.cells #[.int .i64 0, .int .i64 0, .slice none 0 0] 49)) := fun W => (Below.refl _ _).alloc (Nat.le_refl _) _
  have hC0 : Hid (PB w ((w.alloc (Obj.cells (pCells p i1 e1 i2 e2 l1 l2 c1 d1 c2 d2 k1 k2) 27)).alloc (Obj.cells #[.int .i64 0, .int .i64 0, .slice none 0 0] 49)) p i1 e1 i2 e2 l1 l2 c1 d1 c2 d2 k1 k2) := hB0.later (hb1 _)
  have hr : Hid (∀ i v, #[Value.int .i64 0, .int .i64 0, .slice none 0 0][i]? = some v → ((w.alloc (Obj.cells (pCells p i1 e1 i2 e2 l1 l2 c1 d1 c2 d2 k1 k2) 27)).alloc (Obj.cells #[.int .i64 0, .int .i64 0, .slice none 0 0] 49)).cell? ⟨w.heap.size + 1, i, none⟩ = some v) := fun i v h => by
    have := box_cell (w.alloc (Obj.cells (pCells p i1 e1 i2 e2 l1 l2 c1 d1 c2 d2 k1 k2) 27)) #[.int .i64 0, .int .i64 0, .slice none 0 0] 49 i v h
    simpa using this
  have hrf : Hid (∀ i, ((w.alloc (Obj.cells (pCells p i1 e1 i2 e2 l1 l2 c1 d1 c2 d2 k1 k2) 27)).alloc (Obj.cells #[.int .i64 0, .int .i64 0, .slice none 0 0] 49)).frozen? ⟨w.heap.size + 1, i, none⟩ = false) := fun i => World.frozen?_alloc_at _ _ _ _ (by simp)
  clear hB0 hb1
  generalize (w.alloc (Obj.cells (pCells p i1 e1 i2 e2 l1 l2 c1 d1 c2 d2 k1 k2) 27)).alloc (Obj.cells #[.int .i64 0, .int .i64 0, .slice none 0 0] 49) = wb at *
  refine (checkForm_ok p m _ _ _ hC0.out.r.val (HM.out.later hC0.out.bw) HOK.out HF.out).mono ?_
  rintro e wa ⟨rfl, hba⟩
  have hs1 : w.heap.size + 1 < wb.heap.size := cell_lt (hr.out 0 _ rfl)
  have r0 := Below.keeps hba (hr.out 0 _ rfl) (Nat.le_refl _)
  have r1 := Below.keeps hba (hr.out 1 _ rfl) (Nat.le_refl _)
  have r2 := Below.keeps hba (hr.out 2 _ rfl) (Nat.le_refl _)
  have rf : Hid (∀ i, wa.frozen? ⟨w.heap.size + 1, i, none⟩ = false) := fun i => Below.keepsF hba (hrf.out i) hs1
  have hB := hC0.out.later hba
  clear hC0 hr hrf hba hs1
  have b0 := hB.b0; have b1 := hB.b1; have b2 := hB.b2; have b3 := hB.b3; have b4 := hB.b4; have b5 := hB.b5; have b6 := hB.b6; have b7 := hB.b7
  have HB := Lib.hid hB; have R0 := Lib.hid r0; have R1 := Lib.hid r1; have R2 := Lib.hid r2
  clear hB r0 r1 r2
  go_wp2_with fail
  refine (pairOf_any p _ _ HB.out.r.val HOK.out.toPairOk N1 N2 HN1.out HN2.out).mono ?_
  rintro e wc ⟨px, rfl, hX, hbc⟩
  have hs2 : w.heap.size + 1 < wa.heap.size := cell_lt R0.out
  replace HB := Lib.hid (HB.out.later hbc)
  replace R0 := Lib.hid (Below.keeps hbc R0.out (Nat.le_refl _)); replace R1 := Lib.hid (Below.keeps hbc R1.out (Nat.le_refl _)); replace R2 := Lib.hid (Below.keeps hbc R2.out (Nat.le_refl _))
  replace rf : Hid (∀ i, wc.frozen? ⟨w.heap.size + 1, i, none⟩ = false) := fun i => Below.keepsF hbc (rf.out i) hs2
  have HX := Lib.hid hX
  clear hX hbc b0 b1 b2 b3 b4 b5 b6 b7 hs2
  go_wp2_with fail
  refine (paths_any p px N1 N2 _ HX.out HOK.out.toPairOk).mono ?_
  rintro e wd ⟨T, ip, rfl, hip, hP, hbd⟩
  have hs2 : w.heap.size + 1 < wc.heap.size := cell_lt R0.out
  have HC : Hid (CMM w wd p m i1 e1 i2 e2 l1 l2 am c1 d1 c2 d2 k1 k2 cm px T N1 N2 (pnP p ip).o) :=
    ⟨HB.out.later hbd, Below.keeps hbd R0.out (Nat.le_refl _), Below.keeps hbd R1.out (Nat.le_refl _), Below.keeps hbd R2.out (Nat.le_refl _), fun i => Below.keepsF hbd (rf.out i) hs2, HX.out.later hbd, hP.lower (by omega), HM.out.later (HB.out.bw.trans (hbd.mono HB.out.bw.size))⟩
  clear hs2 HB R0 R1 R2 rf HX hP hbd
  have HIP := Lib.hid hip.out
  clear hip
  generalize ho : (pnP p ip).o = o at HC
  have HO := Lib.hid ho
  clear ho
  have hnn : ∀ W : World, Sem.run Try.prog (binOp .neq 22 (.slice none 0 0) (.slice none 0 0)) W = .ok (.bool false) W := fun W => by
    have := run_neq_slice_nil_any (P := Try.prog) W 22 3 none 0 0 0 0 Try.underlying22
    simpa using this
  have hns : ∀ (g n c : Nat) (W : World), Sem.run Try.prog (binOp .neq 22 (.slice (some ⟨g, 0, none⟩) n c) (.slice none 0 0)) W = .ok (.bool true) W := fun g n c W => by
    have := run_neq_slice_nil_any (P := Try.prog) W 22 3 (some ⟨g, 0, none⟩) n c 0 0 Try.underlying22
    simpa using this
  go_upto_region 7 with (fail)
  go_loopw [28] (fun i wr => ∃ k : Nat, k ≤ m.length ∧ i = .int .i64 k ∧ CMM w wr p m i1 e1 i2 e2 l1 l2 am c1 d1 c2 d2 k1 k2 cm px T N1 N2 o ∧ Hid (∀ j, j < k → labOk p m o j)) (fun i _ => m.length - (intOf i).toNat)
  case atStart => exact ⟨0, Nat.zero_le _, rfl, HC.out, fun j hj => by omega⟩
  case round =>
    clear HC
    obtain ⟨k, hk, rfl, hC, hall⟩ := hrel
    by_cases hlt : k < m.length
    · have hkN : k < N1 := by have := HF.out.len; have := HN1.out; omega
      obtain ⟨a', c', e', -, hmc⟩ := hC.m
      injection e' with e1' e2' e3'
      subst e1' e3'
      obtain ⟨b, o', f1, g1⟩ := hmc k hlt
      subst f1
      have hu := HF.out.rng _ (gi_mem hlt)
      generalize hug : gi m k = u at *
      obtain ⟨U, rfl⟩ : ∃ U : Nat, u = (U : Int) := ⟨u.toNat, by omega⟩
      have hUN : U < N2 := by have := HN2.out; omega
      have HUG := Lib.hid hug
      rcases hC.p k hkN with ⟨hno, hct⟩ | ⟨l, g, c, hno, hge, hct, hIl⟩
      · have HLK : Hid (labOk p m o k) := fun h => absurd hno h
        have HC := Lib.hid hC
        clear hC hmc hug hu hno
        go_wp2_with fail
        go_quiet (fail)
        go_wp2
        exact ⟨⟨k + 1, by omega, by go_num, HC.out.later (below_drewN (Below.refl _ _) _), fun j hj => (by rcases Nat.lt_succ_iff_lt_or_eq.1 hj with h | h; exact hall.out j h; rw [h]; exact HLK.out)⟩, by simp [intOf]; omega⟩
      · have hll : p.ll.length = N1 := by have := HOK.out.ll; have := HN1.out; omega
        have hul : p.ul.length = N2 := by have := HOK.out.ul; have := HN2.out; omega
        have y6 := hC.b.b6
        have y7 := hC.b.b7
        obtain ⟨a5, c5, e5, -, hl5⟩ := hC.b.r.r5
        injection e5 with e5 _ e5'
        subst e5 e5'
        obtain ⟨a6, c6, e6, -, hl6⟩ := hC.b.r.r6
        injection e6 with e6 _ e6'
        subst e6 e6'
        obtain ⟨b5, o5, f5, g5⟩ := hl5 k (by omega)
        obtain ⟨b6, o6, f6, g6⟩ := hl6 U (by omega)
        subst f5 f6
        rw [hll] at y6
        rw [hul] at y7
        generalize hxa : gi p.ll k = xa at g5
        generalize hxb : gi p.ul U = xb at g6
        have HNO := Lib.hid hno
        have HIL := Lib.hid hIl
        by_cases hac : xa = xb
        · have hq : (xa != xb) = false := by simp [hac]
          have HLK : Hid (labOk p m o k) := fun h => by rw [HUG.out]; show gi p.ll k = gi p.ul ((U : Int)).toNat; rw [Int.toNat_natCast, hxa, hxb]; exact hac
          have HC := Lib.hid hC
          clear hC hmc hug hu hno hll hul hl5 hl6 hxa hxb hac hIl
          go_wp2_with fail
          go_quiet (fail)
          go_wp2
          exact ⟨⟨k + 1, by omega, by go_num, HC.out.later (below_drewN (Below.refl _ _) _), fun j hj => (by rcases Nat.lt_succ_iff_lt_or_eq.1 hj with h | h; exact hall.out j h; rw [h]; exact HLK.out)⟩, by simp [intOf]; omega⟩
        · have hq : (xa != xb) = true := by simpa using hac
          have HNE : Hid (gi p.ll k ≠ gi p.ul (gi m k).toNat) := by rw [HUG.out, hxa]; show xa ≠ gi p.ul ((U : Int)).toNat; rw [Int.toNat_natCast, hxb]; exact hac
          have HC := Lib.hid hC
          have r0 := hC.r0; have r1 := hC.r1; have r2 := hC.r2; have f0 := hC.rf 0; have f1 := hC.rf 1; have f2 := hC.rf 2
          clear hC hmc hug hu hno hll hul hl5 hl6 hxa hxb hac hIl
          go_wp2_with fail
          go_quiet (fail)
          go_wp2
          have HBIG : Hid (w.heap.size + 1 ≠ g) := by unfold Hid; omega
          refine bodyPost_ret (v := .tuple #[.agg #[.int .i64 0, .int .i64 (k : Int), .slice (some ⟨g, 0, none⟩) l.length c], .int .i64 31]) (by simp [results, Try.results16, go_sem, r0, r1, r2]) rfl ⟨0, k, 31, l, _, c, ip, rfl, HIP.out, .inr (.inl ⟨rfl, rfl, k, hlt, rfl, by rw [HO.out]; exact HNO.out, HNE.out, by rw [HO.out]; exact hall.out⟩), ?_, ?_⟩
          · repeat (refine ints_set ?_ HBIG.out _)
            exact HIL.out.later (below_drewN (Below.refl _ _) _)
          · repeat (refine Below.setCell ?_ (Nat.le_succ _) _)
            exact below_drewN HC.out.b.bw _
    · have hkk : k = m.length := by omega
      subst hkk
      have HALL : Hid (∀ s, s < m.length → labOk p m o s) := hall.out
      have HC := Lib.hid hC
      have y1 := hC.b.b1
      have hlen : p.lo.init.length ≤ maxLen := by obtain ⟨_, _, e, h, -⟩ := hC.b.r.r1; exact h
      unfold maxLen at hlen
      have HIL : Hid (∀ x ∈ p.lo.init, 0 ≤ x ∧ x < p.lo.n) := initOk_mem' HOK.out.lo.2.2.1
      have HNN := Lib.hid hnn; have HNS := Lib.hid hns
      clear hC hall hnn hns
      go_upto_region 13 with (fail)
      clear y1
      go_loopw [62] (fun i wr => ∃ k : Nat, k ≤ p.lo.init.length ∧ i = .int .i64 k ∧ CMM w wr p m i1 e1 i2 e2 l1 l2 am c1 d1 c2 d2 k1 k2 cm px T N1 N2 o ∧ Hid (∀ j, j < k → gi m (gi p.lo.init j).toNat ∈ p.up.init)) (fun i _ => p.lo.init.length - (intOf i).toNat)
      case atStart => exact ⟨0, Nat.zero_le _, rfl, HC.out, fun j hj => by omega⟩
      case round =>
        clear HC
        obtain ⟨k, hk, rfl, hC, hall⟩ := hrel
        by_cases hlt : k < p.lo.init.length
        · obtain ⟨a', c', e', -, hcc⟩ := hC.b.r.r1
          injection e' with e1' e2' e3'
          subst e1' e3'
          obtain ⟨b, o', f1, g1⟩ := hcc k hlt
          subst f1
          have hs := HIL.out _ (gi_mem hlt)
          generalize hsg : gi p.lo.init k = s at *
          obtain ⟨s, rfl⟩ : ∃ s' : Nat, s = (s' : Int) := ⟨s.toNat, by omega⟩
          have hsN : s < N1 := by have := HN1.out; omega
          have hsm : s < m.length := by have := HF.out.len; have := HN1.out; omega
          obtain ⟨a2, c2', e2', -, hmc⟩ := hC.m
          injection e2' with e2a _ e2b
          subst e2a e2b
          obtain ⟨bm, om, f2, g2⟩ := hmc s hsm
          subst f2
          have y4 := hC.b.b4
          have HSG := Lib.hid hsg
          have HC := Lib.hid hC
          clear hmc hcc hs hsg hC
          have HUI : Hid (IntsAt wr (.slice i2 p.up.init.length c2) p.up.init) := HC.out.b.r.r3
          by_cases hin : gi m s ∈ p.up.init
          · have hd : decide (gi m s ∈ p.up.init) = true := decide_eq_true hin
            have HIN := Lib.hid hin; have HD := Lib.hid hd
            clear hin hd
            go_wp2_with fail
            go_quiet ((go_at_call 40; exact Calls.quiet_of_same (contains_is HD.out _ (HUI.out.drew _))))
            go_wp2
            refine ⟨⟨k + 1, by omega, by go_num, HC.out.later (below_drewN (Below.refl _ _) _), fun j hj => ?_⟩, by simp [intOf]; omega⟩
            rcases Nat.lt_succ_iff_lt_or_eq.1 hj with h | h
            · exact hall.out j h
            · rw [h, HSG.out]; exact HIN.out
          · have hd : decide (gi m s ∈ p.up.init) = false := decide_eq_false hin
            obtain ⟨ap, pa, cp, hct, hpa, hal, hIp⟩ := HC.out.p.any hsN
            have HIL := Lib.hid hIp; have HAL := Lib.hid hal
            have r0 := HC.out.r0; have r1 := HC.out.r1; have r2 := HC.out.r2; have f0 := HC.out.rf 0; have f1 := HC.out.rf 1; have f2 := HC.out.rf 2
            have HD := Lib.hid hd
            have HNM : Hid (¬ MapOk p m o) := fun h => hin (by have := h.init _ (gi_mem hlt); rw [HSG.out] at this; simpa using this)
            clear hin hd hal hIp hpa
            go_wp2_with fail
            go_quiet ((go_at_call 40; exact Calls.quiet_of_same (contains_is HD.out _ (HUI.out.drew _))))
            go_wp2
            have HBIG : Hid (pa = [] ∨ ∃ g, ap = some ⟨g, 0, none⟩ ∧ w.heap.size + 1 ≠ g) := by
              rcases HAL.out with ⟨-, h, -⟩ | ⟨g, h, h2, -⟩
              · exact .inl h
              · exact .inr ⟨g, h, by omega⟩
            refine bodyPost_ret (v := .tuple #[.agg #[.int .i64 1, .int .i64 (s : Int), .slice ap pa.length cp], .int .i64 31]) (by simp [results, Try.results16, go_sem, r0, r1, r2]) rfl ⟨1, s, 31, pa, _, cp, ip, rfl, HIP.out, .inr (.inr ⟨rfl, by decide, by rw [HO.out]; exact ⟨HALL.out, HNM.out⟩⟩), ?_, ?_⟩
            · repeat (refine ints_set_any ?_ HBIG.out _)
              first | exact HIL.out | exact HIL.out.later (below_drewN (Below.refl _ _) _)
            · repeat (refine Below.setCell ?_ (Nat.le_succ _) _)
              first | exact HC.out.b.bw | exact below_drewN HC.out.b.bw _
        · have hkk : k = p.lo.init.length := by omega
          subst hkk
          have HIN : Hid (∀ x ∈ p.lo.init, gi m x.toNat ∈ p.up.init) := fun x hx => by
            obtain ⟨j, hj, rfl⟩ := mem_gi.1 hx
            exact hall.out j hj
          have HC := Lib.hid hC
          have y2 := hC.b.b2
          have hel : p.lo.edges.length ≤ 2000 := HOK.out.lo.2.1
          have hedge : Hid (∀ i, i < p.lo.edges.length → ∃ F t : Nat, ∃ a : Int, ge p.lo.edges i = ⟨F, t, a⟩ ∧ F < N1 ∧ t < N1) := fun i hi => by
            have hE := HOK.out.lo.2.2.2 i hi
            unfold edgeOk at hE
            have hn := HN1.out
            generalize ge p.lo.edges i = x at hE
            obtain ⟨f, t, a⟩ := x
            refine ⟨f.toNat, t.toNat, a, ?_, ?_, ?_⟩
            · have h1 : 0 ≤ f := hE.1.1
              have h2 : 0 ≤ t := hE.1.2.1
              rw [Int.toNat_of_nonneg h1, Int.toNat_of_nonneg h2]
            · have h1 : 0 ≤ f := hE.1.1
              have h2 : f < p.lo.n := hE.2.1.1
              omega
            · have h1 : 0 ≤ t := hE.1.2.1
              have h2 : t < p.lo.n := hE.2.1.2
              omega
          clear hC hall
          go_upto_region 19 with (fail)
          clear y2
          go_loopw [86] (fun i wr => ∃ k : Nat, k ≤ p.lo.edges.length ∧ i = .int .i64 k ∧ CMM w wr p m i1 e1 i2 e2 l1 l2 am c1 d1 c2 d2 k1 k2 cm px T N1 N2 o ∧ Hid (∀ j, j < k → o (ge p.lo.edges j).f.toNat ≠ none → gi m (ge p.lo.edges j).t.toNat ∈ upRow p (gi m (ge p.lo.edges j).f.toNat).toNat)) (fun i _ => p.lo.edges.length - (intOf i).toNat)
          case atStart => exact ⟨0, Nat.zero_le _, rfl, HC.out, fun j hj => by omega⟩
          case round =>
            clear HC
            obtain ⟨k, hk, rfl, hC, hall⟩ := hrel
            by_cases hlt : k < p.lo.edges.length
            · obtain ⟨F, t, ac, he, hF, ht⟩ := hedge.out k hlt
              obtain ⟨a', c', e', -, hcc⟩ := hC.b.r.r2
              injection e' with e1' e2' e3'
              subst e1' e3'
              obtain ⟨b, o', f1, g1, g2, g3⟩ := hcc k hlt
              subst f1
              rw [he] at g1 g2 g3
              have HGE := Lib.hid he
              have hbe : Below wr.heap.size wr (wr.alloc (Obj.cells #[.int .i64 (F : Int), .int .i64 (t : Int), .int .i64 ac] 81)) := (Below.refl _ _).alloc (Nat.le_refl _) _
              have HC := Lib.hid (hC.later hbe)
              have HED : Hid ((wr.alloc (Obj.cells #[.int .i64 (F : Int), .int .i64 (t : Int), .int .i64 ac] 81)).cell? ⟨wr.heap.size, 0, none⟩ = some (.int .i64 (F : Int)) ∧ (wr.alloc (Obj.cells #[.int .i64 (F : Int), .int .i64 (t : Int), .int .i64 ac] 81)).cell? ⟨wr.heap.size, 1, none⟩ = some (.int .i64 (t : Int))) := ⟨box_cell _ _ _ 0 _ rfl, box_cell _ _ _ 1 _ rfl⟩
              clear hcc he hC hbe
              go_upto_region 21 with (fail)
              clear g1 g2 g3
              generalize wr.alloc (Obj.cells #[.int .i64 (F : Int), .int .i64 (t : Int), .int .i64 ac] 81) = w5 at *
              generalize wr.heap.size = ed at *
              have ce0 := HED.out.1; have ce1 := HED.out.2
              have hFm : F < m.length := by have := HF.out.len; have := HN1.out; omega
              have htm : t < m.length := by have := HF.out.len; have := HN1.out; omega
              obtain ⟨a2, c2', e2', -, hmc⟩ := HC.out.m
              injection e2' with e2a _ e2b
              subst e2a e2b
              obtain ⟨bm, om, f2, gF⟩ := hmc F hFm
              subst f2
              obtain ⟨bm', om', f3, gt⟩ := hmc t htm
              injection f3 with f3
              injection f3 with f3 f4 _
              subst f3 f4
              have hu := HF.out.rng _ (gi_mem hFm)
              have HUG : Hid (gi m F = gi m F) := rfl
              generalize hug : gi m F = u at gF hu HUG
              obtain ⟨U, rfl⟩ : ∃ U : Nat, u = (U : Int) := ⟨u.toNat, by omega⟩
              have hUN : U < N2 := by have := HN2.out; omega
              obtain ⟨i1', e1', i2', e2', l1', l2', c1', d1', c2', d2', k1', k2', TL, TU, hp, -, -, -, -, -, -, -, hUP⟩ := HC.out.x.ex
              have q9 := hp.q9
              obtain ⟨ar, cr, hrow, hrm, hrc⟩ := hUP U hUN
              have HRI : Hid (IntsAt w5 (.slice ar (upRow p U).length cr) (upRow p U)) := ⟨_, _, rfl, hrm, hrc⟩
              have hnn := HNN.out; have hns := HNS.out
              rcases HC.out.p F hF with ⟨hno, hct⟩ | ⟨l, g, c, hno, hge, hct, hIl⟩
              · have HLK : Hid (o (ge p.lo.edges k).f.toNat ≠ none → gi m (ge p.lo.edges k).t.toNat ∈ upRow p (gi m (ge p.lo.edges k).f.toNat).toNat) := fun h => absurd hno (by rw [HGE.out] at h; simpa using h)
                clear hno hp hUP hrm hrc hmc hu hug
                go_wp2_with fail
                go_quiet (fail)
                go_wp2
                exact ⟨⟨k + 1, by omega, by go_num, HC.out.later (below_drewN (Below.refl _ _) _), fun j hj => (by rcases Nat.lt_succ_iff_lt_or_eq.1 hj with h | h; exact hall.out j h; rw [h]; exact HLK.out)⟩, by simp [intOf]; omega⟩
              · have HNO := Lib.hid hno; have HIL := Lib.hid hIl; have HUG2 := Lib.hid hug
                clear hno hp hUP hrm hrc hmc hu hug hIl
                by_cases hin : gi m t ∈ upRow p U
                · have hd : decide (gi m t ∈ upRow p U) = true := decide_eq_true hin
                  have HLK : Hid (o (ge p.lo.edges k).f.toNat ≠ none → gi m (ge p.lo.edges k).t.toNat ∈ upRow p (gi m (ge p.lo.edges k).f.toNat).toNat) := fun _ => by rw [HGE.out]; simpa [HUG2.out] using hin
                  have HD := Lib.hid hd
                  clear hin hd
                  go_wp2_with fail
                  go_quiet ((go_at_call 40; exact Calls.quiet_of_same (contains_is HD.out _ (HRI.out.drew _))))
                  go_wp2
                  exact ⟨⟨k + 1, by omega, by go_num, HC.out.later (below_drewN (Below.refl _ _) _), fun j hj => (by rcases Nat.lt_succ_iff_lt_or_eq.1 hj with h | h; exact hall.out j h; rw [h]; exact HLK.out)⟩, by simp [intOf]; omega⟩
                · have hd : decide (gi m t ∈ upRow p U) = false := decide_eq_false hin
                  have HD := Lib.hid hd
                  have HNM : Hid (¬ MapOk p m o) := fun h => hin (by
                    have := h.step k hlt (by rw [HGE.out]; show o ((F : Int)).toNat ≠ none; rw [Int.toNat_natCast, HNO.out]; simp)
                    rw [HGE.out] at this
                    simpa [HUG2.out] using this)
                  have r0 := HC.out.r0; have r1 := HC.out.r1; have r2 := HC.out.r2; have f0 := HC.out.rf 0; have f1 := HC.out.rf 1; have f2 := HC.out.rf 2
                  clear hin hd
                  go_wp2_with fail
                  go_quiet ((go_at_call 40; exact Calls.quiet_of_same (contains_is HD.out _ (HRI.out.drew _))))
                  go_wp2
                  have HBIG : Hid (w.heap.size + 1 ≠ g) := by unfold Hid; omega
                  refine bodyPost_ret (v := .tuple #[.agg #[.int .i64 2, .int .i64 (k : Int), .slice (some ⟨g, 0, none⟩) l.length c], .int .i64 31]) (by simp [results, Try.results16, go_sem, r0, r1, r2]) rfl ⟨2, k, 31, l, _, c, ip, rfl, HIP.out, .inr (.inr ⟨rfl, by decide, by rw [HO.out]; exact ⟨HALL.out, HNM.out⟩⟩), ?_, ?_⟩
                  · repeat (refine ints_set ?_ HBIG.out _)
                    exact HIL.out.later (below_drewN (Below.refl _ _) _)
                  · repeat (refine Below.setCell ?_ (Nat.le_succ _) _)
                    exact below_drewN HC.out.b.bw _
            · have hkk : k = p.lo.edges.length := by omega
              subst hkk
              have HMO : Hid (MapOk p m o) := ⟨HALL.out, HIN.out, hall.out⟩
              have r0 := hC.r0; have r1 := hC.r1; have r2 := hC.r2; have f0 := hC.rf 0; have f1 := hC.rf 1; have f2 := hC.rf 2
              have HC := Lib.hid hC
              clear hC
              go_wp2
              refine bodyPost_ret (v := .tuple #[.agg #[.int .i64 0, .int .i64 0, .slice none 0 0], .int .i64 0]) (by simp [results, Try.results16, go_sem, r0, r1, r2]) rfl ⟨0, 0, 0, [], none, 0, ip, rfl, HIP.out, .inl ⟨rfl, by rw [HO.out]; exact HMO.out⟩, ⟨_, _, rfl, Nat.zero_le _, fun i hi => by simp at hi⟩, ?_⟩
              repeat (refine Below.setCell ?_ (Nat.le_succ _) _)
              exact HC.out.b.bw
end Go.Proofs.Ytciopdlmjciieaa
