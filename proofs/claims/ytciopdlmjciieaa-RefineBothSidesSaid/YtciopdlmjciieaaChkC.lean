import Derived.Test.YtciopdlmjciieaaChkA
import Derived.Test.YtciopdlmjciieaaCheckP
import Derived.Test.YtciopdlmjciieaaPairO
import Derived.Deep.RegionHeld3
import Derived.Carry
namespace Go.Proofs.Ytciopdlmjciieaa
open Go.RowKit
set_option linter.unusedVariables false
set_option linter.unusedSimpArgs false

set_option maxHeartbeats 800000 in
set_option maxRecDepth 100000 in
/-- Does a step lead to a pair that is not known to be in no simulation? -/
theorem stepto_any (S : Nat → Nat → Option Int) (b n t bR bT bm : Nat) (rank : Int) (l : List Int) (w : World) (hR : w.cell? ⟨bR, 0, none⟩ = some (.map (some b))) (hM : RkM w b n S) (hT : w.cell? ⟨bT, 0, none⟩ = some (.int .i64 (t : Int))) (hm : w.cell? ⟨bm, 2, none⟩ = some (.int .i64 rank)) (ht : t ≤ 100)
    (hr : ∀ v ∈ l, (0 ≤ v ∧ v ≤ 100) ∧ ∃ r, S t v.toNat = some r ∧ r < rank) :
    Asks 56 #[.pointer (some ⟨bR, 0, none⟩), .pointer (some ⟨bT, 0, none⟩), .pointer (some ⟨bm, 0, none⟩)] (fun _ => false) l w := by
  intro q j hj
  show Calls Try.prog 56 #[Value.int .i64 (gi l j), .pointer (some ⟨bR, 0, none⟩), .pointer (some ⟨bT, 0, none⟩), .pointer (some ⟨bm, 0, none⟩)] _ _
  obtain ⟨hx, r, hS, hlt⟩ := hr _ (gi_mem hj)
  generalize gi l j = x at *
  obtain ⟨v, rfl⟩ : ∃ v : Nat, x = (v : Int) := ⟨x.toNat, by omega⟩
  rw [Int.toNat_natCast] at hS
  have hrun := (hM.later (below_drewN (Below.refl _ _) q)).look ht (show v ≤ 100 by omega)
  dsimp only [kP] at hrun
  rw [hS] at hrun
  simp only [Option.getD_some, Option.isSome_some] at hrun
  have hRd : (w.drewN q).cell? ⟨bR, 0, none⟩ = some (.map (some b)) := by simpa using hR
  have hTd : (w.drewN q).cell? ⟨bT, 0, none⟩ = some (.int .i64 (t : Int)) := by simpa using hT
  have hmd : (w.drewN q).cell? ⟨bm, 2, none⟩ = some (.int .i64 rank) := by simpa using hm
  have hn : ¬ (rank ≤ r) := by omega
  have hd : decide (rank ≤ r) = false := decide_eq_false hn
  clear hR hM hT hr hx ht hm hS hlt
  generalize w.drewN q = W at *
  go_enter Try.func56, Try.ntmps56
  go_wp2
  go_ret
  exact ⟨rfl, 0, rfl⟩
/-- A move in a box of a call's own. -/
abbrev vM (x : Mv) : Value := .agg #[.int .i64 x.low, .int .i64 x.up, .int .i64 x.rank, .int .i64 x.step]

set_option maxHeartbeats 8000000 in
set_option maxRecDepth 100000 in
/-- A move that is explained. -/
theorem expl_any (p : P2) (N1 N2 px b n : Nat) (L : List Mv) (ρ : Nat → Nat → Int) (S : Nat → Nat → Option Int) (x : Mv) (w : World) (hok : PairFull p) (hP : PairX w px p N1 N2) (hM : RkM w b n S) (hL : RkOk p N1 N2 L ρ) (hx : x ∈ L)
    (hS : ∀ t v : Nat, (∃ y ∈ L, y.low = t ∧ y.up = v) → S t v = some (ρ t v)) :
    Calls Try.prog 36 #[.pointer (some ⟨px, 0, none⟩), vM x, .map (some b)] w fun e w' => e = .returned (.bool true) ∧ Below w.heap.size w w' := by
  obtain ⟨s, u, hs, hu, h1, h2, hr, h0, -⟩ := hL.row x hx
  have hwhy := hL.why x hx
  obtain ⟨low, up, rank, step⟩ := x
  dsimp only at h1 h2 hr h0 hwhy
  subst h1 h2
  clear hr h0
  dsimp only [vM]
  have HOK := Lib.hid hok; have HP := Lib.hid hP; have HM := Lib.hid hM
  have hN1 := hP.n1; have hN2 := hP.n2
  have hwb : Below w.heap.size w ((w.alloc (Obj.cells #[.int .i64 (s : Int), .int .i64 (u : Int), .int .i64 rank, .int .i64 step] 44)).alloc (Obj.cells #[.map (some b)] 75)) := ((Below.refl _ _).alloc (Nat.le_refl _) _).alloc (by simp) _
  have hc : Hid (∀ i v, #[Value.int .i64 (s : Int), .int .i64 (u : Int), .int .i64 rank, .int .i64 step][i]? = some v → ((w.alloc (Obj.cells #[.int .i64 (s : Int), .int .i64 (u : Int), .int .i64 rank, .int .i64 step] 44)).alloc (Obj.cells #[.map (some b)] 75)).cell? ⟨w.heap.size, i, none⟩ = some v) := fun i v h =>
    Below.keeps ((Below.refl _ _).alloc (Nat.le_refl _) _) (box_cell w #[Value.int .i64 (s : Int), .int .i64 (u : Int), .int .i64 rank, .int .i64 step] 44 i v h) (Nat.le_refl _)
  have hcm : Hid (((w.alloc (Obj.cells #[.int .i64 (s : Int), .int .i64 (u : Int), .int .i64 rank, .int .i64 step] 44)).alloc (Obj.cells #[.map (some b)] 75)).cell? ⟨w.heap.size + 1, 0, none⟩ = some (.map (some b))) := by
    have := box_cell (w.alloc (Obj.cells #[.int .i64 (s : Int), .int .i64 (u : Int), .int .i64 rank, .int .i64 step] 44)) #[.map (some b)] 75 0 _ rfl
    rwa [show (w.alloc (Obj.cells #[.int .i64 (s : Int), .int .i64 (u : Int), .int .i64 rank, .int .i64 step] 44)).heap.size = w.heap.size + 1 by simp] at this
  have HB := Lib.hid hwb
  replace HP := Lib.hid (HP.out.later hwb); replace HM := Lib.hid (HM.out.later hwb)
  clear hP hM hwb hok
  go_enter Try.func36, Try.ntmps36
  go_upto_region 1 with (fail)
  generalize (w.alloc (Obj.cells #[.int .i64 (s : Int), .int .i64 (u : Int), .int .i64 rank, .int .i64 step] 44)).alloc (Obj.cells #[.map (some b)] 75) = W at *
  have m0 := hc.out 0 _ rfl; have m1 := hc.out 1 _ rfl; have m2 := hc.out 2 _ rfl; have m3 := hc.out 3 _ rfl
  generalize w.heap.size + 1 = bR at *
  obtain ⟨bm, hbm⟩ : ∃ bm, bm = w.heap.size := ⟨_, rfl⟩
  rw [← hbm] at m0 m1 m2 m3 ⊢
  have HBM := Lib.hid hbm
  clear hbm hc
  obtain ⟨i1, e1, i2, e2, l1, l2, c1, d1, c2, d2, k1, k2, TL, TU, hp, -, hE, -, -, hl5, hl6, -, hUP⟩ := HP.out.ex
  have q2 := hp.q2; have q6 := hp.q6; have q7 := hp.q7; have q9 := hp.q9
  clear hp
  have hs0 : (s : Int) < (N1 : Int) := by omega
  have hu0 : (u : Int) < (N2 : Int) := by omega
  have hs1 : (0 : Int) ≤ (s : Int) := by omega
  have hu1 : (0 : Int) ≤ (u : Int) := by omega
  rcases hwhy with ⟨rfl, hlab, rfl⟩ | ⟨hpos, i, hi, rfl, hef, hv⟩
  · rw [Int.toNat_natCast, Int.toNat_natCast] at hlab
    have hll : p.ll.length = N1 := by have := HOK.out.ll; omega
    have hul : p.ul.length = N2 := by have := HOK.out.ul; omega
    rw [hll] at q6
    rw [hul] at q7
    obtain ⟨b5, o5, g5, v5⟩ := hl5 s (by omega)
    obtain ⟨b6, o6, g6, v6⟩ := hl6 u (by omega)
    subst g5 g6
    generalize gi p.ll s = xa at *
    generalize gi p.ul u = xb at *
    have hq : (xa != xb) = true := by simpa using hlab
    have HW : Hid (Below w.heap.size w W) := HB.out
    clear hl5 hl6 hUP hE hll hul hlab q2 q9 hN1 hN2 hs hu HP HM hL hx hS HOK
    go_wp2_with fail
    go_quiet (fail)
    go_wp2
    go_ret
    exact ⟨rfl, below_drewN HW.out _⟩
  · obtain ⟨be, oe, g1, ef, et, -⟩ := hE i hi
    subst g1
    rw [hef] at ef
    have hEO := HOK.out.lo.2.2.2 i hi
    have ht0 : 0 ≤ (ge p.lo.edges i).t := hEO.1.2.1
    have ht1 : (ge p.lo.edges i).t < p.lo.n := hEO.2.1.2
    obtain ⟨t, htt⟩ : ∃ t : Nat, (ge p.lo.edges i).t = (t : Int) := ⟨(ge p.lo.edges i).t.toNat, by omega⟩
    rw [htt] at et hv ht1
    rw [Int.toNat_natCast] at hv
    obtain ⟨ar, cr, hrow, hrm, hrc⟩ := hUP u hu
    have HRI : Hid (IntsAt W (.slice ar (upRow p u).length cr) (upRow p u)) := ⟨_, _, rfl, hrm, hrc⟩
    have HVV : Hid (∀ v ∈ upRow p u, (0 ≤ v ∧ v ≤ 100) ∧ ∃ r, S t v.toNat = some r ∧ r < rank) := fun v hvm => by
      have hvl := upRow_lt HOK.out.toPairOk hN2 hu v hvm
      have h40 := HOK.out.u40
      obtain ⟨⟨y, hy, hy1, hy2⟩, hlt⟩ := hv v hvm
      rw [Int.toNat_natCast] at hlt
      refine ⟨⟨hvl.1, by omega⟩, ρ t v.toNat, hS t v.toNat ⟨y, hy, hy1, by rw [hy2]; omega⟩, hlt⟩
    have HT : Hid (t ≤ 100) := by unfold Hid; have := HOK.out.l40; omega
    have hr0 : (rank == 0) = false := by simpa using (by omega : rank ≠ 0)
    have hi0 : ¬ ((i : Int) < 0) := by omega
    have hi1 : ¬ ((p.lo.edges.length : Int) ≤ (i : Int)) := by omega
    have hi2 : (0 : Int) ≤ (i : Int) := by omega
    have hi3 : (i : Int) < (p.lo.edges.length : Int) := by omega
    have hi4 : ¬ (p.lo.edges.length ≤ i) := by omega
    have hi5 : i < p.lo.edges.length := hi
    have hq : ((s : Int) != (s : Int)) = false := by simp
    have HW : Hid (Below w.heap.size w W) := HB.out
    have HK : Hid (∀ X, Below W.heap.size W X → X.cell? ⟨bm, 0, none⟩ = some (.int .i64 (s : Int)) ∧ X.cell? ⟨bm, 1, none⟩ = some (.int .i64 (u : Int)) ∧ X.cell? ⟨bm, 2, none⟩ = some (.int .i64 rank) ∧ X.cell? ⟨bm, 3, none⟩ = some (.int .i64 (i : Int)) ∧ X.cell? ⟨bR, 0, none⟩ = some (.map (some b)) ∧ X.cell? ⟨px, 2, none⟩ = some (.slice (some ⟨be, oe, none⟩) p.lo.edges.length d1) ∧ X.cell? ⟨px, 9, none⟩ = some (.slice (some ⟨TU, 0, none⟩) N2 N2) ∧ X.cell? ⟨be, oe + i * 3 + 1, none⟩ = some (.int .i64 (t : Int)) ∧ X.cell? ⟨TU, u, none⟩ = some (.slice ar (upRow p u).length cr)) := fun X hb =>
      ⟨Below.keeps hb m0 (Nat.le_refl _), Below.keeps hb m1 (Nat.le_refl _), Below.keeps hb m2 (Nat.le_refl _), Below.keeps hb m3 (Nat.le_refl _), Below.keeps hb hcm.out (Nat.le_refl _), Below.keeps hb q2 (Nat.le_refl _), Below.keeps hb q9 (Nat.le_refl _), Below.keeps hb et (Nat.le_refl _), Below.keeps hb hrow (Nat.le_refl _)⟩
    clear hl5 hl6 hUP hE hef hEO ht0 ht1 htt hrow hrm hrc q6 q7 hv hS hL hx hpos HOK HB hN1 hN2 hcm
    generalize hnl : p.lo.edges.length = nl at *
    generalize hnr : (upRow p u).length = nr at *
    go_wp2_with fail
    go_quiet (fail)
    have hbq : Below W.heap.size W (W.drewN nq) := below_drewN (Below.refl _ _) _
    have HQ := Lib.hid hbq
    clear hbq m0 m1 m2 m3 q2 q9 ef et
    generalize W.drewN nq = W1 at *
    go_wp2_with fail
    refine wp_region_held_drew (S := fun X => Below W1.heap.size W1 X) (by kernel_rfl) (Below.refl _ _).drew (fun hHeld => ?_)
    refine wpAnyH_take (i := 0) (oi := ⟨_, _, _, _, _, _⟩) (v := ?vm0) rfl (by kernel_rfl) (by kernel_rfl) (by kernel_rfl) (fun _ _ _ h => h) (Or.inl ⟨by rfl, ?hym0⟩) (by assumption) ?restm0
    case hym0 => (intro w hSw; obtain ⟨f1, f2, f3, f4, f5, f6, f7, f8, f9⟩ := HK.out w (HQ.out.trans (hSw.mono HQ.out.size)); go_simp <;> with_reducible rfl)
    try simp only [Act.put, List.setIfInBounds_toArray, List.set_cons_zero, List.set_cons_succ]
    refine wpAnyH_take (i := 1) (oi := ⟨_, _, _, _, _, _⟩) (v := ?vm1) rfl (by kernel_rfl) (by kernel_rfl) (by kernel_rfl) (fun _ _ _ h => h) (Or.inl ⟨by rfl, ?hym1⟩) (by assumption) ?restm1
    case hym1 => (intro w hSw; obtain ⟨f1, f2, f3, f4, f5, f6, f7, f8, f9⟩ := HK.out w (HQ.out.trans (hSw.mono HQ.out.size)); go_simp <;> with_reducible rfl)
    try simp only [Act.put, List.setIfInBounds_toArray, List.set_cons_zero, List.set_cons_succ]
    refine wpAnyH_take (i := 2) (oi := ⟨_, _, _, _, _, _⟩) (v := ?vm2) rfl (by kernel_rfl) (by kernel_rfl) (by kernel_rfl) (fun _ _ _ h => h) (Or.inl ⟨by rfl, ?hym2⟩) (by assumption) ?restm2
    case hym2 => (intro w hSw; obtain ⟨f1, f2, f3, f4, f5, f6, f7, f8, f9⟩ := HK.out w (HQ.out.trans (hSw.mono HQ.out.size)); go_simp <;> with_reducible rfl)
    try simp only [Act.put, List.setIfInBounds_toArray, List.set_cons_zero, List.set_cons_succ]
    refine wpAnyH_take (i := 3) (oi := ⟨_, _, _, _, _, _⟩) (v := ?vm3) rfl (by kernel_rfl) (by kernel_rfl) (by kernel_rfl) (fun _ _ _ h => h) (Or.inl ⟨by rfl, ?hym3⟩) (by assumption) ?restm3
    case hym3 => (intro w hSw; obtain ⟨f1, f2, f3, f4, f5, f6, f7, f8, f9⟩ := HK.out w (HQ.out.trans (hSw.mono HQ.out.size)); go_simp <;> with_reducible rfl)
    try simp only [Act.put, List.setIfInBounds_toArray, List.set_cons_zero, List.set_cons_succ]
    refine wpAnyH_take (i := 4) (oi := ⟨_, _, _, _, _, _⟩) (v := ?vm4) rfl (by kernel_rfl) (by kernel_rfl) (by kernel_rfl) (fun _ _ _ h => h) (Or.inl ⟨by rfl, ?hym4⟩) (by assumption) ?restm4
    case hym4 => (intro w hSw; obtain ⟨f1, f2, f3, f4, f5, f6, f7, f8, f9⟩ := HK.out w (HQ.out.trans (hSw.mono HQ.out.size)); go_simp <;> with_reducible rfl)
    try simp only [Act.put, List.setIfInBounds_toArray, List.set_cons_zero, List.set_cons_succ]
    refine wpAnyH_take (i := 5) (oi := ⟨_, _, _, _, _, _⟩) (v := ?vm5) rfl (by kernel_rfl) (by kernel_rfl) (by kernel_rfl) (fun _ _ _ h => h) (Or.inl ⟨by rfl, ?hym5⟩) (by assumption) ?restm5
    case hym5 => (intro w hSw; obtain ⟨f1, f2, f3, f4, f5, f6, f7, f8, f9⟩ := HK.out w (HQ.out.trans (hSw.mono HQ.out.size)); go_simp <;> with_reducible rfl)
    try simp only [Act.put, List.setIfInBounds_toArray, List.set_cons_zero, List.set_cons_succ]
    refine wpAnyH_take (i := 6) (oi := ⟨_, _, _, _, _, _⟩) (v := ?vm6) rfl (by kernel_rfl) (by kernel_rfl) (by kernel_rfl) (fun _ _ _ h => h) (Or.inl ⟨by rfl, ?hym6⟩) (by assumption) ?restm6
    case hym6 => (intro w hSw; obtain ⟨f1, f2, f3, f4, f5, f6, f7, f8, f9⟩ := HK.out w (HQ.out.trans (hSw.mono HQ.out.size)); go_simp <;> with_reducible rfl)
    try simp only [Act.put, List.setIfInBounds_toArray, List.set_cons_zero, List.set_cons_succ]
    refine wpAnyH_take (i := 7) (oi := ⟨_, _, _, _, _, _⟩) (v := ?vm7) rfl (by kernel_rfl) (by kernel_rfl) (by kernel_rfl) (fun _ _ _ h => h) (Or.inl ⟨by rfl, ?hym7⟩) (by assumption) ?restm7
    case hym7 => (intro w hSw; obtain ⟨f1, f2, f3, f4, f5, f6, f7, f8, f9⟩ := HK.out w (HQ.out.trans (hSw.mono HQ.out.size)); go_simp <;> with_reducible rfl)
    try simp only [Act.put, List.setIfInBounds_toArray, List.set_cons_zero, List.set_cons_succ]
    refine wpAnyH_take (i := 8) (oi := ⟨_, _, _, _, _, _⟩) (v := ?vm8) rfl (by kernel_rfl) (by kernel_rfl) (by kernel_rfl) (fun _ _ _ h => h) (Or.inl ⟨by rfl, ?hym8⟩) (by assumption) ?restm8
    case hym8 => (intro w hSw; obtain ⟨f1, f2, f3, f4, f5, f6, f7, f8, f9⟩ := HK.out w (HQ.out.trans (hSw.mono HQ.out.size)); go_simp <;> with_reducible rfl)
    try simp only [Act.put, List.setIfInBounds_toArray, List.set_cons_zero, List.set_cons_succ]
    refine wpAnyH_take (i := 9) (oi := ⟨_, _, _, _, _, _⟩) (v := ?vm9) rfl (by kernel_rfl) (by kernel_rfl) (by kernel_rfl) (fun _ _ _ h => h) (Or.inl ⟨by rfl, ?hym9⟩) (by assumption) ?restm9
    case hym9 => (intro w hSw; obtain ⟨f1, f2, f3, f4, f5, f6, f7, f8, f9⟩ := HK.out w (HQ.out.trans (hSw.mono HQ.out.size)); go_simp <;> with_reducible rfl)
    try simp only [Act.put, List.setIfInBounds_toArray, List.set_cons_zero, List.set_cons_succ]
    refine wpAnyH_take (i := 10) (oi := ⟨_, _, _, _, _, _⟩) (v := ?vm10) rfl (by kernel_rfl) (by kernel_rfl) (by kernel_rfl) (fun _ _ _ h => h) (Or.inl ⟨by rfl, ?hym10⟩) (by assumption) ?restm10
    case hym10 => (intro w hSw; obtain ⟨f1, f2, f3, f4, f5, f6, f7, f8, f9⟩ := HK.out w (HQ.out.trans (hSw.mono HQ.out.size)); go_simp <;> with_reducible rfl)
    try simp only [Act.put, List.setIfInBounds_toArray, List.set_cons_zero, List.set_cons_succ]
    refine wpAnyH_ready (rs := [11]) (by kernel_rfl) (by simp) ?_
    refine AllReadyH.cons (o := ⟨_, _, _, _, _, _⟩) rfl (fun K hK => ?_) AllReadyH.nil
    go_simp
    refine hK.out _ _ ((Below.refl _ _).drew.alloc (by simp) _) (fun hHeld2 => ?_)
    clear hK K
    try simp only [Act.put, List.setIfInBounds_toArray, List.set_cons_zero, List.set_cons_succ]
    refine wpAnyH_ready (rs := [12]) (by kernel_rfl) (by simp) ?_
    refine AllReadyH.cons (o := ⟨_, _, _, _, _, _⟩) rfl (fun K hK => ?_) AllReadyH.nil
    go_simp
    refine hK.out _ _ (((Below.refl _ _).alloc (Nat.le_refl _) _).drew) (fun hHeld2 => ?_)
    clear hK K
    try simp only [Act.put, List.setIfInBounds_toArray, List.set_cons_zero, List.set_cons_succ]
    refine wpAnyH_done (by kernel_rfl) ?_ _
    have hb3 : Below W1.heap.size W1 (W1.alloc (Obj.cells #[.int .i64 (t : Int)] 3)).drew := ((Below.refl _ _).alloc (Nat.le_refl _) _).drew
    have tc : (W1.alloc (Obj.cells #[.int .i64 (t : Int)] 3)).drew.cell? ⟨W1.heap.size, 0, none⟩ = some (.int .i64 (t : Int)) := by rw [World.cell?_drew]; exact box_cell _ _ _ 0 _ rfl
    have HQ3 : Hid (Below W.heap.size W (W1.alloc (Obj.cells #[.int .i64 (t : Int)] 3)).drew) := HQ.out.trans (hb3.mono HQ.out.size)
    clear hb3 hHeld hHeld2
    generalize (W1.alloc (Obj.cells #[.int .i64 (t : Int)] 3)).drew = W3 at *
    generalize W1.heap.size = bT at *
    obtain ⟨f1, f2, f3, f4, f5, f6, f7, f8, f9⟩ := HK.out W3 HQ3.out
    have HCC : Hid (W3.cell? ⟨bR, 0, none⟩ = some (.map (some b)) ∧ W3.cell? ⟨bT, 0, none⟩ = some (.int .i64 (t : Int)) ∧ W3.cell? ⟨bm, 2, none⟩ = some (.int .i64 rank)) := ⟨f5, tc, f3⟩
    have HR3 : Hid (IntsAt W3 (.slice ar nr cr) (upRow p u)) := by rw [← hnr]; unfold Hid; rw [hnr]; exact HRI.out.later HQ3.out
    have HM3 := Lib.hid (HM.out.later HQ3.out)
    clear f1 f3 f4 f5 f6 f8 tc HQ HK HRI HM
    go_wp2_with fail
    go_quiet ((go_at_call 34; exact Calls.quiet_of (containsF_any 56 _ (fun _ => false) (fun _ _ => rfl) (upRow p u) _ _ (HR3.out.later (below_drewN (Below.refl _ _) _)) (stepto_any S b n t bR bT bm rank _ _ (by simpa using HCC.out.1) (HM3.out.later (below_drewN (Below.refl _ _) _)) (by simpa using HCC.out.2.1) (by simpa using HCC.out.2.2) HT.out HVV.out))))
    have HAF : Hid (anyP (fun _ => false) (upRow p u) = false) := anyP_no fun _ _ => rfl
    have HAN : Hid ((!anyP (fun _ => false) (upRow p u)) = true) := by unfold Hid; rw [HAF.out]; rfl
    go_wp2
    go_ret
    exact ⟨ret_bool HAN.out, below_drewN (HW.out.trans (HQ3.out.mono HW.out.size)) _⟩
end Go.Proofs.Ytciopdlmjciieaa
