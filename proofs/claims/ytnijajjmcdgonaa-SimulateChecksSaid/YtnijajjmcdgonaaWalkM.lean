import Derived.Test.YtnijajjmcdgonaaWalkL
import Derived.Test.YtnijajjmcdgonaaWalkF
import Derived.Test.YtnijajjmcdgonaaWalkH
import Derived.Deep.RegionHeld3
namespace Go.Proofs.Ytnijajjmcdgonaa
open Go.RowKit
set_option linter.unusedVariables false

theorem exG_ok : graphOk exG := by
  refine ⟨by decide, by decide, ?_, ?_⟩
  · intro k hk
    have : k = 0 := by simp [exG] at hk; omega
    subst this
    refine ⟨?_, ?_⟩ <;> simp [exG, gi]
  · intro k hk
    have h3 : k < 3 := by simpa [exG] using hk
    match k, h3 with
    | 0, _ => simp [edgeOk, exG, ge]
    | 1, _ => simp [edgeOk, exG, ge, cmpE, cmpI, or3]
    | 2, _ => simp [edgeOk, exG, ge, cmpE, cmpI, or3]
theorem exG_err : gErr exG = 0 := by
  unfold gErr wGraph
  rw [if_pos]
  exact ⟨by simp [exG_ok], by decide⟩

set_option maxHeartbeats 800000 in
set_option maxRecDepth 100000 in
theorem distancesIn_ex (v : Value) (w : World) (hg : GraphAt w v exG) :
    Calls Try.prog 34 #[v] w fun e w' => ∃ v', e = .returned (.tuple #[v', .int .i64 0]) ∧ IntsAt w' v' [0, 1, 1] ∧ Below w.heap.size w w' := by
  have hg' := hg
  obtain ⟨vi, ve, rfl, -, -⟩ := hg
  go_enter Try.func34, Try.ntmps34
  go_wp2_with fail
  have hb0 : Below w.heap.size w (w.alloc (Obj.cells #[.int .i64 exG.n, vi, ve] 34)) := (Below.refl _ _).alloc (Nat.le_refl _) _
  refine (checkGraph_any exG _ _ (hg'.later hb0)).mono ?_
  rw [exG_err]
  rintro e w1 ⟨rfl, hb1⟩
  have c0 : w1.cell? ⟨w.heap.size, 0, none⟩ = some (.int .i64 exG.n) := Below.keeps hb1 (World.cell?_alloc_at _ _ _ _ rfl) (by simp)
  have c1 : w1.cell? ⟨w.heap.size, 1, none⟩ = some vi := Below.keeps hb1 (World.cell?_alloc_at _ _ _ _ rfl) (by simp)
  have c2 : w1.cell? ⟨w.heap.size, 2, none⟩ = some ve := Below.keeps hb1 (World.cell?_alloc_at _ _ _ _ rfl) (by simp)
  have hb2 := hb0.trans (hb1.mono (by simp))
  clear hb0 hb1
  go_wp2_with fail
  refine (distances_ex _ _ (hg'.later hb2)).mono ?_
  rintro e w2 ⟨v', rfl, hv, hb3⟩
  have hb4 := hb2.trans (hb3.mono hb2.size)
  go_wp2
  go_ret2
  exact ⟨v', rfl, hv, hb4⟩

theorem infoWalk : (Try.prog.info? 39).map (fun i => (i.zero, i.size, i.bytes)) = some (some (.agg #[.int .i64 0, .slice none 0 0, .bool false]), 3, 40) := by kernel_rfl

set_option maxHeartbeats 400000 in
theorem wanted_any (s q : Int) (p : Nat) (t : Int) (w : World) (hp : w.cell? ⟨p, 0, none⟩ = some (.int .i64 t)) :
    Calls Try.prog 53 #[.int .i64 s, .int .i64 q, .pointer (some ⟨p, 0, none⟩)] w fun e w' => e = .returned (.bool (q == t)) ∧ w' = w := by
  go_enter Try.func53, Try.ntmps53
  go_wp2
  go_ret
  exact ⟨rfl, rfl⟩

set_option maxHeartbeats 400000 in
theorem clone_nil (w : World) : Calls Try.prog 61 #[.slice none 0 0] w fun e w' => e = .returned (.slice none 0 0) ∧ w = w' := by
  have he := Lib.run_eql_slice_nil (P := Try.prog) w 23 3 none 0 0 0 0 Try.underlying23
  go_enter Try.func61, Try.ntmps61
  go_wp2
  go_ret
  exact ⟨rfl, rfl⟩

theorem app_cell (W : World) (u : Value) (z : Array Value) (t : TypeId) (b : Nat) (h : b = W.heap.size) : (W.alloc (Obj.cells (#[u] ++ z) t)).cell? ⟨b, 0, none⟩ = some u := by
  rw [World.cell?_alloc_at _ _ _ _ h]; exact (Array.getElem?_append_left (by simp)).trans rfl

/-- What least keeps of its own in memory. -/
structure LS (w wr : World) (ve : Value) (b0 b1 b2 : Bool) : Prop where
  g2 : wr.cell? ⟨w.heap.size, 2, none⟩ = some ve
  r0 : wr.cell? ⟨w.heap.size + 1, 0, none⟩ = some (.int .i64 0)
  r1 : wr.cell? ⟨w.heap.size + 1, 1, none⟩ = some (.slice none 0 0)
  r2 : wr.cell? ⟨w.heap.size + 1, 2, none⟩ = some (.bool false)
  rf : ∀ i, wr.frozen? ⟨w.heap.size + 1, i, none⟩ = false
  s0 : wr.cell? ⟨w.heap.size + 1 + 1, 0, none⟩ = some (.bool b0)
  s1 : wr.cell? ⟨w.heap.size + 1 + 1, 1, none⟩ = some (.bool b1)
  s2 : wr.cell? ⟨w.heap.size + 1 + 1, 2, none⟩ = some (.bool b2)
  sf : ∀ i, wr.frozen? ⟨w.heap.size + 1 + 1, i, none⟩ = false
  bw : Below w.heap.size w wr
theorem LS.lt {w wr : World} {ve : Value} {b0 b1 b2 : Bool} (h : LS w wr ve b0 b1 b2) : w.heap.size + 1 + 1 < wr.heap.size := cell_lt h.s0
theorem LS.later {w wr wr' : World} {ve : Value} {b0 b1 b2 : Bool} (h : LS w wr ve b0 b1 b2) (hb : Below wr.heap.size wr wr') : LS w wr' ve b0 b1 b2 :=
  ⟨Below.keeps hb h.g2 (Nat.le_refl _), Below.keeps hb h.r0 (Nat.le_refl _), Below.keeps hb h.r1 (Nat.le_refl _), Below.keeps hb h.r2 (Nat.le_refl _),
    fun i => Below.keepsF hb (h.rf i) (by have := cell_lt h.r0; exact this),
    Below.keeps hb h.s0 (Nat.le_refl _), Below.keeps hb h.s1 (Nat.le_refl _), Below.keeps hb h.s2 (Nat.le_refl _),
    fun i => Below.keepsF hb (h.sf i) (by have := cell_lt h.s0; exact this), h.bw.trans (hb.mono h.bw.size)⟩

theorem LS.other {w wr : World} {ve : Value} {b0 b1 b2 : Bool} (h : LS w wr ve b0 b1 b2) {a : Addr} (ha : w.heap.size + 1 + 1 < a.block) (u : Value) : LS w (wr.setCell a u) ve b0 b1 b2 := by
  have hk : ∀ b o v, b ≤ w.heap.size + 1 + 1 → wr.cell? ⟨b, o, none⟩ = some v → (wr.setCell a u).cell? ⟨b, o, none⟩ = some v := fun b o v hb hc =>
    (World.cell?_setCell_other _ _ _ _ (by intro h; subst h; simp at ha; omega)).trans hc
  exact ⟨hk _ _ _ (by omega) h.g2, hk _ _ _ (by omega) h.r0, hk _ _ _ (by omega) h.r1, hk _ _ _ (by omega) h.r2, fun i => by simpa using h.rf i,
    hk _ _ _ (by omega) h.s0, hk _ _ _ (by omega) h.s1, hk _ _ _ (by omega) h.s2, fun i => by simpa using h.sf i, h.bw.setCell (by omega) _⟩
theorem LS.see {w wr : World} {ve : Value} {b0 b1 b2 : Bool} (h : LS w wr ve b0 b1 b2) (k : Nat) (hk : k < 3) : LS w (wr.setCell ⟨w.heap.size + 1 + 1, k, none⟩ (.bool true)) ve (b0 || decide (k = 0)) (b1 || decide (k = 1)) (b2 || decide (k = 2)) := by
  have hq : ∀ b o v, b ≤ w.heap.size + 1 → wr.cell? ⟨b, o, none⟩ = some v → (wr.setCell ⟨w.heap.size + 1 + 1, k, none⟩ (.bool true)).cell? ⟨b, o, none⟩ = some v := fun b o v hb hc =>
    (World.cell?_setCell_other _ _ _ _ (by intro h; injection h with h1; omega)).trans hc
  have hs : ∀ j b, wr.cell? ⟨w.heap.size + 1 + 1, j, none⟩ = some (.bool b) → (wr.setCell ⟨w.heap.size + 1 + 1, k, none⟩ (.bool true)).cell? ⟨w.heap.size + 1 + 1, j, none⟩ = some (.bool (b || decide (k = j))) := by
    intro j b hc
    by_cases hkj : k = j
    · subst hkj
      have := h.sf k
      simp only [decide_true, Bool.or_true]
      exact World.cell?_setCell_same _ _ _ hc
    · rw [decide_eq_false hkj, Bool.or_false]
      exact (World.cell?_setCell_other _ _ _ _ (by intro h; injection h with h1 h2; omega)).trans hc
  exact ⟨hq _ _ _ (by omega) h.g2, hq _ _ _ (by omega) h.r0, hq _ _ _ (by omega) h.r1, hq _ _ _ (by omega) h.r2, fun i => by simpa using h.rf i,
    hs _ _ h.s0, hs _ _ h.s1, hs _ _ h.s2, fun i => by simpa using h.sf i, h.bw.setCell (by show w.heap.size ≤ w.heap.size + 1 + 1; omega) _⟩

set_option maxHeartbeats 1600000 in
set_option maxRecDepth 100000 in
theorem least_ex (v vi : Value) (p : Nat) (w : World) (hg : GraphAt w v exG) (hv : IntsAt w vi [0]) (hp : w.cell? ⟨p, 0, none⟩ = some (.int .i64 2)) :
    Calls Try.prog 52 #[v, vi, .func (.func 53) #[] #[.pointer (some ⟨p, 0, none⟩)]] w fun e w' => ∃ v', e = .returned (.tuple #[.agg #[.int .i64 0, v', .bool false], .bool true]) ∧ (∃ g c, v' = .slice (some ⟨g, 0, none⟩) 1 c ∧ w.heap.size ≤ g ∧ w'.cell? ⟨g, 0, none⟩ = some (.int .i64 1)) ∧ Below w.heap.size w w' := by
  obtain ⟨vi', ve, rfl, -, ⟨ae, ce, hve, hme, hce⟩⟩ := hg
  have hve' : ve = .slice ae 3 ce := hve
  subst hve'
  obtain ⟨ai, ci, hvi, -, hci⟩ := hv
  have hvi' : vi = .slice ai 1 ci := hvi
  subst hvi'
  clear hve hme hvi
  obtain ⟨bi, oi, rfl, hi0⟩ := hci 0 (by decide)
  have hi0' : w.cell? ⟨bi, oi, none⟩ = some (.int .i64 0) := hi0
  have hbi : bi < w.heap.size := cell_lt hi0'
  have hpl : p < w.heap.size := cell_lt hp
  clear hi0 hci
  obtain ⟨i0, hi, hz0, hz1, hz2⟩ := info_parts infoInt
  obtain ⟨j0, hj, hy0, hy1, hy2⟩ := info_parts infoWalk
  go_enter Try.func52, Try.ntmps52
  have hmk : ∀ w : World, (Instr.makeSlice 95 (.int .i64 exG.n) (.int .i64 exG.n)).run Try.prog w = .ok (.slice (some ⟨w.heap.size, 0, none⟩) 3 3) (w.alloc (.cells #[.bool false, .bool false, .bool false] 4)) := fun _ => by kernel_rfl
  go_wp2_with fail
  have hL : LS w (((w.alloc (Obj.cells #[.int .i64 exG.n, vi', .slice ae 3 ce] 34)).alloc (Obj.cells #[.int .i64 0, .slice none 0 0, .bool false] 39)).alloc (Obj.cells #[.bool false, .bool false, .bool false] 4)) (.slice ae 3 ce) false false false := by
    refine ⟨?_, ?_, ?_, ?_, ?_, ?_, ?_, ?_, ?_, ?_⟩
    · rw [World.cell?_alloc_past _ _ _ (by simp; omega), World.cell?_alloc_past _ _ _ (by simp), World.cell?_alloc_at _ _ _ _ rfl]; rfl
    · rw [World.cell?_alloc_past _ _ _ (by simp), World.cell?_alloc_at _ _ _ _ (by simp)]; rfl
    · rw [World.cell?_alloc_past _ _ _ (by simp), World.cell?_alloc_at _ _ _ _ (by simp)]; rfl
    · rw [World.cell?_alloc_past _ _ _ (by simp), World.cell?_alloc_at _ _ _ _ (by simp)]; rfl
    · intro i; rw [World.frozen?_alloc_past _ _ _ (by simp)]; exact World.frozen?_alloc_at _ _ _ _ (by simp)
    · rw [World.cell?_alloc_at _ _ _ _ (by simp)]; rfl
    · rw [World.cell?_alloc_at _ _ _ _ (by simp)]; rfl
    · rw [World.cell?_alloc_at _ _ _ _ (by simp)]; rfl
    · intro i; exact World.frozen?_alloc_at _ _ _ _ (by simp)
    · exact (((Below.refl _ _).alloc (Nat.le_refl _) _).alloc (by simp) _).alloc (by simp; omega) _
  generalize (((w.alloc (Obj.cells #[.int .i64 exG.n, vi', .slice ae 3 ce] 34)).alloc (Obj.cells #[.int .i64 0, .slice none 0 0, .bool false] 39)).alloc (Obj.cells #[.bool false, .bool false, .bool false] 4)) = w1 at *
  have hL1 := hL.lt
  refine wp_loop_rounds 2 ?_
  rw [rounds_succ]
  have c0 := Below.keeps hL.bw hi0' (Nat.le_refl _)
  have p1 := Below.keeps hL.bw hp (Nat.le_refl _)
  go_wp2_with fail
  have hbA : Below w1.heap.size w1 (w1.alloc (Obj.cells #[.int .i64 0, .slice none 0 0, .bool false] 39)) := (Below.refl _ _).alloc (Nat.le_refl _) _
  refine (wanted_any _ _ p 2 _ (Below.keeps hbA p1 (Nat.le_refl _))).mono ?_
  rintro e w2 ⟨rfl, rfl⟩
  have x0 : (w1.alloc (Obj.cells #[.int .i64 0, .slice none 0 0, .bool false] 39)).cell? ⟨w1.heap.size, 0, none⟩ = some (.int .i64 0) := World.cell?_alloc_at _ _ _ _ rfl
  have x1 : (w1.alloc (Obj.cells #[.int .i64 0, .slice none 0 0, .bool false] 39)).cell? ⟨w1.heap.size, 1, none⟩ = some (.slice none 0 0) := World.cell?_alloc_at _ _ _ _ rfl
  have x2 : (w1.alloc (Obj.cells #[.int .i64 0, .slice none 0 0, .bool false] 39)).cell? ⟨w1.heap.size, 2, none⟩ = some (.bool false) := World.cell?_alloc_at _ _ _ _ rfl
  replace hL := hL.later hbA
  have hlt1 : w.heap.size + 1 + 1 < w1.heap.size := hL1
  clear hbA c0 p1
  generalize (w1.alloc (Obj.cells #[.int .i64 0, .slice none 0 0, .bool false] 39)) = w2 at *
  generalize w1.heap.size = n1 at *
  have hf0 : ((0 : Int) == 2) = false := rfl
  have s0 := hL.s0
  have sf := hL.sf 0
  go_wp2_with fail
  generalize (Question.appendCap 1 0 39).cut (w2.tape w2.drawn (Question.appendCap 1 0 39)) = cp at *
  replace hL := hL.see 0 (by decide)
  have hsz2 : w.heap.size + 1 + 1 < w2.heap.size := by have := hL.lt; simpa [World.setCell] using this
  change LS w _ _ true false false at hL
  have hsS : (w2.setCell ⟨w.heap.size + 1 + 1, 0, none⟩ (.bool true)).heap.size = w2.heap.size := by simp [World.setCell]
  generalize (w2.setCell ⟨w.heap.size + 1 + 1, 0, none⟩ (.bool true)) = w3 at *
  rw [← hsS]
  rw [← hsS] at hsz2
  have hbL : Below w3.heap.size w3 (((w3.alloc (Obj.cells #[.int .i64 0, .slice none 0 0, .bool false] 39)).alloc (Obj.cells (#[.int .i64 0, .slice none 0 0, .bool false] ++ Builtin.zeroCells #[.int .i64 0, .slice none 0 0, .bool false] (cp - 1)) 39)).drew) := (((Below.refl _ _).alloc (Nat.le_refl _) _).alloc (by simp) _).drew
  replace hL := hL.later hbL
  have y0 : (((w3.alloc (Obj.cells #[.int .i64 0, .slice none 0 0, .bool false] 39)).alloc (Obj.cells (#[.int .i64 0, .slice none 0 0, .bool false] ++ Builtin.zeroCells #[.int .i64 0, .slice none 0 0, .bool false] (cp - 1)) 39)).drew).cell? ⟨w3.heap.size + 1, 0, none⟩ = some (.int .i64 0) := by
    rw [World.cell?_drew, World.cell?_alloc_at _ _ _ _ (by simp)]; exact (Array.getElem?_append_left (by simp)).trans rfl
  have y1 : (((w3.alloc (Obj.cells #[.int .i64 0, .slice none 0 0, .bool false] 39)).alloc (Obj.cells (#[.int .i64 0, .slice none 0 0, .bool false] ++ Builtin.zeroCells #[.int .i64 0, .slice none 0 0, .bool false] (cp - 1)) 39)).drew).cell? ⟨w3.heap.size + 1, 1, none⟩ = some (.slice none 0 0) := by
    rw [World.cell?_drew, World.cell?_alloc_at _ _ _ _ (by simp)]; exact (Array.getElem?_append_left (by simp)).trans rfl
  have y2 : (((w3.alloc (Obj.cells #[.int .i64 0, .slice none 0 0, .bool false] 39)).alloc (Obj.cells (#[.int .i64 0, .slice none 0 0, .bool false] ++ Builtin.zeroCells #[.int .i64 0, .slice none 0 0, .bool false] (cp - 1)) 39)).drew).cell? ⟨w3.heap.size + 1, 2, none⟩ = some (.bool false) := by
    rw [World.cell?_drew, World.cell?_alloc_at _ _ _ _ (by simp)]; exact (Array.getElem?_append_left (by simp)).trans rfl
  clear x0 x1 x2 s0 sf hbL hsS
  generalize (((w3.alloc (Obj.cells #[.int .i64 0, .slice none 0 0, .bool false] 39)).alloc (Obj.cells (#[.int .i64 0, .slice none 0 0, .bool false] ++ Builtin.zeroCells #[.int .i64 0, .slice none 0 0, .bool false] (cp - 1)) 39)).drew) = w4 at *
  have hsz4 : w3.heap.size + 1 < w4.heap.size := cell_lt y0
  generalize w3.heap.size + 1 = ly at *
  rw [rounds_succ]
  go_wp2_with fail
  refine wp_loop_rounds 1 ?_
  rw [rounds_succ]
  go_wp2_with fail
  refine wp_loop_rounds 1 ?_
  rw [rounds_succ]
  have g2 := hL.g2
  have hw4 : w.heap.size < w4.heap.size := by have := hL.lt; omega
  go_wp2_with fail
  have hbX : Below w4.heap.size w4 (w4.alloc (Obj.cells #[.int .i64 0, .slice none 0 0, .bool false] 39)) := (Below.refl _ _).alloc (Nat.le_refl _) _
  have x0 : (w4.alloc (Obj.cells #[.int .i64 0, .slice none 0 0, .bool false] 39)).cell? ⟨w4.heap.size, 0, none⟩ = some (.int .i64 0) := World.cell?_alloc_at _ _ _ _ rfl
  have x1 : (w4.alloc (Obj.cells #[.int .i64 0, .slice none 0 0, .bool false] 39)).cell? ⟨w4.heap.size, 1, none⟩ = some (.slice none 0 0) := World.cell?_alloc_at _ _ _ _ rfl
  have hx4 : w4.heap.size < (w4.alloc (Obj.cells #[.int .i64 0, .slice none 0 0, .bool false] 39)).heap.size := by simp
  have hl4 := hL.lt
  replace hL := hL.later hbX
  clear y0 y1 y2 g2 hbX hsz4
  generalize (w4.alloc (Obj.cells #[.int .i64 0, .slice none 0 0, .bool false] 39)) = w5 at *
  generalize w4.heap.size = px at *
  refine wp_loop_rounds 2 ?_
  rw [rounds_succ]
  obtain ⟨be, oe, e1, e0f, e0t, e0a⟩ := hce.later hL.bw 0 (by decide)
  subst e1
  have f0 : w5.cell? ⟨be, oe, none⟩ = some (.int .i64 0) := e0f
  have f1 : w5.cell? ⟨be, oe + 1, none⟩ = some (.int .i64 1) := e0t
  have f2 : w5.cell? ⟨be, oe + 2, none⟩ = some (.int .i64 0) := e0a
  have hbe : be < w5.heap.size := cell_lt f0
  clear e0f e0t e0a
  have hne0 : ((0 : Int) != 0) = false := rfl
  go_wp2_with fail
  have hbE : Below w5.heap.size w5 (w5.alloc (Obj.cells #[.int .i64 0, .int .i64 1, .int .i64 0] 74)) := (Below.refl _ _).alloc (Nat.le_refl _) _
  have ec1 : (w5.alloc (Obj.cells #[.int .i64 0, .int .i64 1, .int .i64 0] 74)).cell? ⟨w5.heap.size, 1, none⟩ = some (.int .i64 1) := World.cell?_alloc_at _ _ _ _ rfl
  replace x0 := Below.keeps hbE x0 (Nat.le_refl _)
  replace x1 := Below.keeps hbE x1 (Nat.le_refl _)
  replace hL := hL.later hbE
  have hsE : w5.heap.size < (w5.alloc (Obj.cells #[.int .i64 0, .int .i64 1, .int .i64 0] 74)).heap.size := cell_lt ec1
  clear f0 f1 f2 hbE hbe
  generalize (w5.alloc (Obj.cells #[.int .i64 0, .int .i64 1, .int .i64 0] 74)) = w6 at *
  generalize w5.heap.size = pe at *
  have hpx6 : px < w6.heap.size := cell_lt x0
  go_cut [20, 90] (fun s20 s90 wx => ∃ (m gs cs : Nat), s20 = .pointer (some ⟨m, 0, none⟩) ∧ s90 = .slice (some ⟨gs, 0, none⟩) 1 cs ∧ w6.heap.size ≤ m ∧ w6.heap.size ≤ gs ∧ gs < wx.heap.size ∧ wx.cell? ⟨m, 0, none⟩ = some (.int .i64 0) ∧ wx.cell? ⟨m, 1, none⟩ = some (.slice (some ⟨gs, 0, none⟩) 1 cs) ∧ wx.cell? ⟨m, 2, none⟩ = some (.bool false) ∧ wx.cell? ⟨gs, 0, none⟩ = some (.int .i64 0) ∧ Below w6.heap.size w6 wx)
  case first =>
    have hb6 : Below w6.heap.size w6 w6 := Below.refl _ _
    have hb6d : Below w6.heap.size w6 w6.drew := (Below.refl _ _).drew
    clear hL
    go_region_held3 (fun w' => w'.cell? ⟨px, 0, none⟩ = some (.int .i64 0) ∧ w'.cell? ⟨px, 1, none⟩ = some (.slice none 0 0) ∧ w6.heap.size ≤ w'.heap.size ∧ Below w6.heap.size w6 w')
      ((refine (fun hB : Below w6.heap.size w6 _ => ⟨Below.keeps hB x0 (Nat.le_refl _), Below.keeps hB x1 (Nat.le_refl _), hB.size, hB⟩) ?_; (repeat (first | with_reducible exact Below.refl _ _ | with_reducible refine Below.drew ?_ | (with_reducible refine Below.setCell ?_ ?_ _) | (with_reducible refine Below.alloc ?_ ?_ _))); all_goals (first | (simp; done) | (simp; omega) | omega)))
      (first | (go_at_call 61; refine (clone_nil _).mono ?_; rintro e w' ⟨rfl, rfl⟩))
    all_goals (go_wp2_with fail; go_meet)
    all_goals (refine ⟨_, _, _, rfl, rfl, ?_, ?_, ?_, ?_, ?_, ?_, ?_, ?_⟩)
    all_goals (first | (simp; done) | (simp; omega) | (go_simp; done) | ((repeat (first | with_reducible exact Below.refl _ _ | with_reducible refine Below.drew ?_ | (with_reducible refine Below.setCell ?_ ?_ _) | (with_reducible refine Below.alloc ?_ ?_ _))); all_goals (first | (simp; done) | (simp; omega) | omega)) | skip)
    all_goals (first | (rw [World.cell?_drew, World.cell?_drew]; exact app_cell _ _ _ _ _ (by simp)) | (rw [World.cell?_drew, World.cell?_drew, World.cell?_alloc_past _ _ _ (by simp)]; exact app_cell _ _ _ _ _ (by simp)))
  case rest =>
    obtain ⟨m, gs, cs, rfl, rfl, hm, hgs, hgl, m0, m1, m2, gc, hbM⟩ := hcut
    replace hL := hL.later hbM
    replace ec1 := Below.keeps hbM ec1 (Nat.le_refl _)
    replace x0 := Below.keeps hbM x0 (Nat.le_refl _)
    replace x1 := Below.keeps hbM x1 (Nat.le_refl _)
    have p1 := Below.keeps hL.bw hp (Nat.le_refl _)
    have hml : m < wc.heap.size := cell_lt m0
    have hpc : px < wc.heap.size := cell_lt x0
    have hpec : pe < wc.heap.size := cell_lt ec1
    have hlw : w.heap.size + 1 + 1 < w6.heap.size := by omega
    clear hbM
    go_wp2_with fail
    refine (wanted_any _ _ p 2 _ p1).mono ?_
    rintro e w7 ⟨rfl, rfl⟩
    have hf1 : ((1 : Int) == 2) = false := rfl
    have s1 := hL.s1
    have sf := hL.sf 1
    go_wp2_with fail
    generalize (Question.appendCap 1 0 39).cut (w7.tape w7.drawn (Question.appendCap 1 0 39)) = cp2 at *
    replace hL := hL.see 1 (by decide)
    change LS w _ _ true true false at hL
    have x0' : (w7.setCell ⟨w.heap.size + 1 + 1, 1, none⟩ (.bool true)).cell? ⟨px, 0, none⟩ = some (.int .i64 0) := (World.cell?_setCell_other _ _ _ _ (by intro h; injection h with h1; omega)).trans x0
    have x1' : (w7.setCell ⟨w.heap.size + 1 + 1, 1, none⟩ (.bool true)).cell? ⟨px, 1, none⟩ = some (.slice none 0 0) := (World.cell?_setCell_other _ _ _ _ (by intro h; injection h with h1; omega)).trans x1
    clear x0 x1 s1 sf p1 ec1 m0 m1 m2 gc
    generalize (w7.setCell ⟨w.heap.size + 1 + 1, 1, none⟩ (.bool true)) = w8 at *
    have hbN : Below w8.heap.size w8 (((w8.alloc (Obj.cells #[.int .i64 0, .slice (some ⟨gs, 0, none⟩) 1 cs, .bool false] 39)).alloc (Obj.cells (#[.int .i64 0, .slice (some ⟨gs, 0, none⟩) 1 cs, .bool false] ++ Builtin.zeroCells #[.int .i64 0, .slice none 0 0, .bool false] (cp2 - 1)) 39)).drew) := (((Below.refl _ _).alloc (Nat.le_refl _) _).alloc (by simp) _).drew
    have x0 := Below.keeps hbN x0' (Nat.le_refl _)
    have x1 := Below.keeps hbN x1' (Nat.le_refl _)
    replace hL := hL.later hbN
    clear hbN x0' x1'
    generalize (((w8.alloc (Obj.cells #[.int .i64 0, .slice (some ⟨gs, 0, none⟩) 1 cs, .bool false] 39)).alloc (Obj.cells (#[.int .i64 0, .slice (some ⟨gs, 0, none⟩) 1 cs, .bool false] ++ Builtin.zeroCells #[.int .i64 0, .slice none 0 0, .bool false] (cp2 - 1)) 39)).drew) = w9 at *
    rw [rounds_succ]
    obtain ⟨be', oe', e1, k0, k1, k2⟩ := hce.later hL.bw 1 (by decide)
    injection e1 with e1
    injection e1 with ea eb ec
    subst ea eb
    have f0 : w9.cell? ⟨be, oe + 3, none⟩ = some (.int .i64 0) := k0
    have f1 : w9.cell? ⟨be, oe + 3 + 1, none⟩ = some (.int .i64 2) := k1
    have f2 : w9.cell? ⟨be, oe + 3 + 2, none⟩ = some (.int .i64 1) := k2
    have f1' : w9.cell? ⟨be, oe + 4, none⟩ = some (.int .i64 2) := k1
    have f2' : w9.cell? ⟨be, oe + 5, none⟩ = some (.int .i64 1) := k2
    have hbe2 : be < w9.heap.size := cell_lt f0
    clear k0 k1 k2
    go_wp2_with fail
    have hbE : Below w9.heap.size w9 (w9.alloc (Obj.cells #[.int .i64 0, .int .i64 2, .int .i64 1] 74)) := (Below.refl _ _).alloc (Nat.le_refl _) _
    have ec1 : (w9.alloc (Obj.cells #[.int .i64 0, .int .i64 2, .int .i64 1] 74)).cell? ⟨w9.heap.size, 1, none⟩ = some (.int .i64 2) := World.cell?_alloc_at _ _ _ _ rfl
    replace x0 := Below.keeps hbE x0 (Nat.le_refl _)
    replace x1 := Below.keeps hbE x1 (Nat.le_refl _)
    replace hL := hL.later hbE
    clear f0 f1 f2 f1' f2' hbE hbe2
    generalize (w9.alloc (Obj.cells #[.int .i64 0, .int .i64 2, .int .i64 1] 74)) = wB at *
    generalize w9.heap.size = pf at *
    have hpxB : px < wB.heap.size := cell_lt x0
    go_cut [20, 90] (fun s20 s90 wx => ∃ (m gs cs : Nat), s20 = .pointer (some ⟨m, 0, none⟩) ∧ s90 = .slice (some ⟨gs, 0, none⟩) 1 cs ∧ wB.heap.size ≤ m ∧ wB.heap.size ≤ gs ∧ gs < wx.heap.size ∧ wx.cell? ⟨m, 0, none⟩ = some (.int .i64 0) ∧ wx.cell? ⟨m, 1, none⟩ = some (.slice (some ⟨gs, 0, none⟩) 1 cs) ∧ wx.cell? ⟨m, 2, none⟩ = some (.bool false) ∧ wx.cell? ⟨gs, 0, none⟩ = some (.int .i64 1) ∧ Below wB.heap.size wB wx)
    case first =>
      have hbB : Below wB.heap.size wB wB := Below.refl _ _
      have hbBd : Below wB.heap.size wB wB.drew := (Below.refl _ _).drew
      clear hL
      go_region_held3 (fun w' => w'.cell? ⟨px, 0, none⟩ = some (.int .i64 0) ∧ w'.cell? ⟨px, 1, none⟩ = some (.slice none 0 0) ∧ wB.heap.size ≤ w'.heap.size ∧ Below wB.heap.size wB w')
        ((refine (fun hB : Below wB.heap.size wB _ => ⟨Below.keeps hB x0 (Nat.le_refl _), Below.keeps hB x1 (Nat.le_refl _), hB.size, hB⟩) ?_; (repeat (first | with_reducible exact Below.refl _ _ | with_reducible refine Below.drew ?_ | (with_reducible refine Below.setCell ?_ ?_ _) | (with_reducible refine Below.alloc ?_ ?_ _))); all_goals (first | (simp; done) | (simp; omega) | omega)))
        (first | (go_at_call 61; refine (clone_nil _).mono ?_; rintro e w' ⟨rfl, rfl⟩))
      all_goals (go_wp2_with fail; go_meet)
      all_goals (refine ⟨_, _, _, rfl, rfl, ?_, ?_, ?_, ?_, ?_, ?_, ?_, ?_⟩)
      all_goals (first | (simp; done) | (simp; omega) | (go_simp; done) | ((repeat (first | with_reducible exact Below.refl _ _ | with_reducible refine Below.drew ?_ | (with_reducible refine Below.setCell ?_ ?_ _) | (with_reducible refine Below.alloc ?_ ?_ _))); all_goals (first | (simp; done) | (simp; omega) | omega)) | skip)
      all_goals (first | (rw [World.cell?_drew, World.cell?_drew]; exact app_cell _ _ _ _ _ (by simp)) | (rw [World.cell?_drew, World.cell?_drew, World.cell?_alloc_past _ _ _ (by simp)]; exact app_cell _ _ _ _ _ (by simp)))
    case rest =>
      obtain ⟨mB, gB, cB, rfl, rfl, hmB, hgB, hgBl, n0, n1', n2, gcB, hbM⟩ := hcut
      replace hL := hL.later hbM
      replace ec1 := Below.keeps hbM ec1 (Nat.le_refl _)
      have p1 := Below.keeps hL.bw hp (Nat.le_refl _)
      have hlw2 : w.heap.size + 1 + 1 < wB.heap.size := by omega
      clear hbM x0 x1
      go_wp2_with fail
      refine (wanted_any _ _ p 2 _ p1).mono ?_
      rintro e wZ ⟨rfl, rfl⟩
      have hf2 : ((2 : Int) == 2) = true := rfl
      have q0 := hL.r0; have q1 := hL.r1; have q2 := hL.r2; have qf0 := hL.rf 0; have qf1 := hL.rf 1; have qf2 := hL.rf 2
      go_wp2
      refine bodyPost_ret (v := .tuple #[.agg #[.int .i64 0, .slice (some ⟨gB, 0, none⟩) 1 cB, .bool false], .bool true]) (by simp [results, Try.results52, go_sem, q0, q1, q2]) rfl ⟨_, rfl, ⟨gB, cB, rfl, by omega, ?_⟩, ?_⟩
      · exact (World.cell?_setCell_other _ _ _ _ (by intro h; injection h with h1; omega)).trans ((World.cell?_setCell_other _ _ _ _ (by intro h; injection h with h1; omega)).trans ((World.cell?_setCell_other _ _ _ _ (by intro h; injection h with h1; omega)).trans gcB))
      · exact ((hL.bw.setCell (by show w.heap.size ≤ w.heap.size + 1; omega) _).setCell (by show w.heap.size ≤ w.heap.size + 1; omega) _).setCell (by show w.heap.size ≤ w.heap.size + 1; omega) _
end Go.Proofs.Ytnijajjmcdgonaa
