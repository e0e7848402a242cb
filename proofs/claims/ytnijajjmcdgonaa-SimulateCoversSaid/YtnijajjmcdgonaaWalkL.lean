import Derived.Test.YtnijajjmcdgonaaWalkK
namespace Go.Proofs.Ytnijajjmcdgonaa
open Go.RowKit
set_option linter.unusedVariables false

theorem own_at {w : World} {B g n c : Nat} {l : List Int} (h : ownInts w B (.slice (some ⟨g, 0, none⟩) n c) l) (j : Nat) (hj : j < l.length) : w.cell? ⟨g, j, none⟩ = some (.int .i64 (gi l j)) := by
  obtain ⟨_, hc, _⟩ := own_cells h
  obtain ⟨b, o, e, hh⟩ := hc j hj
  injection e with e
  injection e with e1 e2 e3
  subst e1 e2
  simpa using hh

theorem own_ptr {w : World} {B : Nat} {v : Value} {l : List Int} (h : ownInts w B v l) (hl : 0 < l.length) : ∃ g c, v = .slice (some ⟨g, 0, none⟩) l.length c ∧ B ≤ g ∧ g < w.heap.size := by
  obtain ⟨_, h⟩ := h
  rcases h with ⟨h, h0⟩ | ⟨g, cap, cur, h, hB, hg, _⟩
  · omega
  · exact ⟨g, cap, h, hB, (Array.getElem?_eq_some_iff.1 hg).1⟩
theorem own_frozen {w : World} {B g n c : Nat} {l : List Int} (h : ownInts w B (.slice (some ⟨g, 0, none⟩) n c) l) (j : Nat) : w.frozen? ⟨g, j, none⟩ = false := by
  obtain ⟨e, _, _⟩ := own_cells h
  subst e
  exact World.ownsRow.frozenAt h j
theorem own_store' {w : World} {B g n c : Nat} {l : List Int} (h : ownInts w B (.slice (some ⟨g, 0, none⟩) n c) l) (j : Nat) (u : Int) : ownInts (w.setCell ⟨g, j, none⟩ (.int .i64 u)) B (.slice (some ⟨g, 0, none⟩) n c) (l.set j u) := by
  obtain ⟨e, _, _⟩ := own_cells h
  subst e
  have := (World.ownsRow.stored h j (.int .i64 u)).1
  unfold ownInts
  rw [List.length_set, List.map_set]
  exact this
theorem own_under {w w' : World} {B B' g n c : Nat} {l : List Int} (h : ownInts w B (.slice (some ⟨g, 0, none⟩) n c) l) (hb : Below B' w w') (hg : g < B') : ownInts w' B (.slice (some ⟨g, 0, none⟩) n c) l := by
  obtain ⟨h0, h⟩ := h
  refine ⟨h0, ?_⟩
  rcases h with h | ⟨g', cap, cur, h1, h2, h3, h4⟩
  · exact .inl h
  · refine .inr ⟨g', cap, cur, h1, h2, ?_, h4⟩
    injection h1 with h1
    injection h1 with h1
    injection h1 with h1
    subst h1
    exact (hb.block g hg).trans h3
theorem own_store {w : World} {B g c : Nat} {l : List Int} (h : ownInts w B (.slice (some ⟨g, 0, none⟩) l.length c) l) (j : Nat) (u : Int) : ownInts (w.setCell ⟨g, j, none⟩ (.int .i64 u)) B (.slice (some ⟨g, 0, none⟩) (l.set j u).length c) (l.set j u) := by
  have := (World.ownsRow.stored h j (.int .i64 u)).1
  unfold ownInts
  rw [List.length_set, List.map_set]
  exact this

def stO : Nat → Nat → List Int
  | 0, 0 => [0, -1, -1]
  | 0, 1 => [0, 1, -1]
  | _, _ => [0, 1, 1]
def stT : Nat → Nat → List Int
  | 0, 0 => [0]
  | 0, 1 => [0, 1]
  | _, _ => [0, 1, 2]
abbrev eE (j : Nat) : E := ge exG.edges j
theorem st_step : ∀ i, i < 3 → ∀ j, j < 3 →
    (i < (stT i j).length ∧ (stO i j).length = 3 ∧ (stT i j).length ≤ 3 ∧ 0 ≤ (eE j).t ∧ (eE j).t.toNat < 3 ∧ 0 ≤ (eE j).f ∧ (eE j).f.toNat < 3) ∧
      (((eE j).f ≠ gi (stT i j) i ∧ stO i (j + 1) = stO i j ∧ stT i (j + 1) = stT i j) ∨
       ((eE j).f = gi (stT i j) i ∧ gi (stO i j) (eE j).t.toNat ≠ -1 ∧ stO i (j + 1) = stO i j ∧ stT i (j + 1) = stT i j) ∨
       ((eE j).f = gi (stT i j) i ∧ gi (stO i j) (eE j).t.toNat = -1 ∧ (0 ≤ gi (stO i j) (eE j).f.toNat ∧ gi (stO i j) (eE j).f.toNat < 100) ∧ stO i (j + 1) = (stO i j).set (eE j).t.toNat (gi (stO i j) (eE j).f.toNat + 1) ∧ stT i (j + 1) = stT i j ++ [(eE j).t])) := by
  intro i hi j hj
  rcases i with _ | _ | _ | i <;> rcases j with _ | _ | _ | j <;> first | omega | decide
theorem st_next : ∀ i, i < 3 → stO i 3 = stO (i + 1) 0 ∧ stT i 3 = stT (i + 1) 0 := by decide

/-- What distancesIn keeps of its own in memory. -/
structure DI (w wr : World) (B1 go co : Nat) (ae : Option Addr) (ce : Nat) (O T : List Int) (vt : Value) : Prop where
  o : ownInts wr (w.heap.size + 1) (.slice (some ⟨go, 0, none⟩) 3 co) O
  ol : O.length = 3
  t : ownInts wr B1 vt T
  g2 : wr.cell? ⟨w.heap.size, 2, none⟩ = some (.slice ae 3 ce)
  bw : Below w.heap.size w wr
  lt : w.heap.size + 1 + 1 ≤ go ∧ go < B1 ∧ B1 ≤ wr.heap.size
theorem DI.under {w wr wr' : World} {B1 go co : Nat} {ae : Option Addr} {ce : Nat} {O T : List Int} {vt : Value} (h : DI w wr B1 go co ae ce O T vt) (hb : Below wr.heap.size wr wr') : DI w wr' B1 go co ae ce O T vt :=
  ⟨ownsRow_later h.o hb, h.ol, ownsRow_later h.t hb, Below.keeps hb h.g2 (Nat.le_refl _), h.bw.trans (hb.mono h.bw.size), ⟨h.lt.1, h.lt.2.1, Nat.le_trans h.lt.2.2 hb.size⟩⟩

set_option maxHeartbeats 1600000 in
set_option maxRecDepth 100000 in
theorem distances_ex (v : Value) (w : World) (hg : GraphAt w v exG) :
    Calls Try.prog 51 #[v] w fun e w' => ∃ v', e = .returned v' ∧ IntsAt w' v' [0, 1, 1] ∧ Below w.heap.size w w' := by
  obtain ⟨vi, ve, rfl, hvi, ⟨ae, ce, hve, hme, hce⟩⟩ := hg
  have hve' : ve = .slice ae 3 ce := hve
  subst hve'
  clear hve hme
  obtain ⟨i0, hi, hz0, hz1, hz2⟩ := info_parts infoInt
  go_enter Try.func51, Try.ntmps51
  go_wp2_with fail
  refine (repeat3 _ _ ?_).mono ?_
  · exact World.cell?_alloc_at _ _ _ _ (by simp)
  rintro e w1 ⟨vo, rfl, ho, hb1⟩
  have g1 : w1.cell? ⟨w.heap.size, 1, none⟩ = some vi := Below.keeps hb1 (by rw [World.cell?_alloc_past _ _ _ (by simp), World.cell?_alloc_at _ _ _ _ rfl]; rfl) (by simp)
  have g2 : w1.cell? ⟨w.heap.size, 2, none⟩ = some (.slice ae 3 ce) := Below.keeps hb1 (by rw [World.cell?_alloc_past _ _ _ (by simp), World.cell?_alloc_at _ _ _ _ rfl]; rfl) (by simp)
  have hbw : Below w.heap.size w w1 := (((Below.refl _ _).alloc (Nat.le_refl _) _).alloc (by simp) _).trans (hb1.mono (by simp; omega))
  clear hb1
  go_wp2_with fail
  refine (clone_any [0] vi _ (hvi.later hbw) (by decide)).mono ?_
  rintro e w2 ⟨vt, rfl, ht, hb2⟩
  obtain ⟨go, co, eo, hgo1, hgo2⟩ := own_ptr ho (by decide)
  obtain ⟨gt, ct, et, hgt1, hgt2⟩ := own_ptr ht (by decide)
  subst eo et
  replace ho := ownsRow_later ho hb2
  replace g2 := Below.keeps hb2 g2 (Nat.le_refl _)
  replace hbw := hbw.trans (hb2.mono hbw.size)
  replace hgo1 : w.heap.size + 1 + 1 ≤ go := by simpa using hgo1
  clear g1 hb2
  have t0 : w2.cell? ⟨gt, 0, none⟩ = some (.int .i64 0) := own_at ht 0 (by decide)
  have o0 : w2.cell? ⟨go, 0, none⟩ = some (.int .i64 (-1)) := own_at ho 0 (by decide)
  have of0 := World.ownsRow.frozenAt ho 0
  have hne : go ≠ gt := by omega
  go_wp2_with fail
  refine wp_loop_rounds 2 ?_
  rw [rounds_succ]
  go_wp2_with fail
  rw [rounds_succ]
  have hD : DI w (w2.setCell ⟨go, 0, none⟩ (.int .i64 0)) w1.heap.size go co ae ce (stO 0 0) (stT 0 0) (.slice (some ⟨gt, 0, none⟩) 1 ct) :=
    ⟨own_mono (own_store ho 0 0) (by simp), rfl, ownsRow_setCell_below ht hgo2 _, (World.cell?_setCell_other _ _ _ _ (by intro h; injection h with h1; omega)).trans g2, hbw.setCell (by show w.heap.size ≤ go; omega) _, ⟨hgo1, hgo2, by simp [World.setCell]; omega⟩⟩
  clear t0 o0 of0 ho ht g2 hbw hgt2
  generalize (w2.setCell ⟨go, 0, none⟩ (.int .i64 0)) = w3 at *
  go_wp2
  go_loopw [4, 7] (fun vt i wr => ∃ k : Nat, k ≤ 3 ∧ i = .int .i64 k ∧ DI w wr w1.heap.size go co ae ce (stO k 0) (stT k 0) vt) (fun _ i _ => 3 - (intOf i).toNat)
  case atStart => exact ⟨0, by omega, rfl, hD⟩
  case round =>
    clear hD
    obtain ⟨k, hk, rfl, hD⟩ := hrel
    by_cases hlt : k < 3
    · obtain ⟨vt', ct', et', -, -⟩ := own_ptr hD.t (by have := (st_step k hlt 0 (by omega)).1.1; omega)
      subst et'
      have hkl : (k : Int) < ((stT k 0).length : Int) := by have := (st_step k hlt 0 (by omega)).1.1; omega
      have g2 := hD.g2
      go_wp2_with fail
      go_loopw [4, 36] (fun vt j wr => ∃ m : Nat, m ≤ 3 ∧ j = .int .i64 m ∧ DI w wr w1.heap.size go co ae ce (stO k m) (stT k m) vt) (fun _ j _ => 3 - (intOf j).toNat)
      case atStart => exact ⟨0, by omega, rfl, hD⟩
      case round =>
        clear hD g2
        obtain ⟨m, hm, rfl, hD⟩ := hrel
        by_cases hlm : m < 3
        · obtain ⟨⟨q1, q2, q3, q4, q5, q6, q7⟩, hst⟩ := st_step k hlt m hlm
          obtain ⟨gt', ct', et', hgt, hgt'⟩ := own_ptr hD.t (by omega)
          subst et'
          have hgo : go < wr.heap.size := by have := hD.lt; omega
          obtain ⟨b, o, e1, c1, c2, c3⟩ := hce.later hD.bw m hlm
          subst e1
          have hbb : b < wr.heap.size := cell_lt c1
          have tk := own_at hD.t k q1
          have ot := own_at hD.o (eE m).t.toNat (by omega)
          have hkl : (k : Int) < ((stT k m).length : Int) := by omega
          have htl : (eE m).t < 3 := by omega
          have hfl : (eE m).f < 3 := by omega
          have hb1 : Below wr.heap.size wr (wr.alloc (Obj.cells #[.int .i64 (eE m).f, .int .i64 (eE m).t, .int .i64 (eE m).a] 74)) := (Below.refl _ _).alloc (Nat.le_refl _) _
          rcases hst with ⟨hA, hO, hT⟩ | ⟨hB, hB2, hO, hT⟩ | ⟨hC, hC2, hC3, hO, hT⟩
          · have hA' : ((eE m).f == gi (stT k m) k) = false := by simpa using hA
            have hDn : DI w wr w1.heap.size go co (some ⟨b, o, none⟩) ce (stO k (m + 1)) (stT k (m + 1)) (.slice (some ⟨gt', 0, none⟩) (stT k m).length ct') := by rw [hO, hT]; exact hD
            clear hA hO hT hD
            go_wp2_with fail
            go_quiet (fail)
            go_wp2
            exact ⟨⟨m + 1, by omega, by go_num, hDn.under (below_drewN hb1 _)⟩, by simp [intOf]; omega⟩
          · have hA' : ((eE m).f == gi (stT k m) k) = true := by simpa using hB
            have hB' : (gi (stO k m) (eE m).t.toNat == -1) = false := by simpa using hB2
            have hDn : DI w wr w1.heap.size go co (some ⟨b, o, none⟩) ce (stO k (m + 1)) (stT k (m + 1)) (.slice (some ⟨gt', 0, none⟩) (stT k m).length ct') := by rw [hO, hT]; exact hD
            clear hB hB2 hO hT hD
            go_wp2_with fail
            go_quiet (fail)
            go_wp2
            exact ⟨⟨m + 1, by omega, by go_num, hDn.under (below_drewN hb1 _)⟩, by simp [intOf]; omega⟩
          · have hA' : ((eE m).f == gi (stT k m) k) = true := by simpa using hC
            have hB' : (gi (stO k m) (eE m).t.toNat == -1) = true := by simpa using hC2
            clear hC hC2
            go_wp2_with fail
            go_quiet (fail)
            have hD1 := hD.under (below_drewN hb1 nq)
            have ke0 : ((wr.alloc (Obj.cells #[.int .i64 (eE m).f, .int .i64 (eE m).t, .int .i64 (eE m).a] 74)).drewN nq).cell? ⟨wr.heap.size, 0, none⟩ = some (.int .i64 (eE m).f) := World.cell?_alloc_at _ _ _ _ rfl
            have ke1 : ((wr.alloc (Obj.cells #[.int .i64 (eE m).f, .int .i64 (eE m).t, .int .i64 (eE m).a] 74)).drewN nq).cell? ⟨wr.heap.size, 1, none⟩ = some (.int .i64 (eE m).t) := World.cell?_alloc_at _ _ _ _ rfl
            have hwl : wr.heap.size < ((wr.alloc (Obj.cells #[.int .i64 (eE m).f, .int .i64 (eE m).t, .int .i64 (eE m).a] 74)).drewN nq).heap.size := by simp
            clear hb1 tk ot c1 c2 c3 hD
            generalize ((wr.alloc (Obj.cells #[.int .i64 (eE m).f, .int .i64 (eE m).t, .int .i64 (eE m).a] 74)).drewN nq) = wq at *
            have of := own_at hD1.o (eE m).f.toNat (by omega)
            have ot := own_at hD1.o (eE m).t.toNat (by omega)
            have fz := own_frozen hD1.o (eE m).t.toNat
            have hq9 := hD1.lt
            have hwr : IntKind.i64.wrap (gi (stO k m) (eE m).f.toNat + 1) = gi (stO k m) (eE m).f.toNat + 1 := IntWalk.i64_in _ (by omega)
            go_wp2_with fail
            refine wp_region_still_tail 10 (by kernel_rfl) (by kernel_rfl) ?_
            change wpStill _ _ (World.drew _) (fun a' => wpList _ _ _ _ a' (World.drew _)) _ _
            simp only [List.take_succ_cons, List.take_zero, List.drop_succ_cons, List.drop_zero]
            iterate 10 still_step
            refine wpStill_nil ?_
            have hD2 : DI w (wq.drew.setCell ⟨go, (eE m).t.toNat, none⟩ (.int .i64 (gi (stO k m) (eE m).f.toNat + 1))) w1.heap.size go co (some ⟨b, o, none⟩) ce ((stO k m).set (eE m).t.toNat (gi (stO k m) (eE m).f.toNat + 1)) (stT k m) (.slice (some ⟨gt', 0, none⟩) (stT k m).length ct') :=
              ⟨own_store' (w := wq.drew) hD1.o _ _, by rw [List.length_set]; exact hD1.ol, ownsRow_setCell_below (w := wq.drew) hD1.t (by show go < w1.heap.size; omega) _, (World.cell?_setCell_other _ _ _ _ (by intro h; injection h with h1; omega)).trans hD1.g2, (hD1.bw.drew).setCell (by show w.heap.size ≤ go; omega) _, ⟨hq9.1, hq9.2.1, by simp [World.setCell]; exact hq9.2.2⟩⟩
            have ke2 : (wq.drew.setCell ⟨go, (eE m).t.toNat, none⟩ (.int .i64 (gi (stO k m) (eE m).f.toNat + 1))).cell? ⟨wr.heap.size, 1, none⟩ = some (.int .i64 (eE m).t) := (World.cell?_setCell_other _ _ _ _ (by intro h; injection h with h1; omega)).trans ke1
            have hw5 : wr.heap.size < (wq.drew.setCell ⟨go, (eE m).t.toNat, none⟩ (.int .i64 (gi (stO k m) (eE m).f.toNat + 1))).heap.size := by simp [World.setCell]; omega
            have hDn : (stO k m).set (eE m).t.toNat (gi (stO k m) (eE m).f.toNat + 1) = stO k (m + 1) := hO.symm
            rw [hDn] at hD2
            clear hDn hO
            have HT := Lib.hid hT; clear hT
            have hs9 : (wq.setCell ⟨go, (eE m).t.toNat, none⟩ (.int .i64 (gi (stO k m) (eE m).f.toNat + 1))).heap.size = wq.heap.size := by simp [World.setCell]
            have hgne : go ≠ wr.heap.size := by omega
            go_wp2_with (at_builtin; refine wpList_append_own _ rfl _ _ 23 rfl w1.heap.size 3 i0 (.int .i64 0) 1 8 Try.underlying23 hi hz0 hz1 hz2 rfl (by decide) _ _ _ rfl (by exact hD2.t.alloc _) ⟨wq.heap.size, 0, none⟩ 1 1 [.int .i64 (eE m).t] rfl rfl ?c1 ?c2 ?c3 ?c4 ?c5 ?_)
            case c1 =>
              intro j u hj
              match j, hj with
              | 0, hj => simp at hj; subst hj; simp only [Addr.add]; exact World.cell?_alloc_at _ _ _ _ (by rw [hs9])
            case c2 => intro u hu; simp at hu; subst hu; rfl
            case c3 => unfold maxLen; omega
            case c4 => omega
            case c5 => have := hD2.lt.2.2; simp [World.setCell] at this ⊢; omega
            · intro v' w' hown' hgrow _
              have hbG : Below w1.heap.size (wq.drew.setCell ⟨go, (eE m).t.toNat, none⟩ (.int .i64 (gi (stO k m) (eE m).f.toNat + 1))) w' :=
                Below.grown ((Below.refl w1.heap.size (wq.drew.setCell ⟨go, (eE m).t.toNat, none⟩ (.int .i64 (gi (stO k m) (eE m).f.toNat + 1)))).alloc hD2.lt.2.2 (Obj.cells #[.int .i64 (eE m).t] 3)) hgrow (by have := hD2.lt.2.2; simp [World.setCell] at this ⊢; omega) (fun j hj => (hD2.t.lt j hj).1)
              have hsz : w1.heap.size ≤ w'.heap.size := Nat.le_trans hD2.lt.2.2 hbG.size
              have hD3 : DI w w' w1.heap.size go co (some ⟨b, o, none⟩) ce (stO k (m + 1)) (stT k (m + 1)) v' :=
                ⟨own_under hD2.o hbG hq9.2.1, hD2.ol, by rw [HT.out]; simpa [ownInts] using hown', (hbG.cell (p := ⟨w.heap.size, 2, none⟩) (by show w.heap.size < w1.heap.size; omega)).trans hD2.g2, hD2.bw.trans (hbG.mono (by omega)), ⟨hq9.1, hq9.2.1, hsz⟩⟩
              clear hown' hgrow hbG hD2 hD1 ke0 ke1 ke2 of ot fz
              go_wp2
              exact ⟨⟨m + 1, by omega, by go_num, hD3⟩, by simp [intOf]; omega⟩
        · have hmm : m = 3 := by omega
          subst hmm
          obtain ⟨n1, n2⟩ := st_next k hlt
          rw [n1, n2] at hD
          go_wp2
          exact ⟨⟨k + 1, by omega, by go_num, hD⟩, by simp [intOf]; omega⟩
    · have hkk : k = 3 := by omega
      subst hkk
      obtain ⟨vt', ct', et', -, -⟩ := own_ptr hD.t (by decide)
      subst et'
      have h3 : ((stT 3 0).length : Int) = 3 := rfl
      go_wp2
      go_ret
      exact ⟨_, rfl, IntsAt.of_own hD.o, hD.bw⟩
end Go.Proofs.Ytnijajjmcdgonaa
