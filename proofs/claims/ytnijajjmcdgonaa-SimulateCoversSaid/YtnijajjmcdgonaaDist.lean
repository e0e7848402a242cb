import Derived.Test.YtnijajjmcdgonaaMathD
import Derived.Test.YtnijajjmcdgonaaRep
namespace Go.Proofs.Ytnijajjmcdgonaa
open Go.RowKit
set_option linter.unusedVariables false

theorem BF.facts {g : G} {O T : List Int} {k m : Nat} (h : BF g O T k m) (hg : bOk g) (hk : k < T.length) (hm : m < g.edges.length) :
    0 ≤ (ge g.edges m).t ∧ (ge g.edges m).t.toNat < O.length ∧ 0 ≤ (ge g.edges m).f ∧ (ge g.edges m).f.toNat < O.length ∧ T.length ≤ 400 ∧ ((ge g.edges m).f = gi T k → 0 ≤ gi O (ge g.edges m).f.toNat ∧ gi O (ge g.edges m).f.toNat < 500) := by
  have hq := hg.2.2.2.2.2 m hm
  unfold edgeOk at hq
  have h1 := h.len
  have h2 := h.cnt
  have h3 := hg.2.1
  have h4 := h.few k hk
  have h5 := (h.inT k hk).2.2
  exact ⟨by omega, by omega, by omega, by omega, by omega, fun hf => by rw [hf]; omega⟩

/-- What distancesIn keeps of its own in memory. -/
structure DG (w wr : World) (N B1 go : Nat) (ae : Option Addr) (ne ce : Nat) (O T : List Int) (vt : Value) : Prop where
  o : ownInts wr (w.heap.size + 1) (.slice (some ⟨go, 0, none⟩) N N) O
  ol : O.length = N
  t : ownInts wr B1 vt T
  g2 : wr.cell? ⟨w.heap.size, 2, none⟩ = some (.slice ae ne ce)
  bw : Below w.heap.size w wr
  lt : w.heap.size + 1 + 1 ≤ go ∧ go < B1 ∧ B1 ≤ wr.heap.size
theorem DG.under {w wr wr' : World} {N B1 go : Nat} {ae : Option Addr} {ne ce : Nat} {O T : List Int} {vt : Value} (h : DG w wr N B1 go ae ne ce O T vt) (hb : Below wr.heap.size wr wr') : DG w wr' N B1 go ae ne ce O T vt :=
  ⟨ownsRow_later h.o hb, h.ol, ownsRow_later h.t hb, Below.keeps hb h.g2 (Nat.le_refl _), h.bw.trans (hb.mono h.bw.size), ⟨h.lt.1, h.lt.2.1, Nat.le_trans h.lt.2.2 hb.size⟩⟩

set_option maxHeartbeats 3200000 in
set_option maxRecDepth 100000 in
theorem distancesIn_any (g : G) (v : Value) (w : World) (hg : GraphAt w v g) (hok : bOk g) :
    Calls Try.prog 51 #[v] w fun e w' => ∃ v', e = .returned v' ∧ ownInts w' w.heap.size v' (dl g) ∧ Hid (DistOk g (dl g)) ∧ Below w.heap.size w w' := by
  obtain ⟨vi, ve, rfl, hvi, ⟨ae, ce, rfl, hme, hce⟩⟩ := hg
  obtain ⟨i0, hi, hz0, hz1, hz2⟩ := info_parts infoInt
  obtain ⟨N, hN⟩ : ∃ N : Nat, g.n = (N : Int) := ⟨g.n.toNat, by have := hok.1; omega⟩
  have hN4 : N ≤ 400 := by have := hok.2.1; omega
  have hil : g.init.length ≤ N := by have := hok.2.2.1; omega
  have hel : g.edges.length ≤ 2000 := hok.2.2.2.1
  have HNN : Hid (g.n.toNat = N) := by unfold Hid; omega
  rw [hN]
  have HOK := Lib.hid hok
  clear hok hN hme
  go_enter Try.func51, Try.ntmps51
  go_wp2_with fail
  refine (repeat_any N (by omega) _ _ ?_).mono ?_
  · exact World.cell?_alloc_at _ _ _ _ (by simp)
  rintro e w1 ⟨go, rfl, hgo1, ho, hb1⟩
  have g1 : w1.cell? ⟨w.heap.size, 1, none⟩ = some vi := Below.keeps hb1 (by rw [World.cell?_alloc_past _ _ _ (by simp), World.cell?_alloc_at _ _ _ _ rfl]; rfl) (by simp)
  have g2 : w1.cell? ⟨w.heap.size, 2, none⟩ = some (.slice ae g.edges.length ce) := Below.keeps hb1 (by rw [World.cell?_alloc_past _ _ _ (by simp), World.cell?_alloc_at _ _ _ _ rfl]; rfl) (by simp)
  have hbw : Below w.heap.size w w1 := (((Below.refl _ _).alloc (Nat.le_refl _) _).alloc (by simp) _).trans (hb1.mono (by simp; omega))
  have hgo2 : go < w1.heap.size := by
    obtain ⟨_, h⟩ := ho
    rcases h with ⟨h, h0⟩ | ⟨g', cap, cur, h, hB, hg', _⟩
    · cases h
    · injection h with h; injection h with h; injection h with h; subst h
      exact (Array.getElem?_eq_some_iff.1 hg').1
  clear hb1
  go_wp2_with fail
  refine (clone_any g.init vi _ (hvi.later hbw) (by omega)).mono ?_
  rintro e w2 ⟨vt, rfl, ht, hb2⟩
  obtain ⟨at', ct, rfl⟩ := own_form ht
  have hD : DG w w2 N w1.heap.size go ae g.edges.length ce (List.replicate N (-1)) g.init (.slice at' g.init.length ct) :=
    ⟨own_mono (ownsRow_later ho hb2) (by simp), by simp, ht, Below.keeps hb2 g2 (Nat.le_refl _), hbw.trans (hb2.mono hbw.size), ⟨by simpa using hgo1, hgo2, hb2.size⟩⟩
  have hB0 : Hid (B0 g (List.replicate N (-1)) 0) := by unfold Hid; rw [← HNN.out]; exact B0.start
  clear g1 g2 hb2 ho ht hbw hvi hgo1 hgo2
  go_wp2_with fail
  go_loopw [19] (fun i wr => ∃ (j : Nat) (O : List Int), j ≤ g.init.length ∧ i = .int .i64 j ∧ Hid (B0 g O j) ∧ DG w wr N w1.heap.size go ae g.edges.length ce O g.init (.slice at' g.init.length ct)) (fun i _ => g.init.length - (intOf i).toNat)
  case atStart => exact ⟨0, _, Nat.zero_le _, rfl, hB0, hD⟩
  case round =>
    clear hD hB0
    obtain ⟨j, O, hj, rfl, hB0, hD⟩ := hrel
    by_cases hlt : j < g.init.length
    · obtain ⟨gt, ct', et, hgt1, hgt2⟩ := own_ptr hD.t (by omega)
      injection et with e1 e2 e3
      subst e1 e3
      clear e2
      have hin := HOK.out.2.2.2.2.1 j hlt
      unfold initOk at hin
      have hs0 : 0 ≤ gi g.init j := hin.1
      have hs1 : gi g.init j < (N : Int) := by have := HNN.out; omega
      clear hin
      have tj := own_at hD.t j hlt
      have oj := own_at hD.o (gi g.init j).toNat (by rw [hD.ol]; omega)
      have of := own_frozen hD.o (gi g.init j).toNat
      have hlt' : (j : Int) < (g.init.length : Int) := by omega
      have hgne : go ≠ gt := by have := hD.lt; omega
      have hD2 : DG w (wr.setCell ⟨go, (gi g.init j).toNat, none⟩ (.int .i64 0)) N w1.heap.size go ae g.edges.length ce (O.set (gi g.init j).toNat 0) g.init (.slice (some ⟨gt, 0, none⟩) g.init.length ct) :=
        ⟨own_store' hD.o _ _, by rw [List.length_set]; exact hD.ol, ownsRow_setCell_below hD.t hD.lt.2.1 _, (World.cell?_setCell_other _ _ _ _ (by intro h; injection h with h1; have := hD.lt; omega)).trans hD.g2, hD.bw.setCell (by have := hD.lt; show w.heap.size ≤ go; omega) _, ⟨hD.lt.1, hD.lt.2.1, by simp [World.setCell]; exact hD.lt.2.2⟩⟩
      have HB1 : Hid (B0 g (O.set (gi g.init j).toNat 0) (j + 1)) := B0.more HOK.out hB0.out hlt
      clear hB0 hD
      go_wp2
      exact ⟨⟨j + 1, _, by omega, by go_num, HB1, hD2⟩, by simp [intOf]; omega⟩
    · have hjj : j = g.init.length := by omega
      subst hjj
      have hBF : Hid (BF g O g.init 0 0) := B0.bf HOK.out hB0.out
      clear hB0
      go_wp2_with fail
      generalize at' = at0 at *
      go_loopw [4, 7] (fun vt i wr => ∃ (k : Nat) (O T : List Int), k ≤ T.length ∧ T.length ≤ N ∧ i = .int .i64 k ∧ Hid (BF g O T k 0) ∧ DG w wr N w1.heap.size go ae g.edges.length ce O T vt) (fun _ i _ => N + 1 - (intOf i).toNat)
      case atStart => exact ⟨0, _, _, Nat.zero_le _, hil, rfl, hBF, hD⟩
      case round =>
        clear hD hBF
        obtain ⟨k, O, T, hk, hTN, rfl, hBF, hD⟩ := hrel
        obtain ⟨aT, cT, rfl⟩ := own_form hD.t
        by_cases hlt : k < T.length
        · obtain ⟨gt', ct', et', -, -⟩ := own_ptr hD.t (by omega)
          injection et' with e1 e2 e3
          subst e1 e3
          clear e2
          have hkl : (k : Int) < (T.length : Int) := by omega
          have g2 := hD.g2
          go_wp2_with fail
          go_loopw [4, 36] (fun vt j wr => ∃ (m : Nat) (O T : List Int), m ≤ g.edges.length ∧ k < T.length ∧ T.length ≤ N ∧ j = .int .i64 m ∧ Hid (BF g O T k m) ∧ DG w wr N w1.heap.size go ae g.edges.length ce O T vt) (fun _ j _ => g.edges.length - (intOf j).toNat)
          case atStart => exact ⟨0, _, _, Nat.zero_le _, hlt, hTN, rfl, hBF, hD⟩
          case round =>
            clear hD g2 hBF hkl hlt hk hTN
            obtain ⟨m, O, T, hm, hlt, hTN, rfl, hBF, hD⟩ := hrel
            by_cases hlm : m < g.edges.length
            · obtain ⟨q1, q2, q3, q4, q5, q6⟩ := hBF.out.facts HOK.out hlt hlm
              obtain ⟨gt', ct', et', hgt, hgt'⟩ := own_ptr hD.t (by omega)
              subst et'
              have hol := hD.ol
              have hgo : go < wr.heap.size := by have := hD.lt; omega
              obtain ⟨b, o, e1, c1, c2, c3⟩ := hce.later hD.bw m hlm
              subst e1
              have hbb : b < wr.heap.size := cell_lt c1
              have tk := own_at hD.t k hlt
              have ot := own_at hD.o (ge g.edges m).t.toNat q2
              have hkl : (k : Int) < (T.length : Int) := by omega
              have htl : (ge g.edges m).t < (N : Int) := by omega
              have hfl : (ge g.edges m).f < (N : Int) := by omega
              have HOL := Lib.hid hol
              clear hol
              have hb1 : Below wr.heap.size wr (wr.alloc (Obj.cells #[.int .i64 (ge g.edges m).f, .int .i64 (ge g.edges m).t, .int .i64 (ge g.edges m).a] 74)) := (Below.refl _ _).alloc (Nat.le_refl _) _
              by_cases hA : (ge g.edges m).f = gi T k
              · by_cases hB : gi O (ge g.edges m).t.toNat = -1
                · obtain ⟨q7, q8⟩ := q6 hA
                  have HBn := Lib.hid (hBF.out.more HOK.out hlm hlt hA hB)
                  have hA' : ((ge g.edges m).f == gi T k) = true := by simpa using hA
                  have hB' : (gi O (ge g.edges m).t.toNat == -1) = true := by simpa using hB
                  have hTN' : T.length + 1 ≤ N := by
                    have h1 := HBn.out.cnt
                    rw [HNN.out] at h1
                    simp at h1
                    omega
                  clear hA hB q6 hBF
                  go_wp2_with fail
                  go_quiet (fail)
                  have hD1 := hD.under (below_drewN hb1 nq)
                  have ke0 : ((wr.alloc (Obj.cells #[.int .i64 (ge g.edges m).f, .int .i64 (ge g.edges m).t, .int .i64 (ge g.edges m).a] 74)).drewN nq).cell? ⟨wr.heap.size, 0, none⟩ = some (.int .i64 (ge g.edges m).f) := World.cell?_alloc_at _ _ _ _ rfl
                  have ke1 : ((wr.alloc (Obj.cells #[.int .i64 (ge g.edges m).f, .int .i64 (ge g.edges m).t, .int .i64 (ge g.edges m).a] 74)).drewN nq).cell? ⟨wr.heap.size, 1, none⟩ = some (.int .i64 (ge g.edges m).t) := World.cell?_alloc_at _ _ _ _ rfl
                  have hwl : wr.heap.size < ((wr.alloc (Obj.cells #[.int .i64 (ge g.edges m).f, .int .i64 (ge g.edges m).t, .int .i64 (ge g.edges m).a] 74)).drewN nq).heap.size := by simp
                  clear hb1 tk ot c1 c2 c3 hD
                  generalize ((wr.alloc (Obj.cells #[.int .i64 (ge g.edges m).f, .int .i64 (ge g.edges m).t, .int .i64 (ge g.edges m).a] 74)).drewN nq) = wq at *
                  have of := own_at hD1.o (ge g.edges m).f.toNat (by rw [HOL.out]; omega)
                  have ot := own_at hD1.o (ge g.edges m).t.toNat (by rw [HOL.out]; omega)
                  have fz := own_frozen hD1.o (ge g.edges m).t.toNat
                  have hq9 := hD1.lt
                  have hwr : IntKind.i64.wrap (gi O (ge g.edges m).f.toNat + 1) = gi O (ge g.edges m).f.toNat + 1 := IntWalk.i64_in _ (by omega)
                  go_wp2_with fail
                  refine wp_region_still_tail 10 (by kernel_rfl) (by kernel_rfl) ?_
                  change wpStill _ _ (World.drew _) (fun a' => wpList _ _ _ _ a' (World.drew _)) _ _
                  simp only [List.take_succ_cons, List.take_zero, List.drop_succ_cons, List.drop_zero]
                  iterate 10 still_step
                  refine wpStill_nil ?_
                  have hD2 : DG w (wq.drew.setCell ⟨go, (ge g.edges m).t.toNat, none⟩ (.int .i64 (gi O (ge g.edges m).f.toNat + 1))) N w1.heap.size go (some ⟨b, o, none⟩) g.edges.length ce (O.set (ge g.edges m).t.toNat (gi O (ge g.edges m).f.toNat + 1)) T (.slice (some ⟨gt', 0, none⟩) T.length ct') :=
                    ⟨own_store' (w := wq.drew) hD1.o _ _, by rw [List.length_set]; exact hD1.ol, ownsRow_setCell_below (w := wq.drew) hD1.t (by show go < w1.heap.size; omega) _, (World.cell?_setCell_other _ _ _ _ (by intro h; injection h with h1; omega)).trans hD1.g2, (hD1.bw.drew).setCell (by show w.heap.size ≤ go; omega) _, ⟨hq9.1, hq9.2.1, by simp [World.setCell]; exact hq9.2.2⟩⟩
                  have ke2 : (wq.drew.setCell ⟨go, (ge g.edges m).t.toNat, none⟩ (.int .i64 (gi O (ge g.edges m).f.toNat + 1))).cell? ⟨wr.heap.size, 1, none⟩ = some (.int .i64 (ge g.edges m).t) := (World.cell?_setCell_other _ _ _ _ (by intro h; injection h with h1; omega)).trans ke1
                  have hw5 : wr.heap.size < (wq.drew.setCell ⟨go, (ge g.edges m).t.toNat, none⟩ (.int .i64 (gi O (ge g.edges m).f.toNat + 1))).heap.size := by simp [World.setCell]; omega
                  have hs9 : (wq.setCell ⟨go, (ge g.edges m).t.toNat, none⟩ (.int .i64 (gi O (ge g.edges m).f.toNat + 1))).heap.size = wq.heap.size := by simp [World.setCell]
                  have hgne : go ≠ wr.heap.size := by omega
                  go_wp2_with (at_builtin; refine wpList_append_own _ rfl _ _ 23 rfl w1.heap.size 3 i0 (.int .i64 0) 1 8 Try.underlying23 hi hz0 hz1 hz2 rfl (by decide) _ _ _ rfl (by exact hD2.t.alloc _) ⟨wq.heap.size, 0, none⟩ 1 1 [.int .i64 (ge g.edges m).t] rfl rfl ?c1 ?c2 ?c3 ?c4 ?c5 ?_)
                  case c1 =>
                    intro j u hj
                    match j, hj with
                    | 0, hj => simp at hj; subst hj; simp only [Addr.add]; exact World.cell?_alloc_at _ _ _ _ (by rw [hs9])
                  case c2 => intro u hu; simp at hu; subst hu; rfl
                  case c3 => unfold maxLen; omega
                  case c4 => omega
                  case c5 => have := hD2.lt.2.2; simp [World.setCell] at this ⊢; omega
                  · intro v' w' hown' hgrow _
                    have hbG : Below w1.heap.size (wq.drew.setCell ⟨go, (ge g.edges m).t.toNat, none⟩ (.int .i64 (gi O (ge g.edges m).f.toNat + 1))) w' :=
                      Below.grown ((Below.refl w1.heap.size (wq.drew.setCell ⟨go, (ge g.edges m).t.toNat, none⟩ (.int .i64 (gi O (ge g.edges m).f.toNat + 1)))).alloc hD2.lt.2.2 (Obj.cells #[.int .i64 (ge g.edges m).t] 3)) hgrow (by have := hD2.lt.2.2; simp [World.setCell] at this ⊢; omega) (fun j hj => (hD2.t.lt j hj).1)
                    have hsz : w1.heap.size ≤ w'.heap.size := Nat.le_trans hD2.lt.2.2 hbG.size
                    have hD3 : DG w w' N w1.heap.size go (some ⟨b, o, none⟩) g.edges.length ce (O.set (ge g.edges m).t.toNat (gi O (ge g.edges m).f.toNat + 1)) (T ++ [(ge g.edges m).t]) v' :=
                      ⟨own_under hD2.o hbG hq9.2.1, hD2.ol, by simpa [ownInts] using hown', (hbG.cell (p := ⟨w.heap.size, 2, none⟩) (by show w.heap.size < w1.heap.size; omega)).trans hD2.g2, hD2.bw.trans (hbG.mono (by omega)), ⟨hq9.1, hq9.2.1, hsz⟩⟩
                    have hlen : Hid ((T ++ [(ge g.edges m).t]).length = T.length + 1) := by unfold Hid; simp
                    clear hown' hgrow hbG hD2 hD1 ke0 ke1 ke2 of ot fz
                    go_wp2
                    exact ⟨⟨m + 1, _, _, by omega, by rw [hlen.out]; omega, by rw [hlen.out]; exact hTN', by go_num, HBn, hD3⟩, by simp [intOf]; omega⟩
                · have HBn := Lib.hid (hBF.out.old HOK.out hlm hlt hA hB)
                  have hA' : ((ge g.edges m).f == gi T k) = true := by simpa using hA
                  have hB' : (gi O (ge g.edges m).t.toNat == -1) = false := by simpa using hB
                  clear hA hB q6 hBF
                  go_wp2_with fail
                  go_quiet (fail)
                  go_wp2
                  exact ⟨⟨m + 1, _, _, by omega, hlt, hTN, by go_num, HBn, hD.under (below_drewN hb1 _)⟩, by simp [intOf]; omega⟩
              · have HBn := Lib.hid (hBF.out.skip hlt hA)
                have hA' : ((ge g.edges m).f == gi T k) = false := by simpa using hA
                clear hA q6 hBF
                go_wp2_with fail
                go_quiet (fail)
                go_wp2
                exact ⟨⟨m + 1, _, _, by omega, hlt, hTN, by go_num, HBn, hD.under (below_drewN hb1 _)⟩, by simp [intOf]; omega⟩
            · have hmm : m = g.edges.length := by omega
              subst hmm
              have HBn := Lib.hid (hBF.out.next hlt)
              clear hBF
              go_wp2
              exact ⟨⟨k + 1, _, _, by omega, hTN, by go_num, HBn, hD⟩, by simp [intOf]; omega⟩
        · have hkk : k = T.length := by omega
          subst hkk
          obtain ⟨hO, hok2⟩ := dl_of (hBF.out.fin HOK.out rfl)
          have HO := Lib.hid hO
          have HK2 := Lib.hid hok2
          clear hO hok2 hBF
          go_wp2
          go_ret
          exact ⟨_, rfl, by rw [← HO.out]; exact own_mono hD.o (by omega), HK2, hD.bw⟩
end Go.Proofs.Ytnijajjmcdgonaa
