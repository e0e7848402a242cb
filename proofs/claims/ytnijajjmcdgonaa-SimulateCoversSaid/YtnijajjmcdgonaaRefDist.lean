import Derived.Test.YtnijajjmcdgonaaMathE
import Derived.Test.YtnijajjmcdgonaaDist
namespace Go.Proofs.Ytnijajjmcdgonaa
open Go.RowKit
set_option linter.unusedVariables false

/-- What ref.Distances keeps of its own in memory. -/
structure RG (w wr : World) (N : Nat) (ai : Option Addr) (ni ci : Nat) (ae : Option Addr) (ne ce : Nat) (O : List Int) (vo : Value) : Prop where
  o : ownInts wr (w.heap.size + 1) vo O
  g0 : wr.cell? ⟨w.heap.size, 0, none⟩ = some (.int .i64 N)
  g1 : wr.cell? ⟨w.heap.size, 1, none⟩ = some (.slice ai ni ci)
  g2 : wr.cell? ⟨w.heap.size, 2, none⟩ = some (.slice ae ne ce)
  bw : Below w.heap.size w wr
  lt : w.heap.size + 1 ≤ wr.heap.size
theorem RG.under {w wr wr' : World} {N : Nat} {ai : Option Addr} {ni ci : Nat} {ae : Option Addr} {ne ce : Nat} {O : List Int} {vo : Value} (h : RG w wr N ai ni ci ae ne ce O vo) (hb : Below wr.heap.size wr wr') : RG w wr' N ai ni ci ae ne ce O vo :=
  ⟨ownsRow_later h.o hb, Below.keeps hb h.g0 (Nat.le_refl _), Below.keeps hb h.g1 (Nat.le_refl _), Below.keeps hb h.g2 (Nat.le_refl _), h.bw.trans (hb.mono h.bw.size), Nat.le_trans h.lt hb.size⟩
theorem RG.store {w wr : World} {N : Nat} {ai : Option Addr} {ni ci : Nat} {ae : Option Addr} {ne ce : Nat} {O : List Int} {go n c : Nat} (h : RG w wr N ai ni ci ae ne ce O (.slice (some ⟨go, 0, none⟩) n c)) (hgo : w.heap.size + 1 ≤ go) (j : Nat) (u : Int) :
    RG w (wr.setCell ⟨go, j, none⟩ (.int .i64 u)) N ai ni ci ae ne ce (O.set j u) (.slice (some ⟨go, 0, none⟩) n c) := by
  have ne : ∀ i, (wr.setCell ⟨go, j, none⟩ (.int .i64 u)).cell? ⟨w.heap.size, i, none⟩ = wr.cell? ⟨w.heap.size, i, none⟩ := fun i => World.cell?_setCell_other _ _ _ _ (by intro h; injection h with h1; omega)
  exact ⟨own_store' h.o _ _, (ne 0).trans h.g0, (ne 1).trans h.g1, (ne 2).trans h.g2, h.bw.setCell (by show w.heap.size ≤ go; omega) _, by simp [World.setCell]; exact h.lt⟩

set_option maxHeartbeats 3200000 in
set_option maxRecDepth 100000 in
theorem refDistances_any (g : G) (v : Value) (w : World) (hg : GraphAt w v g) (hok : bOk g) :
    Calls Try.prog 36 #[v] w fun e w' => ∃ v', e = .returned v' ∧ ownInts w' w.heap.size v' (dl g) ∧ Hid (DistOk g (dl g)) ∧ Below w.heap.size w w' := by
  obtain ⟨vi, ve, rfl, hvi, ⟨ae, ce, rfl, hme, hce⟩⟩ := hg
  obtain ⟨ai, ci, rfl⟩ : ∃ a c, vi = .slice a g.init.length c := by obtain ⟨a, c, rfl, -, -⟩ := hvi; exact ⟨a, c, rfl⟩
  obtain ⟨i0, hi, hz0, hz1, hz2⟩ := info_parts infoInt
  obtain ⟨N, hN⟩ : ∃ N : Nat, g.n = (N : Int) := ⟨g.n.toNat, by have := hok.1; omega⟩
  have hN4 : N ≤ 400 := by have := hok.2.1; omega
  have hel : g.edges.length ≤ 2000 := hok.2.2.2.1
  have HNN : Hid (g.n.toNat = N) := by unfold Hid; omega
  have HNG : Hid (g.n = N) := hN
  rw [hN]
  have HOK := Lib.hid hok
  clear hok hN hme
  go_enter Try.func36, Try.ntmps36
  go_wp2_with fail
  have hD : RG w (w.alloc (Obj.cells #[.int .i64 N, .slice ai g.init.length ci, .slice ae g.edges.length ce] 34)) N ai g.init.length ci ae g.edges.length ce (iniL g 0) (.slice none 0 0) :=
    ⟨World.ownsRow_nil _ _ _ _, World.cell?_alloc_at _ _ _ _ rfl, World.cell?_alloc_at _ _ _ _ rfl, World.cell?_alloc_at _ _ _ _ rfl, (Below.refl _ _).alloc (Nat.le_refl _) _, by simp⟩
  generalize (w.alloc (Obj.cells #[.int .i64 N, .slice ai g.init.length ci, .slice ae g.edges.length ce] 34)) = w0 at *
  go_loopw [3, 4] (fun vo s wr => ∃ k : Nat, k ≤ N ∧ s = .int .i64 k ∧ RG w wr N ai g.init.length ci ae g.edges.length ce (iniL g k) vo) (fun _ s _ => N - (intOf s).toNat)
  case atStart => exact ⟨0, Nat.zero_le _, rfl, hD⟩
  case round =>
    clear hD
    obtain ⟨k, hk, rfl, hD⟩ := hrel
    have hil := iniL_len g k
    have g0 := hD.g0
    have g1 := hD.g1
    by_cases hlt : k < N
    · have hlt' : (k : Int) < (N : Int) := by omega
      have HD := Lib.hid hD
      have HIL := Lib.hid hil
      clear hD hil
      go_wp2_with fail
      refine (holds_any g.init k _ _ (hvi.later HD.out.bw)).mono ?_
      rintro e wk ⟨rfl, rfl⟩
      by_cases hin : (k : Int) ∈ g.init
      · have HS : Hid (iniL g (k + 1) = iniL g k ++ [0]) := by unfold Hid; rw [iniL_succ, if_pos hin]
        rw [decide_eq_true hin]
        clear hin
        go_wp2_with (at_builtin; refine wpList_append_own _ rfl _ _ 23 rfl (w.heap.size + 1) 3 i0 (.int .i64 0) 1 8 Try.underlying23 hi hz0 hz1 hz2 rfl (by decide) _ _ _ rfl (HD.out.o.alloc _) ⟨wk.heap.size, 0, none⟩ 1 1 [.int .i64 0] rfl rfl ?c1 ?c2 ?c3 ?c4 ?c5 ?_)
        case c1 =>
          intro j u hj
          match j, hj with
          | 0, hj => simp at hj; subst hj; simp [Addr.add]
        case c2 => intro u hu; simp at hu; subst hu; rfl
        case c3 => rw [HIL.out]; unfold maxLen; omega
        case c4 => rw [HIL.out]; omega
        case c5 => have := HD.out.lt; simp; omega
        · intro v' w' hown' hgrow _
          have hbG : Below (w.heap.size + 1) wk w' := Below.grown ((Below.refl (w.heap.size + 1) wk).alloc HD.out.lt (Obj.cells #[.int .i64 0] 3)) hgrow (by have := HD.out.lt; simp; omega) (fun j hj => (HD.out.o.lt j hj).1)
          have hD3 : RG w w' N ai g.init.length ci ae g.edges.length ce (iniL g (k + 1)) v' :=
            ⟨by rw [HS.out]; simpa [ownInts] using hown', (hbG.cell (p := ⟨w.heap.size, 0, none⟩) (by show w.heap.size < _; omega)).trans HD.out.g0, (hbG.cell (p := ⟨w.heap.size, 1, none⟩) (by show w.heap.size < _; omega)).trans HD.out.g1, (hbG.cell (p := ⟨w.heap.size, 2, none⟩) (by show w.heap.size < _; omega)).trans HD.out.g2, HD.out.bw.trans (hbG.mono (by omega)), Nat.le_trans HD.out.lt hbG.size⟩
          clear hown' hgrow hbG g0 g1 HD
          go_wp2
          exact ⟨⟨k + 1, by omega, by go_num, hD3⟩, by simp [intOf]; omega⟩
      · have HS : Hid (iniL g (k + 1) = iniL g k ++ [-1]) := by unfold Hid; rw [iniL_succ, if_neg hin]
        rw [decide_eq_false hin]
        clear hin
        go_wp2_with (at_builtin; refine wpList_append_own _ rfl _ _ 23 rfl (w.heap.size + 1) 3 i0 (.int .i64 0) 1 8 Try.underlying23 hi hz0 hz1 hz2 rfl (by decide) _ _ _ rfl (HD.out.o.alloc _) ⟨wk.heap.size, 0, none⟩ 1 1 [.int .i64 (-1)] rfl rfl ?c1 ?c2 ?c3 ?c4 ?c5 ?_)
        case c1 =>
          intro j u hj
          match j, hj with
          | 0, hj => simp at hj; subst hj; simp [Addr.add]
        case c2 => intro u hu; simp at hu; subst hu; rfl
        case c3 => rw [HIL.out]; unfold maxLen; omega
        case c4 => rw [HIL.out]; omega
        case c5 => have := HD.out.lt; simp; omega
        · intro v' w' hown' hgrow _
          have hbG : Below (w.heap.size + 1) wk w' := Below.grown ((Below.refl (w.heap.size + 1) wk).alloc HD.out.lt (Obj.cells #[.int .i64 (-1)] 3)) hgrow (by have := HD.out.lt; simp; omega) (fun j hj => (HD.out.o.lt j hj).1)
          have hD3 : RG w w' N ai g.init.length ci ae g.edges.length ce (iniL g (k + 1)) v' :=
            ⟨by rw [HS.out]; simpa [ownInts] using hown', (hbG.cell (p := ⟨w.heap.size, 0, none⟩) (by show w.heap.size < _; omega)).trans HD.out.g0, (hbG.cell (p := ⟨w.heap.size, 1, none⟩) (by show w.heap.size < _; omega)).trans HD.out.g1, (hbG.cell (p := ⟨w.heap.size, 2, none⟩) (by show w.heap.size < _; omega)).trans HD.out.g2, HD.out.bw.trans (hbG.mono (by omega)), Nat.le_trans HD.out.lt hbG.size⟩
          clear hown' hgrow hbG g0 g1 HD
          go_wp2
          exact ⟨⟨k + 1, by omega, by go_num, hD3⟩, by simp [intOf]; omega⟩
    · have hkk : k = N := by omega
      subst hkk
      have hR : Hid (RD g (iniL g k) 0 0) := by unfold Hid; rw [← HNN.out]; exact RD.start HOK.out
      have HIL := Lib.hid hil
      clear hil g1
      go_wp2_with fail
      clear g0
      obtain ⟨O0, hO0⟩ : ∃ O0, O0 = iniL g k := ⟨_, rfl⟩
      rw [← hO0] at hR hD
      have HO0 : Hid (O0.length = k) := by unfold Hid; rw [hO0]; exact HIL.out
      clear hO0 HIL
      obtain ⟨ao, co, rfl⟩ := own_form hD.o
      go_loopw [6] (fun i wr => ∃ (far : Nat) (O : List Int), far ≤ k ∧ i = .int .i64 far ∧ Hid (O.length = O0.length) ∧ Hid (RD g O far 0) ∧ RG w wr k ai g.init.length ci ae g.edges.length ce O (.slice ao O0.length co)) (fun i _ => k - (intOf i).toNat)
      case atStart => exact ⟨0, O0, Nat.zero_le _, rfl, rfl, hR, hD⟩
      case round =>
        clear hD hR
        obtain ⟨far, O, hfar, rfl, hOl, hR, hD⟩ := hrel
        have g0 := hD.g0
        by_cases hlt : far < k
        · have hlt' : (far : Int) < (k : Int) := by omega
          have HD0 := Lib.hid hD
          clear hD
          go_wp2_with fail
          have hD := HD0.out
          clear HD0 g0
          go_loopw [7] (fun j wr => ∃ (m : Nat) (O : List Int), m ≤ g.edges.length ∧ j = .int .i64 m ∧ Hid (O.length = O0.length) ∧ Hid (RD g O far m) ∧ RG w wr k ai g.init.length ci ae g.edges.length ce O (.slice ao O0.length co)) (fun j _ => g.edges.length - (intOf j).toNat)
          case atStart => exact ⟨0, O, Nat.zero_le _, rfl, hOl, hR, hD⟩
          case round =>
            clear hD hR hOl
            obtain ⟨m, O, hm, rfl, hOl, hR, hD⟩ := hrel
            have g2 := hD.g2
            by_cases hlm : m < g.edges.length
            · obtain ⟨q1, q2, q3, q4⟩ := edge_in HOK.out hlm
              obtain ⟨go, co', eo, hgo, hgo'⟩ := own_ptr hD.o (by rw [hOl.out, HO0.out]; omega)
              have hol2 : O.length = O0.length := hOl.out
              rw [hol2] at eo
              injection eo with e1 e2 e3
              subst e1 e3
              clear e2
              have hlm' : (m : Int) < (g.edges.length : Int) := by omega
              have hw1 : (0 : Int) ≤ (m : Int) := by omega
              obtain ⟨b, o, e1, c1, c2, c3⟩ := hce.later hD.bw m hlm
              subst e1
              have hbb : b < wr.heap.size := cell_lt c1
              have hO0k : O0.length = k := HO0.out
              have hng := HNG.out
              have tf := own_at hD.o (ge g.edges m).f.toNat (by omega)
              have tt := own_at hD.o (ge g.edges m).t.toNat (by omega)
              have fz := own_frozen hD.o (ge g.edges m).t.toNat
              have q2' : (ge g.edges m).f < (O0.length : Int) := by omega
              have q4' : (ge g.edges m).t < (O0.length : Int) := by omega
              have hb1 : Below wr.heap.size wr (wr.alloc (Obj.cells #[.int .i64 (ge g.edges m).f, .int .i64 (ge g.edges m).t, .int .i64 (ge g.edges m).a] 74)) := (Below.refl _ _).alloc (Nat.le_refl _) _
              clear hO0k hng hol2
              by_cases hA : gi O (ge g.edges m).f.toNat = far
              · by_cases hB : gi O (ge g.edges m).t.toNat = -1
                · have HRn := Lib.hid (hR.out.more HOK.out hlm hA hB)
                  have hA' : (gi O (ge g.edges m).f.toNat == far) = true := by simpa using hA
                  have hB' : (gi O (ge g.edges m).t.toNat == -1) = true := by simpa using hB
                  have hD2 := (hD.store hgo (ge g.edges m).t.toNat ((far : Int) + 1)).under ((Below.refl _ _).alloc (Nat.le_refl _) (Obj.cells #[.int .i64 (ge g.edges m).f, .int .i64 (ge g.edges m).t, .int .i64 (ge g.edges m).a] 74))
                  have hwr : IntKind.i64.wrap ((far : Int) + 1) = (far : Int) + 1 := IntWalk.i64_in _ (by omega)
                  have hol3 : Hid ((O.set (ge g.edges m).t.toNat ((far : Int) + 1)).length = O0.length) := by unfold Hid; rw [List.length_set]; exact hOl.out
                  have HA := Lib.hid hA
                  clear hA hB hR hD hb1
                  go_wp2
                  exact ⟨⟨m + 1, _, by omega, by go_num, hol3, HRn, hD2⟩, by simp [intOf]; omega⟩
                · have HRn := Lib.hid (hR.out.old HOK.out hlm hA hB)
                  have hA' : (gi O (ge g.edges m).f.toNat == far) = true := by simpa using hA
                  have hB' : (gi O (ge g.edges m).t.toNat == -1) = false := by simpa using hB
                  have hD2 := hD.under hb1
                  clear hA hB hR hD hb1
                  go_wp2
                  exact ⟨⟨m + 1, _, by omega, by go_num, hOl, HRn, hD2⟩, by simp [intOf]; omega⟩
              · have HRn := Lib.hid (hR.out.skip hA)
                have hA' : (gi O (ge g.edges m).f.toNat == far) = false := by simpa using hA
                have hD2 := hD.under hb1
                clear hA hR hD hb1
                go_wp2
                exact ⟨⟨m + 1, _, by omega, by go_num, hOl, HRn, hD2⟩, by simp [intOf]; omega⟩
            · have hmm : m = g.edges.length := by omega
              subst hmm
              have HRn := Lib.hid hR.out.next
              clear hR
              go_wp2
              exact ⟨⟨far + 1, _, by omega, by go_num, hOl, HRn, hD⟩, by simp [intOf]; omega⟩
        · have hff : far = k := by omega
          subst hff
          obtain ⟨hO, hok2⟩ := dl_of (hR.out.fin HOK.out HNN.out.symm)
          have HO := Lib.hid hO
          have HK2 := Lib.hid hok2
          clear hO hok2 hR
          go_wp2
          go_ret
          exact ⟨_, rfl, by rw [← HO.out]; exact own_mono hD.o (by omega), HK2, hD.bw⟩
end Go.Proofs.Ytnijajjmcdgonaa
