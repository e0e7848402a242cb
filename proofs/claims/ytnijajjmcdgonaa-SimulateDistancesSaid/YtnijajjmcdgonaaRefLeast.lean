import Derived.Test.YtnijajjmcdgonaaMathI
import Derived.Test.YtnijajjmcdgonaaRefDist
import Derived.Test.YtnijajjmcdgonaaRefWalk
import Derived.Test.YtnijajjmcdgonaaLeastC
import Derived.Test.YtnijajjmcdgonaaCovE
namespace Go.Proofs.Ytnijajjmcdgonaa
open Go.RowKit
set_option linter.unusedVariables false

/-- What ref.Least keeps of its own in memory before the walk is made. -/
structure LQ (w wr : World) (N go : Nat) (ai : Option Addr) (ni ci : Nat) (ae : Option Addr) (ne ce : Nat) (L : List Int) : Prop where
  o : ownInts wr (w.heap.size + 2) (.slice (some ⟨go, 0, none⟩) N N) L
  ln : L.length = N
  g0 : wr.cell? ⟨w.heap.size, 0, none⟩ = some (.int .i64 N)
  g1 : wr.cell? ⟨w.heap.size, 1, none⟩ = some (.slice ai ni ci)
  g2 : wr.cell? ⟨w.heap.size, 2, none⟩ = some (.slice ae ne ce)
  r0 : wr.cell? ⟨w.heap.size + 1, 0, none⟩ = some (.int .i64 0)
  r1 : wr.cell? ⟨w.heap.size + 1, 1, none⟩ = some (.slice none 0 0)
  r2 : wr.cell? ⟨w.heap.size + 1, 2, none⟩ = some (.bool false)
  rf : ∀ i, wr.frozen? ⟨w.heap.size + 1, i, none⟩ = false
  bw : Below w.heap.size w wr
theorem LQ.ge {w wr : World} {N go : Nat} {ai : Option Addr} {ni ci : Nat} {ae : Option Addr} {ne ce : Nat} {L : List Int} (h : LQ w wr N go ai ni ci ae ne ce L) : w.heap.size + 2 ≤ go ∧ go < wr.heap.size := own_ge h.o
theorem LQ.later {w wr wr' : World} {N go : Nat} {ai : Option Addr} {ni ci : Nat} {ae : Option Addr} {ne ce : Nat} {L : List Int} (h : LQ w wr N go ai ni ci ae ne ce L) (hb : Below wr.heap.size wr wr') : LQ w wr' N go ai ni ci ae ne ce L :=
  ⟨ownsRow_later h.o hb, h.ln, Below.keeps hb h.g0 (Nat.le_refl _), Below.keeps hb h.g1 (Nat.le_refl _), Below.keeps hb h.g2 (Nat.le_refl _), Below.keeps hb h.r0 (Nat.le_refl _), Below.keeps hb h.r1 (Nat.le_refl _), Below.keeps hb h.r2 (Nat.le_refl _),
    fun i => Below.keepsF hb (h.rf i) (by have := cell_lt h.r0; exact this), h.bw.trans (hb.mono h.bw.size)⟩
theorem LQ.store {w wr : World} {N go : Nat} {ai : Option Addr} {ni ci : Nat} {ae : Option Addr} {ne ce : Nat} {L : List Int} (h : LQ w wr N go ai ni ci ae ne ce L) (j : Nat) (u : Int) :
    LQ w (wr.setCell ⟨go, j, none⟩ (.int .i64 u)) N go ai ni ci ae ne ce (L.set j u) := by
  have hge := h.ge.1
  have ne0 : ∀ i, (wr.setCell ⟨go, j, none⟩ (.int .i64 u)).cell? ⟨w.heap.size, i, none⟩ = wr.cell? ⟨w.heap.size, i, none⟩ := fun i => World.cell?_setCell_other _ _ _ _ (by intro h; injection h with h1; omega)
  have ne1 : ∀ i, (wr.setCell ⟨go, j, none⟩ (.int .i64 u)).cell? ⟨w.heap.size + 1, i, none⟩ = wr.cell? ⟨w.heap.size + 1, i, none⟩ := fun i => World.cell?_setCell_other _ _ _ _ (by intro h; injection h with h1; omega)
  exact ⟨own_store' h.o _ _, by rw [List.length_set]; exact h.ln, (ne0 0).trans h.g0, (ne0 1).trans h.g1, (ne0 2).trans h.g2, (ne1 0).trans h.r0, (ne1 1).trans h.r1, (ne1 2).trans h.r2, fun i => (World.frozen?_setCell _ _ _ _).trans (h.rf i), h.bw.setCell (by show w.heap.size ≤ go; omega) _⟩

theorem mw_first {W1 wr : World} {m : Nat} {f : Int} (h : MW W1 wr m 0 none 0 []) : MW W1 (wr.setCell ⟨m, 0, none⟩ (.int .i64 f)) m f none 0 [] :=
  ⟨h.ge, World.cell?_setCell_same _ _ _ h.m0, (World.cell?_setCell_other _ _ _ _ (by intro h; injection h with h1 h2; omega)).trans h.m1, (World.cell?_setCell_other _ _ _ _ (by intro h; injection h with h1 h2; omega)).trans h.m2,
    fun i => (World.frozen?_setCell _ _ _ _).trans (h.mf i), World.ownsRow_nil _ _ _ _, h.bw.setCell (by show W1.heap.size ≤ m; exact h.ge) _⟩

def RLPost (w : World) (g : G) (t : Int) (D : Nat) (e : Ending) (w' : World) : Prop :=
  ∃ (f : Int) (S : List Int) (a : Option Addr) (c : Nat), e = .returned (.agg #[.int .i64 f, .slice a S.length c, .bool false]) ∧ ownInts w' w.heap.size (.slice a S.length c) S ∧ LeastIn (Hit g (fun _ s => s == t) D) (f :: S) ∧ Below w.heap.size w w'

set_option maxHeartbeats 8000000 in
set_option maxRecDepth 100000 in
theorem refLeast_any (g : G) (t : Int) (v : Value) (w : World) (hg : GraphAt w v g) (hok : bOk g) (ht0 : 0 ≤ t) (ht1 : t < g.n) (D : Nat) (hD : IsDist g t (D : Int)) :
    Calls Try.prog 37 #[v, .int .i64 t] w (RLPost w g t D) := by
  have hg' := hg
  obtain ⟨vi, ve, rfl, hvi, ⟨ae, ce, rfl, hme, hce⟩⟩ := hg
  obtain ⟨ai, ci, rfl, hmi, hci⟩ := hvi
  obtain ⟨i0, hi, hz0, hz1, hz2⟩ := info_parts infoInt
  obtain ⟨N, hN⟩ : ∃ N : Nat, g.n = (N : Int) := ⟨g.n.toNat, by have := hok.1; omega⟩
  have hN4 : N ≤ 400 := by have := hok.2.1; omega
  have hel : g.edges.length ≤ 2000 := hok.2.2.2.1
  have hFl : g.init.length ≤ N := by have : (g.init.length : Int) ≤ g.n := hok.2.2.1; omega
  have HNN : Hid (g.n.toNat = N) := by unfold Hid; omega
  have HNG : Hid (g.n = N) := hN
  have HG : Hid (GraphAt w (.agg #[.int .i64 (N : Int), .slice ai g.init.length ci, .slice ae g.edges.length ce]) g) := by unfold Hid; rw [← hN]; exact hg'
  have htN : t < (N : Int) := by omega
  have HWT : Hid (wOk (gT g t)) := gT_ok hok ht0 ht1
  have HIT : Hid (iniL (gT g t) N = (List.replicate N (-1)).set t.toNat 0) := by have h := gT_ini (g := g) ht0 ht1; rw [HNN.out] at h; exact h
  have HEL : Hid ((gT g t).edges.length = g.edges.length) := gT_len g t
  have HTN : Hid ((gT g t).n = N) := hN
  have HOK := Lib.hid hok
  have HD := Lib.hid hD
  have HCI := Lib.hid hci
  have HCE := Lib.hid hce
  have HT1 := Lib.hid ht1
  rw [hN]
  clear hok hN hme hD hmi hci hg' hce ht1
  go_enter Try.func37, Try.ntmps37
  go_wp2_with (at_make; refine wpList_make_full _ rfl _ _ 23 rfl (w.heap.size + 2) 3 i0 (.int .i64 0) 1 Try.underlying23 hi hz0 hz1 .i64 .i64 N N N rfl rfl rfl rfl (by rw [hz2]; omega) (by unfold maxLen; omega) (by simp) ?_)
  intro w1 hown hgrow
  have hbA : Below w.heap.size w ((w.alloc (Obj.cells #[.int .i64 N, .slice ai g.init.length ci, .slice ae g.edges.length ce] 34)).alloc (Obj.cells #[.int .i64 0, .slice none 0 0, .bool false] 39)) := ((Below.refl _ _).alloc (Nat.le_refl _) _).alloc (by simp) _
  have hbB := Below.grown (Below.refl _ _) hgrow (Nat.le_refl _) (fun j hj => by cases hj)
  have hL : LQ w w1 N (w.heap.size + 1 + 1) ai g.init.length ci ae g.edges.length ce (List.replicate N 0) := by
    refine ⟨?_, by simp, Below.keeps hbB ?_ (by simp), Below.keeps hbB ?_ (by simp), Below.keeps hbB ?_ (by simp), Below.keeps hbB ?_ (by simp), Below.keeps hbB ?_ (by simp), Below.keeps hbB ?_ (by simp), fun i => Below.keepsF hbB ?_ (by simp), hbA.trans (hbB.mono (by simp; omega))⟩
    · exact own_zero (by rw [Nat.mul_one]; exact hown)
    · rw [World.cell?_alloc_past _ _ _ (by simp), World.cell?_alloc_at _ _ _ _ rfl]; rfl
    · rw [World.cell?_alloc_past _ _ _ (by simp), World.cell?_alloc_at _ _ _ _ rfl]; rfl
    · rw [World.cell?_alloc_past _ _ _ (by simp), World.cell?_alloc_at _ _ _ _ rfl]; rfl
    · rw [World.cell?_alloc_at _ _ _ _ (by simp)]; rfl
    · rw [World.cell?_alloc_at _ _ _ _ (by simp)]; rfl
    · rw [World.cell?_alloc_at _ _ _ _ (by simp)]; rfl
    · exact World.frozen?_alloc_at _ _ _ _ (by simp)
  clear hown hgrow hbA hbB
  obtain ⟨go, hgo⟩ : ∃ go, go = w.heap.size + 1 + 1 := ⟨_, rfl⟩
  rw [← hgo] at hL
  go_wp2_with fail
  rw [← hgo]
  clear hgo
  go_loopw [6] (fun s wr => ∃ (k : Nat) (L : List Int), k ≤ N ∧ s = .int .i64 k ∧ Hid (∀ j, j < k → gi L j = -1) ∧ LQ w wr N go ai g.init.length ci ae g.edges.length ce L) (fun s _ => N - (intOf s).toNat)
  case atStart => exact ⟨0, _, Nat.zero_le _, rfl, fun j h => absurd h (Nat.not_lt_zero _), hL⟩
  case round =>
    clear hL
    obtain ⟨k, L, hk, rfl, hA, hL⟩ := hrel
    have g0 := hL.g0
    by_cases hlt : k < N
    · have hlt' : (k : Int) < (N : Int) := by omega
      have hk0 : (0 : Int) ≤ (k : Int) := by omega
      have hln := hL.ln
      have tt := own_at hL.o k (by omega)
      have fz := own_frozen hL.o k
      have hL2 := hL.store k (-1)
      have hA2 : Hid (∀ j, j < k + 1 → gi (L.set k (-1)) j = -1) := fun j hj => by
        by_cases h : j = k
        · subst h; exact gi_set_same (by omega)
        · rw [gi_set_other h]; exact hA.out j (by omega)
      clear hL hA hln
      go_wp2
      exact ⟨⟨k + 1, _, by omega, by go_num, hA2, hL2⟩, by simp [intOf]; omega⟩
    · have hkk : k = N := by omega
      subst hkk
      have hLr : L = List.replicate k (-1) := gi_ext (by rw [hL.ln]; simp) fun j hj => by
        have h := hL.ln
        rw [hA.out j (by omega)]
        unfold gi; simp [show j < k by omega]
      subst hLr
      have tt := own_at hL.o t.toNat (by simp; omega)
      have fz := own_frozen hL.o t.toNat
      have hL2 := hL.store t.toNat 0
      have hR : Hid (RW (gT g t) ((List.replicate k (-1)).set t.toNat 0) 0 0) := by
        unfold Hid
        rw [← HIT.out]
        have h := RW.start HWT.out
        rw [HTN.out] at h
        exact h
      clear hL hA
      go_wp2_with fail
      generalize (wr.setCell ⟨go, t.toNat, none⟩ (.int .i64 0)) = w2 at *
      clear tt fz g0
      go_loopw [7] (fun i wr => ∃ (far : Nat) (O : List Int), far ≤ k ∧ i = .int .i64 far ∧ Hid (RW (gT g t) O far 0) ∧ LQ w wr k go ai g.init.length ci ae g.edges.length ce O) (fun i _ => k - (intOf i).toNat)
      case atStart => exact ⟨0, _, Nat.zero_le _, rfl, hR, hL2⟩
      case round =>
        clear hL2 hR
        obtain ⟨far, O, hfar, rfl, hR, hL⟩ := hrel
        have g0 := hL.g0
        by_cases hlt2 : far < k
        · have hlt' : (far : Int) < (k : Int) := by omega
          have HL0 := Lib.hid hL
          clear hL
          go_wp2_with fail
          have hL := HL0.out
          clear HL0 g0
          go_loopw [8] (fun j wr => ∃ (m : Nat) (O : List Int), m ≤ g.edges.length ∧ j = .int .i64 m ∧ Hid (RW (gT g t) O far m) ∧ LQ w wr k go ai g.init.length ci ae g.edges.length ce O) (fun j _ => g.edges.length - (intOf j).toNat)
          case atStart => exact ⟨0, O, Nat.zero_le _, rfl, hR, hL⟩
          case round => as_aux_lemma =>
              clear hL hR
              obtain ⟨m, O, hm, rfl, hR, hL⟩ := hrel
              have g2 := hL.g2
              by_cases hlm : m < g.edges.length
              · obtain ⟨q1, q2, q3, q4⟩ := edge_in HOK.out hlm
                have hlm' : (m : Int) < (g.edges.length : Int) := by omega
                have hw1 : (0 : Int) ≤ (m : Int) := by omega
                obtain ⟨b, o, e1, c1, c2, c3⟩ := HCE.out.later hL.bw m hlm
                subst e1
                have hbb : b < wr.heap.size := cell_lt c1
                have hng := HNG.out
                have hln := hL.ln
                obtain ⟨hge1, hge2⟩ := hL.ge
                have tf := own_at hL.o (ge g.edges m).f.toNat (by omega)
                have tt := own_at hL.o (ge g.edges m).t.toNat (by omega)
                have fz := own_frozen hL.o (ge g.edges m).f.toNat
                have q2' : (ge g.edges m).f < (k : Int) := by omega
                have q4' : (ge g.edges m).t < (k : Int) := by omega
                have hb1 : Below wr.heap.size wr (wr.alloc (Obj.cells #[.int .i64 (ge g.edges m).f, .int .i64 (ge g.edges m).t, .int .i64 (ge g.edges m).a] 74)) := (Below.refl _ _).alloc (Nat.le_refl _) _
                have hT := gT_at g t hlm
                have hlT : m < (gT g t).edges.length := by rw [HEL.out]; exact hlm
                clear hng hln
                by_cases hA : gi O (ge g.edges m).t.toNat = far
                · by_cases hB : gi O (ge g.edges m).f.toNat = -1
                  · have HRn := Lib.hid (hR.out.more HWT.out hlT (by rw [hT]; exact hA) (by rw [hT]; exact hB))
                    rw [hT] at HRn
                    have hA' : (gi O (ge g.edges m).t.toNat == far) = true := by simpa using hA
                    have hB' : (gi O (ge g.edges m).f.toNat == -1) = true := by simpa using hB
                    have hL2 := (hL.store (ge g.edges m).f.toNat ((far : Int) + 1)).later ((Below.refl _ _).alloc (Nat.le_refl _) (Obj.cells #[.int .i64 (ge g.edges m).f, .int .i64 (ge g.edges m).t, .int .i64 (ge g.edges m).a] 74))
                    have hwr : IntKind.i64.wrap ((far : Int) + 1) = (far : Int) + 1 := IntWalk.i64_in _ (by omega)
                    have HA := Lib.hid hA
                    clear hA hB hR hL hb1 hT hlT
                    go_wp2
                    exact ⟨⟨m + 1, _, by omega, by go_num, HRn, hL2⟩, by simp [intOf]; omega⟩
                  · have HRn := Lib.hid (hR.out.old HWT.out hlT (by rw [hT]; exact hA) (by rw [hT]; exact hB))
                    have hA' : (gi O (ge g.edges m).t.toNat == far) = true := by simpa using hA
                    have hB' : (gi O (ge g.edges m).f.toNat == -1) = false := by simpa using hB
                    have hL2 := hL.later hb1
                    clear hA hB hR hL hb1 hT hlT
                    go_wp2
                    exact ⟨⟨m + 1, _, by omega, by go_num, HRn, hL2⟩, by simp [intOf]; omega⟩
                · have HRn := Lib.hid (hR.out.skip (by rw [hT]; exact hA))
                  have hA' : (gi O (ge g.edges m).t.toNat == far) = false := by simpa using hA
                  have hL2 := hL.later hb1
                  clear hA hR hL hb1 hT hlT
                  go_wp2
                  exact ⟨⟨m + 1, _, by omega, by go_num, HRn, hL2⟩, by simp [intOf]; omega⟩
              · have hmm : m = g.edges.length := by omega
                subst hmm
                have HRn := Lib.hid ((show RW (gT g t) O far (gT g t).edges.length by rw [HEL.out]; exact hR.out).next)
                clear hR
                go_wp2
                exact ⟨⟨far + 1, _, by omega, by go_num, HRn, hL⟩, by simp [intOf]; omega⟩
        · have hff : far = k := by omega
          subst hff
          have HLD : Hid (DistOk (gT g t) O) := hR.out.fin HWT.out (by rw [HTN.out]; simp)
          have HCN : Hid (∀ s : Nat, s < far → 0 ≤ gi O s → gi O s < far) := fun s hs h0 => by
            have h := hR.out.cnt s (by rw [hL.ln]; exact hs) h0
            have h2 := HTN.out
            rw [h2] at h
            omega
          have HOL : Hid (O.length = far) := hL.ln
          have g1 := hL.g1
          have g2 := hL.g2
          have HL := Lib.hid hL
          clear hR hL
          go_wp2_with fail
          refine (refDistances_any g _ _ (HG.out.later HL.out.bw) HOK.out).mono ?_
          rintro e w3 ⟨vD, rfl, oD, hDK, hb3⟩
          obtain ⟨aD, cD, rfl, icD, hmD⟩ := ints_cell (IntsAt.of_own oD)
          have hlD : (dl g).length = far := by rw [hDK.out.len]; exact HNN.out
          obtain ⟨bD, oD', eD, cD'⟩ := icD t.toNat (by omega)
          subst eD
          have htl : t < ((dl g).length : Int) := by omega
          have hbest : gi (dl g) t.toNat = D := isDist_one (by have h := hDK.out.all t.toNat (by omega); rw [Int.toNat_of_nonneg ht0] at h; exact h) HD.out
          rw [hbest] at cD'
          have HL3 := Lib.hid (HL.out.later hb3)
          clear HL hb3 g0 g1 g2 oD hDK icD hmD hbest hlD
          go_wp2_with fail
          have hM : MW w3 (w3.alloc (Obj.cells #[.int .i64 0, .slice none 0 0, .bool false] 39)) w3.heap.size 0 none 0 [] := mw_made w3 (Below.refl _ _) _
          obtain ⟨p, hp⟩ : ∃ p, p = w3.heap.size := ⟨_, rfl⟩
          rw [← hp] at hM ⊢
          have HP : Hid (p = w3.heap.size) := hp
          generalize (w3.alloc (Obj.cells #[.int .i64 0, .slice none 0 0, .bool false] 39)) = w4 at *
          clear hp cD' htl
          go_loopw [12] (fun i wr => ∃ k : Nat, k ≤ g.init.length ∧ i = .int .i64 k ∧ Hid (∀ j, j < k → gi O (gi g.init j).toNat ≠ D) ∧ MW w3 wr p 0 none 0 []) (fun i _ => g.init.length - (intOf i).toNat)
          case atStart => exact ⟨0, Nat.zero_le _, rfl, fun j h => absurd h (Nat.not_lt_zero _), hM⟩
          case round => as_aux_lemma =>
              clear hM
              obtain ⟨k, hk, rfl, hno, hM⟩ := hrel
              by_cases hlt3 : k < g.init.length
              · have hlt' : (k : Int) < (g.init.length : Int) := by omega
                have hk0 : (0 : Int) ≤ (k : Int) := by omega
                have hL := HL3.out.later hM.bw
                obtain ⟨bi, oi, ei, ci'⟩ := HCI.out.later hL.bw k hlt3
                subst ei
                obtain ⟨f0, f1⟩ := init_rng HOK.out (mem_gi.2 ⟨k, hlt3, rfl⟩)
                have hng := HNG.out
                have hol := HOL.out
                have f1' : gi g.init k < (far : Int) := by omega
                have tt := own_at hL.o (gi g.init k).toNat (by omega)
                have g1 := hL.g1
                have m0 := hM.m0
                have mf := hM.mf 0
                clear hng hol hL
                by_cases hA : gi O (gi g.init k).toNat = D
                · have hA' : (gi O (gi g.init k).toNat == (D : Int)) = true := by simpa using hA
                  have HGR : Hid (GR g t O D 0 (gi g.init k) [gi g.init k]) := GR.start HOK.out HLD.out HD.out hlt3 hA hno.out
                  have HDF : Hid (D < far) := by unfold Hid; have h := HCN.out (gi g.init k).toNat (by omega) (by omega); omega
                  have hM2 := mw_first (f := gi g.init k) hM
                  clear hA hM hno
                  go_wp2_with fail
                  generalize (wr.setCell ⟨p, 0, none⟩ (.int .i64 (gi g.init k))) = w5 at *
                  clear ci' tt g1 m0 mf
                  have m0 := hM2.m0
                  generalize hff : gi g.init k = ff at *
                  clear hff
                  go_wp2_with fail
                  clear m0
                  go_loopg [13] (D + 1) (fun q vs wr => ∃ (m : Nat) (s' : Int) (S : List Int) (a : Option Addr) (c : Nat), vs = .int .i64 s' ∧ q + m ≥ D ∧ Hid (S.length = m) ∧ Hid (GR g t O D m s' (ff :: S)) ∧ MW w3 wr p ff a c S)
                  case atStart => exact ⟨0, ff, [], none, 0, rfl, by omega, rfl, HGR, hM2⟩
                  case round =>
                    clear hM2 HGR
                    obtain ⟨m, s', S, a, c, rfl, hq, hSm, hGR, hM⟩ := hrel
                    by_cases hst : s' = t
                    · have hm : m = D := (hGR.out.at_goal HLD.out).1 hst
                      subst hst
                      subst hm
                      have hfin : Hid (LeastIn (Hit g (fun _ s => s == s') m) (ff :: S)) := hGR.out.fin
                      have hL := HL3.out.later hM.bw
                      have r0 := hL.r0
                      have r1 := hL.r1
                      have r2 := hL.r2
                      have f0 := hL.rf 0
                      have f1 := hL.rf 1
                      have f2 := hL.rf 2
                      have m0 := hM.m0
                      have m1 := hM.m1
                      have m2 := hM.m2
                      have hd : (s' != s') = false := by simp
                      have HM := Lib.hid hM
                      have HBW := Lib.hid hL.bw
                      have HPS := Lib.hid (Nat.le_trans HL3.out.bw.size (Nat.le_of_eq HP.out.symm))
                      have HGE := Lib.hid hL.ge
                      clear hM hL hGR
                      go_wp2
                      have hpw : w.heap.size + 2 ≤ p := by have h1 := HGE.out; have h2 := HL3.out.ge; have h3 := HP.out; omega
                      refine bodyPost_ret (v := .agg #[.int .i64 ff, .slice a S.length c, .bool false]) (by simp [results, Try.results37, go_sem, r0, r1, r2]) rfl ⟨ff, S, a, c, rfl, ?_, hfin.out, ?_⟩
                      · refine own_mono (B := p + 1) (ownsRow_setCell_below (ownsRow_setCell_below (ownsRow_setCell_below HM.out.own ?_ _) ?_ _) ?_ _) (by omega)
                        all_goals (show w.heap.size + 1 < p + 1; omega)
                      · exact ((HBW.out.setCell (by show w.heap.size ≤ w.heap.size + 1; omega) _).setCell (by show w.heap.size ≤ w.heap.size + 1; omega) _).setCell (by show w.heap.size ≤ w.heap.size + 1; omega) _
                    · have hd : (s' != t) = true := by simpa using hst
                      have hmD : m < D := by
                        have h1 := hGR.out.le
                        have h2 : m ≠ D := fun h => hst ((hGR.out.at_goal HLD.out).2 h)
                        omega
                      have hcan := hGR.out.can HOK.out HLD.out hmD
                      have HCAN := Lib.hid hcan
                      have HGR := hGR
                      clear hGR hcan
                      go_wp2_with fail
                      go_loopw [13, 14] (fun vs i wr => ∃ k2 : Nat, k2 ≤ g.edges.length ∧ vs = .int .i64 s' ∧ i = .int .i64 k2 ∧ Hid (∀ j, j < k2 → ¬ ((ge g.edges j).f = s' ∧ gi O (ge g.edges j).t.toNat = gi O s'.toNat - 1)) ∧ MW w3 wr p ff a c S) (fun _ i _ => g.edges.length - (intOf i).toNat)
                      case atStart => exact ⟨0, Nat.zero_le _, rfl, rfl, fun j h => absurd h (Nat.not_lt_zero _), hM⟩
                      case round =>
                        clear hM
                        obtain ⟨k2, hk2, rfl, rfl, hno, hM⟩ := hrel
                        have hL := HL3.out.later hM.bw
                        have g2 := hL.g2
                        by_cases hlt4 : k2 < g.edges.length
                        · have hlt' : (k2 : Int) < (g.edges.length : Int) := by omega
                          have hk20 : (0 : Int) ≤ (k2 : Int) := by omega
                          obtain ⟨q1, q2, q3, q4⟩ := edge_in HOK.out hlt4
                          obtain ⟨b, o, e1, c1, c2, c3⟩ := HCE.out.later hL.bw k2 hlt4
                          subst e1
                          have hng := HNG.out
                          have hol := HOL.out
                          obtain ⟨s0, s1⟩ := HGR.out.rg
                          have tt := own_at hL.o (ge g.edges k2).t.toNat (by omega)
                          have ts := own_at hL.o s'.toNat (by omega)
                          have q4' : (ge g.edges k2).t < (far : Int) := by omega
                          have s1' : s' < (far : Int) := by omega
                          have hlf := HGR.out.lf
                          have hdf := HDF.out
                          have hwr : IntKind.i64.wrap (gi O s'.toNat - 1) = gi O s'.toNat - 1 := IntWalk.i64_in _ (by rw [hlf]; omega)
                          clear hng hol hlf hdf hL
                          by_cases hA : (ge g.edges k2).f = s'
                          · have hA' : ((ge g.edges k2).f == s') = true := by simpa using hA
                            by_cases hB : gi O (ge g.edges k2).t.toNat = gi O s'.toNat - 1
                            · have hB' : (gi O (ge g.edges k2).t.toNat == gi O s'.toNat - 1) = true := by simpa using hB
                              have HNX : Hid (GR g t O D (m + 1) (ge g.edges k2).t ((ff :: S) ++ [(k2 : Int)])) := HGR.out.step HOK.out HLD.out hmD hlt4 hA hB hno.out
                              have HM := Lib.hid hM
                              clear hA hB hno hM
                              go_wp2_with fail
                              go_quiet (fail)
                              have hbd := below_drewN (Below.refl wr.heap.size wr) nq
                              have HM5 := Lib.hid (HM.out.later hbd)
                              clear HM hbd g2 c1 c2 c3 tt ts hwr
                              generalize wr.drewN nq = w5 at *
                              have m1 := HM5.out.m1
                              have hml := HM5.out.lt
                              go_wp2_with (at_builtin; refine wpList_append_own _ rfl _ _ 23 rfl (p + 1) 3 i0 (.int .i64 0) 1 8 Try.underlying23 hi hz0 hz1 hz2 rfl (by decide) _ S.length (S.map (.int .i64)) rfl (HM5.out.own.alloc _) ⟨w5.heap.size, 0, none⟩ 1 1 [.int .i64 (k2 : Int)] rfl rfl ?c1 ?c2 ?c3 ?c4 ?c5 ?_)
                              case c1 =>
                                intro j u hj
                                match j, hj with
                                | 0, hj => simp at hj; subst hj; simp [Addr.add]
                              case c2 => intro u hu; simp at hu; subst hu; rfl
                              case c3 => have h1 := hSm.out; have h2 := HDF.out; unfold maxLen; omega
                              case c4 => have h1 := hSm.out; have h2 := HDF.out; omega
                              case c5 => simp; omega
                              · intro v' w' hown' hgrow _
                                obtain ⟨aE, cE, rfl⟩ := row_form hown'
                                have hMW := mw_append HM5.out ((Below.refl _ _).alloc (Nat.le_refl _) _) hgrow hown'
                                have e1 := hMW.2.1
                                have f1 := hMW.2.2 1
                                have HM6 := Lib.hid hMW.1
                                clear hMW hown' hgrow m1 hml
                                go_upto_region 30 with fail
                                clear e1 f1
                                generalize (w'.setCell ⟨p, 1, none⟩ (.slice aE (S.length + 1) cE)) = w6 at *
                                have hL6 := HL3.out.later HM6.out.bw
                                have g2 := hL6.g2
                                obtain ⟨b2, o2, ee, -, k1, -⟩ := HCE.out.later hL6.bw k2 hlt4
                                injection ee with ee
                                injection ee with ee1 ee2
                                subst ee1 ee2
                                clear hL6
                                go_wp2_with fail
                                go_roundg (D - (m + 1))
                                case measure => omega
                                case rel => exact ⟨m + 1, _, S ++ [(k2 : Int)], aE, cE, rfl, by omega, (by have := hSm.out; unfold Hid; simp; omega), HNX, HM6.out⟩
                            · have hB' : (gi O (ge g.edges k2).t.toNat == gi O s'.toNat - 1) = false := by simpa using hB
                              have hno2 : Hid (∀ j, j < k2 + 1 → ¬ ((ge g.edges j).f = s' ∧ gi O (ge g.edges j).t.toNat = gi O s'.toNat - 1)) := fun j hj h => by
                                by_cases h2 : j < k2
                                · exact hno.out j h2 h
                                · obtain rfl : j = k2 := by omega
                                  exact hB h.2
                              clear hA hB hno
                              go_wp2_with fail
                              go_quiet (fail)
                              go_wp2_with fail
                              exact ⟨⟨k2 + 1, by omega, rfl, by go_num, hno2, hM.later (below_drewN (Below.refl _ _) _)⟩, by simp [intOf]; omega⟩
                          · have hA' : ((ge g.edges k2).f == s') = false := by simpa using hA
                            have hno2 : Hid (∀ j, j < k2 + 1 → ¬ ((ge g.edges j).f = s' ∧ gi O (ge g.edges j).t.toNat = gi O s'.toNat - 1)) := fun j hj h => by
                              by_cases h2 : j < k2
                              · exact hno.out j h2 h
                              · obtain rfl : j = k2 := by omega
                                exact hA h.1
                            clear hA hno
                            go_wp2_with fail
                            go_quiet (fail)
                            go_wp2_with fail
                            exact ⟨⟨k2 + 1, by omega, rfl, by go_num, hno2, hM.later (below_drewN (Below.refl _ _) _)⟩, by simp [intOf]; omega⟩
                        · exfalso
                          obtain ⟨i, hi', h1, h2⟩ := HCAN.out
                          exact hno.out i (by omega) ⟨h1, h2⟩
                · have hA' : (gi O (gi g.init k).toNat == (D : Int)) = false := by simpa using hA
                  have hno2 : Hid (∀ j, j < k + 1 → gi O (gi g.init j).toNat ≠ D) := fun j hj => by
                    by_cases h : j < k
                    · exact hno.out j h
                    · obtain rfl : j = k := by omega
                      exact hA
                  clear hA hno
                  go_wp2
                  exact ⟨⟨k + 1, by omega, by go_num, hno2, hM⟩, by simp [intOf]; omega⟩
              · exfalso
                obtain ⟨i, hi', h⟩ := GR.begin HOK.out HLD.out HD.out
                exact hno.out i (by omega) h
end Go.Proofs.Ytnijajjmcdgonaa
